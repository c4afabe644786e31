"""Heightgames: gains that hang on one height."""
