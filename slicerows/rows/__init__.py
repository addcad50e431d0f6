"""Rows of equal cells."""
