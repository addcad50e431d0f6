"""Rows of equal cells, decided for all widths."""
