"""Broken cells, and the tests that find them."""
