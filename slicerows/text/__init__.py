"""Texts of values, and a shell that is spoken to in texts."""
