"""Inputs that are told by programs, however many columns they have."""
