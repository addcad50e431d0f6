"""Conditions on whole numbers, and what rows mean."""
