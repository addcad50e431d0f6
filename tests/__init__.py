"""Tests of slicerows."""
