"""Hymnplates: numbers on boards, from cases of two-sided plates."""
