"""Truebooks: the books of a static analysis, judged for all programs."""
