"""Weeksums: days told back from sums over the last days."""
