"""Kindsure: records and choices that never come amiss."""
