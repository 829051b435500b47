"""Foreheads: what any number of people know of their own marks."""
