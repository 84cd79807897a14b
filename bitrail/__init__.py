"""Bitrail: posts on a rail, talking bit by bit."""
