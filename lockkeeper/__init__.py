"""Lockkeeper: a lock keeper's book whose hours are not noted."""
