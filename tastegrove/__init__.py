"""Tastegrove: what a pattern caught, one tree by each taste."""
