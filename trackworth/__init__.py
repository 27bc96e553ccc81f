"""Trackworth: what the tracks between two rows of lanes can sort."""
