"""Spanning forests and arborescences."""
