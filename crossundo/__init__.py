"""Crossundo: undo across documents."""
