"""Frameland: rooms of boxes on few frames."""
