"""Drawndown: several numbers drawn down together."""
