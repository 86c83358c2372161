"""Modesdown: commands that change modes down a tree and may bar themselves."""
