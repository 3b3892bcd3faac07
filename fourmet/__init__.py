"""Fourmet: lists of names that tell every tree of descent, and partings in four that no list meets."""
