"""Breakback: whoever breaks the whole breaks the part."""
