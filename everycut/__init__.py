"""Everycut: a tree of files that stands every cut."""
