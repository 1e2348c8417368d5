"""Rows, the cells and search trees that tell them, and room for these."""
