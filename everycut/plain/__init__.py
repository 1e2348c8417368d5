"""Plain trees of folders and files, deeds, and what these wait for."""
