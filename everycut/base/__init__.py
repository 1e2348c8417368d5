"""Names, cells and checks that all other parts use."""
