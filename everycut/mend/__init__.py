"""Looking at what lies on pairs, and mending it."""
