"""What is kept on a pair: heads, the log, and shots on the shelf."""
