"""What lies outside of the program: disks, blocks on them, and pairs of disks."""
