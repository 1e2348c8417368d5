"""Plans of flushes: where a disk, told in small, has to be flushed."""
