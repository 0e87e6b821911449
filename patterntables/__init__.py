"""Words parted by patterns: packed tables."""
