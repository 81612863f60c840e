"""A desk: patterns with names, and promises on their limits, while they are edited."""
