"""A counter with lit digits, seen by a camera."""
