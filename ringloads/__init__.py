"""Ringloads: what is sent round a ring, one way or the other."""
