"""Everysource: programs that tell something of a source nobody knows."""
