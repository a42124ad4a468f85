"""Rootbags: bags of numbers that are known only together."""
