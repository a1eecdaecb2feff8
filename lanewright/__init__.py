"""Lanewright: loops over arrays, led to lanes."""
