"""Pegrise: rises between pegs, told by sightings."""
