"""Millpath: a tool's paths on a plate of whole corners, in directions of eight."""
