"""Keptlengths: packing by promised lengths. Each module is imported by its full name."""
