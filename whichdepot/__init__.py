"""Whichdepot: an exact transport solver, prepared once for all supplies and demands."""
