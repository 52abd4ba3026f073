"""The tests of the package whichdepot."""
