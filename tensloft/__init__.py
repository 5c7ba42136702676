"""Tensloft: numbers kept by tens in a machine of twos."""
