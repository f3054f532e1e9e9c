"""Greenroads: roads of signals as functions of the start."""
