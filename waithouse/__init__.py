"""Waithouse: points in time with least and greatest gaps."""
