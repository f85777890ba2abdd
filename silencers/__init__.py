"""Silencers: what webs of parts that silence one another can keep."""
