"""Drawhouse: parts that draw on one another, in rings too."""
