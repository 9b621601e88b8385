"""Spillmirror: tanks of every cap over one row of days, and the stretches that spill them."""
