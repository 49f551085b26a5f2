"""Lanebanks: which strides never meet in a bank."""
