"""Allhits: families of sets, what meets them, and votes."""
