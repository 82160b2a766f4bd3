"""Sampleweave: weaves of nodes through which samples go, in blocks of any size."""
