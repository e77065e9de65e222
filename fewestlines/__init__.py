"""Fewestlines: ordered data under the fewest straight lines."""
