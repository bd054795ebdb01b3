"""Holeyard: cells put together, and the holes between them."""
