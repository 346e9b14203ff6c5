"""Loopsbeside: loops that add up, how deep they must be nested, and how few are enough."""
