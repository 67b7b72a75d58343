"""A machine for exact fractions: code as text, checked ahead, run by steps."""
