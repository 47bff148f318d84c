"""Crates in stacks on a floor, moved by a crane."""
