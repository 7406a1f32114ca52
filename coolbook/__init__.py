"""Coolbook: how long a thing may lie warm in all."""
