"""Counthall: counts told by many tellers, some of whom may be false."""
