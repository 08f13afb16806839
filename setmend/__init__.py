"""Setmend: hands whose sets differ by little, mended by few sums."""
