"""Stepsvanish: maps between finite groups whose repeated differences vanish."""
