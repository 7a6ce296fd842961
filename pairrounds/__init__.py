"""Movements: who meets whom with which boards."""
