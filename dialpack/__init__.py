"""Wheels behind the dial of a combination lock that push one another."""
