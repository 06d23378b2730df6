"""Phrases of a program in several tongues, each tongue put from an earlier one."""
