"""Wendleaf: a crash-safe page store whose log records operations, not contents."""
