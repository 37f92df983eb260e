"""Linkyard: parts of programs, put together and run anywhere."""
