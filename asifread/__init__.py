"""Asifread: a house of search whose every answer is as if all had been read."""
