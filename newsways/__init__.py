"""Newsways: news that goes only where it is wanted."""
