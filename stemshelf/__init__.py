"""Stemshelf: a house of files that holds alike pieces once."""
