"""Tidewarden: a port, its rule book, and what happens in all courses of nature."""
