"""Unpartedrows: all orders in which given sets of things stand together."""
