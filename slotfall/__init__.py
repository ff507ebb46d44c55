"""Slotfall: the order in which reference counting destroys objects under a recursion limit."""
