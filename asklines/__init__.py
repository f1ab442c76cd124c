"""Asklines: requests on a tree that form one line."""
