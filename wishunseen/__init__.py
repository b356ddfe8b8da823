"""Wishunseen: reading out of copies so that no house learns which book."""
