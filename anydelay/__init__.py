"""Anydelay: nets of gates without a beat."""
