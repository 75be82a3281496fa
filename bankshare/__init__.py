"""Bankshare: a bank of dry and wet ground, dealt out by few cuts."""
