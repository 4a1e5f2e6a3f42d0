"""Agree on one proposed value among houses that may fall, when only told inputs can come."""
