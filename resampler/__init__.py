"""Resampler: replay, count and certify random resampling."""
