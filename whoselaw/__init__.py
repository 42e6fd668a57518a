"""Whoselaw: by whose custom a court decides."""
