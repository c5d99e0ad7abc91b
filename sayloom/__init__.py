"""Sayloom: talks between hands, and ends that do just the talk."""
