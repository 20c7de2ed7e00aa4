"""Onehistory: trees, roads, falls, archives, copies and meetings, each answer true of one history."""
