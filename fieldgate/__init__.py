"""Fieldgate: values kept in fields that open and shut like brackets."""
