"""The tests of lettermend."""
