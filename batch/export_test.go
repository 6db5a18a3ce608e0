package batch

// Memory: all of the buffer's memory, also what lies behind its length.
func Memory(f *Former) []string { return f.buffer[:cap(f.buffer)] }
