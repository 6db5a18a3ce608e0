package record

import (
	"slices"

	"hornbook/api"
	"hornbook/runs"
)

// Writer writes records into a run of its own. The zero Writer is a closed one.
type Writer struct {
	// store is nil in a closed writer, which keeps nothing any more.
	store      *runs.Store
	run, block int
	// buffer holds less than a block between two calls.
	buffer []byte
	// death is the failure of which the writer died.
	death error
}

// Open: a writer with a new run.
func Open(s *runs.Store, block int) (*Writer, error) {
	if err := checkPlace(s, block); err != nil {
		return nil, err
	}
	run, err := s.Create()
	if err != nil {
		return nil, err
	}
	return &Writer{store: s, run: run, block: block}, nil
}

// Put: these records too.
func (w *Writer) Put(recs ...string) error {
	if err := w.check(); err != nil {
		return err
	}
	frames, e := Frame(recs...)
	if e != api.OK {
		return api.FailRecord
	}
	w.buffer = append(w.buffer, frames...)
	rest := w.buffer
	for len(rest) >= w.block {
		if err := w.store.Append(w.run, string(rest[:w.block])); err != nil {
			return w.die(err)
		}
		rest = rest[w.block:]
	}
	// A rest that was cut off is laid anew, or it would keep the memory of the blocks ahead of it.
	if len(rest) < len(w.buffer) {
		w.buffer = slices.Clone(rest)
	}
	return nil
}

// Close: the run is whole and sealed; its number.
func (w *Writer) Close() (int, error) {
	if err := w.check(); err != nil {
		return 0, err
	}
	if len(w.buffer) > 0 {
		if err := w.store.Append(w.run, string(w.buffer)); err != nil {
			return 0, w.die(err)
		}
	}
	if err := w.store.Seal(w.run); err != nil {
		return 0, w.die(err)
	}
	run := w.run
	*w = Writer{}
	return run, nil
}

// Drop: the run is removed.
func (w *Writer) Drop() {
	if w == nil || w.store == nil {
		return
	}
	// A refusal says that the run is gone already, which is as well.
	w.store.Remove(w.run)
	*w = Writer{}
}

// check: why nothing can be written any more; nil, if something can.
func (w *Writer) check() error {
	if w == nil {
		return api.FailNil
	}
	if w.store == nil {
		return api.FailClosed
	}
	return w.death
}

// die: from now on the writer answers that failure.
func (w *Writer) die(err error) error {
	w.death = err
	w.buffer = nil
	return err
}

// checkPlace: can blocks of that size be written to, or read from, that store?
func checkPlace(s *runs.Store, block int) error {
	if s == nil {
		return api.FailNil
	}
	if block < 1 || block > api.MaxBlock {
		return api.FailLimits
	}
	return nil
}
