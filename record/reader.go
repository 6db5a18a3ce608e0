package record

import (
	"strings"

	"hornbook/api"
	"hornbook/runs"
)

// Reader reads the records of a run. The zero Reader has none.
type Reader struct {
	store      *runs.Store
	run, block int
	// taken bytes of the run's size were read so far; held are those of them that were not told yet.
	taken, size int
	held        string
}

// From: a reader at the beginning of a sealed run.
func From(s *runs.Store, run, block int) (*Reader, error) {
	if err := checkPlace(s, block); err != nil {
		return nil, err
	}
	size, err := s.Size(run)
	if err != nil {
		return nil, err
	}
	// No byte is wanted yet: an open run is refused also so.
	if _, err := s.Read(run, 0, 0); err != nil {
		return nil, err
	}
	return &Reader{store: s, run: run, block: block, size: size}, nil
}

// Next: the next record; false: there is none.
func (r *Reader) Next() (string, bool, error) {
	if r == nil {
		return "", false, api.FailNil
	}
	for r.held != "" || r.taken < r.size {
		rec, rest, e := unframeOne(r.held)
		switch {
		case e == api.OK:
			r.held = rest
			// The record is laid anew, or it would keep its whole block in memory.
			return strings.Clone(rec), true, nil
		case e != api.ErrShort || r.taken == r.size:
			// What is held stays, so that the fault is found again each time.
			return "", false, api.FailTorn
		}
		if err := r.take(); err != nil {
			return "", false, err
		}
	}
	return "", false, nil
}

// take: the next block of the run, or what is left of it, is held too.
func (r *Reader) take() error {
	n := min(r.block, r.size-r.taken)
	bytes, err := r.store.Read(r.run, r.taken, n)
	if err != nil {
		return err
	}
	r.held += bytes
	r.taken += n
	return nil
}
