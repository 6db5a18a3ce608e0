package record_test

import (
	"strings"
	"testing"

	"hornbook/api"
	"hornbook/record"
	"hornbook/runs"
)

// Here all short lists of calls of a writer are held against a plain second
// writing of the chapter's words, which goes by sums and keeps no buffer.

// model knows all bytes that were ever put, and how many of them were appended.
type model struct {
	capacity, block int
	put             string
	appended        int
	ahead           int // steps up to the refused one; 0: none
	closed, sealed  bool
	gone            bool
	death           error
}

// step: a step that appends so many bytes.
func (m *model) step(bytes int) error {
	if m.ahead > 0 {
		m.ahead--
		if m.ahead == 0 {
			return api.FailBroken
		}
	}
	if m.appended+bytes > m.capacity {
		return api.FailFull
	}
	m.appended += bytes
	return nil
}

func (m *model) refusal() error {
	if m.closed {
		return api.FailClosed
	}
	return m.death
}

func (m *model) putAll(recs []string) error {
	if err := m.refusal(); err != nil {
		return err
	}
	for _, rec := range recs {
		if len(rec) > 255 {
			return api.FailRecord
		}
	}
	for _, rec := range recs {
		m.put += string(plainForm(len(rec))) + rec
	}
	for want := len(m.put) / m.block * m.block; m.appended < want; {
		if m.death = m.step(m.block); m.death != nil {
			return m.death
		}
	}
	return nil
}

// plainForm: the form of a length below 2^14.
func plainForm(n int) []byte {
	if n < 128 {
		return []byte{byte(n)}
	}
	return []byte{byte(n%128 + 128), byte(n / 128)}
}

func (m *model) close() (int, error) {
	if err := m.refusal(); err != nil {
		return 0, err
	}
	if rest := len(m.put) - m.appended; rest > 0 {
		m.death = m.step(rest)
	}
	if m.death == nil {
		m.death = m.step(0)
	}
	if m.death != nil {
		return 0, m.death
	}
	m.closed, m.sealed = true, true
	return 1, nil
}

func (m *model) drop() {
	if !m.closed {
		m.closed, m.gone = true, true
	}
}

// call is one of a writer's calls, done with both.
type call struct {
	what  string
	recs  []string
	ahead int
}

func calls() []call {
	return []call{
		{what: "Put"},
		{what: "Put", recs: []string{""}},
		{what: "Put", recs: []string{"a"}},
		{what: "Put", recs: []string{"abc"}},
		{what: "Put", recs: []string{"", "ab"}},
		{what: "Put", recs: []string{"abcde", "f"}},
		{what: "Put", recs: []string{"a", long(256)}},
		{what: "Close"},
		{what: "Drop"},
		{what: "Break", ahead: 1},
		{what: "Break", ahead: 2},
	}
}

func checkCall(t *testing.T, s *runs.Store, w *record.Writer, m *model, c call) {
	t.Helper()
	switch c.what {
	case "Put":
		got, want := w.Put(c.recs...), m.putAll(c.recs)
		if got != want {
			t.Errorf("Put(%.20q): %v; want %v", c.recs, got, want)
		}
	case "Close":
		n, err := w.Close()
		if run, want := m.close(); n != run || err != want {
			t.Errorf("Close() = %d, %v; want %d, %v", n, err, run, want)
		}
	case "Drop":
		w.Drop()
		m.drop()
	case "Break":
		s.Break(c.ahead)
		m.ahead = c.ahead
	}
	checkStore(t, s, m)
}

// checkStore: the store holds what the model says.
func checkStore(t *testing.T, s *runs.Store, m *model) {
	t.Helper()
	if m.gone {
		expectLive(t, s)
		return
	}
	expectLive(t, s, 1)
	expectSize(t, s, 1, m.appended)
	if m.sealed {
		expectRun(t, s, 1, m.put)
	} else if _, err := s.Read(1, 0, 0); err != api.FailOpen {
		t.Errorf("the run is sealed: %v", err)
	}
}

func TestShortListsOfCallsAgainstTheModel(t *testing.T) { // P6.5 to P6.8
	all := calls()
	for number := range 11 * 11 * 11 * 11 {
		for _, bound := range [][2]int{{20, 1}, {20, 4}, {20, 5}, {7, 2}, {4, 4}, {0, 3}} {
			s, m := runs.New(bound[0]), &model{capacity: bound[0], block: bound[1]}
			w := open(t, s, bound[1])
			var list []string
			for left, i := number, 0; i < 4; i++ {
				c := all[left%len(all)]
				checkCall(t, s, w, m, c)
				list = append(list, c.what)
				left /= len(all)
			}
			if t.Failed() {
				t.Fatalf("list %d: %s; capacity %d, block %d", number, strings.Join(list, ", "), bound[0], bound[1])
			}
		}
	}
}

func TestLongListsOfPutsAgainstTheModel(t *testing.T) { // P6.6, P6.7
	for seed := range 60 {
		capacity, block := seed*400, 1+seed*seed%300
		s, m := runs.New(capacity), &model{capacity: capacity, block: block}
		w := open(t, s, block)
		state := uint64(seed) + 1
		next := func(below int) int {
			state = state*6364136223846793005 + 1442695040888963407
			return int(state >> 33 % uint64(below))
		}
		for range 150 {
			recs := make([]string, next(4))
			for i := range recs {
				recs[i] = long(next(258))
			}
			checkCall(t, s, w, m, call{what: "Put", recs: recs})
			if next(400) == 0 {
				checkCall(t, s, w, m, call{what: "Break", ahead: 1 + next(9)})
			}
		}
		checkCall(t, s, w, m, call{what: "Close"})
		checkCall(t, s, w, m, call{what: "Drop"})
		if t.Failed() {
			t.Fatalf("list %d", seed)
		}
	}
}
