package batch_test

import (
	"fmt"
	"maps"
	"slices"
	"strings"
	"testing"

	"hornbook/api"
	"hornbook/batch"
	"hornbook/runs"
)

// Here formers are held against a plain second writing of the chapter's words:
// it knows each run as a text, and goes through all words ever added anew.

// place is what a store is to a former.
type place struct {
	capacity, used, made int
	ahead                int // steps up to the refused one; 0: none
	texts                map[int]string
}

// step: a step that needs so many bytes beside those that are there.
func (p *place) step(bytes int) error {
	if p.ahead > 0 {
		p.ahead--
		if p.ahead == 0 {
			return api.FailBroken
		}
	}
	if p.used+bytes > p.capacity {
		return api.FailFull
	}
	return nil
}

func (p *place) remove(run int) {
	p.used -= len(p.texts[run])
	delete(p.texts, run)
}

// write: these words as a run; each block is a step of its own.
func (p *place) write(words []string) (int, error) {
	if err := p.step(0); err != nil {
		return 0, err
	}
	p.made++
	text := plainFrames(words)
	for n := 0; n < len(text); n += 512 {
		if err := p.step(min(len(text), n+512)); err != nil {
			return 0, err
		}
	}
	if err := p.step(0); err != nil {
		return 0, err
	}
	p.texts[p.made] = text
	p.used += len(text)
	return p.made, nil
}

// plainFrames: the frames of these words, rising, each once.
func plainFrames(words []string) string {
	set := map[string]struct{}{}
	for _, w := range words {
		set[w] = struct{}{}
	}
	var text strings.Builder
	for len(set) > 0 {
		least, some := "", false
		for w := range set {
			if !some || w < least {
				least, some = w, true
			}
		}
		if n := len(least); n < 128 {
			text.WriteByte(byte(n))
		} else {
			text.Write([]byte{byte(n%128 + 128), byte(n / 128)})
		}
		text.WriteString(least)
		delete(set, least)
	}
	return text.String()
}

// model is a former that keeps all words it ever took.
type model struct {
	p       *place
	buffer  int
	words   []string
	written int // how many of the words stand in runs
	made    []int
	closed  bool
	death   error
}

func (m *model) refusal() error {
	if m.closed {
		return api.FailClosed
	}
	return m.death
}

// batch: the words that wait become a run, or the model dies.
func (m *model) batch() error {
	run, err := m.p.write(m.words[m.written:])
	if err != nil {
		for _, n := range m.made {
			m.p.remove(n)
		}
		m.made, m.death = nil, err
		return err
	}
	m.made = append(m.made, run)
	m.written = len(m.words)
	return nil
}

func (m *model) add(words []string) error {
	if err := m.refusal(); err != nil {
		return err
	}
	for _, w := range words {
		if len(w) > 255 {
			return api.FailRecord
		}
	}
	for _, w := range words {
		m.words = append(m.words, w)
		if len(m.words)%m.buffer == 0 {
			if err := m.batch(); err != nil {
				return err
			}
		}
	}
	return nil
}

func (m *model) finish() ([]int, error) {
	if err := m.refusal(); err != nil {
		return nil, err
	}
	if m.written < len(m.words) {
		if err := m.batch(); err != nil {
			return nil, err
		}
	}
	m.closed = true
	return m.made, nil
}

func (m *model) drop() {
	if !m.closed {
		for _, n := range m.made {
			m.p.remove(n)
		}
		m.closed = true
	}
}

// pair is a store with its formers, and their models.
type pair struct {
	s  *runs.Store
	p  *place
	fs []*batch.Former
	ms []*model
}

func newPair(t *testing.T, capacity int, buffers ...int) *pair {
	t.Helper()
	b := &pair{s: runs.New(capacity), p: &place{capacity: capacity, texts: map[int]string{}}}
	for _, buffer := range buffers {
		b.fs = append(b.fs, former(t, b.s, buffer))
		b.ms = append(b.ms, &model{p: b.p, buffer: buffer})
	}
	return b
}

// call is one call of a former, or of the store.
type call struct {
	what  string
	which int // which former, or which run
	words []string
	ahead int
}

func (b *pair) do(t *testing.T, c call) {
	t.Helper()
	switch c.what {
	case "Add":
		got, want := b.fs[c.which].Add(c.words...), b.ms[c.which].add(c.words)
		if got != want {
			t.Errorf("Add(%.20q): %v; want %v", c.words, got, want)
		}
	case "Finish":
		got, err := b.fs[c.which].Finish()
		if list, want := b.ms[c.which].finish(); !slices.Equal(got, list) || err != want {
			t.Errorf("Finish() = %v, %v; want %v, %v", got, err, list, want)
		}
	case "Drop":
		b.fs[c.which].Drop()
		b.ms[c.which].drop()
	case "Break":
		b.s.Break(c.ahead)
		b.p.ahead = c.ahead
	case "Remove":
		b.s.Remove(c.which)
		b.p.remove(c.which)
	}
	b.checkStore(t)
}

// checkStore: the store holds just what the model says, all of it sealed.
func (b *pair) checkStore(t *testing.T) {
	t.Helper()
	expectLive(t, b.s, slices.Sorted(maps.Keys(b.p.texts))...)
	expectUsed(t, b.s, b.p.used, b.p.made)
	for run, text := range b.p.texts {
		if got, err := b.s.Read(run, 0, len(text)); got != text || err != nil {
			t.Errorf("run %d is %.60q, %v; want %.60q", run, got, err, text)
		}
	}
}

func fewCalls() []call {
	return []call{
		{what: "Add"},
		{what: "Add", words: []string{"b"}},
		{what: "Add", words: []string{"a", ""}},
		{what: "Add", words: []string{"c", "b", "c"}},
		{what: "Add", words: []string{long(255), "y" + long(254)}},
		{what: "Add", words: []string{"a", long(256)}},
		{what: "Add", which: 1, words: []string{"z", "z"}},
		{what: "Finish"},
		{what: "Finish", which: 1},
		{what: "Drop"},
		{what: "Drop", which: 1},
		{what: "Break", ahead: 1},
		{what: "Break", ahead: 3},
		{what: "Remove", which: 1},
	}
}

func TestShortListsOfCallsAgainstTheModel(t *testing.T) { // P9.2 to P9.5
	all := fewCalls()
	lists := len(all) * len(all) * len(all) * len(all)
	for _, bound := range [][3]int{{2000, 1, 2}, {2000, 2, 1}, {2000, 3, 1}, {8, 1, 1}, {520, 2, 3}} {
		for number := range lists {
			b := newPair(t, bound[0], bound[1], bound[2])
			var told []string
			for left, i := number, 0; i < 4; i++ {
				c := all[left%len(all)]
				b.do(t, c)
				told = append(told, fmt.Sprintf("%s %d", c.what, c.which))
				left /= len(all)
			}
			if t.Failed() {
				t.Fatalf("list %d: %s; bounds %v", number, strings.Join(told, ", "), bound)
			}
		}
	}
}

func TestLongListsOfCallsAgainstTheModel(t *testing.T) { // P9.2 to P9.5
	for seed := range 400 {
		next := randoms(seed)
		b := newPair(t, 3000+next(60000), 1+next(4), 1+next(40), 1+next(300))
		for range 120 {
			c := call{what: "Add", which: next(3)}
			switch next(60) {
			case 0:
				c.what = "Break"
				c.ahead = next(12)
			case 1:
				c = call{what: "Remove", which: 1 + next(20)}
			case 2:
				c.words = []string{"a", long(256)}
			case 3:
				c.what = []string{"Drop", "Finish"}[next(2)]
			default:
				c.words = chanceWords(next)
			}
			b.do(t, c)
		}
		for which := range 3 {
			b.do(t, call{what: "Finish", which: which})
			b.do(t, call{what: "Drop", which: which})
		}
		if t.Failed() {
			t.Fatalf("list %d", seed)
		}
	}
}

// chanceWords: a few short words, most of them alike to others, and now and then long ones.
func chanceWords(next func(int) int) []string {
	words := make([]string, next(12))
	for i := range words {
		n := next(4)
		if next(20) == 0 {
			n = next(256)
		}
		bytes := make([]byte, n)
		for k := range bytes {
			bytes[k] = "\x00ab\x80\xff"[next(5)]
		}
		words[i] = string(bytes)
	}
	return words
}
