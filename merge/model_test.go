package merge_test

import (
	"fmt"
	"maps"
	"slices"
	"testing"

	"hornbook/api"
	"hornbook/merge"
	"hornbook/runs"
)

// Here Merge and Sort are held against a plain second writing of the chapter's
// words: it knows a store as its runs' texts, and a round as a set of words.

// place is what a store is to a merge.
type place struct {
	capacity, used, peak, made int
	ahead                      int // steps up to the refused one; 0: none
	texts                      map[int]string
	open                       map[int]bool
}

func newPlace(capacity int) *place {
	return &place{capacity: capacity, texts: map[int]string{}, open: map[int]bool{}}
}

// broken: a step, which may be the refused one.
func (p *place) broken() bool {
	p.ahead = max(p.ahead, 0)
	if p.ahead == 0 {
		return false
	}
	p.ahead--
	return p.ahead == 0
}

func (p *place) remove(run int) {
	p.used -= len(p.texts[run])
	delete(p.texts, run)
	delete(p.open, run)
}

// write: this text as a run, block by block; at a refusal nothing of it is left.
func (p *place) write(text string) (int, error) {
	if p.broken() {
		return 0, api.FailBroken
	}
	p.made++
	run := p.made
	p.texts[run] = ""
	for len(text) > 0 {
		block := text[:min(512, len(text))]
		text = text[len(block):]
		switch {
		case p.broken():
			p.remove(run)
			return 0, api.FailBroken
		case p.used+len(block) > p.capacity:
			p.remove(run)
			return 0, api.FailFull
		}
		p.texts[run] += block
		p.used += len(block)
		p.peak = max(p.peak, p.used)
	}
	if p.broken() {
		p.remove(run)
		return 0, api.FailBroken
	}
	return run, nil
}

// plainRecords: what stands in a run of these bytes. A length up to 255 is one
// byte below 128, or a byte from 128 on with a 1 behind it.
func plainRecords(text string) []string {
	var list []string
	for text != "" {
		n, head := int(text[0]), 1
		if n >= 128 {
			head = 2
			if len(text) < 2 || text[1] != 1 {
				break
			}
		}
		if len(text) < head+n {
			break
		}
		word := text[head : head+n]
		if len(list) > 0 && word <= list[len(list)-1] {
			break
		}
		list = append(list, word)
		text = text[head+n:]
	}
	return list
}

// plainFrames: the frames of these words, rising, each once.
func plainFrames(words map[string]bool) string {
	text := ""
	for _, w := range slices.Sorted(maps.Keys(words)) {
		if len(w) < 128 {
			text += string([]byte{byte(len(w))}) + w
		} else {
			text += string([]byte{byte(len(w)), 1}) + w
		}
	}
	return text
}

func (p *place) fault(fan int, list []int) error {
	if fan < 2 || fan > 64 {
		return api.FailLimits
	}
	for i, run := range list {
		if _, ok := p.texts[run]; !ok {
			return api.FailNoRun
		}
		if p.open[run] {
			return api.FailOpen
		}
		if slices.Index(list, run) < i {
			return api.FailSame
		}
	}
	return nil
}

func (p *place) merge(fan int, list []int) (int, error) {
	if err := p.fault(fan, list); err != nil {
		return 0, err
	}
	if len(list) == 0 {
		return p.write("")
	}
	mine := slices.Clone(list)
	left := slices.Clone(list)
	for len(left) > 1 {
		round := left[:min(fan, len(left))]
		left = slices.Clone(left[len(round):])
		words := map[string]bool{}
		for _, run := range round {
			for _, w := range plainRecords(p.texts[run]) {
				words[w] = true
			}
		}
		run, err := p.write(plainFrames(words))
		if err != nil {
			for _, run := range mine {
				p.remove(run)
			}
			return 0, err
		}
		for _, run := range round {
			p.remove(run)
		}
		mine, left = append(mine, run), append(left, run)
	}
	return left[0], nil
}

func (p *place) sort(buffer, fan int, words []string) (int, error) {
	if buffer < 1 || buffer > 65536 || fan < 2 || fan > 64 {
		return 0, api.FailLimits
	}
	for _, w := range words {
		if len(w) > 255 {
			return 0, api.FailRecord
		}
	}
	var made []int
	for batch := range slices.Chunk(words, buffer) {
		set := map[string]bool{}
		for _, w := range batch {
			set[w] = true
		}
		run, err := p.write(plainFrames(set))
		if err != nil {
			for _, run := range made {
				p.remove(run)
			}
			return 0, err
		}
		made = append(made, run)
	}
	return p.merge(fan, made)
}

// pair is a store, and its model.
type pair struct {
	s *runs.Store
	p *place
}

func newPair(capacity int) pair { return pair{runs.New(capacity), newPlace(capacity)} }

// lay: the same run in both, if there is room for it.
func (b pair) lay(text string, sealed bool) {
	n, err := b.s.Create()
	if err == nil {
		err = b.s.Append(n, text)
	}
	if err != nil {
		b.s.Remove(n)
		b.p.made = b.s.Made()
		return
	}
	b.p.made = n
	b.p.texts[n] = text
	b.p.used += len(text)
	b.p.peak = max(b.p.peak, b.p.used)
	if sealed {
		b.s.Seal(n)
	} else {
		b.p.open[n] = true
	}
}

func (b pair) stop(ahead int) {
	b.s.Break(ahead)
	b.p.ahead = ahead
}

func (b pair) merge(t *testing.T, fan int, list ...int) {
	t.Helper()
	got, err := merge.Merge(b.s, fan, list...)
	if run, want := b.p.merge(fan, list); got != run || err != want {
		t.Errorf("Merge with fan %d of %v = %d, %v; want %d, %v", fan, few(list), got, err, run, want)
	}
	b.check(t)
}

func (b pair) sort(t *testing.T, buffer, fan int, words ...string) {
	t.Helper()
	got, err := merge.Sort(b.s, buffer, fan, words...)
	if run, want := b.p.sort(buffer, fan, words); got != run || err != want {
		t.Errorf("Sort with buffer %d and fan %d of %d words = %d, %v; want %d, %v", buffer, fan, len(words), got, err, run, want)
	}
	b.check(t)
}

// check: the store holds just what the model says, and as many steps are ahead of the refused one.
func (b pair) check(t *testing.T) {
	t.Helper()
	expectLive(t, b.s, slices.Sorted(maps.Keys(b.p.texts))...)
	expectUsed(t, b.s, b.p.used, b.p.made)
	if b.s.Peak() != b.p.peak {
		t.Errorf("there were %d bytes at most; want %d", b.s.Peak(), b.p.peak)
	}
	for run, text := range b.p.texts {
		if b.p.open[run] {
			if _, err := b.s.Read(run, 0, 0); err != api.FailOpen {
				t.Errorf("run %d is sealed (%v)", run, err)
			}
			continue
		}
		expectBytes(t, b.s, run, text)
	}
	for ahead := b.p.ahead; ahead > 0; ahead-- {
		if err := b.s.Seal(0); (err == api.FailBroken) != (ahead == 1) {
			t.Errorf("%d steps ahead of the refused one: %v", ahead, err)
		}
	}
	b.stop(0)
}

// fewTexts: what the bytes of a run may be.
func fewTexts() []string {
	return []string{
		"",
		"\x00\x01b",
		"\x01a",
		"\x01b\x01c\x01b\x01d",  // doesn't rise
		"\x01a\x02b",            // torn
		"\xff\x01" + long(255),  // the longest
		"\xfe\x01y" + long(253), // with that, more than a block
	}
}

func TestAllShortListsOfRunsAgainstTheModel(t *testing.T) { // P10.1, P10.2
	texts := fewTexts()
	for length := range 5 {
		count := 1
		for range length {
			count *= len(texts)
		}
		for number := range count {
			for _, fan := range []int{2, 3, 4} {
				for refused := range 14 {
					b := newPair(3000)
					b.lay("\x01z", true)
					var list []int
					for left := number; len(list) < length; left /= len(texts) {
						b.lay(texts[left%len(texts)], true)
						list = append(list, b.p.made)
					}
					b.stop(refused)
					b.merge(t, fan, list...)
					if t.Failed() {
						t.Fatalf("list %d of %d runs, fan %d, step %d", number, length, fan, refused)
					}
				}
			}
		}
	}
}

func TestAllShortListsInStoresThatAreTooSmallAgainstTheModel(t *testing.T) { // P10.2
	texts := []string{"", "\x01a", "\x00\x02bb", "\x01a\x01b\x01c", "\x01a\x01a"}
	for number := range 5 * 5 * 5 * 5 {
		for _, fan := range []int{2, 3, 4} {
			for capacity := range 40 {
				b := newPair(capacity)
				var list []int
				for left, n := number, 0; n < 4; n++ {
					b.lay(texts[left%5], true)
					if _, ok := b.p.texts[b.p.made]; ok {
						list = append(list, b.p.made)
					}
					left /= 5
				}
				b.merge(t, fan, list...)
				if t.Failed() {
					t.Fatalf("list %d, fan %d, capacity %d", number, fan, capacity)
				}
			}
		}
	}
}

func TestAllShortListsOfNumbersAgainstTheModel(t *testing.T) { // P10.1: runs that are there, and such that can't be merged
	for length := range 5 {
		count := 1
		for range length {
			count *= 7
		}
		for number := range count {
			for fan := 1; fan <= 3; fan++ {
				b := newPair(100)
				b.lay("\x01c\x01d", true)
				b.lay("\x01b", true)
				b.lay("\x01a", false)
				b.lay("\x01q", true)
				b.lay("\x01a\x01e", true)
				b.s.Remove(4)
				b.p.remove(4)
				var list []int
				for left := number; len(list) < length; left /= 7 {
					list = append(list, left%7)
				}
				b.stop(2)
				b.merge(t, fan, list...)
				if t.Failed() {
					t.Fatalf("%v, fan %d", list, fan)
				}
			}
		}
	}
}

func TestAllShortSortsAgainstTheModel(t *testing.T) { // P10.3, P10.4
	words := []string{"", "a", "bb", long(255), long(256)}
	for length := range 5 {
		count := 1
		for range length {
			count *= len(words)
		}
		for number := range count {
			var list []string
			for left := number; len(list) < length; left /= len(words) {
				list = append(list, words[left%len(words)])
			}
			for _, c := range [][2]int{{0, 2}, {1, 1}, {1, 2}, {1, 3}, {2, 2}, {3, 2}, {4, 2}, {9, 64}} {
				for refused := range 23 {
					b := newPair(3000)
					b.lay("\x01z", true)
					b.stop(refused)
					b.sort(t, c[0], c[1], list...)
				}
				for _, capacity := range []int{0, 1, 3, 7, 10, 257, 300, 514, 515} {
					b := newPair(capacity)
					b.sort(t, c[0], c[1], list...)
				}
				if t.Failed() {
					t.Fatalf("words %d of %d, buffer %d, fan %d", number, length, c[0], c[1])
				}
			}
		}
	}
}

func TestLongListsOfCallsAgainstTheModel(t *testing.T) { // P10.1 to P10.4
	for seed := range 400 {
		next := randoms(seed)
		b := newPair(2000 + next(30000))
		var told []string
		for range 25 {
			told = append(told, b.chance(t, next))
		}
		if t.Failed() {
			t.Fatalf("list %d: %q", seed, told)
		}
	}
}

// chance: some call, and what it was.
func (b pair) chance(t *testing.T, next func(int) int) string {
	t.Helper()
	if next(4) == 0 {
		b.stop(next(60))
	}
	switch next(6) {
	case 0, 1:
		fan := 2 + next(7)
		list := chanceRuns(b.s.Live(), next)
		b.merge(t, fan, list...)
		return fmt.Sprint("Merge ", fan, list)
	case 2:
		buffer, fan := 1+next(30), 2+next(7)
		b.sort(t, buffer, fan, chanceWords(next, 80)...)
		return fmt.Sprint("Sort ", buffer, fan)
	case 3:
		b.stop(0)
		bytes := make([]byte, next(9))
		for i := range bytes {
			bytes[i] = "\x00\x01\x02ab\x80"[next(6)]
		}
		b.lay(string(bytes), next(6) > 0)
		return fmt.Sprintf("a run of %q", bytes)
	}
	b.stop(0)
	set := map[string]bool{}
	for _, w := range chanceWords(next, 80) {
		set[w] = true
	}
	b.lay(plainFrames(set), true)
	return fmt.Sprint("a run of words: ", len(set))
}

// chanceRuns: some of these in some order, and now and then one that is no good.
func chanceRuns(live []int, next func(int) int) []int {
	list := slices.Clone(live)
	for i := range list {
		k := next(i + 1)
		list[i], list[k] = list[k], list[i]
	}
	list = list[:len(list)-next(len(list)+1)/2]
	if next(9) == 0 {
		list = append(list, next(40))
	}
	return list
}

// chanceWords: some short words, most of them alike to others, and now and then long ones.
func chanceWords(next func(int) int, most int) []string {
	words := make([]string, next(most))
	for i := range words {
		n := next(4)
		if next(20) == 0 {
			n = next(256)
		}
		bytes := make([]byte, n)
		for k := range bytes {
			bytes[k] = "\x00ab\x80\xff"[next(5)]
		}
		words[i] = string(bytes)
	}
	return words
}
