package recover

import (
	"slices"
	"strings"

	"switchback/api"
)

// in30 is 2^30, as the chapters have it: the greatest tick, and the greatest revision. in20 is 2^20: the greatest generation of a switch. last32 is the greatest generation of a log.
const (
	in30   = 1073741824
	in20   = 1048576
	last32 = 4294967295
)

// written is a write that isn't flushed.
type written struct {
	at int
	b  string
}

// paper is a log, its disk, its router and their fuse, by the words of this chapter and of those that it names, written out anew.
type paper struct {
	size  int
	now   []string // the sectors as they were written last
	lasts []string // as they would be if nothing lasted of what isn't flushed
	open  []written

	armed bool
	left  int
	blown bool
	borne int

	route  api.Cell
	writes int
	script []int // what didn't come yet

	area, gen, count int // the log's area, its generation, and how many records it has
	broken           bool
	s                api.State
}

// newPaper is sectors of bytes 0, and a new router.
func newPaper(size, n int) *paper {
	zero := slices.Repeat([]string{strings.Repeat("\x00", size)}, n)
	return &paper{size: size, now: zero, lasts: slices.Clone(zero)}
}

// spend is the fuse's.
func (p *paper) spend() bool {
	switch {
	case p.armed && p.left == 0:
		p.blown = true
		return false
	case p.armed:
		p.left--
	}
	p.borne++
	return true
}

func (p *paper) write(at int, b string) bool {
	if !p.spend() {
		return false
	}
	p.now[at] = b
	p.open = append(p.open, written{at, b})
	return true
}

func (p *paper) flush() bool {
	if !p.spend() {
		return false
	}
	p.lasts, p.open = slices.Clone(p.now), nil
	return true
}

func (p *paper) crash(keep uint64, torn int) {
	torn = min(max(torn, 0), p.size)
	var kept []written
	for i, w := range p.open {
		if keep>>(i%64)&1 == 1 {
			kept = append(kept, w)
		}
	}
	for i, w := range kept {
		whole := p.size
		if i == len(kept)-1 {
			whole = torn
		}
		p.lasts[w.at] = w.b[:whole] + p.lasts[w.at][whole:]
	}
	p.now, p.open = slices.Clone(p.lasts), nil
	p.armed, p.left, p.blown = false, 0, false
}

// sum is the register that took these bytes, turned over.
func sum(b string) int {
	register := uint32(0xFFFFFFFF)
	for i := range len(b) {
		for place := 7; place >= 0; place-- {
			out := register >> 31
			register <<= 1
			if out != uint32(b[i])>>place&1 {
				register ^= 0x04C11DB7
			}
		}
	}
	return int(^register)
}

// high is a number in so many bytes, the highest first.
func high(n, bytes int) string {
	var b []byte
	for i := bytes - 1; i >= 0; i-- {
		b = append(b, byte(n>>(8*i)))
	}
	return string(b)
}

// low is the number of which these are the bytes, the highest first.
func low(b string) int {
	n := 0
	for i := range len(b) {
		n = n*256 + int(b[i])
	}
	return n
}

// sector is one with a record.
func (p *paper) sector(gen, seq int, payload string) string {
	head := high(len(payload), 2) + high(gen, 4) + high(seq, 4)
	b := head + high(sum(head+payload), 4) + payload
	return b + strings.Repeat("\x00", p.size-len(b))
}

// payload is what the record has that a sector holds, if it is of that generation and that number.
func (p *paper) payload(at, gen, seq int) (string, bool) {
	b := p.now[at]
	n := low(b[:2])
	if n > p.size-14 {
		return "", false
	}
	return b[14 : 14+n], b == p.sector(gen, seq, b[14:14+n])
}

// half is how many sectors an area has.
func (p *paper) half() int { return len(p.now) / 2 }

// headOf is the generation of an area's head; 0: it has none.
func (p *paper) headOf(area int) int {
	at := area * p.half()
	gen := low(p.now[at][2:6])
	if payload, ok := p.payload(at, gen, 0); !ok || payload != "head" {
		return 0
	}
	return gen
}

// lay writes a record, and flushes it.
func (p *paper) lay(area, gen, seq int, payload string) bool {
	return p.write(area*p.half()+seq, p.sector(gen, seq, payload)) && p.flush()
}

// openWal is wal's Open: the payloads.
func (p *paper) openWal() ([]string, api.Errno) {
	if len(p.open) > 0 && !p.flush() {
		return nil, 2
	}
	p.area, p.gen, p.count, p.broken = 0, p.headOf(0), 0, false
	if gen := p.headOf(1); gen > p.gen {
		p.area, p.gen = 1, gen
	}
	if p.gen == 0 {
		p.gen = 1
		if !p.lay(0, 1, 0, "head") {
			return nil, 2
		}
	}
	var l []string
	for seq := 1; seq < p.half(); seq++ {
		payload, ok := p.payload(p.area*p.half()+seq, p.gen, seq)
		if !ok {
			break
		}
		l = append(l, payload)
	}
	p.count = len(l)
	return l, 0
}

// room is how many sectors there are behind the records.
func (p *paper) room() int { return p.half() - 1 - p.count }

// append is wal's, of a text that isn't too long.
func (p *paper) append(b string) api.Errno {
	if p.broken {
		return 2
	}
	if p.room() == 0 {
		return 3
	}
	if !p.lay(p.area, p.gen, p.count+1, b) {
		p.broken = true
		return 2
	}
	p.count++
	return 0
}

// checkpoint is wal's, of a text that isn't too long.
func (p *paper) checkpoint(b string) api.Errno {
	if p.broken {
		return 2
	}
	if p.gen == last32 {
		return 9
	}
	other, next := 1-p.area, p.gen+1
	if !p.lay(other, next, 1, b) || !p.lay(other, next, 0, "head") {
		p.broken = true
		return 2
	}
	p.area, p.gen, p.count = other, next, 1
	return 0
}

// call is the router's.
func (p *paper) call(to api.Cell) api.Errno {
	if to.Slot < 0 || to.Slot > 1 || to.Gen < 1 || to.Gen > in20 {
		return 1
	}
	if !p.spend() {
		return 2
	}
	outcome := 0
	if len(p.script) > 0 {
		outcome, p.script = p.script[0], p.script[1:]
	}
	if outcome == 2 {
		return 10
	}
	if to.Gen > p.route.Gen {
		p.route = to
		p.writes++
	}
	switch {
	case outcome == 1:
		return 10
	case p.route != to:
		return 11
	}
	return 0
}

// set is the client's.
func (p *paper) set(to api.Cell, tries int) api.Errno {
	e := p.call(to)
	for n := 1; n < tries && n < 8 && e == 10; n++ {
		e = p.call(to)
	}
	return e
}

// reach is the least and the greatest number that a field can have.
type reach [2]int

// reaches are those of a Kind's fields, in their order.
func reaches(kind int) ([]reach, bool) {
	rev, gen, tick, pass := reach{0, in30}, reach{1, in20}, reach{0, in30}, reach{0, 1}
	l, there := map[int][]reach{
		1: {{1, in30}, {1, 32}, {0, 65536}},
		2: {}, 3: {}, 10: {},
		4: {pass}, 9: {pass},
		5: {gen}, 6: {gen}, 7: {gen},
		8:  {gen, tick},
		11: {{0, 7}, {0, 1}, rev, rev, {0, 32}, {0, 32}, pass, pass, {0, 65536}, {0, in20}, {0, 2}, tick},
	}[kind]
	return l, there
}

// within is whether these numbers are a Kind and its fields, each in its range.
func within(l []int) bool {
	if len(l) == 0 {
		return false
	}
	fields, there := reaches(l[0])
	if !there || len(l) != 1+len(fields) {
		return false
	}
	for i, r := range fields {
		if l[i+1] < r[0] || l[i+1] > r[1] {
			return false
		}
	}
	return true
}

// numbersOf are a record's Kind, and the fields that it has.
func numbersOf(r api.Rec) []int {
	s := r.State
	switch r.Kind {
	case 1:
		return []int{1, r.Rev, r.N, r.Delay}
	case 4, 9:
		return []int{r.Kind, bit(r.Pass)}
	case 5, 6, 7:
		return []int{r.Kind, r.Gen}
	case 8:
		return []int{8, r.Gen, r.Tick}
	case 11:
		return []int{11, s.Phase, s.Active, s.Rev[0], s.Rev[1], s.Want[0], s.Want[1], bit(s.Passed[0]), bit(s.Passed[1]),
			s.Delay, s.Gen, s.Switch, s.Flip}
	}
	return []int{r.Kind}
}

// recordOf is the record of these numbers, which are a Kind and its fields.
func recordOf(l []int) api.Rec {
	r := api.Rec{Kind: l[0]}
	switch l[0] {
	case 1:
		r.Rev, r.N, r.Delay = l[1], l[2], l[3]
	case 4, 9:
		r.Pass = l[1] == 1
	case 5, 6, 7:
		r.Gen = l[1]
	case 8:
		r.Gen, r.Tick = l[1], l[2]
	case 11:
		r.State = api.State{
			Phase: l[1], Active: l[2], Rev: [2]int{l[3], l[4]}, Want: [2]int{l[5], l[6]}, Passed: [2]bool{l[7] == 1, l[8] == 1},
			Delay: l[9], Gen: l[10], Switch: l[11], Flip: l[12],
		}
	}
	return r
}

func bit(b bool) int {
	if b {
		return 1
	}
	return 0
}

// bytesOf are these numbers' bytes.
func bytesOf(l ...int) string {
	var b []byte
	for _, n := range l {
		for ; n >= 128; n /= 128 {
			b = append(b, byte(n%128+128))
		}
		b = append(b, byte(n))
	}
	return string(b)
}

// numbersIn are those whose bytes these are; false: they aren't numbers' bytes.
func numbersIn(b string) ([]int, bool) {
	var l []int
	for len(b) > 0 {
		end := slices.IndexFunc([]byte(b), func(c byte) bool { return c < 128 })
		if end < 0 || end > 8 || end > 0 && b[end] == 0 {
			return nil, false
		}
		n := 0
		for i := end; i >= 0; i-- {
			n = n*128 + int(b[i]%128)
		}
		l, b = append(l, n), b[end+1:]
	}
	return l, true
}

// right is whether a state may be.
func right(s api.State) bool {
	l := numbersOf(api.Rec{Kind: 11, State: s})
	if !within(l) {
		return false
	}
	a, o := s.Active, 1-s.Active
	if s.Rev[a] < 1 || s.Want[a] < 1 || !s.Passed[a] {
		return false
	}
	if s.Switch != 0 && (s.Phase != 3 && s.Phase != 6 || s.Gen < 1) {
		return false
	}
	if s.Phase == 0 {
		return s.Rev[o] == 0 && s.Want[o] == 0 && !s.Passed[o]
	}
	return s.Rev[o] >= 1 && s.Want[o] >= 1 && s.Rev[o] != s.Rev[a] && s.Passed[o] == (s.Phase > 2)
}

// after is the state that a record makes of one that may be; false: it can't come.
func after(s api.State, r api.Rec) (api.State, bool) {
	next, other, can := s, 1-s.Active, false
	switch r.Kind {
	case 1:
		can = s.Phase <= 2 && within(numbersOf(r)) && r.Rev != s.Rev[s.Active] && s.Gen <= in20-2
		next.Rev[other], next.Want[other], next.Passed[other] = r.Rev, r.N, false
		next.Delay, next.Phase = r.Delay, 1
	case 2:
		can = s.Phase == 1 || s.Phase == 2 || s.Phase == 3 && s.Switch == 0 || s.Phase == 4 || s.Phase == 5
		next = alone(s)
		if s.Phase > 3 {
			next = s
			next.Phase = 6
		}
	case 3:
		can = s.Phase == 1
		next.Phase = 2
	case 4:
		can = s.Phase == 2
		next.Passed[other], next.Phase = true, 3
		if !r.Pass {
			next = alone(s)
		}
	case 5:
		can = (s.Phase == 3 || s.Phase == 6) && s.Switch == 0 && r.Gen == s.Gen+1 && r.Gen <= in20
		next.Gen, next.Switch = s.Gen+1, 1
	case 6:
		can = s.Switch == 1 && r.Gen == s.Gen
		next.Switch = 2
	case 7:
		can = s.Switch == 1 && r.Gen == s.Gen
		next.Gen, next.Switch = s.Gen-1, 0
	case 8:
		can = s.Switch == 2 && r.Gen == s.Gen && r.Tick >= 0 && r.Tick <= in30
		next = switched(s, r.Tick)
	case 9:
		can = s.Phase == 4
		next.Phase = 6 - bit(r.Pass)
	case 10:
		can = s.Phase == 5 || s.Phase == 7
		next = alone(s)
	}
	if !can {
		return s, false
	}
	return next, true
}

// alone is a state with nothing but its active slot.
func alone(s api.State) api.State {
	other := 1 - s.Active
	s.Rev[other], s.Want[other], s.Passed[other] = 0, 0, false
	s.Phase = 0
	return s
}

// switched is the state behind its switch.
func switched(s api.State, tick int) api.State {
	s.Active, s.Switch, s.Flip = 1-s.Active, 0, tick
	s.Phase = map[int]int{3: 4, 6: 7}[s.Phase]
	return s
}

// put is the chapter's.
func (p *paper) put(r api.Rec) api.Errno {
	next, can := after(p.s, r)
	if !can {
		return 14
	}
	l := numbersOf(r)
	if r != recordOf(l) {
		return 4
	}
	if e := p.append(bytesOf(l...)); e != 0 {
		return e
	}
	p.s = next
	return 0
}

// compact is the chapter's.
func (p *paper) compact() api.Errno {
	return p.checkpoint(bytesOf(numbersOf(api.Rec{Kind: 11, State: p.s})...))
}

// laid is a record that is laid.
func (p *paper) laid(r api.Rec) api.Errno {
	if p.room() == 0 {
		if e := p.compact(); e != 0 {
			return e
		}
	}
	return p.put(r)
}

// openLog is the chapter's Open.
func (p *paper) openLog(first api.State, tries, now int) api.Errno {
	texts, e := p.openWal()
	if e != 0 {
		return e
	}
	var all [][]int
	for _, b := range texts {
		l, ok := numbersIn(b)
		if !ok || !within(l) {
			return 4
		}
		all = append(all, l)
	}
	p.s = first
	for i, l := range all {
		next, can := after(p.s, recordOf(l))
		if i == 0 && l[0] == 11 {
			next = recordOf(l).State
			can = right(next)
		}
		if !can {
			return 14
		}
		p.s = next
	}
	return p.ended(tries, now)
}

// ended brings a switch to its end.
func (p *paper) ended(tries, now int) api.Errno {
	switch p.s.Switch {
	case 1:
		return p.laid(api.Rec{Kind: 7, Gen: p.s.Gen})
	case 2:
		if e := p.set(api.Cell{Slot: 1 - p.s.Active, Gen: p.s.Gen}, tries); e != 0 {
			return e
		}
		return p.laid(api.Rec{Kind: 8, Gen: p.s.Gen, Tick: min(max(now, 0), in30)})
	}
	return 0
}
