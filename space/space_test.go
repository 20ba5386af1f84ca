package space

import (
	"bytes"
	"math"
	"math/rand"
	"slices"
	"strings"
	"testing"
	"time"

	"lapstone/api"
)

// far are pages that no space has.
var far = []int{math.MinInt, math.MinInt + 1, -1 << 32, -320, -257, -256, -255, -65, -64, -63, -2, -1, 256, 257, 319, 320, 511, 512, 1 << 16, 1<<32 - 1, 1 << 32, 1<<32 + 1, math.MaxInt - 1, math.MaxInt}

// sizes are numbers of pages at the edges of words, of varints and of spaces.
var sizes = []int{1, 2, 3, 63, 64, 65, 127, 128, 129, 191, 192, 193, 254, 255, 256}

// A space is written as a text here: a mark for each page, '.' if it is free and 'x' if it is taken.

func free(n int) string  { return strings.Repeat(".", n) }
func taken(n int) string { return strings.Repeat("x", n) }

// with is a text with another mark for a page.
func with(text string, page int, mark string) string { return text[:page] + mark + text[page+1:] }

// texts is all texts of n pages.
func texts(n int) []string { return words(n, ".x") }

// words returns all strings of n of the given bytes.
func words(n int, of string) []string {
	if n == 0 {
		return []string{""}
	}
	var out []string
	for _, s := range words(n-1, of) {
		for i := range len(of) {
			out = append(out, s+of[i:i+1])
		}
	}
	return out
}

// fresh returns a space of free pages.
func fresh(t testing.TB, n int) *Space {
	t.Helper()
	s, e := New(n)
	if s == nil || e != api.OK {
		t.Fatalf("New(%d) = %v, %d", n, s, e)
	}
	return s
}

// made returns the space of a text, by claims.
func made(t testing.TB, text string) *Space {
	t.Helper()
	s := fresh(t, len(text))
	for i := range len(text) {
		if text[i] == 'x' {
			claim(t, s, i, api.OK)
		}
	}
	return s
}

// is checks all that a space tells.
func is(t testing.TB, s *Space, text string) {
	t.Helper()
	var pages []int
	for i := range len(text) {
		if s.Has(i) != (text[i] == 'x') {
			t.Fatalf("Has(%d) = %t; want %s", i, s.Has(i), text)
		}
		if text[i] == 'x' {
			pages = append(pages, i)
		}
	}
	if s.Has(-1) || s.Has(len(text)) {
		t.Fatalf("it has a page that there is not: -1 %t, %d %t", s.Has(-1), len(text), s.Has(len(text)))
	}
	if got := s.Taken(); !slices.Equal(got, pages) {
		t.Fatalf("Taken() = %v; want %v", got, pages)
	}
	if n := len(text) - len(pages); s.Left() != n {
		t.Fatalf("Left() = %d; want %d", s.Left(), n)
	}
	if got := string(s.Bytes()); got != encoded(text) {
		t.Fatalf("Bytes() = %q; want %q, for %s", got, encoded(text), text)
	}
}

func take(t testing.TB, s *Space, page int) {
	t.Helper()
	if got, e := s.Take(); got != page || e != api.OK {
		t.Fatalf("Take() = %d, %d; want %d", got, e, page)
	}
}

func full(t testing.TB, s *Space) {
	t.Helper()
	if got, e := s.Take(); got != 0 || e != api.ErrSpaceFull {
		t.Fatalf("Take() = %d, %d; want ErrSpaceFull", got, e)
	}
}

func claim(t testing.TB, s *Space, page int, want api.Errno) {
	t.Helper()
	if e := s.Claim(page); e != want {
		t.Fatalf("Claim(%d) = %d; want %d", page, e, want)
	}
}

func release(t testing.TB, s *Space, page int, want api.Errno) {
	t.Helper()
	if e := s.Free(page); e != want {
		t.Fatalf("Free(%d) = %d; want %d", page, e, want)
	}
}

// variant is the varint encoding of a number, by its definition.
func variant(v int) string {
	if v < 128 {
		return string([]byte{byte(v)})
	}
	return string([]byte{byte(v%128) + 128}) + variant(v/128)
}

// encoded is the encoding of a space, by its definition.
func encoded(text string) string {
	s := variant(len(text))
	for mark := "."; text != ""; {
		rest := strings.TrimLeft(text, mark)
		s += variant(len(text) - len(rest))
		text = rest
		mark = other(mark)
	}
	return s
}

func other(mark string) string {
	if mark == "." {
		return "x"
	}
	return "."
}

// number is the number up to 300 whose varint b begins with, and what follows; false if there is none.
func number(b string) (int, string, bool) {
	for v := range 301 {
		if rest, ok := strings.CutPrefix(b, variant(v)); ok {
			return v, rest, true
		}
	}
	return 0, "", false
}

// decoded is the text whose encoding b is; none if b is no encoding.
func decoded(b string) string {
	_, rest, ok := number(b)
	text, mark := "", "."
	for ok && rest != "" {
		var n int
		n, rest, ok = number(rest)
		text, mark = text+strings.Repeat(mark, n), other(mark)
	}
	if !ok || len(text) > 256 || encoded(text) != b {
		return ""
	}
	return text
}

// checkOf holds Of against what it is to find: nothing if the text is empty.
func checkOf(t testing.TB, b, text string) {
	t.Helper()
	s, e := Of([]byte(b))
	if text == "" {
		if s != nil || e != api.ErrSpaceForm {
			t.Fatalf("Of(%.60q) of %d bytes = %v, %d; want ErrSpaceForm", b, len(b), s, e)
		}
		return
	}
	if s == nil || e != api.OK {
		t.Fatalf("Of(%.60q) of %d bytes = %v, %d; want %s", b, len(b), s, e, text)
	}
	is(t, s, text)
}

// P9.1

func TestExample(t *testing.T) {
	s := fresh(t, 5)
	take(t, s, 0)
	claim(t, s, 3, api.OK)
	take(t, s, 1)
	if l := s.Taken(); !slices.Equal(l, []int{0, 1, 3}) {
		t.Errorf("Taken() = %v", l)
	}
	if b := s.Bytes(); string(b) != "\x05\x00\x02\x01\x01\x01" {
		t.Errorf("Bytes() = %q", b)
	}
	if s.Left() != 2 || !s.Has(3) || s.Has(2) {
		t.Errorf("Left() = %d, Has(3) = %t, Has(2) = %t", s.Left(), s.Has(3), s.Has(2))
	}
	release(t, s, 0, api.OK)
	take(t, s, 0)
	is(t, s, "xx.x.")
}

func TestNew(t *testing.T) {
	for n := range 300 {
		s, e := New(n)
		if n >= 1 && n <= 256 {
			if s == nil || e != api.OK {
				t.Fatalf("New(%d) = %v, %d", n, s, e)
			}
			is(t, s, free(n))
		} else if s != nil || e != api.ErrSpaceSize {
			t.Fatalf("New(%d) = %v, %d; want ErrSpaceSize", n, s, e)
		}
	}
	for _, n := range far {
		if s, e := New(n); n != 256 && (s != nil || e != api.ErrSpaceSize) {
			t.Fatalf("New(%d) = %v, %d; want ErrSpaceSize", n, s, e)
		}
	}
}

func TestTake(t *testing.T) {
	for n := 1; n <= 256; n++ {
		s := fresh(t, n)
		for i := range n {
			if s.Left() != n-i {
				t.Fatalf("Left() = %d; want %d", s.Left(), n-i)
			}
			take(t, s, i)
		}
		full(t, s)
		full(t, s)
		is(t, s, taken(n))
	}
}

// TestTakeLowest takes all free pages of spaces: they come in ascending order.
func TestTakeLowest(t *testing.T) {
	var l []string
	for n := 1; n <= 8; n++ {
		l = append(l, texts(n)...)
	}
	for _, n := range sizes {
		for i := range n {
			l = append(l, with(taken(n), i, "."), with(free(n), i, "x"))
		}
	}
	for _, text := range l {
		s := made(t, text)
		for page := range len(text) {
			if text[page] == '.' {
				take(t, s, page)
			}
		}
		full(t, s)
		is(t, s, taken(len(text)))
	}
}

func TestClaim(t *testing.T) {
	for _, n := range sizes {
		for page := range n {
			s := fresh(t, n)
			claim(t, s, page, api.OK)
			is(t, s, with(free(n), page, "x"))
			claim(t, s, page, api.ErrSpacePage)
			is(t, s, with(free(n), page, "x"))
			release(t, s, page, api.OK)
			is(t, s, free(n))
			claim(t, s, page, api.OK)
			is(t, s, with(free(n), page, "x"))
		}
	}
}

func TestFree(t *testing.T) {
	for _, n := range sizes {
		s := made(t, taken(n))
		for page := range n {
			release(t, s, page, api.OK)
			is(t, s, with(taken(n), page, "."))
			release(t, s, page, api.ErrSpacePage)
			is(t, s, with(taken(n), page, "."))
			take(t, s, page)
			is(t, s, taken(n))
		}
	}
}

// TestNoPage asks for pages that there are not, those next to the last one among them: nothing is changed.
func TestNoPage(t *testing.T) {
	for _, n := range sizes {
		for _, text := range []string{free(n), taken(n), strings.Repeat(".x", n)[:n]} {
			s := made(t, text)
			for _, page := range append([]int{n, n + 1, n + 63, n + 64, n + 65, n + 256, -n, n - 512, n - 1 - 64*4}, far...) {
				if page >= 0 && page < n {
					continue
				}
				claim(t, s, page, api.ErrSpacePage)
				release(t, s, page, api.ErrSpacePage)
				if s.Has(page) {
					t.Fatalf("%d pages: Has(%d)", n, page)
				}
			}
			is(t, s, text)
		}
	}
}

// step does an action, of those numbered from 0 on, to a space and to its text, and checks its result; it returns the text.
func step(t testing.TB, s *Space, text string, action int) string {
	t.Helper()
	if action == 0 {
		page := strings.IndexByte(text, '.')
		if page < 0 {
			full(t, s)
			return text
		}
		take(t, s, page)
		return with(text, page, "x")
	}
	page, call, from, to := (action-1)/2-1, claim, byte('.'), "x"
	if action%2 == 0 {
		call, from, to = release, 'x', "."
	}
	if page < 0 || page >= len(text) || text[page] != from {
		call(t, s, page, api.ErrSpacePage)
		return text
	}
	call(t, s, page, api.OK)
	return with(text, page, to)
}

// actions is how many actions step knows for spaces of n pages: the pages next to the first and to the last one are asked for, too.
func actions(n int) int { return 1 + 2*(n+2) }

// TestSequences does all sequences of some actions to small spaces.
func TestSequences(t *testing.T) {
	var try func(s Space, text string, more int)
	try = func(s Space, text string, more int) {
		is(t, &s, text)
		if more == 0 {
			return
		}
		for a := range actions(len(text)) {
			c := s
			try(c, step(t, &c, text, a), more-1)
		}
	}
	try(*fresh(t, 1), ".", 5)
	try(*fresh(t, 2), "..", 5)
	try(*fresh(t, 3), "...", 4)
	try(*made(t, "xx.x"), "xx.x", 4)
}

func TestLong(t *testing.T) {
	r := rand.New(rand.NewSource(9))
	for _, n := range sizes {
		s, text := fresh(t, n), free(n)
		for i := range 20000 {
			a := r.Intn(actions(n))
			if r.Intn(3) == 0 {
				a = 0 // so that spaces fill up
			}
			text = step(t, s, text, a)
			if i%100 == 0 {
				is(t, s, text)
			}
		}
		is(t, s, text)
	}
}

// P9.2

// byHand are spaces with their encodings.
var byHand = []struct{ text, bytes string }{
	{".", "\x01\x01"},
	{"x", "\x01\x00\x01"},
	{"..", "\x02\x02"},
	{".x", "\x02\x01\x01"},
	{"x.", "\x02\x00\x01\x01"},
	{"xx", "\x02\x00\x02"},
	{"xx.x.", "\x05\x00\x02\x01\x01\x01"},
	{"...xx", "\x05\x03\x02"},
	{".xx..", "\x05\x01\x02\x02"},
	{free(127), "\x7f\x7f"},
	{free(128), "\x80\x01\x80\x01"},
	{taken(128), "\x80\x01\x00\x80\x01"},
	{free(127) + "x", "\x80\x01\x7f\x01"},
	{free(64) + taken(66), "\x82\x01\x40\x42"},
	{free(256), "\x80\x02\x80\x02"},
	{taken(256), "\x80\x02\x00\x80\x02"},
	{free(255) + "x", "\x80\x02\xff\x01\x01"},
	{taken(255) + ".", "\x80\x02\x00\xff\x01\x01"},
	{free(128) + taken(128), "\x80\x02\x80\x01\x80\x01"},
	{"x" + free(200) + taken(55), "\x80\x02\x00\x01\xc8\x01\x37"},
	{strings.Repeat(".x", 128), "\x80\x02" + strings.Repeat("\x01", 256)},
	{strings.Repeat("x.", 128), "\x80\x02\x00" + strings.Repeat("\x01", 256)},
}

func TestByHand(t *testing.T) {
	for _, x := range byHand {
		if b := made(t, x.text).Bytes(); string(b) != x.bytes {
			t.Errorf("%s: Bytes() = %q; want %q", x.text, b, x.bytes)
		}
		checkOf(t, x.bytes, x.text)
	}
}

// TestRoundTrip encodes and decodes spaces; the decoded one goes on like the first.
func TestRoundTrip(t *testing.T) {
	var l []string
	for n := 1; n <= 10; n++ {
		l = append(l, texts(n)...)
	}
	for _, n := range sizes {
		for i := range n {
			l = append(l, free(i)+taken(n-i), taken(i)+free(n-i), with(free(n), i, "x"), with(taken(n), i, "."))
		}
	}
	for _, text := range l {
		s := made(t, text)
		is(t, s, text)
		u, e := Of(s.Bytes())
		if u == nil || e != api.OK {
			t.Fatalf("%s: Of = %v, %d", text, u, e)
		}
		is(t, u, text)
		for _, a := range []int{0, 1, 2, 3, 4, 5, 6, actions(len(text)) - 1, actions(len(text)) - 2, actions(len(text)) - 3, 0} {
			text = step(t, u, text, a%actions(len(text)))
		}
		is(t, u, text)
	}
}

func TestOfForm(t *testing.T) {
	most := strings.Repeat("\xff", 9) + "\x01" // the varint of the greatest number
	for _, b := range []string{
		"", "\x80", "\x80\x80", most, most + most, strings.Repeat("\xff", 20), // no number of pages
		"\x00", "\x00\x00", "\x00\x00\x00", "\x81\x02", "\x81\x02\x81\x02", "\x81\x02\x80\x02\x01", "\xff\xff\x03\x01", // none that may be
		most[:9] + "\x00\x01", "\x80\x80\x80\x80\x80\x80\x80\x80\x80\x01\x01", most[:8] + "\x7f\x01",
		"\x01", "\x02", "\x80\x01", "\x80\x02", // no run
		"\x02\x01", "\x02\x00", "\x02\x00\x01", "\x05\x00\x02\x01\x01", "\x80\x02\xff\x01", "\x80\x02\x00", // too few pages
		"\x02\x03", "\x02\x00\x03", "\x02\x01\x02", "\x05\x00\x02\x01\x03", "\x80\x02\x81\x02", "\x80\x02\x00\x81\x02", // too many
		"\x02" + most, "\x02\x00" + most, "\x02\x01" + most + "\x02", "\x02" + most + "\x03", "\x80\x02\x00" + most + "\x81\x02", // so many that they wrap around
		"\x02\x02\x00", "\x02\x01\x01\x00", "\x02\x00\x02\x00", "\x02\x00\x02\x00\x00", "\x80\x02\x80\x02\x00", // an empty run behind
		"\x02\x00\x00\x02", "\x02\x01\x00\x01", "\x02\x00\x01\x00\x01", "\x02\x00\x00\x00\x02", "\x02\x00\x00\x00\x00\x02", "\x05\x01\x02\x00\x02", "\x05\x01\x00\x01\x03", // or between
		"\x02\x00\x00", "\x02\x00\x00\x00", "\x02" + strings.Repeat("\x00", 1000),
		"\x02\x02\x01", "\x02\x02\x02", "\x02\x02\x80", "\x02\x00\x02\x01", "\x02\x01\x01\x01", "\x01\x01\x01", "\x02\x02\xff\xff", // more bytes
		"\x02\x02\x02\x02", "\x05\x00\x02\x01\x01\x01\x00", "\x05\x00\x02\x01\x01\x01\x05",
		"\x82\x00\x02", "\x02\x82\x00", "\x02\x80\x00\x02", "\x02\x81\x00\x01", "\x02\x01\x81\x00", "\x02\x82\x80\x00", "\x80\x82\x00\x80\x02", // needless bytes in a number
		"\x02\x80", "\x02\x81", "\x02\x01\x81", "\x02\x00\x80", "\x80\x02\x80", "\x80\x02\x00\x80", // half a number
		"\x02" + strings.Repeat("\xff", 10) + "\x01", "\x02" + most[:9] + "\x02", // a number that is too great
		"5", "5 0 2 1 1 1", "\x00\x05\x00\x02\x01\x01\x01", "\x01\x00\x02",
	} {
		checkOf(t, b, "")
		if decoded(b) != "" {
			t.Errorf("%q is taken for an encoding", b)
		}
	}
	if s, e := Of(nil); s != nil || e != api.ErrSpaceForm {
		t.Errorf("Of(nil) = %v, %d", s, e)
	}
}

// TestOfAll decodes all short strings of some bytes.
func TestOfAll(t *testing.T) {
	found := 0
	for _, of := range []string{"\x00\x01\x02\x03\x04\x80", "\x00\x01\x02\x7f\x80\x81\xff"} {
		for n := range 7 {
			for _, b := range words(n, of) {
				text := decoded(b)
				checkOf(t, b, text)
				if text != "" {
					found++
				}
			}
		}
	}
	if found < 60 {
		t.Errorf("only %d of the strings are encodings", found)
	}
}

// TestOfChanged cuts encodings, and changes, drops and adds bytes.
func TestOfChanged(t *testing.T) {
	for _, x := range byHand {
		if len(x.bytes) > 20 {
			continue
		}
		for i := range len(x.bytes) + 1 {
			front, behind := x.bytes[:i], x.bytes[i:]
			if behind != "" {
				checkOf(t, front, "")
				checkOf(t, front+behind[1:], decoded(front+behind[1:]))
			}
			for c := range 256 {
				b := front + string([]byte{byte(c)})
				checkOf(t, b+behind, decoded(b+behind))
				if behind != "" {
					checkOf(t, b+behind[1:], decoded(b+behind[1:]))
				}
			}
		}
		for _, more := range []string{"\x00", "\x01", "\x80", "\x00\x00", x.bytes} {
			checkOf(t, x.bytes+more, "")
		}
	}
}

// P9.3

// TestOnce allocates in both ways: no page that is allocated is allocated again before it is freed.
func TestOnce(t *testing.T) {
	r := rand.New(rand.NewSource(93))
	for _, n := range []int{1, 3, 64, 65, 200, 256} {
		s, allocated := fresh(t, n), map[int]bool{}
		for range 20000 {
			page, e := r.Intn(n), api.OK
			switch r.Intn(4) {
			case 0:
				e = s.Claim(page)
			case 1, 2:
				page, e = s.Take()
			default:
				if s.Free(page) == api.OK {
					delete(allocated, page)
				}
				continue
			}
			if e == api.OK && (allocated[page] || page < 0 || page >= n) {
				t.Fatalf("%d pages: page %d is allocated again", n, page)
			}
			if e == api.OK {
				allocated[page] = true
			}
			if len(allocated)+s.Left() != n {
				t.Fatalf("%d pages: %d allocated, %d left", n, len(allocated), s.Left())
			}
		}
	}
}

// TestOneEncoding counts the strings that are encodings: as many as there are spaces, and of each space one.
func TestOneEncoding(t *testing.T) {
	of := map[string]string{}
	count := map[int]int{}
	for n := range 8 {
		for _, b := range words(n, "\x00\x01\x02\x03\x04\x05") {
			s, e := Of([]byte(b))
			if e != api.OK {
				continue
			}
			pages := len(s.Taken()) + s.Left()
			text := free(pages)
			for _, p := range s.Taken() {
				text = with(text, p, "x")
			}
			if first, ok := of[text]; ok {
				t.Fatalf("%q and %q are encodings of %s", first, b, text)
			}
			of[text] = b
			count[pages]++
			if string(s.Bytes()) != b {
				t.Fatalf("%q is an encoding of %s, and so is %q", b, text, s.Bytes())
			}
		}
	}
	for n := 1; n <= 5; n++ {
		if count[n] != 1<<n {
			t.Errorf("%d encodings of spaces of %d pages; want %d", count[n], n, 1<<n)
		}
	}
}

// P1: every call ends without a panic, leaves what it is given alone, and answers new memory.

func TestMemory(t *testing.T) {
	whole := []byte("\x05\x00\x02\x01\x01\x01")
	before := bytes.Clone(whole)
	if s, e := Of(whole[:5]); s != nil || e != api.ErrSpaceForm {
		t.Errorf("Of read unused capacity: %v, %d", s, e)
	}
	s, e := Of(whole)
	if e != api.OK {
		t.Fatal(e)
	}
	s.Free(1)
	s.Take()
	s.Claim(4)
	if !bytes.Equal(whole, before) {
		t.Fatalf("what was given was changed to %q", whole)
	}
	for i := range whole {
		whole[i] = 0xaa
	}
	is(t, s, "xx.xx")
}

func TestNewMemory(t *testing.T) {
	s := made(t, "xx.x.")
	b, again := s.Bytes(), s.Bytes()
	l, other := s.Taken(), s.Taken()
	for i := range b[:cap(b)] {
		b[:cap(b)][i] = 0xaa
	}
	for i := range l[:cap(l)] {
		l[:cap(l)][i] = 77
	}
	if string(again) != "\x05\x00\x02\x01\x01\x01" || !slices.Equal(other, []int{0, 1, 3}) {
		t.Errorf("answers share memory: %q, %v", again, other)
	}
	is(t, s, "xx.x.")
	take(t, s, 2)
	if string(again) != "\x05\x00\x02\x01\x01\x01" || !slices.Equal(other, []int{0, 1, 3}) {
		t.Errorf("answers change with the space: %q, %v", again, other)
	}
}

// TestApart holds that spaces have nothing in common.
func TestApart(t *testing.T) {
	s, u := fresh(t, 200), fresh(t, 200)
	for i := range 150 {
		take(t, s, i)
	}
	is(t, u, free(200))
	v, _ := Of(s.Bytes())
	w, _ := Of(s.Bytes())
	release(t, v, 70, api.OK)
	is(t, s, taken(150)+free(50))
	is(t, w, taken(150)+free(50))
	is(t, v, with(taken(150)+free(50), 70, "."))
	is(t, fresh(t, 200), free(200))
}

// TestMany holds that what follows the pages is not decoded.
func TestMany(t *testing.T) {
	start := time.Now()
	for _, more := range []string{"\x00", "\x01", "\x80", "\xff"} {
		long := strings.Repeat(more, 1<<24)
		for _, b := range []string{"", "\x02", "\x02\x00", "\x02\x01", "\x80\x02", "\x05\x00\x02\x01\x01\x01"} {
			checkOf(t, b+long, "")
		}
	}
	if d := time.Since(start); d > 20*time.Second {
		t.Errorf("it took %s", d)
	}
}
