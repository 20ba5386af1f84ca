package page

import (
	"bytes"
	"fmt"
	"math"
	"math/rand"
	"slices"
	"strings"
	"testing"
	"time"

	"lapstone/api"
	"lapstone/sum"
)

// numbers are values of Next at the edges of what may be, and of varints.
var numbers = []int{math.MinInt, math.MinInt + 1, -1 << 32, -257, -256, -2, -1, 0, 1, 2, 127, 128, 255, 256, 257, 258, 511, 512, 16383, 16384, 1 << 32, 1<<32 + 1, math.MaxInt - 1, math.MaxInt}

// made is a page of pairs of a key and a value.
func made(leaf bool, next int, pairs ...string) api.Page {
	p := api.Page{Leaf: leaf, Next: next}
	for i := 0; i < len(pairs); i += 2 {
		p.Cells = append(p.Cells, api.Cell{Key: pairs[i], Value: pairs[i+1]})
	}
	return p
}

// keyed is a leaf of keys, each with a value of its own.
func keyed(keys ...string) api.Page {
	var pairs []string
	for _, k := range keys {
		pairs = append(pairs, k, "of "+k)
	}
	return made(true, 7, pairs...)
}

func text(n int) string { return strings.Repeat("v", n) }

// words returns all strings of n of the given bytes.
func words(n int, of string) []string {
	if n == 0 {
		return []string{""}
	}
	var out []string
	for _, s := range words(n-1, of) {
		for i := range len(of) {
			out = append(out, s+of[i:i+1])
		}
	}
	return out
}

// lists returns all lists of n of the given elements.
func lists[T any](n int, of []T) [][]T {
	if n == 0 {
		return [][]T{nil}
	}
	var out [][]T
	for _, l := range lists(n-1, of) {
		for _, x := range of {
			out = append(out, append(slices.Clone(l), x))
		}
	}
	return out
}

// variant is the varint encoding of a number, by its definition.
func variant(v int) string {
	if v < 128 {
		return string([]byte{byte(v)})
	}
	return string([]byte{byte(v%128) + 128}) + variant(v/128)
}

// sealed is fields with their checksum, whatever they are.
func sealed(fields string) string { return string(sum.Seal([]byte(fields))) }

// cellBytes is the encoding of a cell, by its definition.
func cellBytes(c api.Cell) string {
	return variant(len(c.Key)) + c.Key + variant(len(c.Value)) + c.Value
}

// fields is what the encoding of a page seals, by its definition; a negative Next counts as 0.
func fields(p api.Page) string {
	s := "\x00"
	if p.Leaf {
		s = "\x01"
	}
	all := []string{s, variant(max(p.Next, 0)), variant(len(p.Cells))}
	for _, c := range p.Cells {
		all = append(all, cellBytes(c))
	}
	return strings.Join(all, "")
}

// why is the first error of a page, by the definition of the valid ones.
func why(p api.Page) api.Errno {
	switch {
	case p.Next < 0, p.Next > 256:
		return 101
	}
	for i, c := range p.Cells {
		if len(c.Key+c.Value) >= 481 {
			return 100
		}
		if i > 0 && strings.Compare(c.Key, p.Cells[i-1].Key) < 1 {
			return 101
		}
	}
	if len(fields(p))+4 >= 2049 {
		return 100
	}
	return 0
}

// small are the varints of the numbers up to 2100.
var small = func() map[string]int {
	m := map[string]int{}
	for v := range 2101 {
		m[variant(v)] = v
	}
	return m
}()

// number is the number of at most two bytes that b begins with, and what follows; false if there is none.
func number(b string) (int, string, bool) {
	for n := 1; n <= min(2, len(b)); n++ {
		if v, ok := small[b[:n]]; ok {
			return v, b[n:], true
		}
	}
	return 0, "", false
}

// decoded is the valid page that has some fields, and whether there is one.
func decoded(b string) (api.Page, bool) {
	if b == "" {
		return api.Page{}, false
	}
	p := api.Page{Leaf: b[0] == 1}
	next, rest, _ := number(b[1:])
	p.Next = next
	cells, rest, ok := number(rest)
	var strs []string
	for ok && len(strs) < 2*cells {
		var n int
		n, rest, ok = number(rest)
		if ok = ok && n <= len(rest); ok {
			strs = append(strs, rest[:n])
			rest = rest[n:]
		}
	}
	if !ok {
		return api.Page{}, false
	}
	p.Cells = made(false, 0, strs...).Cells
	if fields(p) != b || why(p) != 0 {
		return api.Page{}, false
	}
	return p, true
}

// equal compares pages by what they are, not by Same.
func equal(a, b api.Page) bool {
	return a.Leaf == b.Leaf && a.Next == b.Next && slices.Equal(a.Cells, b.Cells)
}

// brief is a page as a text that is not too long.
func brief(p api.Page) string { return fmt.Sprintf("%.300s", fmt.Sprint(p)) }

// none reports whether a page is the zero page.
func none(p api.Page) bool { return equal(p, api.Page{}) }

// checkPage holds Size, Check, Bytes and, of what Bytes answers, Of against what they are to be for a page.
func checkPage(t testing.TB, p api.Page) {
	t.Helper()
	want := sealed(fields(p))
	if n := Size(p); n != len(want) {
		t.Fatalf("Size(%s) = %d; want %d", brief(p), n, len(want))
	}
	e := why(p)
	if got := Check(p); got != e {
		t.Fatalf("Check(%s) = %d; want %d", brief(p), got, e)
	}
	b, got := Bytes(p)
	if e != api.OK {
		if b != nil || got != e {
			t.Fatalf("Bytes(%s) = %.60q, %d; want %d", brief(p), b, got, e)
		}
		if p.Next >= 0 { // as a negative one counts as 0, the rest may be valid
			checkOf(t, want, nil)
		}
		return
	}
	if string(b) != want || got != api.OK {
		t.Fatalf("Bytes(%s) = %.60q, %d; want %.60q", brief(p), b, got, want)
	}
	checkOf(t, want, &p)
}

// checkOf holds Of against what it is to find: nothing if p is nil.
func checkOf(t testing.TB, b string, p *api.Page) {
	t.Helper()
	got, e := Of([]byte(b))
	if p == nil {
		if !none(got) || e != api.ErrPageForm {
			t.Fatalf("Of(%.60q) of %d bytes = %s, %d; want ErrPageForm", b, len(b), brief(got), e)
		}
		return
	}
	if !equal(got, *p) || e != api.OK {
		t.Fatalf("Of(%.60q) of %d bytes = %s, %d; want %s", b, len(b), brief(got), e, brief(*p))
	}
}

// checkFields holds Of of sealed fields against the plain decoder, and returns whether there is a page.
func checkFields(t testing.TB, b string) bool {
	t.Helper()
	p, ok := decoded(b)
	if !ok {
		checkOf(t, sealed(b), nil)
		return false
	}
	checkOf(t, sealed(b), &p)
	return true
}

// filled is a page whose encoding has n bytes, for n from 1994 to 2345: the value of its last cell has 128 to 479 of them.
func filled(n int) api.Page {
	p := made(true, 256, "a", text(479), "b", text(479), "c", text(479), "d", text(400))
	p.Cells = append(p.Cells, api.Cell{Key: "e", Value: text(n - 4 - len(fields(p)) - 4)})
	return p
}

// P10.1

func TestExample(t *testing.T) {
	p := made(true, 7, "a", "1", "c", "2")
	want := "\x01\x07\x02\x01a\x011\x01c\x012"
	b, e := Bytes(p)
	if string(b) != want+"\xa6\x0a\xfb\xd8" || len(b) != 15 || e != api.OK || Size(p) != 15 || fields(p) != want {
		t.Errorf("%q, %d; size %d", b, e, Size(p))
	}
	if i, ok := Find(p, "b"); i != 1 || ok {
		t.Errorf("Find: %d, %t", i, ok)
	}
	a, c, e := Split(p)
	if !equal(a, made(true, 7, "a", "1")) || !equal(c, made(true, 7, "c", "2")) || e != api.OK {
		t.Errorf("Split: %v, %v, %d", a, c, e)
	}
}

func TestByHand(t *testing.T) {
	for _, x := range []struct {
		p      api.Page
		fields string
	}{
		{api.Page{}, "\x00\x00\x00"},
		{api.Page{Leaf: true}, "\x01\x00\x00"},
		{api.Page{Next: 127}, "\x00\x7f\x00"},
		{api.Page{Next: 128}, "\x00\x80\x01\x00"},
		{api.Page{Leaf: true, Next: 256}, "\x01\x80\x02\x00"},
		{made(false, 0, "", ""), "\x00\x00\x01\x00\x00"},
		{made(true, 0, "", "x"), "\x01\x00\x01\x00\x01x"},
		{made(false, 3, "x", ""), "\x00\x03\x01\x01x\x00"},
		{made(false, 3, "", "", "\x00", "\x00\x01", "\xff\xff", ""), "\x00\x03\x03\x00\x00\x01\x00\x02\x00\x01\x02\xff\xff\x00"},
		{made(true, 1, "k", text(127)), "\x01\x01\x01\x01k\x7f" + text(127)},
		{made(true, 1, "k", text(128)), "\x01\x01\x01\x01k\x80\x01" + text(128)},
		{made(true, 1, text(300), "k"), "\x01\x01\x01\xac\x02" + text(300) + "\x01k"},
		{made(true, 1, "", text(480)), "\x01\x01\x01\x00\xe0\x03" + text(480)},
		{made(true, 1, text(480), ""), "\x01\x01\x01\xe0\x03" + text(480) + "\x00"},
	} {
		b, e := Bytes(x.p)
		if string(b) != sealed(x.fields) || e != api.OK || Size(x.p) != len(x.fields)+4 {
			t.Errorf("Bytes(%v) = %.60q, %d; size %d; want the fields %.60q", x.p, b, e, Size(x.p), x.fields)
		}
		checkPage(t, x.p)
		checkOf(t, sealed(x.fields), &x.p)
	}
}

// TestSize measures pages of all kinds, those that no encoding is given for among them.
func TestSize(t *testing.T) {
	for _, next := range numbers {
		for _, cells := range []int{0, 1, 2, 127, 128, 129, 16383, 16384} {
			p := api.Page{Next: next, Cells: make([]api.Cell, cells)}
			if n := Size(p); n != len(fields(p))+4 {
				t.Errorf("Next %d, %d cells: %d; want %d", next, cells, n, len(fields(p))+4)
			}
		}
	}
	lengths := []int{0, 1, 127, 128, 129, 479, 480, 481, 16383, 16384, 65535, 65536, 65537, 1<<21 - 1, 1 << 21}
	for _, key := range lengths {
		for _, value := range lengths {
			p := made(true, 5, text(key), text(value), "", text(value))
			want := 1 + 1 + 1 + len(variant(key)) + key + 2*(len(variant(value))+value) + 1 + 4
			if n := Size(p); n != want {
				t.Errorf("%d, %d: %d; want %d", key, value, n, want)
			}
		}
	}
	if a, b := Size(api.Page{Next: math.MaxInt}), Size(api.Page{Next: math.MinInt}); a != 15 || b != 7 {
		t.Errorf("%d, %d", a, b)
	}
}

func TestCheckNext(t *testing.T) {
	for _, next := range numbers {
		for _, p := range []api.Page{{Next: next}, {Leaf: true, Next: next}, made(true, next, "a", "1"), made(true, next, text(481), ""), made(true, next, "b", "", "a", ""), made(true, next, "a", text(481))} {
			checkPage(t, p)
			if e := Check(p); (next < 0 || next > 256) && e != api.ErrPageForm {
				t.Errorf("Next %d: %d", next, e)
			}
		}
	}
	for next := range 257 {
		checkPage(t, api.Page{Next: next})
		if e := Check(api.Page{Next: next}); e != api.OK {
			t.Errorf("Next %d: %d", next, e)
		}
	}
}

func TestCheckCells(t *testing.T) {
	long := api.Cell{Key: "m", Value: text(480)}
	for i, x := range []struct {
		p    api.Page
		want api.Errno
	}{
		{made(true, 0, "", "", "a", ""), 0},
		{made(true, 0, "", "", "", ""), 101},
		{made(true, 0, "a", "", "", ""), 101},
		{made(true, 0, "a", "1", "a", "2"), 101},
		{made(true, 0, "a", "", "\x00", ""), 101},
		{made(true, 0, "a", "", "a\x00", "", "ab", "", "b", ""), 0},
		{made(true, 0, "ab", "", "a", ""), 101},
		{made(true, 0, "\x7f", "", "\x80", "", "\xff", "", "\xff\x00", ""), 0},
		{made(true, 0, "\x80", "", "\x7f", ""), 101},
		{made(true, 0, "a", "", "c", "", "b", ""), 101},
		{made(true, 0, "b", "", "c", "", "a", ""), 101},
		{made(true, 0, "a", "", "b", "", "a", ""), 101},
		{made(true, 0, text(479), "1"), 0},
		{made(true, 0, text(480), "1"), 100},
		{made(true, 0, "a", text(480)), 100},
		{made(true, 0, text(240), text(240)), 0},
		{made(true, 0, text(240), text(241)), 100},
		{made(true, 0, text(241), text(240)), 100},
		{made(true, 0, text(65537), ""), 100},
		{made(true, 0, "", text(1<<20)), 100},
		{api.Page{Cells: []api.Cell{{Key: "n"}, long}}, 100},              // of one cell, its length comes first
		{api.Page{Cells: []api.Cell{{Key: "a"}, long, {Key: "a"}}}, 100},  // of two cells, the first one
		{api.Page{Cells: []api.Cell{{Key: "b"}, {Key: "a"}, long}}, 101},  //
		{api.Page{Cells: []api.Cell{{Key: "m"}, {Key: "m"}, long}}, 101},  //
		{api.Page{Cells: []api.Cell{long, {Key: "a"}}}, 100},              //
		{api.Page{Next: -1, Cells: []api.Cell{long}}, 101},                // Next comes before all cells
		{api.Page{Next: 257, Cells: []api.Cell{long}}, 101},               //
		{Join(filled(2040), made(true, 0, "z", text(400), "y", "")), 101}, // and the whole behind them
		{Join(filled(2040), made(true, 0, "z", text(400))), 100},          //
		{Join(filled(2040), made(true, 257, "z", text(400))), 101},        //
	} {
		if e := Check(x.p); e != x.want {
			t.Errorf("%d: %d; want %d", i, e, x.want)
		}
		checkPage(t, x.p)
	}
}

// TestCheckSize makes pages longer byte by byte, up to and beyond what a page may have.
func TestCheckSize(t *testing.T) {
	for n := 1994; n <= 2345; n++ {
		p := filled(n)
		if Size(p) != n {
			t.Fatalf("Size = %d; want %d", Size(p), n)
		}
		e := api.OK
		if n > 2048 {
			e = api.ErrPageLong
		}
		if got := Check(p); got != e {
			t.Fatalf("%d bytes: %d; want %d", n, got, e)
		}
		checkPage(t, p)
	}
}

// shortKeys are n of the shortest keys, in ascending order.
func shortKeys(n int) []string {
	keys := []string{""}
	for i := 0; len(keys) < n; i++ {
		for x := range 256 {
			keys = append(keys, keys[i]+string([]byte{byte(x)}))
		}
	}
	keys = keys[:n]
	slices.Sort(keys)
	return keys
}

// TestManyCells makes pages of as many cells as possible.
func TestManyCells(t *testing.T) {
	most := 0
	for n := range 700 {
		p := api.Page{Next: 1}
		for _, k := range shortKeys(n) {
			p.Cells = append(p.Cells, api.Cell{Key: k})
		}
		checkPage(t, p)
		if Check(p) == api.OK {
			most = n
		}
	}
	if most != 574 {
		t.Errorf("the longest valid page has %d cells", most)
	}
}

// TestAllPages takes all lists of up to four cells of some kinds.
func TestAllPages(t *testing.T) {
	kinds := made(false, 0, "", "", "a", "1", "b", "", "b", text(479), "c", text(480), "d", text(475), "e", text(476)).Cells
	for n := range 5 {
		for _, cells := range lists(n, kinds) {
			for _, next := range []int{-1, 0, 256, 257} {
				checkPage(t, api.Page{Leaf: n%2 == 0, Next: next, Cells: cells})
			}
		}
	}
	var rising []api.Cell
	for _, k := range []string{"a", "b", "c", "d", "e"} {
		for _, n := range []int{0, 100, 127, 128, 400, 478, 479, 480} {
			rising = append(rising, api.Cell{Key: k, Value: text(n)})
		}
	}
	r := rand.New(rand.NewSource(10))
	for range 20000 {
		p := api.Page{Leaf: true}
		for i := range 5 {
			p.Cells = append(p.Cells, rising[i*8+r.Intn(8)])
		}
		checkPage(t, p)
	}
}

func TestOfForm(t *testing.T) {
	most := strings.Repeat("\xff", 9) + "\x01" // the varint of the greatest number
	for _, b := range []string{
		"", "\x00", "\x01", "\x01\x00", "\x00\x07", // fields that are missing
		"\x02\x00\x00", "\x80\x00\x00", "\xff\x00\x00", "\x03\x07\x01\x01a\x00", "\x80\x01\x00\x00", // no flag
		"\x01\x81\x02\x00", "\x01\xff\x7f\x00", "\x01" + most + "\x00", "\x00\x80\x80\x01\x00", // no such Next
		"\x01\x80\x00\x00", "\x01\x87\x00\x00", "\x01\x00\x80\x00", "\x01\x00\x81\x00\x01a\x00", "\x01\x00\x01\x81\x00a\x00", "\x01\x00\x01\x01a\x80\x00", // needless bytes in a number
		"\x01\x80", "\x01\x00\x80", "\x01\x00\x01\x80", "\x01\x00\x01\x01a\x80", "\x01\x80\x80\x80\x80\x80\x80\x80\x80\x80\x02\x00", // no number
		"\x01\x00\x01", "\x01\x00\x01\x01", "\x01\x00\x01\x01a", "\x01\x00\x01\x00", "\x01\x00\x01\x01a\x01", "\x01\x00\x01\x01a\x02b", "\x01\x00\x01\x02a\x00", // half a cell
		"\x01\x00\x02\x01a\x00", "\x01\x00\x02\x01a\x00\x01b", "\x01\x00\x7f", "\x01\x00\x80\x08", "\x01\x00\x81\x08", "\x01\x00" + most, // too few cells
		"\x01\x00\x00\x00", "\x01\x00\x00x", "\x01\x00\x00\x01a\x00", "\x01\x00\x01\x01a\x00\x00", "\x01\x00\x01\x01a\x00\x01b\x00", // more behind them
		"\x01\x00\x02\x00\x00\x00\x00", "\x01\x00\x02\x01b\x00\x01a\x00", "\x01\x00\x02\x01a\x00\x01a\x00", "\x01\x00\x02\x02ab\x00\x01a\x00", "\x01\x00\x02\x01\x80\x00\x01\x7f\x00", // keys that do not rise
		"\x01\x00\x01\x00\xe1\x03" + text(481), "\x01\x00\x01\xe1\x03" + text(481) + "\x00", "\x01\x00\x01\x01a\xe0\x03" + text(480), "\x01\x00\x01" + most + "a\x00", // a cell that is too long
		"\x01\x00\x01\x80\x80\x04" + text(65536) + "\x00", "\x01\x00\x01\x81\x80\x04" + text(65537) + "\x00",
		fields(filled(2049)), fields(filled(2050)), fields(Join(filled(2040), made(true, 0, "z", text(400)))), // too long on the whole
		strings.Repeat("\x00", 2044), strings.Repeat("\x01", 2044), strings.Repeat("\xff", 2044), strings.Repeat("\x00", 100000),
		fields(api.Page{Next: 257}), fields(api.Page{Cells: make([]api.Cell, 1024)}), fields(api.Page{Cells: make([]api.Cell, 1025)}), fields(api.Page{Cells: make([]api.Cell, 3000)}),
	} {
		checkOf(t, sealed(b), nil)
		if _, ok := decoded(b); ok {
			t.Errorf("%.60q is taken for fields of a page", b)
		}
	}
}

// TestOfSeal decodes strings that are not sealed.
func TestOfSeal(t *testing.T) {
	good := sealed("\x01\x07\x02\x01a\x011\x01c\x012")
	for _, b := range []string{
		"", "\x00", "\x00\x00\x00", "\xff\xff\xff\xff", sealed(""), sealed("")[:3],
		"\x01\x00\x00", "\x01\x00\x00abcd", "\x01\x00\x00\x00\x00\x00\x00", good[1:], "\x00" + good, good + good, good[:11], sealed(good), good[:11] + good[12:],
		good[:11] + good[14:] + good[13:14] + good[12:13] + good[11:12],
	} {
		checkOf(t, b, nil)
	}
	if p, e := Of(nil); !none(p) || e != api.ErrPageForm {
		t.Errorf("Of(nil) = %v, %d", p, e)
	}
	for _, p := range []api.Page{{}, made(true, 7, "a", "1", "c", "2"), made(false, 256, "", "", "\x00", text(100)), filled(2048)} {
		whole := sealed(fields(p))
		for i := range len(whole) {
			if i%100 > 20 && i < len(whole)-20 {
				continue // of a long one, some places will do
			}
			checkOf(t, whole[:i], nil)
			checkOf(t, whole[i+1:], nil)
			checkOf(t, whole[:i]+whole[i+1:], nil)
			for x := range 256 {
				if whole[i] != byte(x) {
					checkOf(t, whole[:i]+string([]byte{byte(x)})+whole[i+1:], nil)
				}
			}
		}
		for _, more := range []string{"\x00", "\xff", "\x00\x00\x00\x00", whole} {
			checkOf(t, whole+more, nil)
			checkOf(t, more+whole, nil)
		}
	}
}

// TestOfAll decodes all short sealed strings of some bytes.
func TestOfAll(t *testing.T) {
	found := 0
	for _, x := range []struct {
		front, of string
		most      int
	}{
		{"", "\x00\x01\x02\x80\x81\xff", 6},
		{"\x01", "\x00\x01\x02\x80a", 7},
		{"\x00\x07\x02", "\x00\x01\x02ab", 7},
		{"\x01\x80\x01\x03", "\x00\x01a", 9},
	} {
		for n := range x.most + 1 {
			for _, b := range words(n, x.of) {
				if checkFields(t, x.front+b) {
					found++
				}
			}
		}
	}
	if found < 500 {
		t.Errorf("only %d of the strings are fields of a page", found)
	}
}

// TestOfChanged cuts the fields of pages, and changes, drops and adds bytes before they are sealed.
func TestOfChanged(t *testing.T) {
	for _, p := range []api.Page{
		{}, {Leaf: true, Next: 255}, {Next: 256}, made(true, 7, "a", "1", "c", "2"), made(false, 128, "", "", "\x00", "", "\x01", "ab"),
		made(true, 0, "b", "", "c", "", "d", "", "e", ""), made(false, 3, text(2), text(130)),
	} {
		whole := fields(p)
		for i := range min(len(whole), 20) + 1 {
			front, behind := whole[:i], whole[i:]
			checkFields(t, front)
			if behind != "" {
				checkFields(t, front+behind[1:])
			}
			for x := range 256 {
				b := front + string([]byte{byte(x)})
				checkFields(t, b+behind)
				if behind != "" {
					checkFields(t, b+behind[1:])
				}
			}
		}
		for _, more := range []string{"\x00", "\x01", "\x80", "\x01z\x00", whole} {
			checkOf(t, sealed(whole+more), nil)
		}
	}
}

// P10.2

// alphabet are the keys that the tests of cells ask for, in ascending order; pages have each second one, or some.
var alphabet = []string{"", "\x00", "\x00\x00", "a", "a\x00", "ab", "b", "ba", "\x7f", "\x80", "\xff", "\xff\xff"}

// subsets are all sets of the keys of the alphabet, as leaves.
func subsets() []api.Page {
	var pages []api.Page
	for set := range 1 << len(alphabet) {
		var keys []string
		for i, k := range alphabet {
			if set>>i&1 == 1 {
				keys = append(keys, k)
			}
		}
		pages = append(pages, keyed(keys...))
	}
	return pages
}

// place is where a key is to be found in a page, and whether it is there: how many keys are less says where.
func place(p api.Page, key string) (int, bool) {
	i, found := 0, false
	for _, c := range p.Cells {
		if c.Key < key {
			i++
		}
		found = found || c.Key == key
	}
	return i, found
}

func TestFind(t *testing.T) {
	for _, p := range subsets() {
		for _, key := range alphabet {
			i, found := place(p, key)
			if gotI, got := Find(p, key); gotI != i || got != found {
				t.Fatalf("Find(%v, %q) = %d, %t; want %d, %t", p.Cells, key, gotI, got, i, found)
			}
		}
	}
	p := keyed("b", "d", "f")
	for _, x := range []struct {
		key   string
		i     int
		found bool
	}{{"", 0, false}, {"a", 0, false}, {"b", 0, true}, {"b\x00", 1, false}, {"c", 1, false}, {"d", 1, true}, {"e", 2, false}, {"f", 2, true}, {"f\x00", 3, false}, {"g", 3, false}, {text(1000), 3, false}} {
		if i, found := Find(p, x.key); i != x.i || found != x.found {
			t.Errorf("Find(%.20q) = %d, %t; want %d, %t", x.key, i, found, x.i, x.found)
		}
	}
	if i, found := Find(api.Page{}, ""); i != 0 || found {
		t.Errorf("Find in a page without cells = %d, %t", i, found)
	}
}

// with is a page with a cell put, by its definition.
func with(p api.Page, c api.Cell) api.Page {
	out := api.Page{Leaf: p.Leaf, Next: p.Next, Cells: []api.Cell{c}}
	for _, x := range p.Cells {
		if x.Key != c.Key {
			out.Cells = append(out.Cells, x)
		}
	}
	slices.SortFunc(out.Cells, func(a, b api.Cell) int { return strings.Compare(a.Key, b.Key) })
	return out
}

// without is a page without the cell of a key.
func without(p api.Page, key string) api.Page {
	out := api.Page{Leaf: p.Leaf, Next: p.Next}
	for _, x := range p.Cells {
		if x.Key != key {
			out.Cells = append(out.Cells, x)
		}
	}
	return out
}

func TestPut(t *testing.T) {
	for i, p := range subsets() {
		p.Leaf, p.Next = i%2 == 0, i%257
		for _, key := range alphabet {
			for _, value := range []string{"", "new", "of " + key} {
				c := api.Cell{Key: key, Value: value}
				want := with(p, c)
				if q, e := Put(p, c); !equal(q, want) || e != api.OK {
					t.Fatalf("Put(%v, %q) = %v, %d; want %v", p, c, q, e, want)
				}
			}
		}
	}
}

func TestPutLong(t *testing.T) {
	pages := []api.Page{{}, keyed("a", "k", "z"), keyed("k"), filled(2048), made(false, -5, "k", text(5000))}
	for _, p := range pages {
		for key := range 485 {
			for _, n := range []int{0, 1, 240, 479, 480, 481} {
				c := api.Cell{Key: text(key), Value: text(n)}
				q, e := Put(p, c)
				if key+n > 480 {
					if !none(q) || e != api.ErrPageLong {
						t.Fatalf("Put of %d and %d bytes = %s, %d; want ErrPageLong", key, n, brief(q), e)
					}
				} else if !equal(q, with(p, c)) || e != api.OK {
					t.Fatalf("Put of %d and %d bytes = %s, %d", key, n, brief(q), e)
				}
			}
		}
		for _, n := range []int{480, 481, 65536, 65537} { // with a key that is there, too
			if q, e := Put(p, api.Cell{Key: "k", Value: text(n)}); !none(q) || e != api.ErrPageLong {
				t.Errorf("Put of %d bytes = %s, %d; want ErrPageLong", n, brief(q), e)
			}
		}
	}
}

// TestPutFull puts cells into pages that become too long, and into one that is no valid page: only the cell is checked.
func TestPutFull(t *testing.T) {
	p := filled(2048)
	for range 3 {
		for _, k := range []string{"", "b", "bb", "z", "zz"} {
			c := api.Cell{Key: k, Value: text(480 - len(k))}
			q, e := Put(p, c)
			if !equal(q, with(p, c)) || e != api.OK {
				t.Fatalf("Put(%q) = %s, %d", k, brief(q), e)
			}
			p = q
		}
	}
	if Check(p) != api.ErrPageLong {
		t.Errorf("Check = %d", Check(p))
	}
	for _, next := range numbers {
		p := made(false, next, "b", text(600))
		if q, e := Put(p, api.Cell{Key: "a"}); !equal(q, made(false, next, "a", "", "b", text(600))) || e != api.OK {
			t.Errorf("Next %d: %s, %d", next, brief(q), e)
		}
	}
}

func TestRemove(t *testing.T) {
	for i, p := range subsets() {
		p.Leaf, p.Next = i%2 == 0, i%257
		for _, key := range append([]string{text(481)}, alphabet...) {
			q, e := Remove(p, key)
			if _, found := place(p, key); !found {
				if !none(q) || e != api.ErrPageCell {
					t.Fatalf("Remove(%v, %q) = %v, %d; want ErrPageCell", p, key, q, e)
				}
			} else if want := without(p, key); !equal(q, want) || e != api.OK {
				t.Fatalf("Remove(%v, %q) = %v, %d; want %v", p, key, q, e, want)
			}
		}
	}
	if q, e := Remove(api.Page{Leaf: true, Next: 3}, ""); !none(q) || e != api.ErrPageCell {
		t.Errorf("Remove from a page without cells = %v, %d", q, e)
	}
	for _, next := range numbers {
		if q, e := Remove(made(false, next, "a", "", "b", text(600)), "a"); !equal(q, made(false, next, "b", text(600))) || e != api.OK {
			t.Errorf("Next %d: %s, %d", next, brief(q), e)
		}
	}
}

// P10.3

// firsts is how many cells the first page of a Split has, by the encodings of the cells.
func firsts(cells []api.Cell) int {
	encoding := func(cells []api.Cell) int {
		return len(fields(api.Page{Cells: cells})) - len(fields(api.Page{Cells: make([]api.Cell, len(cells))})) + 2*len(cells)
	}
	k := 1
	for k < len(cells)-1 && 2*encoding(cells[:k]) < encoding(cells) {
		k++
	}
	return k
}

// checkSplit holds Split against the number of cells that the first page is to have.
func checkSplit(t testing.TB, p api.Page, k int) {
	t.Helper()
	a, b, e := Split(p)
	if a.Leaf != p.Leaf || b.Leaf != p.Leaf || a.Next != p.Next || b.Next != p.Next || e != api.OK {
		t.Fatalf("Split(%s) = %s, %s, %d", brief(p), brief(a), brief(b), e)
	}
	if !slices.Equal(a.Cells, p.Cells[:k]) || !slices.Equal(b.Cells, p.Cells[k:]) {
		t.Fatalf("Split of %d cells: %d and %d cells; want %d in the first page", len(p.Cells), len(a.Cells), len(b.Cells), k)
	}
}

func TestSplitOne(t *testing.T) {
	for _, p := range []api.Page{{}, {Leaf: true, Next: 7}, keyed("a"), made(false, 1, "", ""), made(true, -1, "a", text(1000))} {
		if a, b, e := Split(p); !none(a) || !none(b) || e != api.ErrPageOne {
			t.Errorf("Split(%s) = %s, %s, %d; want ErrPageOne", brief(p), brief(a), brief(b), e)
		}
	}
}

// TestSplitByHand splits cells of given sizes: there are cells of any size but 131 here, as their keys have one byte, or none for a size of 2.
func TestSplitByHand(t *testing.T) {
	for _, x := range []struct {
		k     int
		sizes []int
	}{
		{1, []int{2, 2}},
		{1, []int{2, 400}},
		{1, []int{400, 2}},
		{2, []int{2, 2, 2}},
		{2, []int{2, 2, 2, 2}},
		{3, []int{2, 2, 2, 2, 2}},
		{1, []int{4, 2, 2}}, // just half
		{2, []int{3, 2, 2}}, // half a byte less
		{2, []int{4, 3, 2}},
		{1, []int{5, 2, 2}}, // half a byte more
		{1, []int{400, 2, 2}},
		{2, []int{2, 2, 400}}, // all but the last one
		{2, []int{2, 400, 2}},
		{4, []int{2, 2, 2, 2, 400}},
		{3, []int{2, 2, 4, 4, 3}},
		{2, []int{3, 5, 4, 4}},
		{1, []int{132, 130, 2}}, // the longer one has a length of two bytes
		{2, []int{129, 128, 4}},
		{1, []int{2000, 1000, 1000}},
		{2, []int{1999, 1000, 1000}},
	} {
		p := api.Page{Leaf: true, Next: 12}
		for i, n := range x.sizes {
			c := api.Cell{Key: string([]byte{'a' + byte(i)}), Value: text(max(n, 3) - 3)}
			if n == 2 {
				c.Key = ""
			}
			for len(cellBytes(c)) > n {
				c.Value = c.Value[1:]
			}
			if len(cellBytes(c)) != n {
				t.Fatalf("no cell has %d bytes, but %d", n, len(cellBytes(c)))
			}
			p.Cells = append(p.Cells, c)
		}
		checkSplit(t, p, x.k)
	}
}

// TestSplitAll splits all lists of two to five cells of some kinds, whatever their order.
func TestSplitAll(t *testing.T) {
	kinds := made(false, 0, "", "", "a", "", "a", "1", text(127), "", "", text(128), text(64), text(64), text(10), text(390)).Cells
	for n := 2; n <= 5; n++ {
		for i, cells := range lists(n, kinds) {
			checkSplit(t, api.Page{Leaf: i%2 == 0, Next: numbers[i%len(numbers)], Cells: cells}, firsts(cells))
		}
	}
}

func TestSplitLong(t *testing.T) {
	r := rand.New(rand.NewSource(103))
	for range 3000 {
		var p api.Page
		for range 2 + r.Intn(30) {
			c := api.Cell{Key: text(r.Intn(5)), Value: text(r.Intn(150))}
			if r.Intn(8) == 0 {
				c.Value = text(r.Intn(20000))
			}
			p.Cells = append(p.Cells, c)
		}
		checkSplit(t, p, firsts(p.Cells))
	}
}

func TestJoin(t *testing.T) {
	pages := []api.Page{{}, {Leaf: true, Next: 3}, keyed("a"), keyed("b", "c"), made(false, -1, "b", "1", "a", text(700)), made(false, 256, "", ""), made(true, math.MaxInt, "\xff", "x"), filled(2048)}
	for _, a := range pages {
		for _, b := range pages {
			want := api.Page{Leaf: a.Leaf, Next: b.Next}
			for _, c := range a.Cells {
				want.Cells = append(want.Cells, c)
			}
			for _, c := range b.Cells {
				want.Cells = append(want.Cells, c)
			}
			if got := Join(a, b); !equal(got, want) {
				t.Errorf("Join(%s, %s) = %s", brief(a), brief(b), brief(got))
			}
		}
	}
	if p := Join(made(true, 1, "a", "1"), made(false, 2, "b", "2")); !equal(p, made(true, 2, "a", "1", "b", "2")) {
		t.Errorf("%v", p)
	}
}

func TestSame(t *testing.T) {
	pages := []api.Page{
		{}, {Leaf: true}, {Next: 1}, {Next: -1}, {Leaf: true, Next: 1}, made(false, 0, "", ""), made(false, 0, "", "", "", ""), made(false, 0, "a", ""), made(false, 0, "", "a"),
		made(true, 0, "a", ""), made(false, 1, "a", ""), made(false, 0, "a", "1"), made(false, 0, "a", "2"), made(false, 0, "a", "1", "b", "2"), made(false, 0, "b", "2", "a", "1"),
		made(false, 0, "a", "1", "b", "3"), made(false, 0, "a", "1", "c", "2"), made(false, 0, "b", "2"), made(false, 0, "a1", "", "b", "2"), made(false, math.MaxInt, text(1000), text(1000)),
	}
	for i, a := range pages {
		for j, b := range pages {
			b.Cells = slices.Clone(b.Cells)
			if Same(a, b) != (i == j) {
				t.Errorf("Same(%s, %s) = %t", brief(a), brief(b), Same(a, b))
			}
		}
	}
	if !Same(api.Page{Cells: nil}, api.Page{Cells: []api.Cell{}}) || !Same(api.Page{Cells: []api.Cell{}}, api.Page{}) {
		t.Error("no cells are not the same as no cells")
	}
}

// P10.4

// TestModel puts and removes cells, and sets pages beside a map of what they hold.
func TestModel(t *testing.T) {
	r := rand.New(rand.NewSource(104))
	few := shortKeys(300)
	for _, keys := range []int{1, 2, 10, len(few)} {
		p, model := api.Page{Leaf: true, Next: 9}, map[string]string{}
		for i := range 5000 {
			key := few[r.Intn(keys)]
			_, had := model[key]
			if r.Intn(2) == 0 {
				c := api.Cell{Key: key, Value: text(r.Intn(6))}
				q, e := Put(p, c)
				if e != api.OK {
					t.Fatalf("Put(%q) = %d", c, e)
				}
				p, model[key] = q, c.Value
			} else if q, e := Remove(p, key); had {
				if e != api.OK {
					t.Fatalf("Remove(%q) = %d", key, e)
				}
				p = q
				delete(model, key)
			} else if e != api.ErrPageCell {
				t.Fatalf("Remove(%q) = %d; want ErrPageCell", key, e)
			}
			if i%20 == 0 {
				checkModel(t, p, model)
			}
		}
	}
}

// checkModel holds a page against the cells that it is to have, before and after it is encoded, and split and joined.
func checkModel(t testing.TB, p api.Page, model map[string]string) {
	t.Helper()
	if len(p.Cells) != len(model) || !p.Leaf || p.Next != 9 {
		t.Fatalf("%v; want %d cells", p, len(model))
	}
	for key, value := range model {
		if i, ok := Find(p, key); !ok || p.Cells[i].Key != key || p.Cells[i].Value != value {
			t.Fatalf("Find(%q) = %d, %t", key, i, ok)
		}
	}
	if b, e := Bytes(p); e == api.OK {
		if q, e := Of(b); !Same(p, q) || e != api.OK {
			t.Fatalf("encoded and decoded, %v is %v, %d", p, q, e)
		}
	} else if Size(p) <= 2048 {
		t.Fatalf("Bytes = %d", e)
	}
	if a, b, e := Split(p); e == api.OK && !Same(Join(a, b), p) || (e != api.OK) != (len(model) < 2) {
		t.Fatalf("split and joined, %v is %v, %d", p, Join(a, b), e)
	}
}

// P1: every call ends without a panic, leaves what it is given alone, and answers new memory.

// spare are cells in front of and behind those of a page, in unused capacity.
var spare = api.Cell{Key: "spare", Value: "spare"}

// within is a page whose cells have others around them in one array: that is the second result.
func within(p api.Page) (api.Page, []api.Cell) {
	n := len(p.Cells)
	whole := slices.Concat([]api.Cell{spare}, p.Cells, []api.Cell{spare, spare, spare})
	p.Cells = whole[1 : n+1]
	return p, whole
}

// answers are the pages that all calls make of a page with the keys "b" and "d" at least.
func answers(t testing.TB, p api.Page) []api.Page {
	t.Helper()
	var pages []api.Page
	keep := func(q api.Page, e api.Errno) {
		if e != api.OK {
			t.Fatalf("%d", e)
		}
		pages = append(pages, q)
	}
	for _, key := range []string{"", "b", "c", "d", "e"} {
		keep(Put(p, api.Cell{Key: key, Value: "new"}))
	}
	keep(Remove(p, "b"))
	keep(Remove(p, "d"))
	a, b, e := Split(p)
	keep(a, e)
	keep(b, e)
	keep(Join(p, p), api.OK)
	keep(Join(p, api.Page{}), api.OK)
	keep(Join(api.Page{}, p), api.OK)
	bytes, _ := Bytes(p)
	keep(Of(bytes))
	return pages
}

// TestMemory fills each answer with other cells, its unused capacity too: nothing else changes.
func TestMemory(t *testing.T) {
	for _, plain := range []api.Page{keyed("b", "d"), keyed("a", "b", "c", "d"), keyed("b", "c", "d", "e", "f")} {
		want := answers(t, plain)
		for i := range want {
			p, whole := within(plain)
			before := slices.Clone(whole)
			got := answers(t, p)
			Check(p)
			Size(p)
			Find(p, "c")
			Same(p, p)
			if !slices.Equal(whole, before) {
				t.Fatalf("what was given was changed to %v", whole)
			}
			l := got[i].Cells
			for j := range l[:cap(l)] {
				l[:cap(l)][j] = api.Cell{Key: "other"}
			}
			if !slices.Equal(whole, before) {
				t.Fatalf("answer %d shares memory with what was given: %v", i, whole)
			}
			for j := range got {
				if j != i && !equal(got[j], want[j]) {
					t.Fatalf("answers %d and %d share memory: %v", i, j, got[j])
				}
			}
		}
		p, whole := within(plain)
		got := answers(t, p)
		for i := range whole {
			whole[i] = api.Cell{Key: "other"}
		}
		for i := range got {
			if !equal(got[i], want[i]) {
				t.Fatalf("answer %d changes with what was given: %v", i, got[i])
			}
		}
	}
}

// TestAppend appends to the first page of a Split: the second one stays as it is.
func TestAppend(t *testing.T) {
	for n := 2; n < 40; n++ {
		p := keyed(shortKeys(n)...)
		a, b, _ := Split(p)
		k := len(a.Cells)
		for range 3 {
			a.Cells = append(a.Cells, spare)
		}
		if !slices.Equal(b.Cells, p.Cells[k:]) {
			t.Fatalf("%d cells: the second page became %v", n, b.Cells)
		}
	}
}

func TestEncodedMemory(t *testing.T) {
	p := made(true, 7, "a", "1", "c", "2")
	b, _ := Bytes(p)
	again, _ := Bytes(p)
	for i := range b[:cap(b)] {
		b[:cap(b)][i] = 0xaa
	}
	if string(again) != sealed(fields(p)) {
		t.Errorf("answers share memory: %q", again)
	}
	whole := append(bytes.Clone(again), "more"...)
	before := bytes.Clone(whole)
	if _, e := Of(whole[:14]); e != api.ErrPageForm {
		t.Errorf("Of read unused capacity: %d", e)
	}
	q, e := Of(whole[:15])
	if !bytes.Equal(whole, before) {
		t.Errorf("what was given was changed to %q", whole)
	}
	for i := range whole {
		whole[i] = 0xaa
	}
	if !equal(p, q) || e != api.OK {
		t.Errorf("what was given was kept: %v, %d", q, e)
	}
}

// TestDisorder calls what promises nothing for pages whose keys do not rise: it ends without a panic, and leaves them alone.
func TestDisorder(t *testing.T) {
	for n := range 6 {
		for _, keys := range lists(n, []string{"", "a", "b", "c"}) {
			p, whole := within(keyed(keys...))
			before := slices.Clone(whole)
			for _, key := range []string{"", "a", "aa", "b", "c", "d"} {
				Find(p, key)
				Put(p, api.Cell{Key: key})
				Remove(p, key)
			}
			if !slices.Equal(whole, before) {
				t.Fatalf("what was given was changed to %v", whole)
			}
		}
	}
}

// TestMany holds that calls cost what they are given, and no more.
func TestMany(t *testing.T) {
	start := time.Now()
	var p api.Page
	const n = 1 << 18
	for i := range n {
		p.Cells = append(p.Cells, api.Cell{Key: string([]byte{byte(i >> 16), byte(i >> 8), byte(i)}), Value: text(i % 100)})
	}
	for range 10 {
		a, b, e := Split(p)
		if !Same(Join(a, b), p) || e != api.OK || Check(p) != api.ErrPageLong || Size(p) < 5*n {
			t.Fatalf("%d and %d cells, %d", len(a.Cells), len(b.Cells), e)
		}
		q, e := Put(p, api.Cell{Key: "\x01\x02"})
		if len(q.Cells) != n+1 || e != api.OK {
			t.Fatalf("%d cells, %d", len(q.Cells), e)
		}
		if q, e = Remove(q, "\x01\x02"); !Same(p, q) || e != api.OK {
			t.Fatalf("%d cells, %d", len(q.Cells), e)
		}
	}
	for range 100000 {
		if i, ok := Find(p, "\x01\x02\x03"); i != 1<<16+2<<8+3 || !ok {
			t.Fatalf("Find = %d, %t", i, ok)
		}
	}
	for _, b := range []string{"", "\x01\x00\x00", "\x01\x00\x01\x01a\x00", "\x01\x00\xff\x7f", "\x01\x00\x80\x80\x80\x80\x08"} {
		checkOf(t, sealed(b+strings.Repeat("\x00", 1<<22)), nil)
	}
	if d := time.Since(start); d > 20*time.Second {
		t.Errorf("it took %s", d)
	}
}
