package code

import (
	"bytes"
	"fmt"
	"math"
	"strings"
	"testing"

	"lapstone/api"
	"lapstone/num"
)

// maxPrefix is the length of a string of just MaxField bytes, longPrefix that of one more.
const (
	maxPrefix  = "\x80\x80\x04"
	longPrefix = "\x81\x80\x04"
)

// greatestVar is the varint of the greatest number, half is that of 2^63.
const (
	greatestVar = "\xff\xff\xff\xff\xff\xff\xff\xff\xff\x01"
	half        = "\x80\x80\x80\x80\x80\x80\x80\x80\x80\x01"
)

func text(n int) string { return strings.Repeat("y", n) }

// written returns what a writer has after some calls.
func written(calls ...func(w *Writer)) ([]byte, api.Errno) {
	w := Write()
	for _, call := range calls {
		call(w)
	}
	return w.Bytes()
}

func nums(v ...uint64) func(w *Writer)  { return func(w *Writer) { w.Num(v...) } }
func texts(s ...string) func(w *Writer) { return func(w *Writer) { w.Text(s...) } }
func flag(yes bool) func(w *Writer)     { return func(w *Writer) { w.Flag(yes) } }

// P3.1

func TestWrite(t *testing.T) {
	for _, x := range []struct {
		calls []func(w *Writer)
		want  string
	}{
		{nil, ""},
		{[]func(w *Writer){nums()}, ""},
		{[]func(w *Writer){texts(), nums(), texts()}, ""},
		{[]func(w *Writer){nums(300), texts("ab"), flag(true)}, "\xac\x02\x02ab\x01"},
		{[]func(w *Writer){nums(0)}, "\x00"},
		{[]func(w *Writer){nums(127), nums(128)}, "\x7f\x80\x01"},
		{[]func(w *Writer){nums(math.MaxUint64)}, greatestVar},
		{[]func(w *Writer){nums(1 << 63)}, half},
		{[]func(w *Writer){nums(3, 2, 300, 1)}, "\x03\x02\xac\x02\x01"},
		{[]func(w *Writer){texts("")}, "\x00"},
		{[]func(w *Writer){texts("b", "", "a", "cde")}, "\x01b\x00\x01a\x03cde"},
		{[]func(w *Writer){texts("\x00\xff\x80")}, "\x03\x00\xff\x80"},
		{[]func(w *Writer){texts("é")}, "\x02\xc3\xa9"}, // bytes are counted, not runes
		{[]func(w *Writer){texts(text(127))}, "\x7f" + text(127)},
		{[]func(w *Writer){texts(text(128))}, "\x80\x01" + text(128)},
		{[]func(w *Writer){flag(false)}, "\x00"},
		{[]func(w *Writer){flag(true), flag(false), flag(true)}, "\x01\x00\x01"},
		{[]func(w *Writer){flag(true), texts("x", "y"), nums(9, 8), texts("z"), flag(false), nums(7)}, "\x01\x01x\x01y\x09\x08\x01z\x00\x07"},
	} {
		if b, e := written(x.calls...); string(b) != x.want || e != api.OK {
			t.Errorf("%q, %d; want %q", b, e, x.want)
		}
	}
}

func TestWriteVariadic(t *testing.T) {
	one, _ := written(nums(1, 200, 3), texts("a", "", "b"))
	many, _ := written(nums(1), nums(200), nums(3), texts("a"), texts(""), texts("b"))
	if !bytes.Equal(one, many) || len(one) == 0 {
		t.Errorf("one call %q, many calls %q", one, many)
	}
}

func TestWriteMaxField(t *testing.T) {
	want := "\x01a" + maxPrefix + text(65536) + "\x01b" + maxPrefix + text(65536) + "\x05"
	b, e := written(texts("a", text(65536), "b"), texts(text(65536)), nums(5)) // the whole may be longer than a field
	if string(b) != want || e != api.OK {
		t.Errorf("%d bytes, %d; want %d bytes", len(b), e, len(want))
	}
}

func TestWriteLong(t *testing.T) {
	for _, n := range []int{65537, 65538, 65536 + 128, 1 << 17, 1 << 20} {
		for _, calls := range [][]func(w *Writer){
			{texts(text(n))},
			{texts("a", text(n))},
			{texts("a", text(n), "b")},
			{texts(text(n), text(n))},
			{nums(1), texts("a"), flag(true), texts(text(n)), nums(2), texts("b"), flag(false)},
		} {
			if b, e := written(calls...); b != nil || e != api.ErrCodeLong {
				t.Errorf("a string of %d bytes: %q, %d; want ErrCodeLong", n, b, e)
			}
		}
	}
}

// TestWriteBeforeLong looks inside: what a writer holds beside an error is not answered.
func TestWriteBeforeLong(t *testing.T) {
	w := Write()
	w.Num(300)
	w.Text("ab", "", text(65537), "c")
	const want = "\xac\x02\x02ab\x00"
	if string(w.fields) != want {
		t.Errorf("the fields before the error: %q; want %q", w.fields, want)
	}
	for i, call := range []func(w *Writer){nums(1, 2), texts("d"), texts(text(65537)), flag(true), flag(false), texts()} {
		call(w)
		if string(w.fields) != want {
			t.Errorf("call %d after the error: %q; want %q", i, w.fields, want)
		}
		if b, e := w.Bytes(); b != nil || e != api.ErrCodeLong {
			t.Errorf("call %d after the error: %q, %d; want ErrCodeLong", i, b, e)
		}
	}
}

func TestBytesBetween(t *testing.T) {
	w := Write()
	var before []string
	var got [][]byte
	for i := range 100 {
		w.Num(uint64(i))
		w.Text("x")
		b, e := w.Bytes()
		again, _ := w.Bytes()
		if e != api.OK || !bytes.Equal(b, again) {
			t.Fatalf("after %d: %q, %d, then %q", i, b, e, again)
		}
		before, got = append(before, string(b)), append(got, b)
	}
	for i, b := range got {
		if string(b) != before[i] || len(b) != 3*(i+1) {
			t.Fatalf("answer %d is now %q", i, b)
		}
		for k := range b[:cap(b)] {
			b[:cap(b)][k] = 0xaa
		}
	}
	if b, _ := w.Bytes(); string(b) != before[99] {
		t.Errorf("the writer holds %q after its answers were changed", b)
	}
}

func TestWritersApart(t *testing.T) {
	v, w, long := Write(), Write(), Write()
	v.Num(1)
	long.Text(text(65537))
	w.Text("a")
	v.Num(2)
	if b, e := v.Bytes(); string(b) != "\x01\x02" || e != api.OK {
		t.Errorf("%q, %d", b, e)
	}
	if b, e := w.Bytes(); string(b) != "\x01a" || e != api.OK {
		t.Errorf("%q, %d", b, e)
	}
}

// P3.2

// take is a call of a reader, whose answer is told as text.
type take struct {
	name string
	call func(r *Reader) string
}

const none = "none" // a zero value: 0, the empty string or false

// tell tells an answer.
func tell[T comparable](v T) string {
	var zero T
	if v == zero {
		return none
	}
	return fmt.Sprintf("%v", v)
}

var (
	takeNum  = take{"Num", func(r *Reader) string { return tell(r.Num()) }}
	takeText = take{"Text", func(r *Reader) string { return tell(r.Text()) }}
	takeFlag = take{"Flag", func(r *Reader) string { return tell(r.Flag()) }}
)

func takeCount(most int) take {
	return take{fmt.Sprintf("Count(%d)", most), func(r *Reader) string { return tell(r.Count(most)) }}
}

// checkTake reads one field of s and holds the answer, the recorded error and what is left against what is wanted.
func checkTake(t *testing.T, x take, s, want, rest string) {
	t.Helper()
	r := Read([]byte(s))
	got := x.call(r)
	if got != want || string(r.Rest()) != rest {
		t.Errorf("%s of %.20q = %.20q, left %.20q; want %.20q, %.20q", x.name, s, got, r.Rest(), want, rest)
	}
	end := api.OK
	if rest != "" {
		end = api.ErrCodeMore
	}
	if e := r.End(); e != end {
		t.Errorf("%s of %.20q: End = %d; want %d", x.name, s, e, end)
	}
}

// checkFault reads a field that has an error: before it, two others are read, and all calls after it answer zero values.
func checkFault(t *testing.T, x take, s string, want api.Errno) {
	t.Helper()
	r := Read([]byte("\x09\x01a" + s))
	if r.Num() != 9 || r.Text() != "a" {
		t.Fatal("the fields before the fault")
	}
	for _, y := range []take{x, takeNum, takeText, takeFlag, takeCount(5), takeCount(-1), x} {
		if got := y.call(r); got != none {
			t.Errorf("%s of %.20q, then %s: %q", x.name, s, y.name, got)
		}
		if e := r.End(); e != want {
			t.Errorf("%s of %.20q, then %s: End = %d; want %d", x.name, s, y.name, e, want)
		}
		if string(r.Rest()) != s {
			t.Errorf("%s of %.20q, then %s: left %.20q", x.name, s, y.name, r.Rest())
		}
	}
}

func TestReadExample(t *testing.T) {
	r := Read([]byte{172, 2, 2, 97, 98, 1})
	if v := r.Num(); v != 300 {
		t.Errorf("Num = %d", v)
	}
	if s := r.Text(); s != "ab" {
		t.Errorf("Text = %q", s)
	}
	if e := r.End(); e != api.ErrCodeMore {
		t.Errorf("End = %d; want ErrCodeMore", e)
	}
	if !r.Flag() {
		t.Error("Flag = false")
	}
	if e := r.End(); e != api.OK {
		t.Errorf("End = %d", e)
	}
}

func TestReadNum(t *testing.T) {
	checkTake(t, takeNum, "\x00", none, "")
	checkTake(t, takeNum, "\x00\x00", none, "\x00")
	checkTake(t, takeNum, "\x01", "1", "")
	checkTake(t, takeNum, "\x7f\x80", "127", "\x80")
	checkTake(t, takeNum, "\x80\x01\x02", "128", "\x02")
	checkTake(t, takeNum, "\xac\x02", "300", "")
	checkTake(t, takeNum, half+half, "9223372036854775808", half)
	checkTake(t, takeNum, greatestVar, "18446744073709551615", "")
	checkTake(t, takeNum, greatestVar+"\x80\x00", "18446744073709551615", "\x80\x00")
}

// badVars are no varints, with what a reader answers to them.
var badVars = []struct {
	s    string
	want api.Errno
}{
	{"", api.ErrCodeShort},
	{"\x80", api.ErrCodeShort},
	{"\xff", api.ErrCodeShort},
	{"\xff\x80\xff", api.ErrCodeShort},
	{greatestVar[:9], api.ErrCodeShort},
	{"\x80\x00", api.ErrNumForm},
	{"\x80\x00\x01", api.ErrNumForm},
	{"\xff\x80\x00aaaaaaaaaaaa", api.ErrNumForm},
	{greatestVar[:9] + "\x00", api.ErrNumForm},
	{greatestVar[:9] + "\x02", api.ErrNumForm},
	{greatestVar[:9] + "\x80", api.ErrNumForm},
	{greatestVar[:9] + "\xff", api.ErrNumForm},
	{greatestVar[:9] + "\x81\x01\x01", api.ErrNumForm},
}

func TestReadNumFaults(t *testing.T) {
	for _, x := range badVars {
		checkFault(t, takeNum, x.s, x.want)
	}
}

// TestReadNumAsGetVar tries all strings of two bytes, and every tenth byte, against chapter 1.
func TestReadNumAsGetVar(t *testing.T) {
	var all [][]byte
	for x := range 1 << 16 {
		all = append(all, []byte{byte(x >> 8), byte(x)})
	}
	for x := range 256 {
		all = append(all, []byte(greatestVar[:9]+string([]byte{byte(x)})), []byte(greatestVar[:9]+string([]byte{byte(x), 1, 2})))
	}
	for _, b := range all {
		v, rest, e := num.GetVar(b)
		switch {
		case e == api.ErrNumShort:
			rest, e = b, api.ErrCodeShort
		case e != api.OK:
			rest = b
		case len(rest) > 0:
			e = api.ErrCodeMore
		}
		r := Read(b)
		if got := r.Num(); got != v || !bytes.Equal(r.Rest(), rest) || r.End() != e {
			t.Fatalf("Num of %q = %d, left %q, %d; want %d, %q, %d", b, got, r.Rest(), r.End(), v, rest, e)
		}
	}
}

func TestReadText(t *testing.T) {
	checkTake(t, takeText, "\x00", none, "")
	checkTake(t, takeText, "\x00\x01a", none, "\x01a")
	checkTake(t, takeText, "\x02ab", "ab", "")
	checkTake(t, takeText, "\x01ab", "a", "b")
	checkTake(t, takeText, "\x03\x00\xff\x80\x80", "\x00\xff\x80", "\x80")
	checkTake(t, takeText, "\x80\x01"+text(130), text(128), "yy")
	checkTake(t, takeText, maxPrefix+text(65536), text(65536), "")
	checkTake(t, takeText, maxPrefix+text(65537), text(65536), "y")
}

func TestReadTextFaults(t *testing.T) {
	for _, x := range badVars {
		checkFault(t, takeText, x.s, x.want)
	}
	for _, s := range []string{"\x01", "\x02a", "\x7f" + text(126), "\x80\x01" + text(127), maxPrefix, maxPrefix + "y", maxPrefix + text(65535)} {
		checkFault(t, takeText, s, api.ErrCodeShort)
	}
	for _, s := range []string{ // too long, whether or not there are as many bytes
		longPrefix, longPrefix + "a", longPrefix + text(65537), longPrefix + text(1<<17),
		"\x80\x80\x08", "\x80\x80\x80\x80\x10", "\x81\x80\x80\x80\x10a", // 2^17, 2^32, 2^32 + 1
		half, half + "ab", greatestVar, greatestVar + text(70000), "\xff\xff\xff\xff\xff\xff\xff\xff\x7f",
	} {
		checkFault(t, takeText, s, api.ErrCodeLong)
	}
}

// TestReadFlag tries every byte.
func TestReadFlag(t *testing.T) {
	for x := range 256 {
		for _, more := range []string{"", "\x00", "\x01", "\x80"} {
			s := string([]byte{byte(x)}) + more
			switch x {
			case 0:
				checkTake(t, takeFlag, s, none, more)
			case 1:
				checkTake(t, takeFlag, s, "true", more)
			default:
				checkFault(t, takeFlag, s, api.ErrCodeFlag)
			}
		}
	}
	checkFault(t, takeFlag, "", api.ErrCodeShort)
}

func TestReadCount(t *testing.T) {
	for _, x := range []struct {
		most       int
		s          string
		want, rest string
	}{
		{0, "\x00", none, ""},
		{5, "\x00\x05", none, "\x05"},
		{5, "\x04", "4", ""},
		{5, "\x05\x06", "5", "\x06"}, // just at most
		{127, "\x7f", "127", ""},
		{128, "\x80\x01", "128", ""},
		{1 << 16, maxPrefix, "65536", ""},
		{1<<16 + 1, longPrefix, "65537", ""}, // MaxField is no bound of it
		{math.MaxInt, "\x7f", "127", ""},
		{math.MaxInt, "\xff\xff\xff\xff\xff\xff\xff\xff\x7f", "9223372036854775807", ""},
	} {
		checkTake(t, takeCount(x.most), x.s, x.want, x.rest)
	}
}

func TestReadCountFaults(t *testing.T) {
	for _, most := range []int{0, 1, 5, math.MaxInt, -1, -6, math.MinInt} { // what a number itself has wrong comes first
		for _, x := range badVars {
			checkFault(t, takeCount(most), x.s, x.want)
		}
	}
	for _, x := range []struct {
		most int
		s    string
	}{
		{0, "\x01"},
		{2, "\x03"},
		{5, "\x06\x00"},
		{127, "\x80\x01"},
		{128, "\x81\x01"},
		{1 << 16, longPrefix},
		{0, half},
		{math.MaxInt - 1, "\xff\xff\xff\xff\xff\xff\xff\xff\x7f"},
		{math.MaxInt, half},
		{math.MaxInt, greatestVar},
	} {
		checkFault(t, takeCount(x.most), x.s, api.ErrCodeLong)
	}
	for _, most := range []int{-1, -2, -128, math.MinInt32, math.MinInt, math.MinInt + 1} {
		for _, s := range []string{"\x00", "\x01", "\x00\x00", "\x05", "\xac\x02", half, greatestVar} {
			checkFault(t, takeCount(most), s, api.ErrCodeLong)
		}
	}
}

// model reads as the chapter says, plainly: the bytes, the position, the first error.
type model struct {
	b   string
	at  int
	err api.Errno
}

// number reads a varint of at most three bytes, and the position behind it.
func (m *model) number() (int, int, api.Errno) {
	v := 0
	for i := m.at; i < len(m.b); i++ {
		x := int(m.b[i])
		v += x % 128 << (7 * (i - m.at))
		if x == 0 && i > m.at {
			return 0, 0, api.ErrNumForm
		}
		if x < 128 {
			return v, i + 1, api.OK
		}
	}
	return 0, 0, api.ErrCodeShort
}

// take does what the call of that name does, and tells its answer.
func (m *model) take(name string, most int) string {
	if m.err != api.OK {
		return none
	}
	var told string
	v, behind, err := m.number()
	switch name {
	case "Num":
		told = tell(v)
	case "Text":
		switch {
		case err != api.OK:
		case v > 65536:
			err = api.ErrCodeLong
		case behind+v > len(m.b):
			err = api.ErrCodeShort
		}
		if err == api.OK {
			told = tell(m.b[behind : behind+v])
			behind += v
		}
	case "Flag":
		err, behind = api.OK, m.at+1
		switch {
		case m.at == len(m.b):
			err = api.ErrCodeShort
		case m.b[m.at] > 1:
			err = api.ErrCodeFlag
		default:
			told = tell(m.b[m.at] == 1)
		}
	default:
		if err == api.OK && v > most {
			err = api.ErrCodeLong
		}
		told = tell(v)
	}
	if err != api.OK {
		m.err = err
		return none
	}
	m.at = behind
	return told
}

// end is what End answers.
func (m *model) end() api.Errno {
	if m.err == api.OK && m.at < len(m.b) {
		return api.ErrCodeMore
	}
	return m.err
}

// strings of up to three of some bytes.
func shortStrings() []string {
	all := []string{""}
	for first := 0; len(all[first]) < 3; first++ {
		for _, c := range []string{"\x00", "\x01", "\x02", "a", "\x80", "\xff"} {
			all = append(all, all[first]+c)
		}
	}
	return all
}

// TestReadAll tries all sequences of three calls on all short strings.
func TestReadAll(t *testing.T) {
	mosts := []int{0, 0, 0, -1, 0, 1}
	takes := []take{takeNum, takeText, takeFlag, takeCount(-1), takeCount(0), takeCount(1)}
	for _, s := range shortStrings() {
		for order := range 6 * 6 * 6 {
			r, m := Read([]byte(s)), &model{b: s}
			for _, k := range []int{order / 36, order / 6 % 6, order % 6} {
				got, want := takes[k].call(r), m.take(takes[k].name, mosts[k])
				if got != want || r.End() != m.end() || string(r.Rest()) != s[m.at:] {
					t.Fatalf("%q, calls %d: %s = %s, %d, left %q; want %s, %d, %q", s, order, takes[k].name, got, r.End(), r.Rest(), want, m.end(), s[m.at:])
				}
			}
		}
	}
}

// P3.3

func TestEndAndRest(t *testing.T) {
	r := Read([]byte("\x05\x02ab\x01\x04"))
	for i, x := range []struct {
		take take
		want string
		rest string
	}{
		{takeNum, "5", "\x02ab\x01\x04"},
		{takeText, "ab", "\x01\x04"},
		{takeFlag, "true", "\x04"},
		{takeCount(4), "4", ""},
	} {
		for range 2 { // End and Rest read nothing and record nothing
			if e := r.End(); e != api.ErrCodeMore {
				t.Errorf("before field %d: End = %d; want ErrCodeMore", i, e)
			}
			r.Rest()
		}
		if got := x.take.call(r); got != x.want {
			t.Errorf("field %d: %q; want %q", i, got, x.want)
		}
		if string(r.Rest()) != x.rest {
			t.Errorf("after field %d: left %q; want %q", i, r.Rest(), x.rest)
		}
	}
	for range 2 {
		if e := r.End(); e != api.OK {
			t.Errorf("after the last field: End = %d", e)
		}
	}
	if r.Num() != 0 || r.End() != api.ErrCodeShort || len(r.Rest()) != 0 { // there is none more
		t.Errorf("behind the last field: %d, %q", r.End(), r.Rest())
	}
}

func TestEndEmpty(t *testing.T) {
	for _, b := range [][]byte{nil, {}} {
		if r := Read(b); r.End() != api.OK || len(r.Rest()) != 0 {
			t.Errorf("End = %d, left %q", r.End(), r.Rest())
		}
	}
	if r := Read([]byte{0}); r.End() != api.ErrCodeMore || string(r.Rest()) != "\x00" {
		t.Errorf("End = %d, left %q", r.End(), r.Rest())
	}
}

// TestEndKeepsFirst holds that an error goes before ErrCodeMore, and the first one before later ones.
func TestEndKeepsFirst(t *testing.T) {
	r := Read([]byte("\x02\x03ab"))
	r.Flag()
	r.Num()
	r.Text()
	r.Count(-1)
	if e := r.End(); e != api.ErrCodeFlag || string(r.Rest()) != "\x02\x03ab" {
		t.Errorf("End = %d, left %q; want ErrCodeFlag", e, r.Rest())
	}
}

// P3.4

var (
	someNums  = []uint64{0, 1, 127, 128, 300, 1<<14 - 1, 1 << 14, 1 << 32, 1<<63 - 1, 1 << 63, math.MaxUint64}
	someTexts = []string{"", "a", "ab", "\x00", "\xff\x80", "\x80\x00", text(127), text(128), text(300), text(65535), text(65536)}
)

func TestAgain(t *testing.T) {
	for _, v := range someNums {
		for _, s := range someTexts {
			for _, yes := range []bool{false, true} {
				b, _ := written(nums(v), flag(yes), texts(s, s), flag(!yes), nums(v, 7))
				r := Read(b)
				if r.Num() != v || r.Flag() != yes || r.Text() != s || r.Text() != s || r.Flag() == yes || r.Num() != v {
					t.Fatalf("%d, %.20q, %t weren't read again", v, s, yes)
				}
				if r.End() != api.ErrCodeMore || r.Count(7) != 7 || r.End() != api.OK || len(r.Rest()) != 0 {
					t.Fatalf("%d, %.20q, %t: End = %d, left %q", v, s, yes, r.End(), r.Rest())
				}
			}
		}
	}
}

// TestCut reads every piece from the beginning of some fields: the field that is cut is missed, the ones before it are there.
func TestCut(t *testing.T) {
	b, _ := written(nums(300), texts("abc"), flag(true), texts(""), nums(1<<20))
	ends := []int{2, 6, 7, 8, 11}
	for n := range b {
		r := Read(b[:n])
		var got []string
		for _, x := range []take{takeNum, takeText, takeFlag, takeText, takeNum} {
			got = append(got, x.call(r))
		}
		want := []string{"300", "abc", "true", none, "1048576"}
		for i, end := range ends {
			if n < end {
				want[i] = none
			}
		}
		if fmt.Sprint(got) != fmt.Sprint(want) || r.End() != api.ErrCodeShort {
			t.Errorf("%d bytes: %q, %d; want %q, ErrCodeShort", n, got, r.End(), want)
		}
	}
}

// TestOneEncoding writes again what was read: no other bytes have the same fields.
func TestOneEncoding(t *testing.T) {
	kinds := []func(r *Reader, w *Writer){
		func(r *Reader, w *Writer) { w.Num(r.Num()) },
		func(r *Reader, w *Writer) { w.Text(r.Text()) },
		func(r *Reader, w *Writer) { w.Flag(r.Flag()) },
		func(r *Reader, w *Writer) { w.Num(uint64(r.Count(100))) },
		func(r *Reader, w *Writer) {},
	}
	whole := 0
	for _, s := range shortStrings() {
		for order := range 5 * 5 * 5 {
			r, w := Read([]byte(s)), Write()
			for _, k := range []int{order / 25, order / 5 % 5, order % 5} {
				kinds[k](r, w)
			}
			if r.End() != api.OK {
				continue
			}
			whole++
			if b, e := w.Bytes(); string(b) != s || e != api.OK {
				t.Fatalf("%q, kinds %d, was written again as %q, %d", s, order, b, e)
			}
		}
	}
	if whole < 1000 {
		t.Errorf("only %d strings were read whole", whole)
	}
}

// P1: every call ends without a panic, leaves what it is given alone, and answers new memory.

func TestReadMemory(t *testing.T) {
	whole := []byte("\x05\x02ab\x01\x04zzzzzzzz")
	before := string(whole)
	b := whole[:6] // with unused capacity, which isn't to be written either
	r := Read(b)
	rest := r.Rest()
	for i := range rest[:cap(rest)] {
		rest[:cap(rest)][i] = 0xaa
	}
	if string(whole) != before || string(r.Rest()) != before[:6] {
		t.Fatal("Rest answered memory of the reader, or what was given")
	}
	for i := range whole {
		whole[i] = 0xaa
	}
	if r.Num() != 5 || r.Text() != "ab" || !r.Flag() || r.Count(4) != 4 || r.End() != api.OK {
		t.Error("the reader kept what it was given")
	}
}

func TestReadersApart(t *testing.T) {
	b := []byte("\x01\x02\x03")
	q, r := Read(b), Read(b)
	q.Num()
	q.Text() // of two bytes, where one is left
	if q.End() != api.ErrCodeShort || r.Num() != 1 || r.Num() != 2 || r.Num() != 3 || r.End() != api.OK {
		t.Errorf("End = %d and %d", q.End(), r.End())
	}
	if string(b) != "\x01\x02\x03" {
		t.Errorf("what was given is now %q", b)
	}
}

func TestWriteMemory(t *testing.T) {
	v, s := []uint64{1, 2, 3, 4}, []string{"a", text(65537), "b", "c"}
	w := Write()
	w.Num(v[:2]...)
	v[0], v[1] = 8, 9
	w.Text(s[:1]...)
	s[0] = "z"
	if b, _ := w.Bytes(); string(b) != "\x01\x02\x01a" || v[2] != 3 || v[3] != 4 {
		t.Errorf("%q, %d", b, v)
	}
	w.Text(s...)
	if s[0] != "z" || len(s[1]) != 65537 || s[2] != "b" || s[3] != "c" {
		t.Error("Text changed what it was given")
	}
}

// TestLongRecord reads many fields of a long record: that takes time in proportion to its length only.
func TestLongRecord(t *testing.T) {
	const n = 1 << 19
	w := Write()
	for i := range uint64(n) {
		w.Num(i)
		w.Flag(i%3 == 0)
	}
	b, _ := w.Bytes()
	r := Read(b)
	for i := range uint64(n) {
		if r.Num() != i || r.Flag() != (i%3 == 0) {
			t.Fatalf("field %d", i)
		}
	}
	if r.End() != api.OK {
		t.Errorf("End = %d", r.End())
	}
}
