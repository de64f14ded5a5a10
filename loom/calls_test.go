package loom_test

import (
	"strings"
	"sync"
	"testing"

	"loom/api"
	"loom/loom"
)

// answer is what the calls that look at bytes tell of them.
type answer struct {
	errno           api.Errno
	at              int
	packed, printed string
}

// answerTo asks all of them; where they do not agree on the error and its place, the error is one that there is not.
func answerTo(bytes string) answer {
	errno, at := loom.Check(bytes)
	packed, packErrno, packAt := loom.Pack(bytes)
	printed, printErrno, printAt := loom.Print(bytes)
	if packErrno != errno || printErrno != errno || packAt != at || printAt != at {
		return answer{errno: -1}
	}
	return answer{errno, at, packed, printed}
}

// odd are strings that are no modules, or hardly.
func odd() []string {
	return []string{
		"", "\x00", "\x00asm", "(module)", "(module (func end))", "é", "\xff\xfe", strings.Repeat("(", 300), strings.Repeat("\x00", 5000), strings.Repeat("x", 60001),
		"\x00asm\x01\x00\x00\x00" + strings.Repeat("\xff", 4992), "\x00asm\x01\x00\x00\x00\x0a\xff\xff\xff\xff\x0f\x00",
	}
}

// changed tells the sample with each byte changed to each other one, and all that is cut off or doubled.
func changed(t *testing.T) func(yield func(string) bool) {
	whole, _ := build(t, head+sample)
	return func(yield func(string) bool) {
		for i := range len(whole) {
			for b := range 256 {
				if !yield(whole[:i] + string([]byte{byte(b)}) + whole[i+1:]) {
					return
				}
			}
			if !yield(whole[:i]+whole[i+1:]) || !yield(whole[:i]+whole[i:i+1]+whole[i:]) || !yield(whole[:i]+whole) {
				return
			}
		}
	}
}

// P1: whatever the bytes are, Check, Pack and Print end with one error that they may tell, a place that there is, and nothing else; without an error the place is 0. P5, P6: what Pack gives fits, packs to itself, is no longer, and is printed alike.
func TestAnswers(t *testing.T) {
	ask := func(bytes string) {
		t.Helper()
		a := answerTo(bytes)
		switch {
		case a.errno == api.OK:
			if again := answerTo(a.packed); a.at != 0 || again != a || len(a.packed) > len(bytes) {
				t.Errorf("P1, P5, P6: of %x: %v; of what is packed: %v", bytes, a, again)
			}
		case a.packed != "" || a.printed != "":
			t.Errorf("P1: of %x there is more than an error: %v", bytes, a)
		case a.errno < api.ErrLong || a.errno > api.ErrTwice:
			t.Errorf("P1: of %x a call tells the error %d", bytes, a.errno)
		case a.at < 0 || a.at > len(bytes) || a.errno != api.ErrBytes && a.at >= len(bytes) || a.errno == api.ErrLong && a.at != 0:
			t.Errorf("P1: of %x a call tells the place %d beside %d", bytes, a.at, a.errno)
		}
	}
	for _, bytes := range odd() {
		ask(bytes)
	}
	for bytes := range changed(t) {
		ask(bytes)
	}
}

// P1: beside an error there is nothing but the place; the other calls end, too.
func TestCallsEnd(t *testing.T) {
	whole, _ := build(t, head+sample)
	for _, s := range append(odd(), whole) {
		for _, call := range []func(string) (string, api.Errno, int){loom.Pack, loom.Print, loom.Assemble} {
			got, errno, at := call(s)
			if errno != api.OK && got != "" || errno == api.OK && at != 0 {
				t.Errorf("P1: of %x: %q, %d, %d", s, got, errno, at)
			}
		}
		made, errno, at := loom.New(s)
		if errno != api.OK && made != nil || errno == api.OK && at != 0 {
			t.Errorf("P1: New(%x): %v, %d, %d", s, made, errno, at)
		}
	}
}

// P2: what is answered hangs on the bytes alone, whatever was asked ahead, or is asked at the same time.
func TestAnswersHangOnBytes(t *testing.T) {
	var all []string
	for bytes := range changed(t) {
		if len(all)%7 == 0 || len(bytes)%5 == 0 {
			all = append(all, bytes)
		}
	}
	first := make([]answer, len(all))
	for i, bytes := range all {
		first[i] = answerTo(bytes)
	}
	for i := len(all) - 1; i >= 0; i-- {
		if again := answerTo(all[i]); again != first[i] {
			t.Errorf("P2: of %x: %v, then %v", all[i], first[i], again)
		}
	}
	var group sync.WaitGroup
	for worker := range 4 {
		group.Add(1)
		go func() {
			defer group.Done()
			for i := worker; i < len(all); i += 3 {
				if again := answerTo(strings.Clone(all[i])); again != first[i] {
					t.Errorf("P2: of %x: %v, then %v", all[i], first[i], again)
				}
			}
		}()
	}
	group.Wait()
}
