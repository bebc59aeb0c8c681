package shell_test

import (
	"strings"
	"testing"

	"resolvent/shell"
)

// predicates has three predicates, two of one name, and one of each end of the arities.
const predicates = "pred p/0; proceed; pred p/1; getcon a X0; proceed; pred q12/8; getcon h X7; proceed"

// P15.1: ask of each predicate, which begins at its own Entry, with its own arguments.
func TestAsk(t *testing.T) {
	s := begun(t, append(each("asm", predicates), "assemble")...)
	hold(t, s, "ask p/0 9 9 9 => ok", "state => 0 -1 -1 0 0 0", "read 0 => argument", "step 1 => success")
	hold(t, s, "ask p/1 9 9 9 => ok", "state => 1 -1 -1 0 1 0", "read 0 => X0", "read 1 => argument", "step 2 => success", "read 0 => a")
	hold(t, s, "ask q12/8 9 9 9 => ok", "state => 3 -1 -1 0 8 0", "step 2 => success", "read 0 => X0", "read 6 => X6", "read 7 => h", "read 8 => argument", "read 100000 => argument")
	hold(t, s, "ask p/1 9 9 9 => ok", "state => 1 -1 -1 0 1 0")
}

// unknown are predicates that aren't there, in words that may be asked.
var unknown = []string{"p/2", "p/8", "p/9", "p/100000", "q/0", "q12/0", "q1/8", "q/8", "P/1", "p1/1", "/0", "/1", "/8", "p./1", "p,/0", "-/1", "\t/1", "p\n/1", "[p]/0", "é/0", "\xff/0", "X0/1"}

// P15.1: a NAME is whatever stands ahead of the first slash; what stands behind it is a number.
func TestAskNames(t *testing.T) {
	asked := begun(t, append(each("asm", predicates), "assemble", "ask p/1 9 9 9")...)
	for _, word := range unknown {
		hold(t, asked, "ask "+word+" 9 9 9 => unknown", "ask "+word+" 0 0 0 => unknown", "ask "+word+" 100000 100000 100000 => unknown", "state => 1 -1 -1 0 1 0")
		hold(t, shell.New(), "ask "+word+" 9 9 9 => no object")
	}
	for _, word := range []string{"", "p", "p1", "/", "//", "p/", "p//", "p//1", "//1", "/p/1", "p/1/", "p/1/1", "p/q/1", "p/0/1", "1/p", "p\\1", "p:1", "p(1)", "p/1,", "p/X0"} {
		hold(t, asked, "ask "+word+" 9 9 9 => what", "state => 1 -1 -1 0 1 0")
		hold(t, shell.New(), "ask "+word+" 9 9 9 => what")
	}
}

// P15.1: ask has four words behind it, no more and no fewer.
func TestAskWords(t *testing.T) {
	s := begun(t, append(each("asm", predicates), "assemble", "ask p/0 9 9 9")...)
	for _, text := range []string{
		"", " ", "p/1", "p/1 ", "p/1 9", "p/1 9 9", "p/1 9 9 ", "p/1 9 9 9 ", "p/1 9 9 9 9", "p/1 9 9 9 9 9 9", " p/1 9 9 9", "p/1  9 9 9", "p/1 9  9 9", "p/1 9 9  9", "p/1   9", "p 1 9 9 9", "p /1 9 9 9", "p/ 1 9 9 9", "p/1 9 9 9\t", "p/1\t9 9 9", "9 9 9 p/1", "p/1 9 p/1 9",
	} {
		hold(t, s, "ask "+text+told+"what", "state => 0 -1 -1 0 0 0")
		hold(t, shell.New(), "ask "+text+told+"what")
	}
}

// P15.1: a room is from 0 to 65536 of each; other numbers are an argument that can't be, told behind a predicate that isn't there.
func TestAskRooms(t *testing.T) {
	s := begun(t, append(each("asm", predicates), "assemble", "ask p/1 9 9 9", "ask p/0 9 9 9")...)
	for k := range 3 {
		for room, want := range map[string]string{"0": "ok", "1": "ok", "65535": "ok", "65536": "ok", "65537": "argument", "99999": "argument", "100000": "argument"} {
			rooms := []string{"7", "7", "7"}
			rooms[k] = room
			hold(t, s, "ask p/0 7 7 7 => ok", "step 1 => success", "ask p/1 "+strings.Join(rooms, " ")+told+want)
			if want == "ok" {
				hold(t, s, "step 0 => "+map[bool]string{true: "full", false: "running"}[k == 0 && room == "0"])
			} else {
				hold(t, s, "state => 0 -1 -1 0 0 0", "step 1 => success", "ask p/2 "+strings.Join(rooms, " ")+told+"unknown")
			}
		}
	}
}

// P15.1: each of the three numbers is the room of what it stands for.
func TestAskRoomsApart(t *testing.T) {
	s := begun(t, each("asm", "pred p/2; try @1; allocate 2; getlis X1; univoid 2; deallocate; proceed; @1; trust; proceed")...)
	hold(t, s, "assemble => ok", "check => ok")
	for room, want := range map[string]string{
		"4 5 1": "running", "9 9 9": "running", "65536 65536 65536": "running",
		"3 5 1": "full", "4 4 1": "full", "4 5 0": "full", "0 5 1": "full", "1 5 1": "full", "4 0 1": "full", "5 4 1": "full", "1 5 4": "full", "5 1 4": "full",
	} {
		hold(t, s, "ask p/2 "+room+told+"ok", "step 0 => "+want)
	}
}

// P15.1: with an error the machines that were stay, and go on.
func TestAskErrors(t *testing.T) {
	s := shell.New()
	hold(t, s, "ask p/1 9 9 9 => no object", "clause p(a). => ok", "clause p(b). => ok", "compile => ok", "ask p/2 9 9 9 => unknown", "state => no machine", "ask p/1 9 65537 9 => argument", "state => no machine")
	hold(t, s, "ask p/1 9 9 9 => ok", "step 2 => running")
	const now = "state => 2 -1 -1 1 1 1"
	hold(t, s, now, "ask q/1 9 9 9 => unknown", now, "ask p/1 9 9 99999 => argument", now, "ask p/1 9 9 => what", now)
	hold(t, s, "asm pred p/1 => ok", "asm getval X3 X0 => ok", "asm proceed => ok", "assemble => ok", "ask p/1 9 9 9 => verify", now, "ask q/1 9 9 9 => verify", now, "ask p/1 99999 9 9 => verify", now)
	hold(t, s, "asm pred r/0 => ok", "asm execute u/0 => ok", "assemble => ok", "ask p/1 9 9 9 => unknown", now, "ask r/0 9 9 9 => unknown", now, "ask u/0 9 9 9 => unknown", now, "check => unknown")
	hold(t, s, "step 9 => success", "read 0 => a", "again => yes", "step 9 => success", "read 0 => b", "again => no")
}
