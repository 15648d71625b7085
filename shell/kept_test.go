package shell_test

import (
	"fmt"
	"strings"
	"testing"

	"almoner/api"
)

// TestStaff: one more each time, in any order; whether they may be is asked by the world.
func TestStaff(t *testing.T) {
	l := []string{"staff 1 1 7", "staff 2 2 7", "staff 4 3 8", "staff 6 5 0"}
	each(l, func(l []string) {
		saysAlone(t, "P21.5: staff", strings.Join(l, "|")+"|world 4 1 01 8192 65536 1|create 0 2 7 6 a=b|run 8|read 0 1 1 0|run 8|read 0 4 1 0|run 8|replay", "ok|ok|ok|ok|ok|ok 1 2|0 1 0 1 1|ok 33 34|0 2 0 1 1 a=b|ok 53 54|0 3 5 0 0|-1|")
	})
	for _, x := range []struct{ text, want string }{
		{"world 4 1 01 8192 65536 1|create 0 1 7 6 .|run 8", "ok|ok 1 2|0 1 1 0 0|"},
		{"staff 1 1 7|staff 1 1 7|world 4 1 01 8192 65536 1", "ok|ok|error 1|"},
		{"staff 2 1 7|staff 1 1 7|staff 2 3 8|world 4 1 01 8192 65536 1|bag", "ok|ok|ok|error 1|error 15|"},
		{"staff 0 1 7|world 4 1 01 8192 65536 1", "ok|error 1|"},
		{"staff 1 0 7|world 4 1 01 8192 65536 1", "ok|error 1|"},
		{"staff 1 6 7|world 4 1 01 8192 65536 1", "ok|error 1|"},
		{"staff 1 4294967295 7|world 4 1 01 8192 65536 1", "ok|error 1|"},
		{"staff 4294967295 5 4294967295|world 4 1 01 8192 65536 1|create 0 4294967295 4294967295 4294967295 .|run 8", "ok|ok|ok 1 2|0 1 5 0 0|"},
		{"staff 2147483648 5 0|staff 1 1 7|staff 4294967295 2 7|world 4 1 01 8192 65536 1|create 0 4294967295 7 2147483648 .|run 8", "ok|ok|ok|ok|ok 1 2|0 1 0 1 1|"},
		{"staff 9 9 9|staff|staff 1|staff 1 1|staff 1 1 1 1", "ok|error 3|error 3|error 3|error 3|"},
	} {
		saysAlone(t, "P21.5: staff", x.text, x.want)
	}
	for _, x := range []struct {
		many int
		want string
	}{{api.MaxStaff, "ok"}, {api.MaxStaff + 1, "error 1"}, {500, "error 1"}} {
		var text strings.Builder
		for i := range x.many {
			fmt.Fprintf(&text, "staff %d 1 7|", x.many-i)
		}
		saysAlone(t, "P21.5: staff", text.String()+"world 4 1 01 8192 65536 1", strings.Repeat("ok|", x.many)+x.want+"|")
	}
}

// TestStaffBehindAWorld: who comes later is nobody in it, but in the next one; and its log is replayed with its own staff.
func TestStaffBehindAWorld(t *testing.T) {
	says(t, "P21.3, P21.5", "staff 7 2 7|create 0 7 7 6 .|run 8|replay|world 4 1 01 8192 65536 1|create 0 7 7 6 .|run 8|replay", "ok|ok 1 2|0 1 1 0 0|-1|ok|ok 1 2|0 1 0 1 1|-1|")
	says(t, "P21.3, P21.5", made+"staff 1 1 7|replay|read 0 1 1 0|run 8|replay|world 4 1 01 8192 65536 1|read 0 1 1 0|run 8|replay", madeSays+"ok|-1|ok 33 34|0 2 0 1 1|-1|error 1|ok 53 54|0 3 0 1 1|-1|")
	saysAlone(t, "P21.3, P21.5", "world 4 1 01 8192 65536 1|"+hired+"create 0 1 7 6 .|run 8|replay|log 2|world 4 1 01 8192 65536 1|log 2|"+made+"replay", "ok|"+strings.Repeat("ok|", 6)+"ok 1 2|0 1 1 0 0|-1|0 0 1 1 1 0 1|ok|"+madeSays+"-1|")
}

// TestWhichWorlds: at the limits all is well, one past it is refused.
func TestWhichWorlds(t *testing.T) {
	for _, line := range []string{"world 1 0 01 8192 8192 1", "world 32 0 01 8192 8192 1", "world 1 6 01 8192 8192 1", "world 1 0 " + strings.Repeat("00", 64) + " 8192 8192 1", "world 1 0 01 8192 1048576 1", "world 1 0 01 1048576 1048576 1", "world 1 0 01 8193 8193 1", "world 1 0 01 8192 8192 16"} {
		says(t, "P21.5: world", line, "ok|")
	}
	for _, line := range []string{"world 0 0 01 8192 8192 1", "world 33 0 01 8192 8192 1", "world 1 7 01 8192 8192 1", "world 1 0 - 8192 8192 1", "world 1 0 " + strings.Repeat("00", 65) + " 8192 8192 1", "world 1 0 01 8191 8192 1", "world 1 0 01 8192 8191 1", "world 1 0 01 8193 8192 1", "world 1 0 01 8192 1048577 1", "world 1 0 01 1048577 1048577 1", "world 1 0 01 8192 8192 0", "world 1 0 01 8192 8192 17"} {
		refused(t, "P21.5: world", made, line, api.EARG)
		refused(t, "P21.5: world", made+"verifier|sign|check 1|", line, api.EARG)
	}
}

// TestPartsOfAWorld: each of its numbers is where it is said to be.
func TestPartsOfAWorld(t *testing.T) {
	for _, width := range []int{1, 2, 31, 32} {
		for height := range 3 {
			text := fmt.Sprintf("%sworld %d %d a1b2 8192 65536 2|public|sign|", hired, width, height)
			for size := 1; size <= 1<<height; size++ {
				text += "create 1 1 7 6 .|run 8|sign|"
			}
			l := strings.Split(strings.TrimSuffix(held(t, lines(text)), "\n"), "\n")
			if len(l[7]) != 2*width || l[len(l)-1] != "error 7" || len(l[8]) != 2+2*width {
				t.Errorf("P21.5: world: of width %d and height %d: %q", width, height, l)
			}
		}
	}
	// A disk of 8192 bytes and its segment are full at some time, a greater one is not.
	text := ""
	for i := range 24 {
		text += fmt.Sprintf("create 0 2 7 6 %s|run 6|", strings.ReplaceAll(fieldsUpTo(32), "=", fmt.Sprintf(".%d=", i)))
	}
	small, segments, great := held(t, lines(hired+"world 4 1 01 8192 8192 1|"+text+"log 0")), held(t, lines(hired+"world 4 1 01 8192 20000 1|"+text+"log 0")), held(t, lines(hired+"world 4 1 01 20000 20000 1|"+text+"log 0"))
	if strings.Count(small, " 2 1 0 0\n") >= strings.Count(segments, " 2 1 0 0\n") || strings.Count(segments, " 2 1 0 0\n") > strings.Count(great, " 2 1 0 0\n") {
		t.Errorf("P21.5: world: a disk of 8192 bytes has %d events, one of 20000 has %d, of one segment %d", strings.Count(small, " 2 1 0 0\n"), strings.Count(segments, " 2 1 0 0\n"), strings.Count(great, " 2 1 0 0\n"))
	}
	for clients := 1; clients <= api.MaxClients; clients++ {
		saysAlone(t, "P21.5: world", fmt.Sprintf("world 1 0 01 8192 8192 %d|retry 0|retry %d|retry %d", clients, clients-1, clients), "ok|ok|ok|error 1|")
	}
}

// TestSecondWorld: it begins anew; the verifier goes, and the last head; the staff stays.
func TestSecondWorld(t *testing.T) {
	again := "world 4 1 01 8192 65536 1|"
	says(t, "P21.3, P21.5", made+"read 0 1 1 0|"+again+"bag|log 0|log 1|log 2|got 0|access|replay|"+made+"log 2", madeSays+"ok 33 34|ok|-1|"+madeSays+"0 0 1 1 1 0 0|")
	says(t, "P21.5: the verifier goes", "verifier|"+again+"check 0|include 0 0|check 0 0|verifier|check 0", "ok|ok|error 15|error 15|error 3|ok|error 3|")
	says(t, "P21.5: the last head goes", "sign|verifier|check 0|"+again+"verifier|check 0|sign|check 0", "0 e3b0c442|ok|ok|ok|ok|error 3|0 e3b0c442|ok|")
	says(t, "P21.5: what is trusted goes", made+"sign|verifier|check 1|include 0 1|"+again+made+"verifier|include 0 1|check 1|sign|check 1|include 0 1", madeSays+"1 08b58375|ok|ok|ok|ok|"+madeSays+"ok|error 15|error 3|1 08b58375|ok|ok|")
	says(t, "P21.5: a refused world takes nothing away", made+"sign|verifier|world 4 1 01 8192 65536 0|world 4 1 01 8192 65536|check 1|include 0 1|log 2", madeSays+"1 08b58375|ok|error 1|error 3|ok|ok|0 0 1 1 1 0 0|")
	says(t, "P21.5: crashed nodes and full disks go", "crash 0 0|crash 1 0|crash 2 0|fill 0 1|arm 0 1 1|"+again+made+"tick 2", "ok|ok|ok|ok|error 6|ok|"+madeSays+"ok|")
	says(t, "P21.5: of other clients", "world 4 1 01 8192 65536 3|create 2 1 7 6 .|run 8|world 4 1 01 8192 65536 1|retry 2|got 2|run 1|bag", "ok|ok 1 2|2 1 0 1 1|ok|error 1|3 1 0 6|4 2 1 6|")
	one, two := run(t, lines(beginning+"public")), run(t, lines(hired+"world 4 1 02 8192 65536 1|public"))
	if one == two || run(t, lines(hired+"world 4 1 02 8192 65536 1|world 4 1 01 8192 65536 1|public")) != "ok\n"+one {
		t.Errorf("P21.5: public: %q, %q", one, two)
	}
}

// TestVerifierIsNew: a new one trusts nothing, and has seen nothing.
func TestVerifierIsNew(t *testing.T) {
	says(t, "P21.5: verifier", made+"verifier|sign|check 1|include 0 1|verifier|include 0 1|check 1|include 0 1|verifier|check 0|check 1|check 1", madeSays+"ok|1 08b58375|ok|ok|ok|error 15|ok|ok|ok|ok|ok|ok|")
	says(t, "P21.3: the head stays, whoever checks it", made+"sign|verifier|check 1|verifier|check 1|crash 2 0|check 1|restart 2 0|check 1", madeSays+"1 08b58375|ok|ok|ok|ok|ok|error 6|ok|ok|")
}
