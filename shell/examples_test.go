package shell_test

import "testing"

// TestExamples: the chapter's, row by row.
func TestExamples(t *testing.T) {
	for _, x := range []struct{ text, want string }{
		{"create 0 1 7 6 name=Ada|run 8|amend 0 2 1 1 temp:36.6_C|run 8|read 0 6 1 0|run 8|series 1 temp F|replay|access|trail 1",
			"ok 1 2|0 1 0 1 1|ok 33 34|0 2 0 1 2|ok 53 54|0 3 0 1 2 name=Ada temp:36.6_C|1 97.88_F|-1|1 1 0 1 0 0|2 1 0 1 0 0|6 1 1 0 0 0|0 1 2|"},
		{"create 0 1 7 6 .|run 8|sign|verifier|check 1|include 0 1|check 1|sign|read 0 1 1 0|run 8|sign|check 2|include 1 2|read 0 1 1 0|run 8|sign",
			"ok 1 2|0 1 0 1 1|1 08b58375|ok|ok|ok|ok|1 08b58375|ok 33 34|0 2 0 1 1|2 130cc143|ok|ok|ok 53 54|0 3 0 1 1|error 7|"},
		{"create 0 1 7 6 .|deliver 1|crash 0 0|tick 0|restart 0 0|log 0|run 7|log 2|bag",
			"ok 1 2|ok|ok|error 6|ok|0 0 1 1 1 0 0|0 1 0 1 1|0 0 1 1 1 0 0|"},
		{"create 0 1 7 6 .|fill 0 1|deliver 1|bag|deliver 3|log 0|fill 0 0|run 7|got 0",
			"ok 1 2|ok|ok 3|2 10 2 2|3 0 10 4|ok|ok|0 1 0 1 1|0 1 0 1 1|"},
		{"arm 0 1 5|create 0 1 7 6 .|deliver 1|log 0|restart 0 0|log 0|run 8|got 0",
			"ok|ok 1 2|ok|ok|0 1 0 1 1|0 1 0 1 1|"},
		{"arm 0 1 1000|create 0 1 7 6 .|deliver 1|log 0|restart 0 1000|log 0|run 8|got 0",
			"ok|ok 1 2|ok|ok|0 0 1 1 1 0 0|0 1 0 1 1|0 1 0 1 1|"},
		{"create 0 1 7 6 .|run 8|seal 0 6 1 1|run 8|read 0 2 1 0|run 8|break 0 4 1 heart|run 8|read 0 4 1 0|run 8|history 0 5 1|run 8|access",
			"ok 1 2|0 1 0 1 1|ok 33 34|0 2 0 1 0|ok 53 54|0 3 6 0 0|ok 73 74|0 4 0 1 0|ok 93 94|0 5 0 1 1|ok 113 114|0 6 0 1 1 1/0/0|1 1 0 1 0 0|2 1 0 0 1 0|4 1 1 0 0 1|5 1 1 0 0 0|6 1 0 1 0 0|"},
		{"create 0 1 7 6 .|double 1|deliver 3|deliver 1|drop 2|drop 2|log 0|bag",
			"ok 1 2|ok 3|ok|ok|ok|error 15|0 0 1 1 1 0 0|"},
	} {
		says(t, "an example", x.text, x.want)
	}
	saysAlone(t, "an example", "bag|world 4 1 01 8192 65536 1|check 0|read 0 1|run 1001|log 0|public x|verifier|check 0|sign|check 0|staff 1 9 9|world 4 1 01 8192 65536 1|world 4 1 - 8192 65536 1",
		"error 15|ok|error 15|error 3|error 2|error 3|ok|error 3|0 e3b0c442|ok|ok|error 1|error 1|")
}

// TestTenthExample is the one that stands in DOC.md.
func TestTenthExample(t *testing.T) {
	says(t, "the tenth example", "create 0 1 7 6 .|deliver 1|tick 0|deliver 3|deliver 4|deliver 5|deliver 6|log 1|tick 1",
		"ok 1 2|ok|ok 3|ok 4|ok 5|ok 6|ok|0 0 1 1 1 0 0|ok 7|")
	says(t, "the tenth example, by its messages", "create 0 1 7 6 .|bag|deliver 1|tick 0|bag|deliver 3|bag|deliver 4|bag|deliver 5|bag|deliver 6|tick 1|bag",
		"ok 1 2|1 10 0 1|2 10 2 2|ok|ok 3|2 10 2 2|3 0 1 7|ok 4|2 10 2 2|4 1 0 6|ok 5|2 10 2 2|5 0 1 5|ok 6|2 10 2 2|6 1 0 6|ok|ok 7|2 10 2 2|7 1 2 7|")
}
