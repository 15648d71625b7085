package quant

import "almoner/api"

// Alarm tells for each number whether there is an alarm.
func Alarm(xs []float32, lo, hi float32, rise, fall int) ([]bool, api.Errno) {
	if errno := refusal(xs, rise >= 1 && fall >= 1); errno != api.OK {
		return nil, errno
	}
	if !isNumber(lo) || !isNumber(hi) {
		return nil, api.ERANGE
	}
	if lo > hi {
		return nil, api.EARG
	}
	return alarms(xs, lo, hi, rise, fall), api.OK
}

// alarms goes through the numbers once, in one of two states, each left by the number that is the last of a run; the runs are counted anew in each state.
func alarms(xs []float32, lo, hi float32, rise, fall int) []bool {
	told := make([]bool, len(xs))
	i, run := 0, 0
calm:
	for run = 0; i < len(xs); i++ {
		if within(xs[i], lo, hi) {
			run = 0
			continue
		}
		if run++; run == rise {
			goto alarmed
		}
	}
	return told
alarmed:
	for run = 0; i < len(xs); i++ {
		if !within(xs[i], lo, hi) {
			run = 0
		} else if run++; run == fall {
			goto calm
		}
		told[i] = true
	}
	return told
}
