package run

import "retrace/api"

// put puts something out, whole or not at all.
func (r *Run) put(l []cell) {
	if r.death != api.OK {
		return
	}
	if len(l) > api.MaxData-len(r.out) {
		r.die(api.ErrOut)
		return
	}
	r.out = append(r.out, l...)
}

// putText puts a text out that is not from the input.
func (r *Run) putText(s string) {
	text := fresh(s)
	line := joined(text, newline(nowhere), nil)
	r.put(line)
}

func (r *Run) putPattern() {
	line := joined(r.pattern, newline(r.in.newline), nil)
	r.put(line)
}

func (r *Run) putUnlessQuiet() {
	if !r.quiet {
		r.putPattern()
	}
}

// putFirstLine does `P`: the newline in the pattern space is put out as it stands there.
func (r *Run) putFirstLine() {
	behind := behindNewline(r.pattern)
	if behind == 0 {
		r.putPattern()
		return
	}
	line := part(r.pattern, 0, behind)
	r.put(line)
}

func (r *Run) putQueue() {
	for _, s := range r.queue {
		r.putText(s)
	}
	r.queue = nil
}
