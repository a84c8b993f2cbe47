package records

// Record is a piece of a log that is a whole record by the lengths in it.
// Whether it is a right one is left to who knows the case.
type Record struct {
	Role, Event string
	Bytes       []byte // a piece of the log itself: not to be kept
}

// Written is the text that a log's head record has for its graph, if the log is
// long enough to have it.
func Written(log []byte) (string, bool) {
	const at = len(headMark) + 2
	if len(log) < at {
		return "", false
	}
	end := at + int(log[at-2])<<8 + int(log[at-1])
	if len(log) < end {
		return "", false
	}
	return string(log[at:end]), true
}

// Split takes apart what stands behind a log's head record, as far as there are
// whole records. Who asks for it ranges over all of them: only then the
// goroutine that sends them has ended.
func Split(log []byte) <-chan Record {
	found := make(chan Record, len(log)/shortest)
	go func() {
		defer close(found)
		for record, ok := cut(log); ok; record, ok = cut(log) {
			found <- record
			log = log[len(record.Bytes):]
		}
	}()
	return found
}

// cut takes the first record of a log, if there is a whole one.
func cut(log []byte) (Record, bool) {
	if len(log) < shortest {
		return Record{}, false
	}
	role, rest, hasRole := cutText(log[aheadOfTexts:])
	event, rest, hasEvent := cutText(rest)
	if !hasRole || !hasEvent || len(rest) < behindTexts {
		return Record{}, false
	}
	whole := len(log) - len(rest) + behindTexts
	return Record{Role: role, Event: event, Bytes: log[:whole]}, true
}

// cutText takes a text and its length from the beginning of the bytes, and
// answers what is behind them too.
func cutText(b []byte) (string, []byte, bool) {
	if len(b) == 0 {
		return "", nil, false
	}
	end := 1 + int(b[0])
	if len(b) < end {
		return "", nil, false
	}
	return string(b[1:end]), b[end:], true
}
