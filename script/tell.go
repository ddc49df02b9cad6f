package script

import (
	"strconv"
	"strings"

	"dovecote/api"
	"dovecote/stamp"
)

// tellError tells the number of err.
func tellError(err api.Errno) string {
	return "error " + tellNumber(err)
}

// tellShown tells what a move has shown.
func tellShown(x api.Shown) string {
	if x.Err != api.OK {
		return tellError(x.Err)
	}
	if x.Result.Kind == api.GotNothing {
		return "ok"
	}
	return strconv.Itoa(x.Client) + blank + tellResult(x.Result)
}

// tellResult tells what has come of an op.
func tellResult(r api.Result) string {
	switch r.Kind {
	case api.GotFine:
		return "fine " + stamp.Text(r.At)
	case api.GotValue:
		return "value " + tellValue(r)
	case api.GotPairs:
		return strings.Join(append([]string{"pairs"}, tellPairs(r.Pairs)...), blank)
	case api.GotCommitted:
		return "committed " + stamp.Text(r.At)
	case api.GotAborted:
		return "aborted " + tellNumber(r.Err)
	case api.GotError:
		return "failed " + tellNumber(r.Err)
	}
	return "unknown " + tellNumber(r.Err)
}

// tellValue tells the value that was read, if there was one.
func tellValue(r api.Result) string {
	if !r.Found {
		return "-"
	}
	return "+" + bytesOf(r.Val)
}

// tellPairs tells pairs, each for itself.
func tellPairs(pairs []api.Pair) []string {
	var told []string
	for _, p := range pairs {
		told = append(told, bytesOf(p.Key)+"="+bytesOf(p.Val))
	}
	return told
}

// tellHeld tells all that a shard has.
func tellHeld(items []api.Item, intents []api.Intent, verdicts []api.Verdict) string {
	var told []string
	for _, item := range items {
		for _, v := range item.Chain {
			told = append(told, tellVersion(item.Key, v))
		}
	}
	for _, i := range intents {
		told = append(told, bytesOf(i.Write.Key)+"!"+tellName(i.By))
	}
	for _, v := range verdicts {
		told = append(told, tellName(v.By)+"?"+stamp.Text(v.At))
	}
	if len(told) == 0 {
		return "."
	}
	return strings.Join(told, blank)
}

// tellVersion tells a version of key.
func tellVersion(key string, v api.Version) string {
	since := bytesOf(key) + ":" + stamp.Text(v.At)
	if v.Dead {
		return since + "x"
	}
	return since + "=" + bytesOf(v.Val)
}

// tellName tells which transaction is meant.
func tellName(t api.Txn) string {
	return strconv.FormatUint(uint64(t.Client), 10) + "." + strconv.FormatUint(uint64(t.N), 10)
}

// tellNumber tells the number of err.
func tellNumber(err api.Errno) string {
	return strconv.Itoa(int(err))
}
