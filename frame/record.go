package frame

import (
	"pavilion/api"
	"pavilion/keys"
)

func isRecord(r api.Record) bool {
	switch r.Kind {
	case api.One, api.Part:
		return isTime(r.Time) && r.Generation == 0 && areWrites(r.Writes)
	case api.Done:
		return isTime(r.Time) && r.Generation == 0 && len(r.Writes) == 0
	case api.Image:
		// An image of an empty store has the time 0, ahead of all others.
		return (r.Time == 0 || isTime(r.Time)) && isGeneration(r.Generation) && len(r.Writes) == 0
	case api.Item:
		return isTime(r.Time) && r.Generation == 0 && isItem(r.Writes)
	case api.Whole:
		return r.Time == 0 && r.Generation == 0 && len(r.Writes) == 0
	}
	return false
}

func isTime(t int) bool { return t >= 1 && t <= api.MaxTime }

func isGeneration(g int) bool { return g >= 1 && g <= api.MaxTime }

func isWrite(w api.Write) bool {
	if w.Dead && w.Value != "" {
		return false
	}
	return keys.IsKey(w.Key) && keys.IsValue(w.Value)
}

func areWrites(l []api.Write) bool {
	if len(l) < 1 || len(l) > api.MaxWrites {
		return false
	}
	for i, w := range l {
		if !isWrite(w) || i > 0 && l[i-1].Key >= w.Key {
			return false
		}
	}
	return true
}

func isItem(l []api.Write) bool {
	return len(l) == 1 && isWrite(l[0]) && !l[0].Dead
}
