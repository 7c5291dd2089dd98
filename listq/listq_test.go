package listq_test

import (
	"testing"

	"compline/listq"
	"compline/queuetest"
)

func TestQueue(t *testing.T) {
	for _, x := range queuetest.Checks(listq.New) {
		t.Run(x.Name, func(t *testing.T) { x.Run(t) })
	}
}
