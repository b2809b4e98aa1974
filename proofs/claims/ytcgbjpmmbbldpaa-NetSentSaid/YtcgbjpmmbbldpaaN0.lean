/- The net in memory: what its calls answer and leave (all contracts). -/
import Derived.Test.YtcgbjpmmbbldpaaKg
