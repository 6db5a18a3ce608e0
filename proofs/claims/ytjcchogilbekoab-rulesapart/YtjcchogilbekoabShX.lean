/- The shelf. -/
import Derived.Test.YtjcchogilbekoabShAll
