/- The shelf. -/
import Derived.Test.YtjcchogilbekoaaShAll
