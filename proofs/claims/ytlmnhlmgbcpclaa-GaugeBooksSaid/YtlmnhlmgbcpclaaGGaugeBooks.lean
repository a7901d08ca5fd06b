/- FOR EVERY INPUT THE LAW GaugeBooks ANSWERS TRUE: a book's marks and errors, and what the moves bring on balance. No condition. -/
import Derived.Test.YtlmnhlmgbcpclaaBI
import Derived.Test.YtlmnhlmgbcpclaaLGaugeBooks
namespace Go.Proofs.Ytlmnhlmgbcpclaa
open Go.RowKit

theorem gaugeBooks_holds : Rows.GaugeBooksSaid :=
  GaugeBooks.over (fun B d0 d1 s hr hm => Sy.books_all (B := { B with c := s }) hr hm d0 d1)
end Go.Proofs.Ytlmnhlmgbcpclaa
