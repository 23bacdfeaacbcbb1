import Derived.Test.YtoejbngihecafaaDoorFin1
import Derived.Test.YtoejbngihecafaaDoorLd7toApiP
namespace Go.Proofs.YtoejbngihecafaaDoor

theorem loads_upto_holds : Rows.LoadsUptoCardSaid := loads.cardUpto api
end Go.Proofs.YtoejbngihecafaaDoor
