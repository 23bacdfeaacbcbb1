import Derived.Test.YtoejbngihecafaaDoorFin7
import Derived.Test.YtoejbngihecafaaDoorLd7toApiP
import Derived.Test.YtoejbngihecafaaDoorPl1toPl5
namespace Go.Proofs.YtoejbngihecafaaDoor

theorem apiL : ApiL Tabs DD := { api with position := docPosition, offset := docOffset }
theorem places_upto_holds : Rows.PlacesUptoCardSaid := places.cardUpto apiL
end Go.Proofs.YtoejbngihecafaaDoor
