/-
  DERIVED. GIVEN WITH THE SEED: THE PROGRAM's TIES (one call each: nine closed facts by the kernel) AND EACH ROW's TIE, after the 31st guide's Derived/Test/Toyas{Tie, Card}.lean. No idea stands in it: it is a product of the set-up. Laid BY PROGRAM, IN A SANDBOX (cutbox-door.mjs). By AI agents, Wed Nov 11 2026. No macro, syntax, notation, axiom, sorry.
-/
import Derived.Test.YtciblhmmpamjoaaGreatDoorRows
import Derived.LaidByTextLater
import Derived.SevenTiedAt
import Derived.LaidSub
import Derived.LaidOnce
namespace Go.Proofs.YtciblhmmpamjoaaGreatDoor
open Go
set_option maxRecDepth 100000
theorem seatTie1 : Tryz.prog.laidByTextLater [("almoner/quant.units", Rows.laid_almoner_quant_units)] [.data] true :=
  Program.laidByTextLater_by_one 151 8 111 (by kernel_rfl) (by kernel_rfl) (by kernel_rfl) (by kernel_rfl) (by kernel_rfl) (by kernel_rfl) (fun _ _ => by kernel_rfl)
theorem seatTie2 : Tryz.prog.laidByTextLater [("almoner/almonerref2.K", Rows.laid_almoner_almonerref2_K), ("almoner/almonerref2.Begin", Rows.laid_almoner_almonerref2_Begin), ("almoner/api.ErrShort", Rows.laid_almoner_api_ErrShort), ("almoner/api.ErrLong", Rows.laid_almoner_api_ErrLong), ("almoner/api.ErrRange", Rows.laid_almoner_api_ErrRange), ("almoner/api.ErrKind", Rows.laid_almoner_api_ErrKind), ("almoner/api.ErrOrder", Rows.laid_almoner_api_ErrOrder), ("almoner/sha.start", Rows.laid_almoner_sha_start), ("almoner/sha.k", Rows.laid_almoner_sha_k), ("almoner/quant.units", Rows.laid_almoner_quant_units)] [.data, .data, .sentinel, .sentinel, .sentinel, .sentinel, .sentinel, .data, .data, .data] true :=
  Program.laidByTextLater_by_one 151 8 111 (by kernel_rfl) (by kernel_rfl) (by kernel_rfl) (by kernel_rfl) (by kernel_rfl) (by kernel_rfl) (fun _ _ => by kernel_rfl)
theorem noOwnUnsafe : Tryz.pinned.checked.prog.headLifts.contains "ownunsafe" = false := by kernel_rfl
theorem tie : Tryz.prog.laidByTextLater [("almoner/quant.units", Rows.laid_almoner_quant_units)] [.data] true :=
  Program.laidByTextLater.sub seatTie1 ["almoner/quant.units"] (by kernel_rfl) (by kernel_rfl)
theorem recordForms_row_tie : Rows.recordFormsRow.laidByTextAt .later Tryz.pinned [.data] true :=
  OpenClaim.laidByTextAt_later rfl rfl tie noOwnUnsafe
theorem recordApplies_row_tie : Rows.recordAppliesRow.laidByTextAt .later Tryz.pinned [.data] true :=
  OpenClaim.laidByTextAt_later rfl rfl tie noOwnUnsafe
theorem recordAnswers_row_tie : Rows.recordAnswersRow.laidByTextAt .later Tryz.pinned [.data] true :=
  OpenClaim.laidByTextAt_later rfl rfl tie noOwnUnsafe
theorem recordCopies_row_tie : Rows.recordCopiesRow.laidByTextAt .later Tryz.pinned [.data] true :=
  OpenClaim.laidByTextAt_later rfl rfl tie noOwnUnsafe
theorem tie2 : Tryz.prog.laidByTextLater [("almoner/almonerref2.K", Rows.laid_almoner_almonerref2_K), ("almoner/almonerref2.Begin", Rows.laid_almoner_almonerref2_Begin), ("almoner/api.ErrShort", Rows.laid_almoner_api_ErrShort), ("almoner/api.ErrLong", Rows.laid_almoner_api_ErrLong), ("almoner/api.ErrRange", Rows.laid_almoner_api_ErrRange), ("almoner/api.ErrKind", Rows.laid_almoner_api_ErrKind), ("almoner/api.ErrOrder", Rows.laid_almoner_api_ErrOrder), ("almoner/sha.start", Rows.laid_almoner_sha_start), ("almoner/sha.k", Rows.laid_almoner_sha_k), ("almoner/quant.units", Rows.laid_almoner_quant_units)] [.data, .data, .sentinel, .sentinel, .sentinel, .sentinel, .sentinel, .data, .data, .data] true :=
  Program.laidByTextLater.sub seatTie2 ["almoner/almonerref2.K", "almoner/almonerref2.Begin", "almoner/api.ErrShort", "almoner/api.ErrLong", "almoner/api.ErrRange", "almoner/api.ErrKind", "almoner/api.ErrOrder", "almoner/sha.start", "almoner/sha.k", "almoner/quant.units"] (by kernel_rfl) (by kernel_rfl)
theorem recordEvents_row_tie : Rows.recordEventsRow.laidByTextAt .later Tryz.pinned [.data, .data, .sentinel, .sentinel, .sentinel, .sentinel, .sentinel, .data, .data, .data] true :=
  OpenClaim.laidByTextAt_later rfl rfl tie2 noOwnUnsafe
theorem recordFormsUpto_row_tie : Rows.recordFormsUptoRow.laidByTextAt .later Tryz.pinned [.data] true :=
  OpenClaim.laidByTextAt_later rfl rfl tie noOwnUnsafe
theorem recordAppliesUpto_row_tie : Rows.recordAppliesUptoRow.laidByTextAt .later Tryz.pinned [.data] true :=
  OpenClaim.laidByTextAt_later rfl rfl tie noOwnUnsafe
theorem recordEventsUpto_row_tie : Rows.recordEventsUptoRow.laidByTextAt .later Tryz.pinned [.data, .data, .sentinel, .sentinel, .sentinel, .sentinel, .sentinel, .data, .data, .data] true :=
  OpenClaim.laidByTextAt_later rfl rfl tie2 noOwnUnsafe
theorem recordAnswersUpto_row_tie : Rows.recordAnswersUptoRow.laidByTextAt .later Tryz.pinned [.data] true :=
  OpenClaim.laidByTextAt_later rfl rfl tie noOwnUnsafe
theorem recordCopiesUpto_row_tie : Rows.recordCopiesUptoRow.laidByTextAt .later Tryz.pinned [.data] true :=
  OpenClaim.laidByTextAt_later rfl rfl tie noOwnUnsafe
end Go.Proofs.YtciblhmmpamjoaaGreatDoor
