import Derived.Test.YtedmhpplhbaglaaNth
namespace Go.Proofs.Ytedmhpplhbaglaa
open Go.RowKit Go.ChangeShapes Go.WideShapes Go.Maps Go.Sort Go.Shelf

theorem Fr.of_below {w w' : World} (h : Below w.heap.size w w') : Fr (fun _ => False) w w' := ⟨h.os, h.tape, h.output, h.size, fun k hk _ => h.block k hk⟩
theorem sorts_any (m : Nat) : AnyZI.SortsIn Try.prog sortedA_ren Fence.wide m :=
  ⟨fun blk off cap ss W hH hblk hsz => callsIn_wide.2 (AnyM.slices_Sort_int sortA blk off cap ss W hH hblk hsz),
   fun p cap W => callsIn_wide.2 (AnyM.slices_Sort_int_none sortA p cap W)⟩
/-- The map's keys, as an iterator. -/
theorem nkeys_any (mb : Option Nat) (W : World) : Calls Try.prog 23 #[.map mb] W fun e w' => e = .returned (.func (.func 33) #[] #[.pointer (some ⟨W.heap.size, 0, none⟩)]) ∧ w' = W.alloc (.cells #[.map mb] 56) :=
  (callsIn_wide (n := 5)).1 (AnyZI.keys_in keysA Fence.wide 5 trivial rfl mb W)
/-- The numbers under way, sorted. -/
theorem nsorted_any (d m : Nat) (pl : Int) (ps : List PK) (sv : Nat → Option Addr × Nat) (T : Nat → Prop) (w : World) (h : NtAt w d m pl ps sv T) (hn : ps.length ≤ 1048576) :
    Calls Try.prog 22 #[.func (.func 33) #[] #[.pointer (some ⟨w.heap.size, 0, none⟩)]] (w.alloc (.cells #[.map (some m)] 56)) fun e w' => ∃ ao c, e = .returned (.slice ao (up ps).length c) ∧ w'.ownsRow w.heap.size 3 1 (.slice ao (up ps).length c) (up ps).length ((up ps).map encZ) ∧ Fr (fun _ => False) w w' := by
  obtain ⟨D, hown, hD⟩ := h.map
  have hbl := hown.lt
  have hsz : Maps.size D ≤ 1048576 := Nat.le_trans hown.size_le hn
  have hseq : SeqGives Fence.wide 2 Try.prog 33 #[.pointer (some ⟨w.heap.size, 0, none⟩)] encZ (fun ss => ss.Perm (intKeys D)) (Maps.size D) (w.alloc (.cells #[.map (some m)] 56)) :=
    AnyZI.keys_gives (ρ := keysA_ren) { keysA with } Fence.wide _ trivial rfl (by omega) w.heap.size m ps.length D _ (by simp) (by simp) (ownsMap_keep hown (Below.heap_alloc _ _ m hbl))
  have cS := AnyZI.sorted_in sortedA Fence.wide 5 trivial trivial trivial trivial rfl (by omega) (sorts_any _) (enters_of Try.func32 (by kernel_rfl) rfl) 33 #[.pointer (some ⟨w.heap.size, 0, none⟩)] trivial (enters_of Try.func33 (by kernel_rfl) rfl) _ _ (by simp only [maxLen]; omega) (by omega) _ hseq
  change CallsIn _ _ Try.prog 22 _ _ _ at cS
  refine ((callsIn_wide (n := 5)).1 cS).mono ?_
  rintro e w' ⟨v, ss, rfl, hS, hrow, hnil, hb⟩
  have hp : ss.Perm (up ps) := hS.trans (up_perm ps hown Try.iK Try.underlying3 hD.has).symm
  rw [up_sorted ps hp, hp.length_eq] at hrow
  have hrow' : w'.ownsRow w.heap.size 3 1 v (up ps).length ((up ps).map encZ) := ownsRow_base hrow (by simp)
  obtain ⟨ao, c, rfl⟩ : ∃ ao c, v = .slice ao (up ps).length c := by
    rcases hrow.2 with ⟨rfl, e⟩ | ⟨g, c, cur, rfl, _⟩
    · exact ⟨none, 0, by rw [e]⟩
    · exact ⟨_, c, rfl⟩
  exact ⟨ao, c, rfl, hrow', (box1 w _).trans (Fr.of_below hb) (fun _ _ h => h)⟩
/-- Packets that were handed out: with whom their bytes lie, and what these are. -/
def kcells (L : List (PV × List Nat)) : List Value := L.flatMap fun x => [.int .i64 x.1.n, .int .i64 x.1.f, .int .i64 x.1.t, .slice x.1.a x.1.l x.1.c]
def PV.sl (p : PV) : Value := .slice p.a p.l p.c
structure OwK (w : World) (base : Nat) (v : Value) (L : List (PV × List Nat)) : Prop where
  row : w.ownsRow base 34 4 v L.length (kcells L)
  el : ∀ (i : Nat) x, L[i]? = some x → x.1.l = x.2.length ∧ w.ownsRow base 5 1 x.1.sl x.2.length (cellsOf x.2)
  ap : ∀ (i j : Nat) x y, L[i]? = some x → L[j]? = some y → i ≠ j → ∀ g, x.1.sl.ownBlock = some g → y.1.sl.ownBlock ≠ some g
theorem own_blk {w : World} {base e size n g : Nat} {v : Value} {xs : List Value} (h : w.ownsRow base e size v n xs) (hg : v.ownBlock = some g) : ∃ cur, w.heap[g]? = some (.cells cur e) := by
  rcases h.2 with ⟨rfl, _⟩ | ⟨q, cap, cur, rfl, _, hq, _⟩
  · cases hg
  · cases hg
    exact ⟨cur, hq⟩
theorem own_formX {w : World} {base e size n : Nat} {v : Value} {xs : List Value} (h : w.ownsRow base e size v n xs) : ∃ ao cap, v = .slice ao n cap := by
  rcases h.2 with ⟨rfl, rfl⟩ | ⟨g, cap, cur, rfl, _⟩
  · exact ⟨none, 0, rfl⟩
  · exact ⟨some ⟨g, 0, none⟩, cap, rfl⟩
theorem OwK.kinds {w : World} {base : Nat} {v : Value} {L : List (PV × List Nat)} (h : OwK w base v L) {i : Nat} {x : PV × List Nat} (hx : L[i]? = some x) {g : Nat} (hg : x.1.sl.ownBlock = some g) : v.ownBlock ≠ some g := by
  intro e
  obtain ⟨c1, h1⟩ := own_blk (h.el i x hx).2 hg
  obtain ⟨c2, h2⟩ := own_blk h.row e
  rw [h1] at h2
  simp at h2
theorem OwK.fr {w w' : World} {base : Nat} {v : Value} {L : List (PV × List Nat)} {S : Nat → Prop} (h : OwK w base v L) (hf : Fr S w w') (hS : ∀ k, base ≤ k → ¬ S k) : OwK w' base v L :=
  ⟨ownsRow_of_block h.row (fun g hg => hf.block g (h.row.lt g hg).2 (hS g (h.row.lt g hg).1)), fun i x hx => ⟨(h.el i x hx).1, ownsRow_of_block (h.el i x hx).2 (fun g hg => hf.block g ((h.el i x hx).2.lt g hg).2 (hS g ((h.el i x hx).2.lt g hg).1))⟩, h.ap⟩
theorem kcells_app (L : List (PV × List Nat)) (x : PV × List Nat) : kcells (L ++ [x]) = kcells L ++ [.int .i64 x.1.n, .int .i64 x.1.f, .int .i64 x.1.t, .slice x.1.a x.1.l x.1.c] := by simp [kcells]
theorem Try.infoPk : (Try.prog.info? 34).map (fun i => (i.zero, i.size, i.bytes)) = some (some (.agg #[.int .i64 0, .int .i64 0, .int .i64 0, .slice none 0 0]), 4, 48) := by kernel_rfl
/-- packets = append(packets, p). -/
theorem app_pkt (w : World) (base : Nat) (v : Value) (L : List (PV × List Nat)) (x : PV × List Nat) (h : OwK w base v L) (hx : x.1.l = x.2.length) (hxo : w.ownsRow base 5 1 x.1.sl x.2.length (cellsOf x.2)) (hxn : ∀ (i : Nat) y, L[i]? = some y → ∀ g, x.1.sl.ownBlock = some g → y.1.sl.ownBlock ≠ some g) (hl : L.length ≤ 1048576) (hb0 : base ≤ w.heap.size) :
    ∃ ao cap w', (Builtin.append_ #[31, 31] 31 #[v, .slice (some ⟨w.heap.size, 0, none⟩) 1 1]).run Try.prog (w.alloc (.cells #[.int .i64 x.1.n, .int .i64 x.1.f, .int .i64 x.1.t, .slice x.1.a x.1.l x.1.c] 34)) = .ok (.slice ao (L.length + 1) cap) w' ∧ OwK w' base (.slice ao (L.length + 1) cap) (L ++ [x]) ∧ Fr (fun g => v.ownBlock = some g) w w' := by
  obtain ⟨i0, hi, hz0, hz1, hz2⟩ := info_parts Try.infoPk
  have hf1 := box1 w (.cells #[.int .i64 x.1.n, .int .i64 x.1.f, .int .i64 x.1.t, .slice x.1.a x.1.l x.1.c] 34)
  have hb := ownsRow_of_block (w' := w.alloc (.cells #[.int .i64 x.1.n, .int .i64 x.1.f, .int .i64 x.1.t, .slice x.1.a x.1.l x.1.c] 34)) h.row (fun g hg => Below.heap_alloc _ _ _ (h.row.lt g hg).2)
  obtain ⟨v', w', hr, h2, h3, _, h5⟩ := run_append_own_at (P := Try.prog) (w := w.alloc (.cells #[.int .i64 x.1.n, .int .i64 x.1.f, .int .i64 x.1.t, .slice x.1.a x.1.l x.1.c] 34)) base 31 31 34 i0 (.agg #[.int .i64 0, .int .i64 0, .int .i64 0, .slice none 0 0]) 4 48 Try.underlying31 hi hz0 hz1 hz2 rfl (by decide) v L.length (kcells L) hb ⟨w.heap.size, 0, none⟩ 1 1 [.int .i64 x.1.n, .int .i64 x.1.f, .int .i64 x.1.t, .slice x.1.a x.1.l x.1.c] rfl (fun j u hu => by
    rw [addr_add, World.cell?_alloc_at _ _ _ _ rfl]; simpa using hu) (fun u hu => by simp at hu; rcases hu with rfl | rfl | rfl | rfl <;> rfl) (by simp only [maxLen]; omega) (by omega) (by simp; omega)
  obtain ⟨ao, cap, rfl⟩ := own_formX h2
  have hF : Fr (fun g => v.ownBlock = some g) w w' := (hf1.mono (fun _ _ h => h.elim)).grown h3 (fun g hg => .inl hg)
  have hkeep : ∀ y : PV × List Nat, w.ownsRow base 5 1 y.1.sl y.2.length (cellsOf y.2) → w'.ownsRow base 5 1 y.1.sl y.2.length (cellsOf y.2) := fun y hy => ownsRow_of_block hy (fun g hg => hF.block g (hy.lt g hg).2 (fun e => by
    obtain ⟨c1, k1⟩ := own_blk hy hg
    obtain ⟨c2, k2⟩ := own_blk h.row e
    rw [k1] at k2
    simp at k2))
  have hcase : ∀ (i : Nat) y, (L ++ [x])[i]? = some y → (i < L.length ∧ L[i]? = some y) ∨ (i = L.length ∧ y = x) := fun i y hy => by
    by_cases e : i < L.length
    · rw [List.getElem?_append_left e] at hy; exact .inl ⟨e, hy⟩
    · have hlt := (List.getElem?_eq_some_iff.1 hy).1
      simp at hlt
      obtain rfl : i = L.length := by omega
      rw [List.getElem?_concat_length] at hy
      cases hy
      exact .inr ⟨rfl, rfl⟩
  refine ⟨ao, cap, w', hr, ⟨by rw [kcells_app, List.length_append]; exact h2, fun i y hy => ?_, fun i j y z hy hz hij g hg => ?_⟩, hF⟩
  · rcases hcase i y hy with ⟨_, h1⟩ | ⟨_, rfl⟩
    · exact ⟨(h.el i y h1).1, hkeep y (h.el i y h1).2⟩
    · exact ⟨hx, hkeep _ hxo⟩
  · rcases hcase i y hy with ⟨_, h1⟩ | ⟨e1, rfl⟩
    · rcases hcase j z hz with ⟨_, h2⟩ | ⟨e2, rfl⟩
      · exact h.ap i j y z h1 h2 hij g hg
      · exact fun e => hxn i y h1 g e hg
    · rcases hcase j z hz with ⟨_, h2⟩ | ⟨e2, rfl⟩
      · exact hxn j z h2 g hg
      · omega
/-- What Waiting tells. -/
def pkAt (ps : List PK) (z : Int) : Int × Int × Int × List Nat := match ps[(z - 1).toNat]? with
  | some p => (z, p.f, p.t, p.b)
  | none => (z, 0, 0, [])
def wl (ps : List PK) : List (Int × Int × Int × List Nat) := (up ps).map (pkAt ps)
def told (x : PV × List Nat) : Int × Int × Int × List Nat := (x.1.n, x.1.f, x.1.t, x.2)
theorem up_len (ps : List PK) : (up ps).length ≤ ps.length := upK_short ps ps.length
set_option maxHeartbeats 1000000 in
set_option maxRecDepth 100000 in
theorem waiting_any (d m : Nat) (pl : Int) (ps : List PK) (sv : Nat → Option Addr × Nat) (T : Nat → Prop) (w : World) (h : NtAt w d m pl ps sv T) (hn : ps.length ≤ 1048576) :
    Calls Try.prog 11 #[.pointer (some ⟨d, 0, none⟩)] w fun e w' => ∃ v L, e = .returned v ∧ OwK w' w.heap.size v L ∧ L.map told = wl ps ∧ Fr (fun _ => False) w w' := by
  have c1 := h.cells.2.1
  have HS := hide (nsorted_any d m pl ps sv T w h hn)
  have hul : (up ps).length ≤ 1048576 := Nat.le_trans (up_len ps) hn
  have HX := hide h
  have hdl := h.lt.1
  clear h
  go_enter Try.func11, Try.ntmps11
  go_wp2_with fail
  refine (nkeys_any _ _).mono ?_
  rintro e w1 ⟨rfl, rfl⟩
  go_wp2_with fail
  refine (unhide HS).mono ?_
  rintro e w2 ⟨ao, c, rfl, hrow, hf2⟩
  have HR := hide (And.intro hrow hf2)
  clear hrow hf2 HS
  go_wp2_with fail
  go_loopw [3, 13] (fun v iv wr => ∃ (k : Nat) (L : List (PV × List Nat)), k ≤ (up ps).length ∧ iv = .int .i64 k ∧ OwK wr w2.heap.size v L ∧ L.map told = (wl ps).take k ∧ Fr (fun _ => False) w2 wr) (fun _ iv _ => (up ps).length - (intOf iv).toNat)
  case atStart => exact ⟨0, [], Nat.zero_le _, rfl, ⟨World.ownsRow_nil _ _ _ _, fun i x hx => by simp at hx, fun i j x y hx => by simp at hx⟩, by simp, Fr.refl _ _⟩
  case round =>
    obtain ⟨k, L, hk, rfl, hO, hL, hf⟩ := hrel
    rename World => wr
    have HO := hide (And.intro hO (And.intro hL hf))
    obtain ⟨vo, vc, rfl⟩ := own_formX hO.row
    clear hO hL hf
    by_cases hlt : k < (up ps).length
    · obtain ⟨j, p, hz, hp, hp0⟩ := und_some ((up_mem ps _).1 (List.getElem_mem hlt))
      have hrw : wr.ownsRow w.heap.size 3 1 (.slice ao (up ps).length c) (up ps).length ((up ps).map encZ) := ownsRow_of_block (unhide HR).1 (fun g hg => (unhide HO).2.2.block g ((unhide HR).1.lt g hg).2 (fun h => h))
      obtain ⟨g, rfl⟩ : ∃ g, ao = some ⟨g, 0, none⟩ := by
        rcases hrw.2 with ⟨_, e⟩ | ⟨g, c', cur, e, _⟩
        · omega
        · simp only [Value.slice.injEq] at e; exact ⟨g, e.1⟩
      have hcell : wr.cell? ⟨g, k, none⟩ = some (.int .i64 ((j : Int) + 1)) := by
        rw [hrw.cellAt k (by omega), List.getElem?_map, List.getElem?_eq_getElem hlt, hz]
        rfl
      have hNr := (unhide HX).fr0 ((unhide HR).2.trans (unhide HO).2.2 (fun _ _ h => h))
      have c1r := hNr.cells.2.1
      have hlk := hNr.look_yes j p hp hp0 hn false
      simp only [Bool.false_eq_true, if_false] at hlk
      have hsrc := hNr.src j p hp hp0
      have hlim := hNr.lim p (List.mem_of_getElem? hp)
      have HH := hide (handed_any ((j : Int) + 1) p.f p.t _ p.b wr hsrc hlim)
      have htk : (wl ps).take (k + 1) = (wl ps).take k ++ [((j : Int) + 1, p.f, p.t, p.b)] := by
        rw [List.take_add_one]
        congr 1
        rw [wl, List.getElem?_map, List.getElem?_eq_getElem hlt, hz]
        simp [pkAt, hp]
      have HT := hide htk
      have hLl : L.length ≤ 1048576 := by
        have := congrArg List.length (unhide HO).2.1
        simp [wl] at this
        omega
      clear hNr hsrc hz hrw htk hp hp0
      generalize (sv j).1 = sa at *
      generalize (sv j).2 = sc at *
      go_wp2_with fail
      refine (unhide HH).mono ?_
      rintro e w3 ⟨xo, xc, rfl, hx, hf3⟩
      have hO3 : OwK w3 w2.heap.size (.slice vo L.length vc) L := (unhide HO).1.fr hf3 (fun _ _ h => h)
      have hbx := (unhide HO).2.2.size
      obtain ⟨ao', cap', w4, hr4, hO4, hf4⟩ := app_pkt w3 w2.heap.size _ L (⟨(j : Int) + 1, p.f, p.t, xo, p.b.length, xc⟩, p.b) hO3 rfl (own_mono hx hbx) (fun i y hy g hg e => by
        have h1 := (hx.lt g hg).1
        have h2 := (((unhide HO).1.el i y hy).2.lt g e).2
        omega) hLl (Nat.le_trans hbx hf3.size)
      have HR4 := hide hr4
      have hf04 : Fr (fun _ => False) w2 w4 := ((unhide HO).2.2.trans hf3 (fun _ _ h => h)).trans hf4 (fun i hi e => by
        have := ((unhide HO).1.row.lt i e).1
        omega)
      have H4 := hide (And.intro hO4 hf04)
      clear hr4 hO4 hf4 hf04 hO3 hx hf3 HH
      go_wp2_with (at_builtin; refine wpList_app rfl _ _ 31 31 rfl _ _ _ rfl rfl (unhide HR4) ?_)
      go_roundw
      case rel =>
        refine ⟨k + 1, _, by omega, by go_num, (unhide H4).1, ?_, (unhide H4).2⟩
        rw [List.map_append, (unhide HO).2.1, unhide HT]
        rfl
      case measure => simp [intOf]; omega
    · obtain rfl : k = (up ps).length := by omega
      have hfin : OwK wr w.heap.size (.slice vo L.length vc) L := ⟨ownsRow_base (unhide HO).1.row (unhide HR).2.size, fun i x hx => ⟨((unhide HO).1.el i x hx).1, own_mono ((unhide HO).1.el i x hx).2 (unhide HR).2.size⟩, (unhide HO).1.ap⟩
      have hLL : L.map told = wl ps := by
        rw [(unhide HO).2.1]
        exact List.take_of_length_le (by simp [wl])
      have HF := hide (And.intro hfin (And.intro hLL ((unhide HR).2.trans (unhide HO).2.2 (fun _ _ h => h))))
      clear hfin hLL HO HR HX
      go_wp2_with fail
      go_ret
      exact ⟨_, L, rfl, unhide HF⟩
end Go.Proofs.Ytedmhpplhbaglaa
