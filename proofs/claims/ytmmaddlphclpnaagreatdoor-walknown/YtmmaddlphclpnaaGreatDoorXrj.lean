import Derived.Test.YtmmaddlphclpnaaGreatDoorXri
namespace Go.Proofs.YtmmaddlphclpnaaGreatDoor
open Go.RowKit
set_option maxRecDepth 100000

/-- The table and its Once: both new, or both done. -/
def Rdy (w : World) (b t : Nat) : Prop := (OnceAt w b 0 ∧ TabAt w t (fun _ => 0)) ∨ (OnceAt w b 1 ∧ TabAt w t Tb)
theorem do_any (b t : Nat) (hbt : b ≠ t) (w : World) (h : Rdy w b t) :
    Calls Tryz.prog 132 #[.pointer (some ⟨b, 0, none⟩), .func (.func 133) #[.pointer (some ⟨t, 0, none⟩)] #[]] w fun e w' => e = .returned (.tuple #[]) ∧
      OnceAt w' b 1 ∧ TabAt w' t Tb ∧ Fr (fun k => k = b ∨ k = t) w w' ∧ w'.heap.size = w.heap.size := by
  rcases h with ⟨h1, h2⟩ | ⟨h1, h2⟩
  · exact do_first b t hbt w h1 h2
  · refine (do_done b _ w h1).mono ?_
    rintro e w' ⟨rfl, rfl⟩
    exact ⟨rfl, h1, h2, Fr.refl _ _, rfl⟩
theorem not_u32 (s : Nat) (h : s < 4294967296) : bits .xor .u32 IntKind.u32.max (s : Int) = ((s ^^^ 4294967295 : Nat) : Int) := by
  have e : bits .xor .u32 IntKind.u32.max (s : Int) = bits .xor .u32 ((4294967295 : Nat) : Int) (s : Int) := rfl
  rw [e, xor_u32 4294967295 s all_lt h, Nat.xor_comm]
theorem rep_at (j : Nat) (h : j < 256) : (Array.replicate 256 (Value.int .u32 0))[j]? = some (.int .u32 0) := by rw [Array.getElem?_replicate, if_pos h]
theorem zero_tab (w : World) : (zeroValue 178).run Tryz.prog w = .ok (.agg (Array.replicate 256 (.int .u32 0))) w := by kernel_rfl
theorem zero_once (w : World) : (zeroValue 189).run Tryz.prog w = .ok (.agg #[.int .u32 0, .int .i32 0, .int .u32 0]) w := by kernel_rfl
set_option maxRecDepth 100000 in
theorem up_any (s : Nat) (x : Value) (l : List Nat) (w : World) (hs : s < 4294967296) (hx : Src w x l) (hl : l.length ≤ 140737488355328) :
    Calls Tryz.prog 107 #[.int .u32 s, x] w fun e w' => e = .returned (.int .u32 (Sm s l : Nat)) ∧ Fr (fun _ => False) w w' := by
  have hmf : ∀ (fn : Fn) (first cap : Array Value) (w : World), (Instr.makeFunc fn first cap).run Tryz.prog w = .ok (.func fn first cap) w := fun _ _ _ _ => rfl
  have hsg : IntKind.u32.signed = false := rfl
  have hz1 := zero_tab
  have hz2 := zero_once
  have hn := not_u32 s hs
  have hsl := not_lt s hs
  have hd : Sm s l = Up (s ^^^ 4294967295) (nb l) ^^^ 4294967295 := rfl
  rw [hd]
  clear hd
  generalize s ^^^ 4294967295 = d at *
  have HX := hide hx
  obtain ⟨xo, xc, rfl⟩ := hx.form
  clear hx
  go_enter Tryz.func107, Tryz.ntmps107
  go_wp2_with fail
  go_loopw [7, 14] (fun c i wr => ∃ k : Nat, k ≤ l.length ∧ i = .int .i64 k ∧ c = .int .u32 (Up d (nb (l.take k)) : Nat) ∧ Rdy wr (w.heap.size + 1) w.heap.size ∧ Fr (fun _ => False) w wr) (fun _ i _ => l.length - (intOf i).toNat)
  case atStart =>
    refine ⟨0, Nat.zero_le _, rfl, rfl, .inl ⟨⟨?_, ?_, ?_, ?_⟩, fun j hj => ⟨?_, ?_⟩⟩, ((Fr.refl _ _).alloc _).alloc _⟩
    · rw [show w.heap.size + 1 = (w.alloc (Obj.cells (Array.replicate 256 (Value.int IntKind.u32 0)) 178)).heap.size by simp, World.cell?_alloc_at _ _ _ _ rfl]; rfl
    · rw [show w.heap.size + 1 = (w.alloc (Obj.cells (Array.replicate 256 (Value.int IntKind.u32 0)) 178)).heap.size by simp, World.cell?_alloc_at _ _ _ _ rfl]; rfl
    · rw [show w.heap.size + 1 = (w.alloc (Obj.cells (Array.replicate 256 (Value.int IntKind.u32 0)) 178)).heap.size by simp, World.frozen?_alloc_at _ _ _ _ rfl]
    · rw [show w.heap.size + 1 = (w.alloc (Obj.cells (Array.replicate 256 (Value.int IntKind.u32 0)) 178)).heap.size by simp, World.frozen?_alloc_at _ _ _ _ rfl]
    · rw [World.cell?_alloc_past _ _ _ (by simp), World.cell?_alloc_at _ _ _ _ rfl, rep_at j hj]; rfl
    · rw [World.frozen?_alloc_past _ _ _ (by simp), World.frozen?_alloc_at _ _ _ _ rfl]
  case round =>
    obtain ⟨k, hk, rfl, rfl, hR, hF⟩ := hrel
    rename World => wr
    have hul := Up_lt _ _ hsl (nb_lt (l.take k))
    by_cases hlt : k < l.length
    · obtain ⟨g, o, rfl, hc⟩ := src_at ((unhide HX).fr0 hF) k hlt
      have hs2 : Up d (nb (l.take (k + 1))) = Up d (nb (l.take k)) / 256 ^^^ Tb (Up d (nb (l.take k)) % 256 ^^^ l[k] % 256) := by rw [nb_take l k hlt, Up_snoc, by_tab]
      have hbl : l[k] % 256 < 256 := Nat.mod_lt _ (by decide)
      have HR := hide (And.intro hR hF)
      clear hR hF
      generalize Up d (nb (l.take k)) = y at *
      generalize l[k] % 256 = b at *
      have hyl : y % 256 < 256 := Nat.mod_lt _ (by decide)
      have hix : y % 256 ^^^ b < 256 := Nat.xor_lt_two_pow (n := 8) hyl hbl
      have hx8 : bits .xor .u8 ((y : Int) % 256) (b : Int) = ((y % 256 ^^^ b : Nat) : Int) := by
        rw [show (y : Int) % 256 = ((y % 256 : Nat) : Int) by omega]
        exact u8_xor_nat _ _ hyl hbl
      have htl : Tb (y % 256 ^^^ b) < 4294967296 := Xn_lt 8 _ (by omega)
      generalize y % 256 ^^^ b = q at *
      have hx32 : bits .xor .u32 ((y : Int) / 256) (Tb q : Nat) = ((y / 256 ^^^ Tb q : Nat) : Int) := by
        rw [show (y : Int) / 256 = ((y / 256 : Nat) : Int) by omega]
        exact xor_u32 _ _ (by omega) htl
      have HS := hide hs2
      clear hs2
      generalize hT : Tb q = tv at *
      have HT := hide hT
      clear hT
      go_wp2_with fail
      refine (do_any (w.heap.size + 1) w.heap.size (by omega) _ (unhide HR).1).mono ?_
      rintro e w2 ⟨rfl, h1, h2, h3, h4⟩
      have hct := (h2 q hix).1
      rw [unhide HT] at hct
      have HE := hide (And.intro h1 (And.intro h2 h3))
      clear h1 h2 h3 h4
      have q1 : (q : Int) < 256 := by omega
      go_wp2_with fail
      refine ⟨⟨k + 1, by omega, by go_num, by rw [unhide HS], .inr ⟨(unhide HE).1, (unhide HE).2.1⟩, ?_⟩, by simp [intOf]; omega⟩
      refine Fr.trans (unhide HR).2 ((unhide HE).2.2.mono (T := fun k => w.heap.size ≤ k) (fun i _ h => ?_)) (fun i hi h => by omega)
      omega
    · have e : l.take k = l := List.take_of_length_le (by omega)
      rw [e] at hul ⊢
      have hxx := not_u32 _ hul
      have HR := hide (And.intro hR hF)
      clear e hR hF
      generalize hz : Up d (nb l) = z at *
      have HZ := hide hz
      clear hz
      go_wp2_with fail
      go_ret
      exact ⟨by rw [unhide HZ]; rfl, (unhide HR).2⟩
end Go.Proofs.YtmmaddlphclpnaaGreatDoor
