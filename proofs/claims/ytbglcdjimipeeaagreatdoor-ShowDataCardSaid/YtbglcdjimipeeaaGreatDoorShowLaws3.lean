/-
  P7.1's law: a datum as text is the document's. Conditions: the argument's reading; the numbers' table.
-/
import Derived.Test.YtbglcdjimipeeaaGreatDoorShowFew
import Derived.Test.YtbglcdjimipeeaaGreatDoorShowRef
import Derived.Test.YtbglcdjimipeeaaGreatDoorShowShown
namespace Go.Proofs.YtbglcdjimipeeaaGreatDoor
open Go.RowKit
set_option linter.unusedVariables false
namespace SW
open LX RX RW6 RM6 SX
theorem few7_ni (a : Option Addr) (len cap : Nat) (tl : List Na) (w0 w : World) (hz : Nas w0 a len cap tl) (hF : MM.Far [] w0 w) (ns : List Ni) (n : Nat) (hns : (gath7 tl len).map Na.ni = ns) (hn : ns.length = n) :
    Calls Tryz.prog 11 #[.slice a len cap] w fun e w' => ∃ A c, e = .returned (.slice A n c) ∧ NiRow w' [] A ns ∧ MM.Far [] w w' := by
  have hz2 := hz.far hF
  refine (few7_any a len cap tl w hz2).mono ?_
  rintro e w' ⟨v, rfl, hG, hF2⟩
  subst hns
  obtain ⟨A, c, rfl, k0, k1, k2, k3, hh⟩ := MO.form hG
  refine ⟨A, c, by rw [← hn, List.length_map], fun k hk => ?_, hF2⟩
  have hk2 : k < (gath7 tl len).length := by simpa using hk
  rcases hh with ⟨_, hz, _⟩ | ⟨g, rfl, _, hlt⟩
  · omega
  have hmem := List.getElem_mem hk2
  have hc (j : Nat) (hj : j < 5) (u : Value) (hu : ((gath7 tl len)[k]).cells[j]? = some u) : w'.cell? ⟨g, 0 + k * 5 + j, none⟩ = some u := by
    have := @World.ownsRow.cells w' _ _ _ _ _ _ hG g rfl (k * 5 + j) u ((flat_at _ k hk2 j hj).trans hu)
    rw [MM.head_add] at this
    rw [Nat.zero_add]; exact this
  rw [List.getElem_map]
  generalize (gath7 tl len)[k] = t at *
  unfold gath7 at hmem
  obtain ⟨t0, ht0, rfl⟩ := List.mem_map.1 hmem
  obtain ⟨i, hi, rfl⟩ := List.getElem_of_mem (List.mem_of_mem_take ht0)
  obtain ⟨_, _, _, _, _, ho⟩ := hz2.elems i _ (List.getElem?_eq_getElem hi)
  have hlen : ((tl[i]).zs.take 20).length = min (tl[i]).l 20 := by rw [List.length_take, ho.hz.len_]; omega
  refine ⟨g, 0, (tl[i]).A, (tl[i]).c, rfl, by simp, hlt, hc 0 (by omega) _ rfl, hc 1 (by omega) _ rfl, hc 2 (by omega) _ rfl, hc 3 (by omega) _ rfl, ?_, (irow_take ho.hz.src 20).far hF2⟩
  have h4 := hc 4 (by omega) _ rfl
  rw [h4]
  show some (Value.slice _ (min (tl[i]).l 20) _) = some (Value.slice _ ((tl[i]).zs.take 20).length _)
  rw [hlen]
  rfl
theorem nd_of_ni {w : World} {A : Option Addr} {ns : List Ni} (h : NiRow w [] A ns) (hb : (ns.map toD).map toI = ns) : NdRow w A (ns.map toD) := by
  intro k hk
  have hk2 : k < ns.length := by simpa using hk
  obtain ⟨b, o, LA, c, e, _, hlt, c0, c1, c2, c3, c4, hI⟩ := h k hk2
  have hx : toI (ns.map toD)[k] = ns[k] := by
    have := congrArg (fun l => l[k]?) hb
    simp only [List.getElem?_map, List.getElem?_eq_getElem hk2, Option.map_some] at this
    rw [List.getElem_map]
    exact Option.some.inj this
  rw [← hx] at c0 c1 c2 c3 c4 hI
  generalize (ns.map toD)[k] = x at *
  refine ⟨b, o, LA, c, e, hlt, c0, c1, c2, c3, ?_, fun j hj => ?_⟩
  · rw [c4]
    simp [toI]
  · obtain ⟨b2, o2, e2, _, hb2, hc⟩ := hI j (by unfold toI; simpa using hj)
    refine ⟨b2, o2, e2, hb2, ?_⟩
    rw [hc]
    simp [toI]
/-- What Datum answers. -/
def isD (ns : List Ni) (i : Int) : Bool := may ns && (decide (0 ≤ i) && decide (i < ns.length))
def sdS (ns : List Ni) (i : Int) : ByteArray := if isD ns i = true then str (dt (ns.map toD) i.toNat) else ⟨#[]⟩
def sdE (ns : List Ni) (i : Int) : Int := if isD ns i = true then 0 else 1
/-- Data that are cut. -/
structure Few (ns : List Ni) : Prop where
  len_ : ns.length ≤ 60
  s : ∀ x ∈ ns, x.s.size ≤ 40
  l : ∀ x ∈ ns, x.l.length ≤ 20
  n : ∀ x ∈ ns, -9223372036854775808 ≤ x.n ∧ x.n ≤ 9223372036854775807
theorem Few.dt {ns : List Ni} (h : Few ns) (hm : may ns = true) : (ns.map toD).map toI = ns ∧ Ok (ns.map toD) ∧ ∀ i, i < ns.length → (SX.dt (ns.map toD) i).length ≤ 1099511627776 := by
  obtain ⟨h1, h2, h3⟩ := may_rows ns hm 40 20 (by omega) h.s h.l h.n
  refine ⟨h1, h2, fun i hi => ?_⟩
  have h4 := h3 i hi
  have h5 := h.len_
  have : (i + 1) * (40 + 20 + 24) ≤ 60 * 84 := Nat.mul_le_mul (by omega) (by omega)
  omega
set_option maxHeartbeats 2000000 in
set_option maxRecDepth 20000 in
theorem cdatum_any {A : Option Addr} {c : Nat} (ns : List Ni) (n : Nat) (hn : ns.length = n) (hf : Few ns) (w : World) (hN : NiRow w [] A ns) (hT : Tab w) (i : Int) :
    Calls Tryz.prog 10 #[.slice A n c, .int .i64 i] w fun e w' => e = .returned (.tuple #[.string (sdS ns i), .int .i64 (sdE ns i)]) ∧ MM.Far [] w w' := by
  have hl60 := hf.len_
  have hn60 : n ≤ 60 := by omega
  by_cases hd : isD ns i = true
  · have hd2 := hd
    unfold isD at hd2
    simp only [Bool.and_eq_true, decide_eq_true_eq] at hd2
    obtain ⟨hm, h0, h1⟩ := hd2
    obtain ⟨b1, b2, b3⟩ := hf.dt hm
    obtain ⟨j, rfl⟩ : ∃ j : Nat, i = (j : Int) := ⟨i.toNat, by omega⟩
    have := datum_ok (DA := A) (n := n) (c := c) (ns.map toD) (by rw [List.length_map]; exact hn) (by omega) b2 (fun x hx => by
      obtain ⟨y, hy, rfl⟩ := List.mem_map.1 hx
      have := hf.l y hy
      show (y.l.map Int.toNat).length ≤ 100000
      rw [List.length_map]; omega) (by rw [b1]; exact hm) w (nd_of_ni hN b1) hT j (by omega) (b3 j (by omega))
    unfold sdS sdE
    rw [if_pos hd, if_pos hd, Int.toNat_natCast]
    exact this
  · have HM := Lib.hid (may_any ns n hn (by omega) (fun x hx => by have := hf.l x hx; omega) A c w hN)
    have HE : Hid (sdS ns i = ⟨#[]⟩ ∧ sdE ns i = 1) := Lib.hid ⟨by unfold sdS; rw [if_neg hd], by unfold sdE; rw [if_neg hd]⟩
    rw [HE.out.1, HE.out.2]
    have hnm : may ns = true → i < 0 ∨ (n : Int) ≤ i := fun hm => by
      unfold isD at hd
      simp only [Bool.and_eq_true, decide_eq_true_eq] at hd
      rcases Classical.em (i < 0) with h | h
      · exact .inl h
      · rcases Classical.em ((n : Int) ≤ i) with h2 | h2
        · exact .inr h2
        · exact absurd ⟨hm, by omega, by omega⟩ hd
    obtain ⟨M, hM⟩ : ∃ M, may ns = M := ⟨_, rfl⟩
    rw [hM] at HM hnm
    clear hM hd hf hN hT hn hl60
    cases M with
    | false =>
      clear hnm
      go_enter Tryz.func10, Tryz.ntmps10
      go_wp2_with (first
        | (go_at_call 28; (with_reducible refine HM.out.mono ?_); rintro e w1 ⟨rfl, hF1⟩; have HF1 := Lib.hid hF1; clear hF1))
      go_ret2
      exact ⟨rfl, HF1.out⟩
    | true =>
      have hnm := hnm rfl
      by_cases h0 : i < 0
      · clear hnm
        go_enter Tryz.func10, Tryz.ntmps10
        go_wp2_with (first
          | (go_at_call 28; (with_reducible refine HM.out.mono ?_); rintro e w1 ⟨rfl, hF1⟩; have HF1 := Lib.hid hF1; clear hF1))
        go_ret2
        exact ⟨rfl, HF1.out⟩
      · have h1 : (n : Int) ≤ i := by omega
        clear hnm
        go_enter Tryz.func10, Tryz.ntmps10
        go_wp2_with (first
          | (go_at_call 28; (with_reducible refine HM.out.mono ?_); rintro e w1 ⟨rfl, hF1⟩; have HF1 := Lib.hid hF1; clear hF1))
        go_ret2
        exact ⟨rfl, HF1.out⟩
set_option maxHeartbeats 2000000 in
set_option maxRecDepth 20000 in
theorem ddatum_any {A : Option Addr} {c : Nat} (ns : List Ni) (n : Nat) (hn : ns.length = n) (hf : Few ns) (w : World) (hN : NiRow w [] A ns) (i : Int) :
    Calls Tryz.prog 12 #[.slice A n c, .int .i64 i] w fun e w' => e = .returned (.tuple #[.string (sdS ns i), .int .i64 (sdE ns i)]) ∧ MM.Far [] w w' := by
  have hl60 := hf.len_
  have hn60 : n ≤ 60 := by omega
  have HM := Lib.hid (dmay_any ns n hn (by omega) (fun x hx => by have := hf.l x hx; omega) A c w hN)
  by_cases hd : isD ns i = true
  · have hd2 := hd
    unfold isD at hd2
    simp only [Bool.and_eq_true, decide_eq_true_eq] at hd2
    obtain ⟨hm, h0, h1⟩ := hd2
    obtain ⟨b1, b2, b3⟩ := hf.dt hm
    obtain ⟨j, rfl⟩ : ∃ j : Nat, i = (j : Int) := ⟨i.toNat, by omega⟩
    have HD := Lib.hid (rdatum_any (DA := A) (n := n) (c := c) (ns.map toD) (by rw [List.length_map]; exact hn) b2 w (nd_of_ni hN b1) j (by omega) (b3 j (by omega)))
    unfold sdS sdE
    rw [if_pos hd, if_pos hd, Int.toNat_natCast]
    rw [hm] at HM
    have g0 : ¬ ((j : Int) < 0) := by omega
    have g1 : ¬ ((n : Int) ≤ (j : Int)) := by omega
    clear hd hm h0 h1 b1 b2 b3 hf hN hn hl60
    go_enter Tryz.func12, Tryz.ntmps12
    go_wp2_with (first
      | (go_at_call 32; (with_reducible refine HM.out.mono ?_); rintro e w1 ⟨rfl, hF1⟩; have HF1 := Lib.hid hF1; clear hF1)
      | (go_at_call 33; (with_reducible refine (HD.out _ HF1.out).mono ?_); rintro e w2 ⟨rfl, hF2⟩; have HF2 := Lib.hid hF2; clear hF2))
    go_ret2
    exact ⟨rfl, HF1.out.trans HF2.out (by simp)⟩
  · have HE : Hid (sdS ns i = ⟨#[]⟩ ∧ sdE ns i = 1) := Lib.hid ⟨by unfold sdS; rw [if_neg hd], by unfold sdE; rw [if_neg hd]⟩
    rw [HE.out.1, HE.out.2]
    have hnm : may ns = true → i < 0 ∨ (n : Int) ≤ i := fun hm => by
      unfold isD at hd
      simp only [Bool.and_eq_true, decide_eq_true_eq] at hd
      rcases Classical.em (i < 0) with h | h
      · exact .inl h
      · rcases Classical.em ((n : Int) ≤ i) with h2 | h2
        · exact .inr h2
        · exact absurd ⟨hm, by omega, by omega⟩ hd
    obtain ⟨M, hM⟩ : ∃ M, may ns = M := ⟨_, rfl⟩
    rw [hM] at HM hnm
    clear hM hd hf hN hn hl60
    cases M with
    | false =>
      clear hnm
      go_enter Tryz.func12, Tryz.ntmps12
      go_wp2_with (first
        | (go_at_call 32; (with_reducible refine HM.out.mono ?_); rintro e w1 ⟨rfl, hF1⟩; have HF1 := Lib.hid hF1; clear hF1))
      go_ret2
      exact ⟨rfl, HF1.out⟩
    | true =>
      have hnm := hnm rfl
      by_cases h0 : i < 0
      · clear hnm
        go_enter Tryz.func12, Tryz.ntmps12
        go_wp2_with (first
          | (go_at_call 32; (with_reducible refine HM.out.mono ?_); rintro e w1 ⟨rfl, hF1⟩; have HF1 := Lib.hid hF1; clear hF1))
        go_ret2
        exact ⟨rfl, HF1.out⟩
      · have h1 : (n : Int) ≤ i := by omega
        clear hnm
        go_enter Tryz.func12, Tryz.ntmps12
        go_wp2_with (first
          | (go_at_call 32; (with_reducible refine HM.out.mono ?_); rintro e w1 ⟨rfl, hF1⟩; have HF1 := Lib.hid hF1; clear hF1))
        go_ret2
        exact ⟨rfl, HF1.out⟩
theorem few7_few (w : World) (a : Option Addr) (len cap : Nat) (tl : List Na) (hz : Nas w a len cap tl) : Few ((gath7 tl len).map Na.ni) := by
  have hall : ∀ x ∈ (gath7 tl len).map Na.ni, ∃ t : Na, t.Ok w ∧ x = (cut7 t).ni := fun x hx => by
    obtain ⟨t, ht, rfl⟩ := List.mem_map.1 hx
    unfold gath7 at ht
    obtain ⟨t0, ht0, rfl⟩ := List.mem_map.1 ht
    obtain ⟨i, hi, rfl⟩ := List.getElem_of_mem (List.mem_of_mem_take ht0)
    obtain ⟨_, _, _, _, _, ho⟩ := hz.elems i _ (List.getElem?_eq_getElem hi)
    exact ⟨_, ho, rfl⟩
  refine ⟨by rw [List.length_map]; exact gath7_le tl len, fun x hx => ?_, fun x hx => ?_, fun x hx => ?_⟩
  · obtain ⟨t, _, rfl⟩ := hall x hx
    show (t.s.extract 0 (min t.s.size 40)).size ≤ 40
    rw [ByteArray.size_extract]; omega
  · obtain ⟨t, _, rfl⟩ := hall x hx
    show (t.zs.take 20).length ≤ 20
    rw [List.length_take]; omega
  · obtain ⟨t, ho, rfl⟩ := hall x hx
    have := ho.hi
    show -9223372036854775808 ≤ t.n ∧ t.n ≤ 9223372036854775807
    simp [Lit.wf, IntKind.min, IntKind.max, IntKind.signed, IntKind.bits] at this
    omega
set_option maxHeartbeats 2000000 in
set_option maxRecDepth 20000 in
theorem data_law (a : Option Addr) (len cap : Nat) (tl : List Na) (i : Int) (w : World) (hz : Nas w a len cap tl) (hT : Tab w) :
    Calls Tryz.prog 3 #[.slice a len cap, .int .i64 i] w fun e w' => e = .returned (.bool true) ∧ Below w.heap.size w w' := by
  have hfew := few7_few w a len cap tl hz
  obtain ⟨ns, hns⟩ : ∃ ns, (gath7 tl len).map Na.ni = ns := ⟨_, rfl⟩
  rw [hns] at hfew
  obtain ⟨n, hn⟩ : ∃ n, ns.length = n := ⟨_, rfl⟩
  have HFW := Lib.hid (fun (w1 : World) (h : MM.Far [] w w1) => few7_ni a len cap tl w w1 hz h ns n hns hn)
  have HC := Lib.hid (fun (A : Option Addr) (c : Nat) (w1 : World) (h : NiRow w1 [] A ns) (f : MM.Far [] w w1) => cdatum_any (A := A) (c := c) ns n hn hfew w1 h (hT.far f) i)
  have HD := Lib.hid (fun (A : Option Addr) (c : Nat) (w1 : World) (h : NiRow w1 [] A ns) => ddatum_any (A := A) (c := c) ns n hn hfew w1 h i)
  have HS := Lib.hid (fun (w1 : World) (f : MM.Far [] w w1) => shown_any w1 (hT.far f))
  obtain ⟨S, hS⟩ : ∃ S, sdS ns i = S := ⟨_, rfl⟩
  obtain ⟨E, hE⟩ : ∃ E, sdE ns i = E := ⟨_, rfl⟩
  rw [hS, hE] at HC HD
  clear hS hE hfew hns hn hz hT
  go_enter Tryz.func3, Tryz.ntmps3
  go_wp2_with (first
    | (go_at_call 11; refine (HFW.out _ (MM.Far.refl [] w)).mono ?_; rintro e w2 ⟨A2, c2, rfl, hN2, hF2⟩; have HN2 := Lib.hid hN2; have HF2 := Lib.hid hF2; clear hF2 hN2)
    | (go_at_call 10; refine (HC.out _ _ _ HN2.out HF2.out).mono ?_; rintro e w3 ⟨rfl, hF3⟩; have HF3 := Lib.hid (HF2.out.trans hF3 (by simp)); clear hF3 HF2)
    | (go_at_call 11; refine (HFW.out _ HF3.out).mono ?_; rintro e w4 ⟨A4, c4, rfl, hN4, hF4⟩; have HN4 := Lib.hid hN4; have HF4 := Lib.hid (HF3.out.trans hF4 (by simp)); clear hF4 hN4 HF3)
    | (go_at_call 12; refine (HD.out _ _ _ HN4.out).mono ?_; rintro e w5 ⟨rfl, hF5⟩; have HF5 := Lib.hid (HF4.out.trans hF5 (by simp)); clear hF5 HF4)
    | (go_at_call 13; refine (HS.out _ HF5.out).mono ?_; rintro e w6 ⟨rfl, hF6⟩; have HF6 := Lib.hid (HF5.out.trans hF6 (by simp)); clear hF6 HF5))
  go_ret
  exact ⟨by first | rfl | simp, HF6.out.below_nil⟩
end SW
end Go.Proofs.YtbglcdjimipeeaaGreatDoor
