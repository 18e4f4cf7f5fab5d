/-
  Contracts of layer 2's Get, Kind, Len and Set, of a nil arena as well. Conditions: the arena's rows are as the document's list of things says, a word lies in 64 bits.
-/
import Derived.Test.YtcfepiihjbbnaaaArenaWalks2
namespace Go.Proofs.Ytcfepiihjbbnaaa
open Go.RowKit
namespace AW
def getE (ts : List AP.Th) (x j : Int) : Int := match look ts x with | none => 2 | some i => if 0 ≤ j ∧ j < (AP.th ts i).l.length then 0 else 1
def getW (ts : List AP.Th) (x j : Int) : Int := match look ts x with | none => 0 | some i => if 0 ≤ j ∧ j < (AP.th ts i).l.length then (AP.th ts i).l.getD j.toNat 0 else 0
def kindN (ts : List AP.Th) (x : Int) : Int := match look ts x with | none => 0 | some i => (AP.th ts i).k
def lenN (ts : List AP.Th) (x : Int) : Int := match look ts x with | none => 0 | some i => (AP.th ts i).l.length
def setT (ts : List AP.Th) (x j v : Int) : List AP.Th := match look ts x with | none => ts | some i => if 0 ≤ j ∧ j < (AP.th ts i).l.length then AP.put ts i j.toNat v else ts
theorem ret_u {k : IntKind} {a b : Int} (h : a = b) : Ending.returned (.int k a) = .returned (.int k b) := by rw [h]
theorem ret_uu {k k' : IntKind} {a b c d : Int} (h : a = b) (h' : c = d) : Ending.returned (.tuple #[.int k a, .int k' c]) = .returned (.tuple #[.int k b, .int k' d]) := by rw [h, h']
section
variable {w : World} {p g h n : Nat} {ts : List AP.Th}
theorem look_idx {x : Int} {a i : Nat} (hi : look ts x = some i) (ha : WP.toN 1 x = a) : AP.idx ts a = some i := by
  unfold look at hi
  split at hi
  · rw [ha] at hi; simpa using hi
  · cases hi
theorem get_any (hA : Ar w p g h n ts) (x : Int) (hx : WP.U x) (j : Int) :
    Calls Try.prog 16 #[ptr p, .int .u64 x, .int .i64 j] w fun e w' => e = .returned (.tuple #[.int .u64 (getW ts x j), .int .i64 (getE ts x j)]) ∧ w = w' := by
  have HX := Lib.hid hx
  have HA := Lib.hid hA
  cases hl : look ts x with
  | none =>
    have H1 := Lib.hid (show getW ts x j = 0 by simp [getW, hl])
    have H2 := Lib.hid (show getE ts x j = 2 by simp [getE, hl])
    have HN := Lib.hid hl
    clear hx hA hl
    go_enter Try.func16, Try.ntmps16
    go_wp2_with (first | (go_at_call 31; refine (field_none HA.out _ HX.out _ HN.out).mono ?_; rintro e w' ⟨rfl, rfl⟩))
    go_ret2
    exact ⟨ret_uu H1.out.symm H2.out.symm, rfl⟩
  | some i =>
    by_cases hj : 0 ≤ j ∧ j < (AP.th ts i).l.length
    · obtain ⟨a, ha, hal⟩ := toN_nat x hx
      obtain ⟨k, rfl⟩ : ∃ k : Nat, j = k := ⟨j.toNat, by omega⟩
      have hk : k < (AP.th ts i).l.length := by omega
      have hc := at_word hA (look_idx hl ha) hk
      have hb := (at_len hA (look_idx hl ha)).2
      obtain ⟨v, hv⟩ : ∃ v, (AP.th ts i).l[k] = v := ⟨_, rfl⟩
      rw [hv] at hc
      have H1 := Lib.hid (show getW ts x k = v by simp [getW, hl, hk, hv])
      have H2 := Lib.hid (show getE ts x k = 0 by simp [getE, hl, hk])
      have HN := Lib.hid hl
      have HP := Lib.hid ha
      have HK := Lib.hid hk
      clear hx hA hl ha hv hk hj hb
      go_enter Try.func16, Try.ntmps16
      go_wp2_with (first | (go_at_call 31; refine (field_in HA.out _ HX.out _ i a HN.out HP.out HK.out).mono ?_; rintro e w' ⟨rfl, rfl⟩))
      go_ret2
      exact ⟨ret_uu H1.out.symm H2.out.symm, rfl⟩
    · have H1 := Lib.hid (show getW ts x j = 0 by simp only [getW, hl]; rw [if_neg hj])
      have H2 := Lib.hid (show getE ts x j = 1 by simp only [getE, hl]; rw [if_neg hj])
      have HN := Lib.hid hl
      have HJ := Lib.hid hj
      clear hx hA hl hj
      go_enter Try.func16, Try.ntmps16
      go_wp2_with (first | (go_at_call 31; refine (field_out HA.out _ HX.out _ i HN.out HJ.out).mono ?_; rintro e w' ⟨rfl, rfl⟩))
      go_ret2
      exact ⟨ret_uu H1.out.symm H2.out.symm, rfl⟩
theorem kind_any (hA : Ar w p g h n ts) (x : Int) (hx : WP.U x) :
    Calls Try.prog 13 #[ptr p, .int .u64 x] w fun e w' => e = .returned (.int .i64 (kindN ts x)) ∧ w = w' := by
  have HX := Lib.hid hx
  have HA := Lib.hid hA
  cases hl : look ts x with
  | none =>
    have H1 := Lib.hid (show kindN ts x = 0 by simp [kindN, hl])
    have HN := Lib.hid hl
    clear hx hA hl
    go_enter Try.func13, Try.ntmps13
    go_wp2_with (first | (go_at_call 28; refine (find_no HA.out _ HX.out HN.out).mono ?_; rintro e w' ⟨rfl, rfl⟩))
    go_ret
    exact ⟨ret_u H1.out.symm, rfl⟩
  | some i =>
    obtain ⟨a, ha, hal⟩ := toN_nat x hx
    have hi2 := look_idx hl ha
    have hb := (at_len hA hi2).2
    have hlt := AP.idx_lt hi2
    have hke := hA.ok.each i hb.2.2.2.2
    obtain ⟨k, hk⟩ : ∃ k, k = (AP.th ts i).k := ⟨_, rfl⟩
    have hc := hA.kinds.at (i := a) (v := .int .u8 k) (by
      unfold U8s
      rw [List.getElem?_map, AP.kinds_at n ts a hlt]
      simp [AP.kindAt, hi2, hk])
    have h1 := hA.head.at (i := 1) rfl
    have H1 := Lib.hid (show kindN ts x = k by simp [kindN, hl, hk])
    rw [← hk] at hke
    have hk0 : 1 ≤ k := hke.1
    have hk9 : k ≤ 9 := hke.2.1
    have han : a < n := by omega
    have hn6 : n ≤ 65536 := hA.ok.size
    have HN := Lib.hid hl
    have HP := Lib.hid ha
    clear hx hA hl ha hke hk hb hi2 hlt
    go_enter Try.func13, Try.ntmps13
    go_wp2_with (first | (go_at_call 28; refine (find_yes HA.out _ HX.out i a HN.out HP.out).mono ?_; rintro e w' ⟨rfl, rfl⟩))
    go_ret
    exact ⟨ret_u H1.out.symm, rfl⟩
theorem len_any (hA : Ar w p g h n ts) (x : Int) (hx : WP.U x) :
    Calls Try.prog 15 #[ptr p, .int .u64 x] w fun e w' => e = .returned (.int .i64 (lenN ts x)) ∧ w = w' := by
  have HX := Lib.hid hx
  have HA := Lib.hid hA
  cases hl : look ts x with
  | none =>
    have H1 := Lib.hid (show lenN ts x = 0 by simp [lenN, hl])
    have HN := Lib.hid hl
    clear hx hA hl
    go_enter Try.func15, Try.ntmps15
    go_wp2_with (first | (go_at_call 28; refine (find_no HA.out _ HX.out HN.out).mono ?_; rintro e w' ⟨rfl, rfl⟩))
    go_ret
    exact ⟨ret_u H1.out.symm, rfl⟩
  | some i =>
    obtain ⟨a, ha, hal⟩ := toN_nat x hx
    have hi2 := look_idx hl ha
    have HI2 := Lib.hid hi2
    obtain ⟨L, hL⟩ : ∃ L, (AP.th ts i).l.length = L := ⟨_, rfl⟩
    have H1 := Lib.hid (show lenN ts x = L by simp [lenN, hl, hL])
    have HL := Lib.hid hL
    have HN := Lib.hid hl
    have HP := Lib.hid ha
    clear hx hA hl ha hL hi2
    go_enter Try.func15, Try.ntmps15
    rcases Nat.eq_zero_or_pos L with h0 | h0
    · subst h0
      go_wp2_with (first | (go_at_call 28; refine (find_yes HA.out _ HX.out i a HN.out HP.out).mono ?_; rintro e w' ⟨rfl, rfl⟩) | (go_at_call 30; refine (fields_zero HA.out i a HI2.out HL.out).mono ?_; rintro e w' ⟨⟨ad, rfl⟩, rfl⟩))
      go_ret
      exact ⟨ret_u H1.out.symm, rfl⟩
    · go_wp2_with (first | (go_at_call 28; refine (find_yes HA.out _ HX.out i a HN.out HP.out).mono ?_; rintro e w' ⟨rfl, rfl⟩) | (go_at_call 30; refine (fields_pos HA.out i a HI2.out L HL.out h0).mono ?_; rintro e w' ⟨rfl, rfl⟩))
      go_ret
      exact ⟨ret_u H1.out.symm, rfl⟩
/-! ### Set -/
theorem ok_put (hO : Ok n ts) (i j : Nat) (v : Int) (hv : WP.U v) : Ok n (AP.put ts i j v) := by
  refine ⟨hO.size, by rw [AP.sz_put]; exact hO.room, fun k hk => ?_⟩
  rw [AP.len_put] at hk
  by_cases e : k = i
  · subst e
    rw [AP.th_put_same _ _ _ _ hk]
    have h1 := hO.each k hk
    refine ⟨h1.1, h1.2.1, by simpa using h1.2.2.1, fun y hy => ?_⟩
    rcases List.mem_or_eq_of_mem_set hy with hy | hy
    · exact h1.2.2.2 y hy
    · rw [hy]; exact hv
  · rw [AP.th_put_other _ _ _ _ _ e]; exact hO.each k hk
theorem ok_setT (hO : Ok n ts) (x j v : Int) (hv : WP.U v) : Ok n (setT ts x j v) := by
  unfold setT
  split
  · exact hO
  · split
    · exact ok_put hO _ _ _ hv
    · exact hO
theorem Ar.ne (hA : Ar w p g h n ts) : p ≠ g ∧ p ≠ h ∧ g ≠ h := ⟨hA.head.ne hA.words (by decide), hA.head.ne hA.kinds (by decide), hA.words.ne hA.kinds (by decide)⟩
theorem Ar.far {S : List Nat} {w' : World} (hA : Ar w p g h n ts) (k : MM.Far S w w') (hp : p ∉ S) (hg : g ∉ S) (hh : h ∉ S) : Ar w' p g h n ts :=
  ⟨hA.ok, hA.head.far k hp, hA.words.far k hg, hA.kinds.far k hh⟩
theorem ar_put (hA : Ar w p g h n ts) {i a : Nat} (hi : AP.idx ts a = some i) {k : Nat} (hk : k < (AP.th ts i).l.length) (v : Int) (hv : WP.U v) :
    Ar (w.setCell ⟨g, a + 1 + k, none⟩ (.int .u64 v)) p g h n (AP.put ts i k v) := by
  have hne := hA.ne
  refine ⟨ok_put hA.ok _ _ _ hv, ?_, ?_, ?_⟩
  · rw [AP.sz_put]; exact hA.head.other hne.1 _
  · have := hA.words.put (a + 1 + k) (.int .u64 v)
    rw [AP.words_put hi k v hk]
    unfold U64s at this ⊢
    rw [List.map_set]; exact this
  · rw [AP.kinds_put]; exact hA.kinds.other hne.2.2.symm _
theorem set_any (hA : Ar w p g h n ts) (x : Int) (hx : WP.U x) (j v : Int) (hv : WP.U v) :
    Calls Try.prog 37 #[ptr p, .int .u64 x, .int .i64 j, .int .u64 v] w fun e w' => e = .returned (.int .i64 (getE ts x j)) ∧ Ar w' p g h n (setT ts x j v) ∧ MM.Far [g] w w' := by
  have HX := Lib.hid hx
  have HA := Lib.hid hA
  cases hl : look ts x with
  | none =>
    have H2 := Lib.hid (show getE ts x j = 2 by simp [getE, hl])
    have H1 := Lib.hid (show setT ts x j v = ts by simp [setT, hl])
    have HN := Lib.hid hl
    clear hx hA hl
    go_enter Try.func37, Try.ntmps37
    go_wp2_with (first | (go_at_call 31; refine (field_none HA.out _ HX.out _ HN.out).mono ?_; rintro e w' ⟨rfl, rfl⟩))
    go_ret
    refine ⟨ret_u H2.out.symm, ?_, MM.Far.refl _ _⟩
    rw [H1.out]; exact HA.out
  | some i =>
    by_cases hj : 0 ≤ j ∧ j < (AP.th ts i).l.length
    · obtain ⟨a, ha, hal⟩ := toN_nat x hx
      obtain ⟨k, rfl⟩ : ∃ k : Nat, j = k := ⟨j.toNat, by omega⟩
      have hk : k < (AP.th ts i).l.length := by omega
      have hi2 := look_idx hl ha
      have hc := at_word hA hi2 hk
      have hz := hA.words.frozen (a + 1 + k)
      have H2 := Lib.hid (show getE ts x k = 0 by simp [getE, hl, hk])
      have H1 := Lib.hid (show setT ts x k v = AP.put ts i k v by simp [setT, hl, hk])
      have HE := Lib.hid (ar_put hA hi2 hk v hv)
      obtain ⟨o, ho⟩ : ∃ o, (AP.th ts i).l[k] = o := ⟨_, rfl⟩
      rw [ho] at hc
      clear ho hi2
      have HN := Lib.hid hl
      have HP := Lib.hid ha
      have HK := Lib.hid hk
      clear hx hA hl ha hk hj hv
      go_enter Try.func37, Try.ntmps37
      go_wp2_with (first | (go_at_call 31; refine (field_in HA.out _ HX.out _ i a HN.out HP.out HK.out).mono ?_; rintro e w' ⟨rfl, rfl⟩))
      go_ret
      refine ⟨ret_u H2.out.symm, ?_, (MM.Far.refl _ _).setCell (by simp) _⟩
      rw [H1.out]; exact HE.out
    · have H2 := Lib.hid (show getE ts x j = 1 by simp only [getE, hl]; rw [if_neg hj])
      have H1 := Lib.hid (show setT ts x j v = ts by simp only [setT, hl]; rw [if_neg hj])
      have HN := Lib.hid hl
      have HJ := Lib.hid hj
      clear hx hA hl hj
      go_enter Try.func37, Try.ntmps37
      go_wp2_with (first | (go_at_call 31; refine (field_out HA.out _ HX.out _ i HN.out HJ.out).mono ?_; rintro e w' ⟨rfl, rfl⟩))
      go_ret
      refine ⟨ret_u H2.out.symm, ?_, MM.Far.refl _ _⟩
      rw [H1.out]; exact HA.out
end
end AW
end Go.Proofs.Ytcfepiihjbbnaaa
