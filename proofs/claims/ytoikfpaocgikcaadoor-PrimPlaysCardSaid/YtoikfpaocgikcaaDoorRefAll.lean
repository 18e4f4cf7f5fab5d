/-
  Several texts in one: RefPlain, RefWalks1, RefWalks2, RefWalks3. Each one's own head tells its conditions.
-/
import Derived.Test.YtoikfpaocgikcaaDoorArenaKeep
import Derived.Test.YtoikfpaocgikcaaDoorWordWalks3
import Derived.Deep.DeepCutAuto
import Derived.Deep.RegionLaw
import Derived.Deep.QuietTactic
import Derived.BigQuiet
import Derived.Test.YtoikfpaocgikcaaDoorMemAll
/-
  The cells of the document's things (where, kind, words) in a row, and what a search by halves finds. No condition.
-/
namespace Go.Proofs.YtoikfpaocgikcaaDoor
open Go.RowKit
namespace RP
open AW
/-- The cells of the things, the first of which lies at a. -/
def rc : Nat → List AP.Th → List Value → List Value
  | a, t :: ts, h :: hs => .int .i64 a :: .int .i64 t.k :: h :: rc (a + (t.l.length + 1)) ts hs
  | _, _, _ => []
theorem rc_len (a : Nat) (ts : List AP.Th) (hs : List Value) (h : hs.length = ts.length) : (rc a ts hs).length = ts.length * 3 := by
  induction ts generalizing a hs with
  | nil => cases hs <;> simp [rc] at h ⊢
  | cons t ts ih =>
    cases hs with
    | nil => simp at h
    | cons x hs => simp only [rc, List.length_cons]; rw [ih _ _ (by simpa using h)]; omega
theorem rc_at (a : Nat) (ts : List AP.Th) (hs : List Value) (h : hs.length = ts.length) (i : Nat) (hi : i < ts.length) :
    (rc a ts hs)[i * 3]? = some (.int .i64 ((a + AP.sz (ts.take i) : Nat) : Int)) ∧ (rc a ts hs)[i * 3 + 1]? = some (.int .i64 (AP.th ts i).k) ∧ (rc a ts hs)[i * 3 + 2]? = hs[i]? := by
  induction ts generalizing a hs i with
  | nil => simp at hi
  | cons t ts ih =>
    cases hs with
    | nil => simp at h
    | cons x hs =>
      cases i with
      | zero => simp [rc, AP.sz, AP.th_zero]
      | succ i =>
        have h3 : (i + 1) * 3 = i * 3 + 3 := by omega
        obtain ⟨e1, e2, e3⟩ := ih (a + (t.l.length + 1)) hs (by simpa using h) i (by simpa using hi)
        rw [h3]
        refine ⟨?_, ?_, ?_⟩
        · simp only [rc, List.getElem?_cons_succ]
          rw [e1]; simp only [List.take_succ_cons, AP.sz]
          rw [show a + (t.l.length + 1) + AP.sz (ts.take i) = a + (t.l.length + 1 + AP.sz (ts.take i)) from by omega]
        · rw [show i * 3 + 3 + 1 = i * 3 + 1 + 3 from by omega]
          simp only [rc, List.getElem?_cons_succ]
          rw [e2, AP.th_cons]
        · rw [show i * 3 + 3 + 2 = i * 3 + 2 + 3 from by omega]
          simp only [rc, List.getElem?_cons_succ]
          exact e3
theorem rc_snoc (a : Nat) (ts : List AP.Th) (hs : List Value) (h : hs.length = ts.length) (t : AP.Th) (x : Value) :
    rc a (ts ++ [t]) (hs ++ [x]) = rc a ts hs ++ [.int .i64 ((a + AP.sz ts : Nat) : Int), .int .i64 t.k, x] := by
  induction ts generalizing a hs with
  | nil =>
    cases hs with
    | nil => simp [rc, AP.sz]
    | cons y hs => simp at h
  | cons u ts ih =>
    cases hs with
    | nil => simp at h
    | cons y hs =>
      simp only [List.cons_append, rc]
      rw [ih _ _ (by simpa using h)]
      simp only [AP.sz]
      rw [show a + (u.l.length + 1) + AP.sz ts = a + (u.l.length + 1 + AP.sz ts) from by omega]
theorem rc_put (a : Nat) (ts : List AP.Th) (hs : List Value) (i j : Nat) (x : Int) : rc a (AP.put ts i j x) hs = rc a ts hs := by
  induction ts generalizing a hs i with
  | nil => simp [AP.put]
  | cons t ts ih =>
    cases hs with
    | nil => cases i <;> simp [AP.put_cons_zero, AP.put_cons_succ, rc]
    | cons y hs =>
      cases i with
      | zero => rw [AP.put_cons_zero]; simp [rc]
      | succ i => rw [AP.put_cons_succ]; simp [rc, ih]
/-! ### where things begin -/
def off (ts : List AP.Th) (i : Nat) : Nat := AP.sz (ts.take i)
theorem off_lt (ts : List AP.Th) {i j : Nat} (h : i < j) (hj : j ≤ ts.length) : off ts i < off ts j := by
  unfold off
  induction ts generalizing i j with
  | nil => simp at hj; omega
  | cons t ts ih =>
    cases j with
    | zero => omega
    | succ j =>
      cases i with
      | zero => simp only [List.take_zero, List.take_succ_cons, AP.sz]; omega
      | succ i =>
        simp only [List.take_succ_cons, AP.sz]
        have := ih (i := i) (j := j) (by omega) (by simpa using hj)
        omega
theorem idx_of_off {ts : List AP.Th} {a i : Nat} (hi : i < ts.length) (h : off ts i = a) : AP.idx ts a = some i := by
  rw [← h]; exact AP.idx_off ts i hi
theorem idx_none {ts : List AP.Th} {a lo : Nat} (h1 : ∀ i, i < lo → off ts i < a) (h2 : ∀ i, lo ≤ i → i < ts.length → a ≤ off ts i) (h3 : lo < ts.length → off ts lo ≠ a) : AP.idx ts a = none := by
  cases h : AP.idx ts a with
  | none => rfl
  | some i =>
    exfalso
    obtain ⟨e1, e2, _⟩ := AP.idx_some h
    have e3 : a = off ts i := e2
    rcases Nat.lt_or_ge i lo with hl | hl
    · have := h1 i hl; omega
    · rcases Nat.lt_or_ge lo i with hl2 | hl2
      · have h4 := h2 lo (Nat.le_refl _) (by omega)
        have := off_lt ts hl2 (by omega)
        omega
      · have : lo = i := by omega
        subst this
        exact h3 e1 e3.symm
/-- What the document's search answers. -/
def ridx (ts : List AP.Th) (x : Int) : Int := match AW.look ts x with | none => -1 | some i => i
theorem ridx_none {ts : List AP.Th} {x : Int} (h : AW.look ts x = none) : ridx ts x = -1 := by unfold ridx; rw [h]
theorem ridx_some {ts : List AP.Th} {x : Int} {i : Nat} (h : AW.look ts x = some i) : ridx ts x = i := by unfold ridx; rw [h]
end RP
end Go.Proofs.YtoikfpaocgikcaaDoor
/-
  Contracts of the document's arena that only read: Find, Kind, Len, Get. Conditions: its rows are as the list of things says, a word lies in 64 bits.
-/
namespace Go.Proofs.YtoikfpaocgikcaaDoor
open Go.RowKit
namespace RW
open AW RP
/-- The document's arena at block q; v: its things' row. -/
structure Rr (w : World) (base q n : Nat) (v : Value) (ts : List AP.Th) (hs : List Value) : Prop where
  ok : Ok n ts
  head : MM.Row w q 45 [.int .i64 n, .int .i64 (AP.sz ts), v]
  row : w.ownsRow base 59 3 v ts.length (rc 0 ts hs)
  kids : MN.Kids w base 36 hs (ts.map fun t => U64s t.l)
theorem Rr.far {w w' : World} {base q n : Nat} {v : Value} {ts : List AP.Th} {hs : List Value} {S : List Nat} (h : Rr w base q n v ts hs) (f : MM.Far S w w') (hS : ∀ b ∈ S, b ≠ q ∧ (b < base ∨ w.heap.size ≤ b)) : Rr w' base q n v ts hs :=
  ⟨h.ok, h.head.far f (fun hm => (hS _ hm).1 rfl),
   MM.own_far h.row f (fun b hb hm => by have := (hS _ hm).2; have := MM.own_lt h.row b hb; omega), h.kids.far_low f (fun b hb => (hS b hb).2)⟩
/-- What a step of the document's arena may have turned: its head, its rows, what is new. -/
def Fr (q base : Nat) (w w' : World) : Prop := ∃ S, MM.Far S w w' ∧ ∀ b ∈ S, b = q ∨ (base ≤ b ∧ ∀ t l, MM.Row w b t l → t = 36 ∨ t = 59)
theorem Fr.refl (q base : Nat) (w : World) : Fr q base w w := ⟨[], MM.Far.refl _ _, fun b hb => by cases hb⟩
theorem Fr.of_nil {q base : Nat} {w w' : World} (f : MM.Far [] w w') : Fr q base w w' := ⟨[], f, fun b hb => by cases hb⟩
theorem Fr.trans {q base : Nat} {a b c : World} (h : Fr q base a b) (k : Fr q base b c) : Fr q base a c := by
  obtain ⟨S, h1, h2⟩ := h
  obtain ⟨T, k1, k2⟩ := k
  refine ⟨S ++ T, (h1.mono (S' := S ++ T) (fun x hx _ => List.mem_append.2 (.inl hx))).trans k1 (fun x hx _ => List.mem_append.2 (.inr hx)), fun x hx => ?_⟩
  by_cases hS : x ∈ S
  · exact h2 x hS
  · rcases List.mem_append.1 hx with hx | hx
    · exact h2 x hx
    · rcases k2 x hx with e | ⟨e1, e2⟩
      · exact .inl e
      · exact .inr ⟨e1, fun t l hr => e2 t l (hr.far h1 hS)⟩
theorem Fr.size {q base : Nat} {a b : World} (h : Fr q base a b) : a.heap.size ≤ b.heap.size := by obtain ⟨S, h1, _⟩ := h; exact h1.size
theorem row_type {w : World} {base : Nat} {e : TypeId} {size n : Nat} {v : Value} {xs : List Value} (h : w.ownsRow base e size v n xs) {b : Nat} (hb : v.ownBlock = some b) {t : TypeId} {l : List Value} (hr : MM.Row w b t l) : t = e := by
  by_cases ht : e = t
  · exact ht.symm
  · exact absurd hb (MM.own_row_ne h hr ht)
theorem Rr.hlen {w : World} {base q n : Nat} {v : Value} {ts : List AP.Th} {hs : List Value} (h : Rr w base q n v ts hs) : hs.length = ts.length := by
  have := h.kids.len; simpa using this
theorem len_le_sz (ts : List AP.Th) : ts.length ≤ AP.sz ts := by
  induction ts with
  | nil => exact Nat.le_refl _
  | cons t ts ih => simp only [List.length_cons, AP.sz]; omega
section
variable {w : World} {base q n : Nat} {v : Value} {ts : List AP.Th} {hs : List Value}
/-- The cells of the i-th thing. -/
theorem Rr.at (h : Rr w base q n v ts hs) {i : Nat} (hi : i < ts.length) : ∃ g c A d, v = .slice (some ⟨g, 0, none⟩) ts.length c ∧ base ≤ g ∧ g < w.heap.size ∧ w.cell? ⟨g, i * 3, none⟩ = some (.int .i64 (off ts i : Nat)) ∧ w.cell? ⟨g, i * 3 + 1, none⟩ = some (.int .i64 (AP.th ts i).k) ∧
    w.cell? ⟨g, i * 3 + 2, none⟩ = some (.slice A (AP.th ts i).l.length d) ∧ hs[i]? = some (.slice A (AP.th ts i).l.length d) ∧
    w.ownsRow base 36 1 (.slice A (AP.th ts i).l.length d) (AP.th ts i).l.length (U64s (AP.th ts i).l) ∧ (0 < (AP.th ts i).l.length → ∃ gq, A = some ⟨gq, 0, none⟩ ∧ base ≤ gq ∧ gq < w.heap.size) := by
  obtain ⟨A0, c, e, _, _, _, _, hc⟩ := MO.form h.row
  rcases hc with ⟨_, h1, _⟩ | ⟨g, rfl, hg1, hg2⟩
  · omega
  have hrow := h.row
  rw [e] at hrow
  have hat := rc_at 0 ts hs h.hlen i hi
  have hhi : i < hs.length := by rw [h.hlen]; exact hi
  obtain ⟨hd, hhd⟩ : ∃ hd, hs[i]? = some hd := ⟨_, List.getElem?_eq_getElem hhi⟩
  have hkid := h.kids.each i hd (U64s (AP.th ts i).l) hhd (by rw [List.getElem?_map, List.getElem?_eq_getElem hi]; simp [AP.th, List.getD, List.getElem?_eq_getElem hi])
  have hlen : (U64s (AP.th ts i).l).length = (AP.th ts i).l.length := by simp [U64s]
  rw [hlen] at hkid
  obtain ⟨A, d, e2, _, _, _, _, hcd⟩ := MO.form hkid
  subst hd
  refine ⟨g, c, A, d, e, hg1, hg2, ?_, ?_, ?_, hhd, hkid, fun h0 => ?_⟩
  · rw [hrow.cellAt (i * 3) (by omega), hat.1]; simp [off]
  · rw [hrow.cellAt (i * 3 + 1) (by omega), hat.2.1]
  · rw [hrow.cellAt (i * 3 + 2) (by omega), hat.2.2, hhd]
  · rcases hcd with ⟨_, h1, _⟩ | h1
    · omega
    · exact h1
set_option maxHeartbeats 2000000 in
theorem rfind_any (hR : Rr w base q n v ts hs) (x : Int) (hx : WP.U x) :
    Calls Tryd.prog 52 #[ptr q, .int .u64 x] w fun e w' => e = .returned (.int .i64 (ridx ts x)) ∧ w = w' := by
  obtain ⟨a, ha, hal⟩ := toN_nat x hx
  have HX := Lib.hid hx
  have h2 := hR.head.at (i := 2) rfl
  obtain ⟨A0, c, e, _, hlc, hcm, _, hc⟩ := MO.form hR.row
  subst e
  unfold maxLen at hcm
  have HR := Lib.hid hR
  have HA := Lib.hid ha
  obtain ⟨N, hN⟩ : ∃ N, ts.length = N := ⟨_, rfl⟩
  have HN := Lib.hid hN
  have hN6 : N ≤ 65536 := by
    have := len_le_sz ts
    have := hR.ok.room
    have := hR.ok.size
    omega
  rw [hN] at h2 hlc hc
  clear hR hx ha hN
  have hto := Lib.hid (WW.rto_any 1 x HX.out w)
  have HA2 : Hid (WP.toN 1 x = a) := HA.out
  go_enter Tryd.func52, Tryd.ntmps52
  go_wp2_with (fail)
  rw [HA.out] at hto
  refine hto.out.mono ?_
  rintro e w' ⟨rfl, rfl⟩
  obtain ⟨ok, hok⟩ : ∃ ok, WP.toB 1 x = ok := ⟨_, rfl⟩
  have HOK := Lib.hid hok
  rw [hok]
  clear hok
  go_wp2_with (fail)
  go_loopw [7, 8] (fun l h wr => ∃ lo hi : Nat, lo ≤ hi ∧ hi ≤ N ∧ l = .int .i64 lo ∧ h = .int .i64 hi ∧ (∀ i, i < lo → off ts i < a) ∧ (∀ i, hi ≤ i → i < N → a ≤ off ts i) ∧ wr = w) (fun l h _ => (intOf h).toNat - (intOf l).toNat)
  case atStart => exact ⟨0, N, Nat.zero_le _, Nat.le_refl _, rfl, rfl, fun i hi => by omega, fun i h1 h3 => by omega, rfl⟩
  case round =>
    obtain ⟨lo, hi, h1, h3, rfl, rfl, hlo, hhi, hw⟩ := hrel
    subst wr
    by_cases hlt : lo < hi
    · obtain ⟨m, hm⟩ : ∃ m : Nat, ((lo : Int) + hi) / 2 = m := ⟨(((lo : Int) + hi) / 2).toNat, by omega⟩
      have hm1 : lo ≤ m := by omega
      have hm2 : m < hi := by omega
      obtain ⟨g, c', A, d, e, hg1, hg2, hcell, _, _, _, _, _⟩ := HR.out.at (i := m) (by rw [HN.out]; omega)
      have e1 : A0 = some ⟨g, 0, none⟩ := by injection e
      subst e1
      have hmb : m ≤ 9223372036854775807 := by omega
      obtain ⟨om, hom⟩ : ∃ om, off ts m = om := ⟨_, rfl⟩
      rw [hom] at hcell
      have HOm := Lib.hid hom
      have HLo := Lib.hid hlo
      have HHi := Lib.hid hhi
      clear hom hlo hhi e
      by_cases ho : om < a
      · go_wp2
        go_roundw
        case rel => exact ⟨m + 1, hi, by omega, h3, by go_num, rfl, fun i hi2 => by
          rcases Nat.lt_or_ge i m with h5 | h5
          · have h6 := off_lt ts h5 (by rw [HN.out]; omega)
            have := HOm.out; omega
          · have : i = m := by omega
            subst this; have := HOm.out; omega, HHi.out, trivial⟩
        case measure => simp [intOf]; omega
      · go_wp2
        go_roundw
        case rel => exact ⟨lo, m, hm1, by omega, rfl, by rw [hm], HLo.out, fun i h5 h6 => by
          rcases Nat.lt_or_ge m i with h7 | h7
          · have h8 := off_lt ts h7 (by rw [HN.out]; omega)
            have := HOm.out; omega
          · have : i = m := by omega
            subst this; have := HOm.out; omega, trivial⟩
        case measure => simp [intOf]; omega
    · have hle : lo = hi := by omega
      subst hle
      have HLo := Lib.hid hlo
      have HHi := Lib.hid hhi
      clear hlo hhi h1
      cases ok with
      | false =>
        have hn : AW.look ts x = none := by unfold AW.look; rw [HOK.out]; rfl
        have HF := Lib.hid (ridx_none hn)
        clear hn
        go_wp2
        go_ret
        exact ⟨WW.ret_u HF.out.symm, rfl⟩
      | true =>
        have hlook : AW.look ts x = AP.idx ts a := by unfold AW.look; rw [HOK.out, HA2.out]; simp
        have HLk := Lib.hid hlook
        clear hlook
        by_cases hN2 : lo < N
        · obtain ⟨g, c', A, d, e, hg1, hg2, hcell, _, _, _, _, _⟩ := HR.out.at (i := lo) (by rw [HN.out]; omega)
          have e1 : A0 = some ⟨g, 0, none⟩ := by injection e
          subst e1
          have hmb : lo ≤ 9223372036854775807 := by omega
          obtain ⟨om, hom⟩ : ∃ om, off ts lo = om := ⟨_, rfl⟩
          rw [hom] at hcell
          have HOm := Lib.hid hom
          clear hom e
          by_cases ho : om = a
          · subst ho
            have hi2 : AW.look ts x = some lo := by rw [HLk.out]; exact idx_of_off (by rw [HN.out]; omega) HOm.out
            have HF := Lib.hid (ridx_some hi2)
            clear hi2
            go_wp2
            go_ret
            exact ⟨WW.ret_u HF.out.symm, rfl⟩
          · have hne : ((om : Int) != (a : Int)) = true := by rw [bne_iff_ne]; omega
            have hi2 : AW.look ts x = none := by
              rw [HLk.out]
              exact idx_none HLo.out (fun i h5 h6 => HHi.out i h5 (by rw [← HN.out]; exact h6)) (fun _ h7 => ho (by rw [← HOm.out]; exact h7))
            have HF := Lib.hid (ridx_none hi2)
            clear hi2 ho
            go_wp2
            go_ret
            exact ⟨WW.ret_u HF.out.symm, rfl⟩
        · have hi2 : AW.look ts x = none := by
            rw [HLk.out]
            exact idx_none HLo.out (fun i h5 h6 => HHi.out i h5 (by rw [← HN.out]; exact h6)) (fun h7 => by rw [HN.out] at h7; omega)
          have HF := Lib.hid (ridx_none hi2)
          have hN3 : N ≤ lo := by omega
          clear hi2 hN2
          go_wp2
          go_ret
          exact ⟨WW.ret_u HF.out.symm, rfl⟩
theorem rkind_any (hR : Rr w base q n v ts hs) (x : Int) (hx : WP.U x) :
    Calls Tryd.prog 35 #[ptr q, .int .u64 x] w fun e w' => e = .returned (.int .i64 (kindN ts x)) ∧ w = w' := by
  have HF := Lib.hid (rfind_any hR x hx)
  have h2 := hR.head.at (i := 2) rfl
  cases hl : AW.look ts x with
  | none =>
    have H1 := Lib.hid (show kindN ts x = 0 by unfold kindN; rw [hl])
    rw [ridx_none hl] at HF
    clear hx hR hl
    go_enter Tryd.func35, Tryd.ntmps35
    go_wp2_with (first | (go_at_call 52; refine HF.out.mono ?_; rintro e w' ⟨rfl, rfl⟩))
    go_ret
    exact ⟨WW.ret_u H1.out.symm, rfl⟩
  | some i =>
    have H1 := Lib.hid (show kindN ts x = (AP.th ts i).k by unfold kindN; rw [hl])
    rw [ridx_some hl] at HF
    obtain ⟨a, ha, hal⟩ := toN_nat x hx
    have hi := (AP.idx_some (look_idx hl ha)).1
    obtain ⟨g, c', A, d, e, hg1, hg2, hc0, hc1, hc2, _, _, _⟩ := hR.at hi
    have hN6 : ts.length ≤ 65536 := by
      have := len_le_sz ts
      have := hR.ok.room
      have := hR.ok.size
      omega
    rw [e] at h2
    clear hx hR hl ha e hc0 hc2
    go_enter Tryd.func35, Tryd.ntmps35
    go_wp2_with (first | (go_at_call 52; refine HF.out.mono ?_; rintro e w' ⟨rfl, rfl⟩))
    go_ret
    exact ⟨WW.ret_u H1.out.symm, rfl⟩
theorem rlen_any (hR : Rr w base q n v ts hs) (x : Int) (hx : WP.U x) :
    Calls Tryd.prog 51 #[ptr q, .int .u64 x] w fun e w' => e = .returned (.int .i64 (lenN ts x)) ∧ w = w' := by
  have HF := Lib.hid (rfind_any hR x hx)
  have h2 := hR.head.at (i := 2) rfl
  cases hl : AW.look ts x with
  | none =>
    have H1 := Lib.hid (show lenN ts x = 0 by unfold lenN; rw [hl])
    rw [ridx_none hl] at HF
    clear hx hR hl
    go_enter Tryd.func51, Tryd.ntmps51
    go_wp2_with (first | (go_at_call 52; refine HF.out.mono ?_; rintro e w' ⟨rfl, rfl⟩))
    go_ret
    exact ⟨WW.ret_u H1.out.symm, rfl⟩
  | some i =>
    have H1 := Lib.hid (show lenN ts x = (AP.th ts i).l.length by unfold lenN; rw [hl])
    rw [ridx_some hl] at HF
    obtain ⟨a, ha, hal⟩ := toN_nat x hx
    have hi := (AP.idx_some (look_idx hl ha)).1
    obtain ⟨g, c', A, d, e, hg1, hg2, hc0, hc1, hc2, _, _, _⟩ := hR.at hi
    have hN6 : ts.length ≤ 65536 := by
      have := len_le_sz ts
      have := hR.ok.room
      have := hR.ok.size
      omega
    rw [e] at h2
    clear hx hR hl ha e hc0 hc1
    go_enter Tryd.func51, Tryd.ntmps51
    go_wp2_with (first | (go_at_call 52; refine HF.out.mono ?_; rintro e w' ⟨rfl, rfl⟩))
    go_ret
    exact ⟨WW.ret_u H1.out.symm, rfl⟩
theorem rget_any (hR : Rr w base q n v ts hs) (x : Int) (hx : WP.U x) (j : Int) :
    Calls Tryd.prog 36 #[ptr q, .int .u64 x, .int .i64 j] w fun e w' => e = .returned (.tuple #[.int .u64 (getW ts x j), .int .i64 (getE ts x j)]) ∧ w = w' := by
  have HF := Lib.hid (rfind_any hR x hx)
  have h2 := hR.head.at (i := 2) rfl
  cases hl : AW.look ts x with
  | none =>
    have H1 := Lib.hid (show getW ts x j = 0 by unfold getW; rw [hl])
    have H2 := Lib.hid (show getE ts x j = 2 by unfold getE; rw [hl])
    rw [ridx_none hl] at HF
    clear hx hR hl
    go_enter Tryd.func36, Tryd.ntmps36
    go_wp2_with (first | (go_at_call 52; refine HF.out.mono ?_; rintro e w' ⟨rfl, rfl⟩))
    go_ret2
    exact ⟨ret_uu H1.out.symm H2.out.symm, rfl⟩
  | some i =>
    have hfo := AL.found hl j
    rw [ridx_some hl] at HF
    obtain ⟨a, ha, hal⟩ := toN_nat x hx
    have hi := (AP.idx_some (look_idx hl ha)).1
    obtain ⟨g, c', A, d, e, hg1, hg2, hc0, hc1, hc2, _, hkid, hA⟩ := hR.at hi
    have hN6 : ts.length ≤ 65536 := by
      have := len_le_sz ts
      have := hR.ok.room
      have := hR.ok.size
      omega
    have hl255 := (hR.ok.each i hi).2.2.1
    rw [e] at h2
    clear hc0 hc1 e hR hx ha
    by_cases hj : 0 ≤ j ∧ j < (AP.th ts i).l.length
    · obtain ⟨k, rfl⟩ : ∃ k : Nat, j = k := ⟨j.toNat, by omega⟩
      have hk : k < (AP.th ts i).l.length := by omega
      obtain ⟨gq, rfl, hq1, hq2⟩ := hA (by omega)
      have hcq : w.cell? ⟨gq, k, none⟩ = some (.int .u64 ((AP.th ts i).l.getD k 0)) := by
        rw [hkid.cellAt k (by omega)]
        unfold U64s
        rw [List.getElem?_map, List.getElem?_eq_getElem hk]; simp [List.getD, List.getElem?_eq_getElem hk]
      rw [if_pos hj, if_pos hj, Int.toNat_natCast] at hfo
      have H2 := Lib.hid hfo.1
      have H1 := Lib.hid hfo.2.1
      generalize (AP.th ts i).l.getD k 0 = y at hcq H1
      obtain ⟨l0, hl0⟩ : ∃ l0, (AP.th ts i).l.length = l0 := ⟨_, rfl⟩
      rw [hl0] at hc2 hk hl255
      clear hfo hkid hl hl0 hj hA
      go_enter Tryd.func36, Tryd.ntmps36
      go_wp2_with (first | (go_at_call 52; refine HF.out.mono ?_; rintro e w' ⟨rfl, rfl⟩))
      go_ret2
      exact ⟨ret_uu H1.out.symm H2.out.symm, rfl⟩
    · rw [if_neg hj, if_neg hj] at hfo
      have H2 := Lib.hid hfo.1
      have H1 := Lib.hid hfo.2.1
      obtain ⟨l0, hl0⟩ : ∃ l0, (AP.th ts i).l.length = l0 := ⟨_, rfl⟩
      rw [hl0] at hc2 hj hl255
      clear hfo hkid hl hl0 hA
      by_cases hj0 : j < 0
      · clear hj
        go_enter Tryd.func36, Tryd.ntmps36
        go_wp2_with (first | (go_at_call 52; refine HF.out.mono ?_; rintro e w' ⟨rfl, rfl⟩))
        go_ret2
        exact ⟨ret_uu H1.out.symm H2.out.symm, rfl⟩
      · have hj1 : (l0 : Int) ≤ j := by omega
        clear hj
        go_enter Tryd.func36, Tryd.ntmps36
        go_wp2_with (first | (go_at_call 52; refine HF.out.mono ?_; rintro e w' ⟨rfl, rfl⟩))
        go_ret2
        exact ⟨ret_uu H1.out.symm H2.out.symm, rfl⟩
end
end RW
end Go.Proofs.YtoikfpaocgikcaaDoor
/-
  Contracts of the document's arena that write: New, Set, Alloc. Conditions: its rows are as the list of things says, a word lies in 64 bits, what is handed over lies elsewhere.
-/
namespace Go.Proofs.YtoikfpaocgikcaaDoor
open Go.RowKit
namespace RW
open AW RP
def RMade (w : World) (base n : Nat) (e : Ending) (w' : World) : Prop :=
  ∃ q, e = .returned (.tuple #[ptr q, .int .i64 0]) ∧ w.heap.size ≤ q ∧ Rr w' base q n (.slice none 0 0) [] [] ∧ MM.Far [] w w'
theorem rnew_bad (w : World) (n : Int) (hb : n < 1 ∨ 65536 < n) : Calls Tryd.prog 11 #[.int .i64 n] w fun e w' => e = .returned (.tuple #[.pointer none, .int .i64 1]) ∧ w = w' := by
  by_cases h1 : n < 1
  · clear hb
    go_enter Tryd.func11, Tryd.ntmps11
    go_wp2
    go_ret2
    exact ⟨rfl, rfl⟩
  · have h2 : 65536 < n := by omega
    clear hb
    go_enter Tryd.func11, Tryd.ntmps11
    go_wp2
    go_ret2
    exact ⟨rfl, rfl⟩
theorem rnew_ok (w : World) (base n : Nat) (h1 : 1 ≤ n) (h2 : n ≤ 65536) : Calls Tryd.prog 11 #[.int .i64 n] w (RMade w base n) := by
  go_enter Tryd.func11, Tryd.ntmps11
  go_wp2
  go_ret2
  exact ⟨_, rfl, Nat.le_refl _, ⟨ok_nil n h2, MM.Row.new w _ [.int .i64 n, .int .i64 0, .slice none 0 0], MO.none_ _ _ _ _, MN.Kids.nil _ _ _⟩, (MM.Far.refl _ _).alloc _⟩
section
variable {w : World} {base q n : Nat} {v : Value} {ts : List AP.Th} {hs : List Value}
theorem Rr.put (hR : Rr w base q n v ts hs) {i gq d j : Nat} {x : Int} (hi : i < ts.length) (hh : hs[i]? = some (.slice (some ⟨gq, 0, none⟩) (AP.th ts i).l.length d)) (hx : WP.U x) :
    Rr (w.setCell ⟨gq, j, none⟩ (.int .u64 x)) base q n v (AP.put ts i j x) hs ∧ base ≤ gq ∧ ∀ t l, MM.Row w gq t l → t = 36 ∨ t = 59 := by
  have hm : Value.slice (some ⟨gq, 0, none⟩) (AP.th ts i).l.length d ∈ hs := List.mem_of_getElem? hh
  have hlow := hR.kids.low _ hm gq rfl
  have hl : (ts.map fun t => U64s t.l)[i]? = some (U64s (AP.th ts i).l) := by
    rw [List.getElem?_map, List.getElem?_eq_getElem hi]
    simp [AP.th, List.getD, List.getElem?_eq_getElem hi]
  have hrow := hR.kids.each i _ _ hh hl
  have hone := (MM.Far.refl [gq] w).setCell (p := ⟨gq, j, none⟩) (by simp) (.int .u64 x)
  refine ⟨⟨ok_put hR.ok _ _ _ hx, ?_, ?_, ?_⟩, hlow.2, fun t l hr => .inl (row_type hrow rfl hr)⟩
  · rw [AP.sz_put]
    refine hR.head.far hone (fun hm => ?_)
    have : q = gq := by simpa using hm
    subst this
    exact MM.own_row_ne hrow hR.head (by decide) rfl
  · rw [AP.len_put, rc_put]
    exact MM.own_far hR.row hone (fun b hb hm => by
      have : b = gq := by simpa using hm
      subst this
      exact MM.own_own_ne hR.row hrow (by decide) b hb rfl)
  · have := hR.kids.put hh hl (by simp [U64s]) j (.int .u64 x)
    have e : (ts.map fun t => U64s t.l).set i ((U64s (AP.th ts i).l).set j (.int .u64 x)) = (AP.put ts i j x).map fun t => U64s t.l := by
      apply List.ext_getElem?
      intro k
      by_cases ei : k = i
      · subst ei
        rw [List.getElem?_set_self (by simpa using hi), List.getElem?_map]
        simp only [AP.put, List.getElem?_modify]
        simp [AP.th, List.getD, hi, U64s, List.map_set]
      · rw [List.getElem?_set_ne (fun h => ei h.symm), List.getElem?_map, List.getElem?_map]
        have ei' : ¬ i = k := fun h => ei h.symm
        simp [AP.put, ei']
    rw [← e]; exact this
end
end RW
end Go.Proofs.YtoikfpaocgikcaaDoor
/-
  Contract of the document's Alloc. Conditions: its rows are as the list of things says, what is handed over lies elsewhere.
-/
namespace Go.Proofs.YtoikfpaocgikcaaDoor
open Go.RowKit
namespace RW
open AW RP
section
variable {w : World} {base q n : Nat} {v : Value} {ts : List AP.Th} {hs : List Value}
theorem ralloc_bad (w : World) (pv : Value) (k : Int) (A : Option Addr) (m c : Nat) (hm : m ≤ 9223372036854775807) (hb : k < 1 ∨ 9 < k ∨ 255 < m) :
    Calls Tryd.prog 13 #[pv, .int .i64 k, .slice A m c] w fun e w' => e = .returned (.tuple #[.int .u64 0, .int .i64 1]) ∧ w = w' := by
  by_cases h1 : k < 1
  · clear hb
    go_enter Tryd.func13, Tryd.ntmps13
    go_wp2
    go_ret2
    exact ⟨rfl, rfl⟩
  · by_cases h9 : 9 < k
    · clear hb
      go_enter Tryd.func13, Tryd.ntmps13
      go_wp2
      go_ret2
      exact ⟨rfl, rfl⟩
    · have h5 : 255 < m := by omega
      clear hb
      go_enter Tryd.func13, Tryd.ntmps13
      go_wp2
      go_ret2
      exact ⟨rfl, rfl⟩
theorem ralloc_full (hR : Rr w base q n v ts hs) (k : Int) (A : Option Addr) (m c : Nat) (h1 : 1 ≤ k) (h9 : k ≤ 9) (hm : m ≤ 255) (hr : n ≤ AP.sz ts + m) :
    Calls Tryd.prog 13 #[ptr q, .int .i64 k, .slice A m c] w fun e w' => e = .returned (.tuple #[.int .u64 0, .int .i64 20]) ∧ ∃ d, w' = w.drewN d := by
  have hs1 : AP.sz ts ≤ n := hR.ok.room
  have hn6 : n ≤ 65536 := hR.ok.size
  have h0 := hR.head.at (i := 0) rfl
  have hc1 := hR.head.at (i := 1) rfl
  clear hR
  go_enter Tryd.func13, Tryd.ntmps13
  go_wp2
  go_quiet (fail)
  go_wp2
  go_ret2
  exact ⟨rfl, _, rfl⟩
theorem rof_at (s : Nat) (h : s ≤ 65536) (w : World) : Calls Tryd.prog 21 #[.int .i64 1, .int .i64 s] w fun e w' => e = .returned (.tuple #[.int .u64 (WP.ofW 1 s), .int .i64 0]) ∧ w = w' := by
  refine (WW.rof_any 1 s w).mono ?_
  rintro e w' ⟨rfl, rfl⟩
  have : WP.ofB 1 s = true := by rw [WP.ofB_iff]; omega
  exact ⟨by simp [WP.ofE, this], rfl⟩
theorem Rr.far_new {w' : World} {S : List Nat} (hR : Rr w base q n v ts hs) (f : MM.Far S w w') (hS : ∀ b ∈ S, w.heap.size ≤ b) : Rr w' base q n v ts hs :=
  hR.far f (fun b hb => by
    have h1 := hS b hb
    have h2 := hR.head.lt
    exact ⟨by omega, .inr h1⟩)
theorem thing_info : (Tryd.prog.info? 59).map (fun i => (i.zero, i.size, i.bytes)) = some (some (.agg #[.int .i64 0, .int .i64 0, .slice none 0 0]), 3, 40) := by kernel_rfl
theorem things_slice : Tryd.prog.underlying 43 = some (.slice 59) := by kernel_rfl
theorem cells3_one (a b : Int) (A : Option Addr) (l c : Nat) : ∀ u ∈ [Value.int .i64 a, .int .i64 b, .slice A l c], u.oneCell' = true := by
  intro u hu
  simp only [List.mem_cons, List.not_mem_nil, or_false] at hu
  rcases hu with rfl | rfl | rfl <;> rfl
theorem far_head {w w' : World} {S : List Nat} {q : Nat} {l : List Value} (h : MM.Row w q 45 l) (f : MM.Far S w w') (hn : q ∉ S) : MM.Row w' q 45 l := h.far f hn
/-- What stands behind the two appends and the two stores. -/
theorem ralloc_end {W w1 w2 : World} {A1 : Option Addr} {c1 : Nat} {v2 : Value} {k : Int} {fs : List Int} {u : Int} (hR1 : Rr w1 base q n v ts hs) (hbW : base ≤ W.heap.size) (h1 : 1 ≤ k) (h9 : k ≤ 9) (hm : fs.length ≤ 255) (hr : AP.sz ts + fs.length < n) (hu : ∀ x ∈ fs, WP.U x)
    (F1 : MM.Far [W.heap.size] W w1) (F2 : MM.Far v.ownBlock.toList w1 w2) (hH2 : MM.Row w2 q 45 [.int .i64 n, .int .i64 (AP.sz ts), v])
    (hV1 : w1.ownsRow base 36 1 (.slice A1 fs.length c1) fs.length (U64s fs)) (hnew : ∀ b, (Value.slice A1 fs.length c1).ownBlock = some b → W.heap.size ≤ b) (hW : MM.Row W q 45 [.int .i64 n, .int .i64 (AP.sz ts), v]) (hRW : Rr W base q n v ts hs)
    (hV2 : w2.ownsRow base 59 3 v2 (ts.length + 1) (rc 0 ts hs ++ [.int .i64 (AP.sz ts), .int .i64 k, .slice A1 fs.length c1])) (hu2 : u = AP.sz ts + fs.length + 1) :
    Rr ((w2.setCell ⟨q, 2, none⟩ v2).setCell ⟨q, 1, none⟩ (.int .i64 u)) base q n v2 (ts ++ [⟨k, fs⟩]) (hs ++ [.slice A1 fs.length c1]) ∧ Fr q base W ((w2.setCell ⟨q, 2, none⟩ v2).setCell ⟨q, 1, none⟩ (.int .i64 u)) := by
  subst hu2
  have hone : MM.Far [q] w2 ((w2.setCell ⟨q, 2, none⟩ v2).setCell ⟨q, 1, none⟩ (.int .i64 (AP.sz ts + fs.length + 1 : Int))) := ((MM.Far.refl [q] w2).setCell (by simp) _).setCell (by simp) _
  have hvlow := MM.own_lt hR1.row
  refine ⟨⟨ok_snoc hR1.ok k fs h1 h9 hm hr hu, ?_, ?_, ?_⟩, ?_⟩
  · rw [AP.sz_snoc]
    have := (hH2.put 2 v2).put 1 (.int .i64 (AP.sz ts + fs.length + 1 : Int))
    have e : ((AP.sz ts + fs.length + 1 : Nat) : Int) = (AP.sz ts + fs.length + 1 : Int) := by omega
    simp only at e ⊢
    rw [e]
    exact this
  · rw [rc_snoc 0 ts hs hR1.hlen]
    simp only [List.length_append, List.length_singleton, Nat.zero_add]
    exact MM.own_far hV2 hone (fun b hb hm => by
      have : b = q := by simpa using hm
      subst this
      exact MM.own_row_ne hV2 hH2 (by decide) hb)
  · rw [List.map_append, List.map_singleton]
    have k1 : MN.Kids w2 base 36 hs (ts.map fun t => U64s t.l) := hR1.kids.far F2 (fun x hx b hb hm => by
      obtain ⟨i, hi, rfl⟩ := List.mem_iff_getElem.1 hx
      have hl : i < (ts.map fun t => U64s t.l).length := by rw [← hR1.kids.len]; exact hi
      exact MM.own_own_ne (hR1.kids.each i _ _ (List.getElem?_eq_getElem hi) (List.getElem?_eq_getElem hl)) hR1.row (by decide) b hb (by simpa using hm))
    have v1 : w2.ownsRow base 36 1 (.slice A1 fs.length c1) fs.length (U64s fs) := MM.own_far hV1 F2 (fun b hb hm => MM.own_own_ne hV1 hR1.row (by decide) b hb (by simpa using hm))
    have k2 := k1.far hone (fun x hx b hb hm => by
      have : b = q := by simpa using hm
      subst this
      obtain ⟨i, hi, rfl⟩ := List.mem_iff_getElem.1 hx
      have hl : i < (ts.map fun t => U64s t.l).length := by rw [← k1.len]; exact hi
      exact MM.own_row_ne (k1.each i _ _ (List.getElem?_eq_getElem hi) (List.getElem?_eq_getElem hl)) hH2 (by decide) hb)
    refine k2.snoc (by simp [U64s]) (MM.own_far v1 hone (fun b hb hm => by
      have : b = q := by simpa using hm
      subst this
      exact MM.own_row_ne v1 hH2 (by decide) hb)) (fun b hb x hx hb2 => ?_)
    have h3 := hnew b hb
    have h4 := hRW.kids.low x hx b hb2
    omega
  · refine ⟨[W.heap.size] ++ (v.ownBlock.toList ++ [q]), ?_, fun b hb => ?_⟩
    · refine ((F1.mono (S' := [W.heap.size] ++ (v.ownBlock.toList ++ [q])) (fun x hx _ => List.mem_append.2 (.inl hx))).trans F2 (fun x hx _ => ?_)).trans hone (fun x hx _ => ?_)
      · exact List.mem_append.2 (.inr (List.mem_append.2 (.inl hx)))
      · exact List.mem_append.2 (.inr (List.mem_append.2 (.inr hx)))
    · rcases List.mem_append.1 hb with hb | hb
      · have : b = W.heap.size := by simpa using hb
        exact .inr ⟨by omega, fun t l hr => by have := hr.lt; omega⟩
      · rcases List.mem_append.1 hb with hb | hb
        · exact .inr ⟨(hvlow b (by simpa using hb)).2, fun t l hr => .inr (row_type hRW.row (by simpa using hb) hr)⟩
        · exact .inl (by simpa using hb)
set_option maxHeartbeats 2000000 in
theorem ralloc_ok (hR : Rr w base q n v ts hs) (hbw : base ≤ w.heap.size) (k : Int) (A : Option Addr) (c : Nat) (fs : List Int) (h1 : 1 ≤ k) (h9 : k ≤ 9) (hm : fs.length ≤ 255) (hr : AP.sz ts + fs.length < n) (hu : ∀ x ∈ fs, WP.U x) (hnil : A = none → c = 0 ∧ fs.length = 0) (hs : MM.Src w [] A (U64s fs)) :
    Calls Tryd.prog 13 #[ptr q, .int .i64 k, .slice A fs.length c] w fun e w' => e = .returned (.tuple #[.int .u64 (WP.ofW 1 (AP.sz ts)), .int .i64 0]) ∧ ∃ v' hs', Rr w' base q n v' (ts ++ [⟨k, fs⟩]) hs' ∧ Fr q base w w' := by
  have hn6 : n ≤ 65536 := hR.ok.size
  have h0 := hR.head.at (i := 0) rfl
  have hc1 := hR.head.at (i := 1) rfl
  have HR := Lib.hid hR
  have HS := Lib.hid hs
  have HNil := Lib.hid hnil
  have hss : AP.sz ts ≤ 65536 := by omega
  clear hR hs hnil
  go_enter Tryd.func13, Tryd.ntmps13
  go_wp2
  go_quiet (fail)
  go_wp2_with (first | (go_at_call 21; refine (rof_at _ hss _).mono ?_; rintro e w' ⟨rfl, rfl⟩))
  have HRW : Hid (Rr (w.drewN nq) base q n v ts hs) := HR.out.far ((MM.Far.refl [] w).drewN nq) (by simp)
  have HSW : Hid (MM.Src (w.drewN nq) [] A (U64s fs)) := HS.out.far ((MM.Far.refl [] w).drewN nq) (by simp)
  have hWF : MM.Far [] w (w.drewN nq) := (MM.Far.refl [] w).drewN nq
  generalize w.drewN nq = W at HRW HSW hWF ⊢
  have h0W := HRW.out.head.at (i := 0) rfl
  have h1W := HRW.out.head.at (i := 1) rfl
  have h2W := HRW.out.head.at (i := 2) rfl
  have hf2 := HRW.out.head.frozen 2
  have hqW := HRW.out.head.lt
  have hbW : base ≤ W.heap.size := by have := hWF.size; omega
  have HOw := Lib.hid (MM.own_lt HRW.out.row)
  have HN2 : Hid (A = none → c = 0 ∧ fs.length = 0) := HNil.out
  clear h0 hc1
  have HE := Lib.hid (show (W.alloc (.cells #[] 36)).ownsRow base 36 1 (.slice (some ⟨W.heap.size, 0, none⟩) 0 0) 0 [] from MO.of_row (MM.Row.new W _ []) hbW rfl (by unfold maxLen; omega))
  have HSE := Lib.hid (show MM.Src (W.alloc (.cells #[] 36)) [] A (U64s fs) from HSW.out.far ((MM.Far.refl [] W).alloc _) (by simp))
  have HU := Lib.hid (show (U64s fs).length = fs.length * 1 by simp [U64s])
  go_region_law? ((first
    | (refine MO.step_append ?_ (.tmp 52) (.tmp 53) 32 ?_ base 36 (.int .u64 0) 1 8 words_slice word_info rfl (by omega) (.slice (some ⟨W.heap.size, 0, none⟩) 0 0) 0 [] ?_ ?_ A fs.length c (U64s fs) ?_ HU.out HN2.out [] ?_ (u64s_one _) (by simp only [maxLen]; omega) (by omega) ?_ ?_
       · rfl
       · rfl
       · rfl
       · exact HE.out
       · rfl
       · exact HSE.out
       · simp; omega
       intro v1 w1 hv1 hg1 hat1
       rw [Nat.zero_add, List.nil_append] at hv1
       have F1 : MM.Far [W.heap.size] W w1 := ((MM.Far.refl _ W).alloc (.cells #[] 36)).trans (MM.Far.of_grown (S := [W.heap.size]) (a := W.alloc (.cells #[] 36)) ⟨hg1.os, hg1.tape, hg1.output, hg1.size, hg1.block⟩ (by intro b hb1 _; simp [Value.ownBlock] at hb1; simp [hb1])) (fun b hb _ => hb)
       have HR1 := Lib.hid (HRW.out.far_new F1 (by simp))
       have c1W := HR1.out.head.at (i := 1) rfl
       have c2W := HR1.out.head.at (i := 2) rfl
       have f2W := HR1.out.head.frozen 2
       have hq1 := HR1.out.head.lt
       have s1 := F1.size
       obtain ⟨A1, c1, rfl, k1, k2, k3, k4, k5⟩ := MO.form hv1
       clear k1 k2 k3 k4 k5
       have HV1 := Lib.hid hv1
       clear hv1)
    | (refine MO.step_append ?_ (.tmp 46) (.tmp 56) 43 ?_ base 59 _ 3 40 things_slice thing_info rfl (by omega) v ts.length (rc 0 ts hs) ?_ ?_ (some ⟨w1.heap.size, 0, none⟩) 1 1 [.int .i64 (AP.sz ts), .int .i64 k, .slice A1 fs.length c1] ?_ rfl (fun h => by cases h) [] ?_ (cells3_one _ _ _ _ _) ?_ ?_ ?_ ?_
       · rfl
       · rfl
       · rfl
       · exact (HR1.out.row.alloc _)
       · rfl
       · exact (MM.Src.row (MM.Row.new w1 59 [.int .i64 (AP.sz ts), .int .i64 k, .slice A1 fs.length c1]) (by simp) _ (fun j u hu => hu))
       · have := len_le_sz ts
         simp only [maxLen]; omega
       · have := len_le_sz ts
         omega
       · simp; omega
       intro v2 w2 hv2 hg2 hat2
       have F2 : MM.Far v.ownBlock.toList w1 w2 := ((MM.Far.refl _ w1).alloc (.cells [.int .i64 (AP.sz ts), .int .i64 k, .slice A1 fs.length c1].toArray 59)).trans (MM.Far.of_grown (S := v.ownBlock.toList) (a := w1.alloc (.cells [.int .i64 (AP.sz ts), .int .i64 k, .slice A1 fs.length c1].toArray 59)) ⟨hg2.os, hg2.tape, hg2.output, hg2.size, hg2.block⟩ (by intro b hb1 _; simp [hb1])) (fun b hb _ => hb)
       have HH2 := Lib.hid (far_head HR1.out.head F2 (fun hm => MM.own_row_ne HR1.out.row HR1.out.head (by decide) (by simpa using hm)))
       have d2W := HH2.out.at (i := 2) rfl
       have e2W := HH2.out.frozen 2
       have d1W := HH2.out.at (i := 1) rfl
       have e1W := HH2.out.frozen 1
       obtain ⟨A2, c2, rfl, k1, k2, k3, k4, k5⟩ := MO.form hv2
       clear k1 k2 k3 k4 k5
       have HV2 := Lib.hid hv2
       clear hv2)))
  all_goals
    have hnew : ∀ b, (Value.slice A1 fs.length c1).ownBlock = some b → W.heap.size ≤ b := by
      intro b hb
      rcases hat1 with e | e
      · rw [e] at hb
        have : W.heap.size = b := by simpa [Value.ownBlock] using hb
        omega
      · rw [e] at hb
        have : W.heap.size + 1 = b := by simpa using hb
        omega
    have HE2 := Lib.hid (ralloc_end (u := AP.sz ts + fs.length + 1) HR1.out hbW h1 h9 hm hr hu F1 F2 HH2.out HV1.out hnew HRW.out.head HRW.out HV2.out rfl)
    clear hnew hat1 hat2 hg1 hg2
    go_wp2
    go_ret2
    exact ⟨rfl, _, _, HE2.out.1, Fr.trans (Fr.of_nil hWF) HE2.out.2⟩
theorem ralloc_any (hR : Rr w base q n v ts hs) (hbw : base ≤ w.heap.size) (k : Int) (A : Option Addr) (c : Nat) (fs : List Int) (hm : fs.length ≤ 9223372036854775807) (hu : ∀ x ∈ fs, WP.U x) (hnil : A = none → c = 0 ∧ fs.length = 0) (hs : MM.Src w [] A (U64s fs)) :
    Calls Tryd.prog 13 #[ptr q, .int .i64 k, .slice A fs.length c] w fun e w' => e = .returned (.tuple #[.int .u64 (allW n ts k fs.length), .int .i64 (allE n ts k fs.length)]) ∧ ∃ v' hs', Rr w' base q n v' (allT n ts k fs) hs' ∧ Fr q base w w' := by
  by_cases hb : k < 1 ∨ 9 < k ∨ 255 < fs.length
  · refine (ralloc_bad w _ k A fs.length c hm hb).mono ?_
    rintro e w' ⟨rfl, rfl⟩
    have e1 : allE n ts k fs.length = 1 := by unfold allE; rw [if_pos hb]
    refine ⟨by simp [allW, e1], v, _, by unfold allT; rw [if_neg (by omega)]; exact hR, Fr.refl _ _ _⟩
  · by_cases hr : n ≤ AP.sz ts + fs.length
    · refine (ralloc_full hR k A fs.length c (by omega) (by omega) (by omega) hr).mono ?_
      rintro e w' ⟨rfl, d, rfl⟩
      have e1 : allE n ts k fs.length = 20 := by unfold allE; rw [if_neg hb, if_pos hr]
      refine ⟨by simp [allW, e1], v, _, by unfold allT; rw [if_neg (by omega)]; exact hR.far ((MM.Far.refl [] w).drewN d) (by simp), Fr.of_nil ((MM.Far.refl [] w).drewN d)⟩
    · refine (ralloc_ok hR hbw k A c fs (by omega) (by omega) (by omega) (by omega) hu hnil hs).mono ?_
      rintro e w' ⟨rfl, v', hs', h1, h2⟩
      have e1 : allE n ts k fs.length = 0 := by unfold allE; rw [if_neg hb, if_neg hr]
      refine ⟨by simp [allW, e1], v', hs', by unfold allT; rw [if_pos e1]; exact h1, h2⟩
theorem ralloc_len (hR : Rr w base q n v ts hs) (hbw : base ≤ w.heap.size) (k : Int) (A : Option Addr) (m c : Nat) (fs : List Int) (hm0 : fs.length = m) (hm : m ≤ 9223372036854775807) (hu : ∀ x ∈ fs, WP.U x) (hnil : A = none → c = 0 ∧ m = 0) (hs : MM.Src w [] A (U64s fs)) :
    Calls Tryd.prog 13 #[ptr q, .int .i64 k, .slice A m c] w fun e w' => e = .returned (.tuple #[.int .u64 (allW n ts k m), .int .i64 (allE n ts k m)]) ∧ ∃ v' hs', Rr w' base q n v' (allT n ts k fs) hs' ∧ Fr q base w w' := by
  subst hm0
  exact ralloc_any hR hbw k A c fs hm hu hnil hs
end
end RW
end Go.Proofs.YtoikfpaocgikcaaDoor
