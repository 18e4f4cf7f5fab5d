/-
  The walk of ScopeDeep: a name stands for the innermost row that has it, as many rows out as there are functions between. Conditions: the arguments' readings; the primitives' table.
-/
import Derived.Test.YtedbaegdmianaaaDoorQScoLaws1
import Derived.Test.YtedbaegdmianaaaDoorQScoDp2
namespace Go.Proofs.YtedbaegdmianaaaDoor
open Go.RowKit
set_option linter.unusedVariables false
namespace SM
open LX SX RW6 EX SC
open EW (Sl Bx ptr num strs sz_alloc row_new)
open RX (Nd)
open RM6 (Kin)
def dl (zs : List Int) (m : Nat) : List Nat := (zs.take m).map fun z => (z % 4).toNat
theorem dl_next (zs : List Int) (i : Nat) (h : i < zs.length) : dl zs (i + 1) = dl zs i ++ [(zs.getD i 0 % 4).toNat] := by
  unfold dl
  rw [List.take_succ_eq_append_getElem h, List.map_append]
  simp [List.getD, h]
theorem dl_len (zs : List Int) (m : Nat) (h : m ≤ zs.length) : (dl zs m).length = m := by
  unfold dl
  rw [List.length_map, List.length_take]; omega
theorem dl_lt (zs : List Int) (m : Nat) : ∀ c ∈ dl zs m, c < 4 := by
  intro c hc
  obtain ⟨z, _, rfl⟩ := List.mem_map.1 hc
  show (z % 4).toNat < 4
  omega
/-- The text of the functions' heads; that of their ends. -/
def hdB (l : List Nat) : ByteArray := ⟨(lvsB l).toArray⟩
def tlB (k : Nat) : ByteArray := ⟨(List.replicate k 41).toArray⟩
theorem lvsB_app : ∀ (l m : List Nat), lvsB (l ++ m) = lvsB l ++ lvsB m := by
  intro l
  induction l with
  | nil => intro m; rfl
  | cons c l ih => intro m; simp [lvsB, ih]
theorem hdB_next (l : List Nat) (t : Nat) : hdB (l ++ [t]) = hdB l ++ ⟨#[40, 108, 97, 109, 98, 100, 97, 32, 40]⟩ ++ nmB t ++ ⟨#[41, 32]⟩ := by
  apply ByteArray.ext
  simp [hdB, lvsB_app, lvsB, lvB, nmB]
theorem tlB_next (k : Nat) : tlB (k + 1) = tlB k ++ ⟨#[41]⟩ := by
  apply ByteArray.ext
  rw [ByteArray.data_append]
  show (List.replicate (k + 1) (41 : UInt8)).toArray = (List.replicate k 41).toArray ++ [41].toArray
  rw [List.append_toArray, List.replicate_succ']
theorem dpS_eq (l : List Nat) (c : Nat) : dpS l c = hdB l ++ nmB c ++ tlB l.length := by
  apply ByteArray.ext
  simp [dpS, dpB, hdB, nmB, tlB]
theorem hdB_size (l : List Nat) : (hdB l).size = 12 * l.length := by
  show (lvsB l).toArray.size = _
  rw [List.size_toArray, lvsB_len]
theorem tlB_size (k : Nat) : (tlB k).size = k := by
  show (List.replicate k (41 : UInt8)).toArray.size = _
  simp
def nm4 : List ByteArray := [⟨#[97]⟩, ⟨#[98]⟩, ⟨#[99]⟩, ⟨#[100]⟩]
theorem nm4_at : ∀ t, t < 4 → nm4[t]? = some (nmB t) := by
  intro t h
  rcases t with _ | _ | _ | _ | t
  · rfl
  · rfl
  · rfl
  · rfl
  · omega
theorem wantO_app (c : Nat) : ∀ (l : List Nat) (x : Nat), wantO c (l ++ [x]) = match wantO c l with
    | some a => some a
    | none => if x = c then some l.length else none := by
  intro l
  induction l with
  | nil => intro x; simp only [List.nil_append, wantO, List.length_nil]; split <;> rfl
  | cons y l ih =>
    intro x
    simp only [List.cons_append, wantO, ih]
    by_cases h : y = c
    · simp [h]
    · simp only [if_neg h]
      cases wantO c l with
      | some a => rfl
      | none =>
        by_cases h2 : x = c
        · simp [h2]
        · simp [h2]
/-- What the law has found behind k steps. -/
def wat (c : Nat) (l : List Nat) (k : Nat) : Int := match wantO c (l.reverse.take k) with
  | some a => (a : Int)
  | none => -1
theorem wat_next (c : Nat) (l : List Nat) (k : Nat) (h : k < l.length) : wat c l (k + 1) = if l.getD (l.length - 1 - k) 0 = c ∧ wat c l k < 0 then (k : Int) else wat c l k := by
  have hr : k < l.reverse.length := by rw [List.length_reverse]; exact h
  unfold wat
  rw [List.take_succ_eq_append_getElem hr, wantO_app]
  have e : l.reverse[k] = l.getD (l.length - 1 - k) 0 := by
    rw [List.getElem_reverse, List.getD_eq_getElem?_getD, List.getElem?_eq_getElem (by omega)]
    rfl
  rw [e]
  have e2 : (l.reverse.take k).length = k := by rw [List.length_take]; omega
  rw [e2]
  generalize l.getD (l.length - 1 - k) 0 = y
  cases wantO c (l.reverse.take k) with
  | some a => simp only; rw [if_neg (by omega)]
  | none =>
    by_cases h2 : y = c
    · simp [h2]
    · simp [h2]
theorem wat_end (c : Nat) (l : List Nat) : wat c l l.length = match wantO c l.reverse with
    | some a => (a : Int)
    | none => -1 := by
  unfold wat
  rw [← List.length_reverse, List.take_length]
theorem wat_ge (c : Nat) (l : List Nat) (k : Nat) : -1 ≤ wat c l k ∧ wat c l k ≤ l.length := by
  have hw : ∀ (m : List Nat) (a : Nat), wantO c m = some a → a < m.length := by
    intro m
    induction m with
    | nil => intro a h; cases h
    | cons x m ih =>
      intro a h
      unfold wantO at h
      split at h
      · cases h; simp
      · cases hm : wantO c m with
        | none => rw [hm] at h; cases h
        | some b =>
          rw [hm] at h
          cases h
          have := ih b hm
          simp; omega
  unfold wat
  cases h : wantO c (l.reverse.take k) with
  | none => simp only; omega
  | some a =>
    have := hw _ _ h
    rw [List.length_take, List.length_reverse] at this
    simp only; omega
theorem dl_get (zs : List Int) (m j : Nat) (h : j < m) (hm : m ≤ zs.length) : (dl zs m).getD j 0 = (zs.getD j 0 % 4).toNat := by
  unfold dl
  rw [List.getD_eq_getElem?_getD, List.getElem?_map, List.getElem?_take_of_lt h, List.getElem?_eq_getElem (show j < zs.length by omega)]
  rw [List.getD_eq_getElem?_getD, List.getElem?_eq_getElem (show j < zs.length by omega)]
  rfl
theorem u8_at9 {a : Option Addr} {len cap : Nat} {zs : List Int} {w w' : World} (hz : MR.Ints .u8 w a len cap zs) (hF : MM.Far [] w w') (i : Nat) (hi : i < len) : ∃ b off, a = some ⟨b, off, none⟩ ∧ b < w'.heap.size ∧ w'.cell? ⟨b, off + i, none⟩ = some (.int .u8 (zs.getD i 0)) := by
  have hp : 0 < (zs.map (Value.int .u8)).length := by rw [List.length_map, hz.len_]; omega
  obtain ⟨ad, e, _, hl, hc⟩ := (hz.src.far hF (by simp)) hp
  have hil : i < zs.length := by rw [hz.len_]; exact hi
  have h1 := hc i (.int .u8 (zs.getD i 0)) (by rw [List.getElem?_map, List.getElem?_eq_getElem hil]; simp [List.getD, hil])
  have h0 := hc 0 _ (List.getElem?_eq_getElem hp)
  rw [MR.add_zero_] at h0
  obtain ⟨b, off, spot⟩ := ad
  obtain rfl : spot = none := World.cell?_spot h0
  rw [MR.mk_add] at h1
  exact ⟨b, off, e, hl, h1⟩
set_option maxRecDepth 20000 in
set_option maxHeartbeats 8000000 in
theorem deep_any (a0 : Option Addr) (len0 cap0 : Nat) (z0 : List Int) (b : Int) (w : World) (w0 : MR.Ints .u8 w a0 len0 cap0 z0) (ub : (Lit.int .u8 b).wf = true) (hPT : PT w) : Calls Tryd.prog 5 #[.slice a0 len0 cap0, .int .u8 b] w fun e w' => e = .returned (.bool true) ∧ Below w.heap.size w w' := by
  have HPT := Lib.hid hPT
  have HZ := Lib.hid w0
  have hle := w0.le
  have hmx := w0.max
  have hnil := w0.nil
  unfold maxLen at hmx
  obtain ⟨m, hm⟩ : ∃ m, m = min len0 20 := ⟨_, rfl⟩
  have hm1 : m ≤ len0 := by omega
  have hm2 : m ≤ 20 := by omega
  have HM := Lib.hid hm
  obtain ⟨b0, b1⟩ := u8_of9 ub
  obtain ⟨c, hc⟩ : ∃ c : Nat, b % 4 = c := ⟨(b % 4).toNat, by omega⟩
  have hc4 : c < 4 := by omega
  have hZL : Hid (m ≤ z0.length) := Lib.hid (by rw [HZ.out.len_]; exact hm1)
  clear hPT ub w0 hm
  go_enter Tryd.func5, Tryd.ntmps5
  go_upto_region 3 with (first
    | (go_at_call 8; (with_reducible refine (shown_any _ HPT.out).mono ?_); rintro e w1 ⟨rfl, hF0⟩; have HF0 := Lib.hid hF0; clear hF0))
  show Code.wp _ _ _ _ (w1.alloc (.cells (nm4.map Value.string).toArray 9))
  have HRW := Lib.hid (MM.Row.new w1 9 (nm4.map Value.string))
  have HFW := Lib.hid (HF0.out.alloc (.cells (nm4.map Value.string).toArray 9))
  generalize w1.alloc (.cells (nm4.map Value.string).toArray 9) = W at *
  generalize w1.heap.size = b9 at *
  go_upto_region 4 with (fail)
  go_cut [9] (fun s9 wx => s9 = .slice a0 m cap0 ∧ wx = W)
  case first =>
    have hm := HM.out
    cases a0 with
    | none =>
      obtain rfl : cap0 = 0 := hnil rfl
      obtain rfl : len0 = 0 := by omega
      obtain rfl : m = 0 := by omega
      clear hm
      go_wp2
      go_meet
      exact ⟨rfl, rfl⟩
    | some ad =>
      by_cases h26 : len0 ≤ 20
      · obtain rfl : m = len0 := by omega
        clear hm
        go_wp2
        go_meet
        first | exact ⟨rfl, rfl⟩ | (rw [show (min (m : Int) 20).toNat = m from by omega]; exact ⟨rfl, rfl⟩)
      · obtain rfl : m = 20 := by omega
        clear hm
        go_wp2
        go_meet
        first | exact ⟨rfl, rfl⟩ | (rw [show (min (len0 : Int) 20).toNat = 20 from by omega]; exact ⟨rfl, rfl⟩)
  case rest =>
    obtain ⟨rfl, rfl⟩ := hcut
    go_wp2_with (fail)
    go_loopw [7, 8, 28] (fun s7 s8 s28 wr => ∃ k : Nat, k ≤ m ∧ s28 = .int .i64 (k : Int) ∧ ∃ p q, s7 = .string p ∧ s8 = .string q ∧ Hid (p = hdB (dl z0 k) ∧ q = tlB k ∧ wr = wc)) (fun _ _ s28 _ => m - (intOf s28).toNat)
    case atStart => exact ⟨0, by omega, rfl, _, _, rfl, rfl, Lib.hid ⟨rfl, rfl, by first | rfl | trivial⟩⟩
    case round =>
      obtain ⟨k, hk, rfl, p, q, rfl, rfl, hH⟩ := hrel
      have hps : p.size ≤ 1000 := by rw [hH.out.1, hdB_size, dl_len _ _ (by have := hZL.out; omega)]; omega
      have hqs : q.size ≤ 1000 := by rw [hH.out.2.1, tlB_size]; omega
      by_cases hlt : k < m
      · have hwr := hH.out.2.2
        subst hwr
        obtain ⟨bb, off, rfl, hb, hcell⟩ := u8_at9 HZ.out HFW.out k (by omega)
        have hil : k < z0.length := by have := hZL.out; omega
        obtain ⟨z0', z1'⟩ := u8_of9 (HZ.out.wf _ (by rw [List.getD_eq_getElem?_getD, List.getElem?_eq_getElem hil]; exact List.getElem_mem hil) : (Lit.int .u8 (z0.getD k 0)).wf = true)
        have HN := Lib.hid (dl_next z0 k hil)
        generalize z0.getD k 0 = z at *
        obtain ⟨t, ht⟩ : ∃ t : Nat, z % 4 = t := ⟨(z % 4).toNat, by omega⟩
        have ht4 : t < 4 := by omega
        have hct := HRW.out.at (i := t) (v := .string (nmB t)) (by rw [List.getElem?_map, nm4_at t ht4]; rfl)
        have HN2 : Hid (dl z0 (k + 1) = dl z0 k ++ [t]) := Lib.hid (by rw [HN.out, show (z % 4).toNat = t by omega])
        have hts : (nmB t).size = 1 := rfl
        clear HN hil
        go_wp2_with (fail)
        go_roundw
        case rel => exact ⟨k + 1, by omega, by go_num, _, _, rfl, rfl, Lib.hid ⟨by rw [HN2.out, hdB_next, hH.out.1], by rw [tlB_next, hH.out.2.1], by first | rfl | trivial⟩⟩
        case measure => simp [intOf]; omega
      · obtain rfl : k = m := by omega
        obtain ⟨hp, hq, hwr⟩ := hH.out
        subst hp hq hwr
        clear hH
        have hll : (dl z0 k).length = k := dl_len _ _ hZL.out
        have hof := ofS_dp (dl z0 k) c (dl_lt z0 k) hc4 (by rw [hll]; omega)
        rw [dpS_eq, hll] at hof
        have HOF := Lib.hid (fun (wx : World) (f : MM.Far [] wr wx) => of_any (hdB (dl z0 k) ++ nmB c ++ tlB k) (by rw [ByteArray.size_append, ByteArray.size_append, hdB_size, tlB_size, hll]; show 12 * k + 1 + k ≤ 1000; omega) wx ((HPT.out.far HFW.out).far f))
        rw [hof] at HOF
        have hwat := wat_end c (dl z0 k)
        rw [hll] at hwat
        have HWN : Hid (∀ i, i < k → wat c (dl z0 k) (i + 1) = if (z0.getD (k - 1 - i) 0 % 4).toNat = c ∧ wat c (dl z0 k) i < 0 then (i : Int) else wat c (dl z0 k) i) := Lib.hid (fun i hi => by
          rw [wat_next c _ i (by rw [hll]; exact hi), hll, dl_get z0 k (k - 1 - i) (by omega) hZL.out])
        have HWG : Hid (∀ i, -1 ≤ wat c (dl z0 k) i ∧ wat c (dl z0 k) i ≤ k) := Lib.hid (fun i => by have := wat_ge c (dl z0 k) i; rw [hll] at this; exact this)
        have hsz : (hdB (dl z0 k)).size = 12 * k := by rw [hdB_size, hll]
        have hqz : (tlB k).size = k := tlB_size k
        have hct := HRW.out.at (i := c) (v := .string (nmB c)) (by rw [List.getElem?_map, nm4_at c hc4]; rfl)
        have hcz : (nmB c).size = 1 := rfl
        have hw0 : wat c (dl z0 k) 0 = -1 := rfl
        have HW0 := Lib.hid hw0
        generalize dl z0 k = L at *
        clear hof hw0 hps hqs
        cases hW : wantO c L.reverse with
        | none =>
          rw [hW] at HOF hwat
          have HWE := Lib.hid hwat
          clear hW hwat
          go_wp2_with (first
            | (go_at_call 9; (with_reducible refine (HOF.out _ (MM.Far.refl _ _)).mono ?_); rintro e w4 ⟨g4, rfl, hF4, hN4, hg4⟩; unfold num; have HF4 := Lib.hid hF4; clear hF4 hN4 hg4))
          clear hct HOF
          go_loopw [17, 62] (fun s17 s62 wy => ∃ i : Nat, i ≤ k ∧ s62 = .int .i64 (i : Int) ∧ s17 = .int .i64 (wat c L i) ∧ Hid (wy = w4)) (fun _ s62 _ => k - (intOf s62).toNat)
          case atStart => exact ⟨0, by omega, rfl, by rw [HW0.out], Lib.hid (by first | rfl | trivial)⟩
          case round =>
            obtain ⟨i, hi, rfl, rfl, hH⟩ := hrel
            by_cases hlt2 : i < k
            · have hwy := hH.out
              subst hwy
              obtain ⟨j, hj⟩ : ∃ j : Nat, j = k - 1 - i := ⟨_, rfl⟩
              have hjk : j < k := by omega
              have hji : (k : Int) - 1 - (i : Int) = (j : Int) := by omega
              obtain ⟨bb, off, rfl, hb, hcell⟩ := u8_at9 HZ.out (HFW.out.trans HF4.out (by simp)) j (by omega)
              have hil : j < z0.length := by have := hZL.out; omega
              obtain ⟨z0', z1'⟩ := u8_of9 (HZ.out.wf _ (by rw [List.getD_eq_getElem?_getD, List.getElem?_eq_getElem hil]; exact List.getElem_mem hil) : (Lit.int .u8 (z0.getD j 0)).wf = true)
              have hn1 := HWN.out i hlt2
              rw [← hj] at hn1
              obtain ⟨g1, g2⟩ := HWG.out i
              generalize z0.getD j 0 = z at *
              obtain ⟨t, ht⟩ : ∃ t : Nat, z % 4 = t := ⟨(z % 4).toNat, by omega⟩
              rw [show (z % 4).toNat = t by omega] at hn1
              have HN1 := Lib.hid hn1
              generalize wat c L i = wv at *
              clear hn1 hil hj
              by_cases h1 : t = c
              · subst h1
                by_cases h2 : wv < 0
                · go_wp2_with (fail)
                  go_roundw
                  case rel => exact ⟨i + 1, by omega, by go_num, by rw [HN1.out, if_pos ⟨rfl, h2⟩], Lib.hid (by first | rfl | trivial)⟩
                  case measure => simp [intOf]; omega
                · go_wp2_with (fail)
                  go_roundw
                  case rel => exact ⟨i + 1, by omega, by go_num, by rw [HN1.out, if_neg (fun c => h2 c.2)], Lib.hid (by first | rfl | trivial)⟩
                  case measure => simp [intOf]; omega
              · have h1' : ¬ (t : Int) = (c : Int) := by omega
                go_wp2_with (fail)
                go_roundw
                case rel => exact ⟨i + 1, by omega, by go_num, by rw [HN1.out, if_neg (fun c => h1 c.1)], Lib.hid (by first | rfl | trivial)⟩
                case measure => simp [intOf]; omega
            · obtain rfl : i = k := by omega
              have hwy := hH.out
              subst hwy
              clear hH hlt2 HWN HWG
              rw [HWE.out]
              go_wp2_with (fail)
              go_ret
              exact ⟨by first | rfl | simp, (HFW.out.trans HF4.out (by simp)).below_nil⟩
        | some a =>
          rw [hW] at HOF hwat
          have HWE := Lib.hid hwat
          clear hW hwat
          go_wp2_with (first
            | (go_at_call 9; (with_reducible refine (HOF.out _ (MM.Far.refl _ _)).mono ?_); rintro e w4 ⟨fv4, tv4, rs4, g4, rfl, hF4, hN4, hg4, hrs4, hrow4, hkin4⟩; obtain ⟨FA4, fc4, rfl, -, -, -, hFR4⟩ := rf_rows hrow4 hkin4; have hRL4 : rs4.length = k + 1 := (by have := congrArg List.length hrs4; simpa [dpO_len, hll] using this); rw [hRL4]; rw [hrs4] at hFR4; obtain ⟨pb, po, LA4, lc4, rfl, hpb, c0, c1, c2, c3, -, -, -, -, -⟩ := hFR4 0 (by simp [dpO_len]); simp only [Nat.zero_mul, Nat.add_zero] at c0 c1 c2 c3; have p0 : w4.cell? ⟨pb, po, none⟩ = some (.int .u8 11) := c0; have p2 : w4.cell? ⟨pb, po + 2, none⟩ = some (.int .i64 0) := c2; have p3 : w4.cell? ⟨pb, po + 3, none⟩ = some (.int .i64 a) := c3; have HF4 := Lib.hid hF4; clear hrow4 hkin4 hrs4 hFR4 hN4 hg4 hF4 hRL4 c0 c1 c2 c3))
          clear hct HOF
          go_loopw [17, 62] (fun s17 s62 wy => ∃ i : Nat, i ≤ k ∧ s62 = .int .i64 (i : Int) ∧ s17 = .int .i64 (wat c L i) ∧ Hid (wy = w4)) (fun _ s62 _ => k - (intOf s62).toNat)
          case atStart => exact ⟨0, by omega, rfl, by rw [HW0.out], Lib.hid (by first | rfl | trivial)⟩
          case round =>
            obtain ⟨i, hi, rfl, rfl, hH⟩ := hrel
            by_cases hlt2 : i < k
            · have hwy := hH.out
              subst hwy
              obtain ⟨j, hj⟩ : ∃ j : Nat, j = k - 1 - i := ⟨_, rfl⟩
              have hjk : j < k := by omega
              have hji : (k : Int) - 1 - (i : Int) = (j : Int) := by omega
              obtain ⟨bb, off, rfl, hb, hcell⟩ := u8_at9 HZ.out (HFW.out.trans HF4.out (by simp)) j (by omega)
              have hil : j < z0.length := by have := hZL.out; omega
              obtain ⟨z0', z1'⟩ := u8_of9 (HZ.out.wf _ (by rw [List.getD_eq_getElem?_getD, List.getElem?_eq_getElem hil]; exact List.getElem_mem hil) : (Lit.int .u8 (z0.getD j 0)).wf = true)
              have hn1 := HWN.out i hlt2
              rw [← hj] at hn1
              obtain ⟨g1, g2⟩ := HWG.out i
              generalize z0.getD j 0 = z at *
              obtain ⟨t, ht⟩ : ∃ t : Nat, z % 4 = t := ⟨(z % 4).toNat, by omega⟩
              rw [show (z % 4).toNat = t by omega] at hn1
              have HN1 := Lib.hid hn1
              generalize wat c L i = wv at *
              clear hn1 hil hj
              by_cases h1 : t = c
              · subst h1
                by_cases h2 : wv < 0
                · go_wp2_with (fail)
                  go_roundw
                  case rel => exact ⟨i + 1, by omega, by go_num, by rw [HN1.out, if_pos ⟨rfl, h2⟩], Lib.hid (by first | rfl | trivial)⟩
                  case measure => simp [intOf]; omega
                · go_wp2_with (fail)
                  go_roundw
                  case rel => exact ⟨i + 1, by omega, by go_num, by rw [HN1.out, if_neg (fun c => h2 c.2)], Lib.hid (by first | rfl | trivial)⟩
                  case measure => simp [intOf]; omega
              · have h1' : ¬ (t : Int) = (c : Int) := by omega
                go_wp2_with (fail)
                go_roundw
                case rel => exact ⟨i + 1, by omega, by go_num, by rw [HN1.out, if_neg (fun c => h1 c.1)], Lib.hid (by first | rfl | trivial)⟩
                case measure => simp [intOf]; omega
            · obtain rfl : i = k := by omega
              have hwy := hH.out
              subst hwy
              clear hH hlt2 HWN HWG
              rw [HWE.out]
              go_wp2_with (fail)
              go_ret
              exact ⟨by first | rfl | simp, (HFW.out.trans HF4.out (by simp)).below_nil⟩
end SM
end Go.Proofs.YtedbaegdmianaaaDoor
