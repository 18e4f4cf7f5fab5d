/-
  Several texts in one: ExpRead, ExpL1, ExpSame, ExpShown. Each one's own head tells its conditions.
-/
import Derived.Test.YtaghlpolljaedaaGreatExpPure
import Derived.Test.YtaghlpolljaedaaGreatShowBackP
import Derived.Test.YtaghlpolljaedaaGreatLexMids
import Derived.Test.YtaghlpolljaedaaGreatExpE
import Derived.Test.YtaghlpolljaedaaGreatReadMays
import Derived.BigQuiet
import Derived.Deep.LoopGhost
/-
  Layer 8 in plain words: data that are read; how much work they are. No condition.
-/
namespace Go.Proofs.YtaghlpolljaedaaGreat
namespace EX
open LX RX SX
theorem ch_T {ns : List Nd} {P : Nat → Nat → Prop} (hP : ∀ b c, P b c → T ns c + b = c + 1 ∧ b ≤ c) {a b : Nat} {l : List Nat} (h : Ch P a b l) : (l.map (T ns)).sum + a = b ∧ a ≤ b := by
  induction h with
  | nil => simp
  | snoc k hp ih =>
    obtain ⟨h1, h2⟩ := hP _ _ hp
    rw [List.map_append, List.sum_append, List.map_cons, List.map_nil, List.sum_cons, List.sum_nil]
    omega
theorem dat_T {ns : List Nd} (hok : Ok ns) : ∀ k b c, Dat ns k b c → T ns c + b = c + 1 ∧ b ≤ c := by
  intro k
  have leaf : ∀ c x, ns[c]? = some x → Leaf x → T ns c = 1 := fun c x hx hl => by
    have hc := (List.getElem?_eq_some_iff.1 hx).1
    have e : ndAt ns c = x := by
      unfold ndAt
      rw [List.getD_eq_getElem?_getD, hx]; rfl
    have hl2 : x.l = [] := by
      rcases hl with h | h | h
      · exact h.2.2.1
      · exact h.2.2.2
      · exact h.2.2.1
    rw [T_eq hok hc, e, hl2]
    simp
  induction k with
  | zero =>
    rintro b c ⟨rfl, x, h1, h2⟩
    rw [leaf _ x h1 h2]; omega
  | succ k ih =>
    rintro b c (⟨rfl, x, h1, h2⟩ | ⟨x, h1, h2, h3, h4, h5⟩)
    · rw [leaf _ x h1 h2]; omega
    · have hc := (List.getElem?_eq_some_iff.1 h1).1
      have e : ndAt ns c = x := by
        unfold ndAt
        rw [List.getD_eq_getElem?_getD, h1]; rfl
      have := ch_T ih h5
      rw [T_eq hok hc, e]
      omega
theorem sum_mem {l : List Nat} {f : Nat → Nat} {i : Nat} (h : i ∈ l) : f i ≤ (l.map f).sum := by
  induction l with
  | nil => cases h
  | cons a l ih =>
    rw [List.map_cons, List.sum_cons]
    rcases List.mem_cons.1 h with rfl | h
    · omega
    · have := ih h; omega
theorem read_T {s : ByteArray} {r : Rd} (h : read s = .ok r) : (r.tops.map (T r.row)).sum = r.row.length := by
  have := ch_T (dat_T (read_ok_data h) 50) (read_dat h)
  omega
theorem read_tops_lt {s : ByteArray} {r : Rd} (h : read s = .ok r) : ∀ i ∈ r.tops, i < r.row.length := fun _ hi => (read_plain h).1.lt (.inl hi)
theorem sum_wt (ns : List Nd) (l : List Nat) : (l.map fun i => wt ns (.top i)).sum ≤ 16 * (l.map (T ns)).sum := by
  induction l with
  | nil => simp
  | cons a l ih =>
    rw [List.map_cons, List.sum_cons, List.map_cons, List.sum_cons]
    have : wt ns (.top a) = 16 * T ns a - 8 := rfl
    omega
theorem read_len {s : ByteArray} {r : Rd} (h : read s = .ok r) : r.row.length ≤ 2 * s.size := by
  obtain ⟨ts, h1, h2, _⟩ := read_ok h
  have hl := lex_len h1
  have := tokens_bd ts (r := ⟨[], [], []⟩) (n := 0) ⟨by simp, by simp, by simp⟩ h2
  have h4 := this.sum
  omega
theorem read_strs {s : ByteArray} {r : Rd} (h : read s = .ok r) : ∀ x ∈ r.row, x.s.size ≤ 32 := by
  have hI := (read_inv (P := fun x => x.s.size ≤ 32) (Q := fun _ => True) (fun _ _ _ _ h => h) (fun _ _ _ => by show (emp).size ≤ 32; decide) h
    (fun _ hl => brings _ _ hl (fun _ _ _ _ => by show (emp).size ≤ 32; decide) (fun _ _ _ => by show (emp).size ≤ 32; decide) (fun t hi hk => by
      have := hi.good.size
      have e : tkB t = t.s := by unfold tkB; simp [hk]
      rw [e] at this
      exact this) (fun _ _ _ _ _ => trivial) (fun _ _ _ => ⟨fun _ _ => trivial, by show quoteB.size ≤ 32; decide⟩))).1
  exact fun x hx => (hI.good x hx).2
end EX
end Go.Proofs.YtaghlpolljaedaaGreat
/-
  Layer 8's laws: a text's forms. Conditions: no more than 3000 bytes.
-/
namespace Go.Proofs.YtaghlpolljaedaaGreat
open Go.RowKit
namespace EW
open LX SX RW6 EX
open RX (Nd Rd)
open RM6 (Kin ndC kinsN)
def zI (l : List Nat) : List Int := l.map fun n => ((n : Nat) : Int)
theorem zI_nums (l : List Nat) : (zI l).map num = ints l := by unfold zI ints num; rw [List.map_map]; rfl
theorem zI_back (l : List Nat) : (zI l).map Int.toNat = l := by
  unfold zI
  rw [List.map_map]
  conv => rhs; rw [← List.map_id l]
  exact List.map_congr_left (fun x _ => by simp)
theorem zI_len (l : List Nat) : (zI l).length = l.length := by unfold zI; rw [List.length_map]
/-- What was read, as it lies. -/
theorem done_rows {w0 w : World} {rv tv : Value} {rs : List (Nd × Value)} {tops : List Nat} (h : Done w0 w rv tv rs tops) : ∃ A c, rv = .slice A rs.length c ∧ NdR w A (rs.map (·.1)) := by
  obtain ⟨A, c, rfl, k0, k1, k2, k3, hh⟩ := MO.form h.row
  refine ⟨A, c, rfl, fun k hk => ?_⟩
  have hk2 : k < rs.length := by simpa using hk
  rcases hh with ⟨_, hz, _⟩ | ⟨g, rfl, _, hlt⟩
  · omega
  obtain ⟨LA, lc, e, l1, l2, _, hI⟩ := own_ints (h.kin.each (rs[k].2, rs[k].1.l) (by
    refine List.mem_cons_of_mem _ ?_
    unfold kinsN
    exact List.mem_map.2 ⟨rs[k], List.getElem_mem hk2, rfl⟩))
  have c (j : Nat) (hj : j < 5) (u : Value) (hu : ([.int .u8 rs[k].1.kind, .int .i64 rs[k].1.at_, .int .i64 rs[k].1.n, .string rs[k].1.s, rs[k].2] : List Value)[j]? = some u) : w.cell? ⟨g, 0 + k * 5 + j, none⟩ = some u := by
    have := @World.ownsRow.cells w _ _ _ _ _ _ h.row g rfl (k * 5 + j) u ((ndC_at rs k hk2 j hj).trans hu)
    rw [MM.head_add] at this
    rw [Nat.zero_add]; exact this
  have em : (rs.map (·.1))[k] = rs[k].1 := by simp
  rw [em]
  exact ⟨g, 0, LA, lc, rfl, hlt, c 0 (by omega) _ rfl, c 1 (by omega) _ rfl, c 2 (by omega) _ rfl, c 3 (by omega) _ rfl, (c 4 (by omega) _ rfl).trans (congrArg some e), l1, l2, hI⟩
theorem NdR.row {w : World} {A : Option Addr} {ns : List Nd} (h : NdR w A ns) : NdRow w A ns := fun k hk => by
  obtain ⟨b, o, LA, c, e, hb, c0, c1, c2, c3, c4, k1, k2, hI⟩ := h k hk
  exact ⟨b, o, LA, c, e, hb, c0, c1, c2, c3, c4, hI⟩
theorem inRange_of {n : Nat} {l : List Nat} (h : ∀ i ∈ l, i < n) : inRange (n : Int) (zI l) = true := by
  unfold inRange zI
  rw [List.all_eq_true]
  intro z hz
  obtain ⟨i, hi, rfl⟩ := List.mem_map.1 hz
  have := h i hi
  exact decide_eq_true (by omega)
/-- Where nothing is, there is nothing. -/
theorem ndAt_all {ns : List Nd} {Q : Nd → Prop} (h : ∀ x ∈ ns, Q x) (h0 : Q ⟨0, 0, 0, emp, []⟩) (i : Nat) : Q (ndAt ns i) := by
  unfold ndAt
  rw [List.getD_eq_getElem?_getD]
  cases hx : ns[i]? with
  | none => exact h0
  | some x => exact h x (List.mem_of_getElem? hx)
theorem lie_of {w : World} {A : Option Addr} {s : ByteArray} {r : Rd} (h : RX.read s = .ok r) (hN : NdR w A r.row) : Lie w A r.row.length r.row :=
  ⟨hN, rfl, fun i => ndAt_all (Q := fun x => x.s.size ≤ 140737488355328) (fun x hx => by have := read_strs h x hx; omega) (show (0 : Nat) ≤ 140737488355328 by omega) i, read_ok_data h, fun i => ndAt_all (Q := fun x => x.l.length ≤ 100000) (fun x hx => by have := (RX.read_sizes h).2.2 x hx; omega) (by simp) i⟩
/-- The code's forms of what was read. -/
theorem code_any {w0 w : World} {rv tv : Value} {rs : List (Nd × Value)} {s : ByteArray} {r : Rd} (hR : RX.read s = .ok r) (h : Done w0 w rv tv rs r.tops) (hrs : rs.map (·.1) = r.row) (hs : r.row.length ≤ 6000) :
    Calls Tryz.prog 6 #[rv, tv] w (ExpQ w (EX.expand r.row r.tops)) := by
  obtain ⟨A, c, rfl, hN⟩ := done_rows h
  have hlen : rs.length = r.row.length := by rw [← hrs, List.length_map]
  rw [hrs] at hN
  obtain ⟨TA, tc, htv, -⟩ := own_ints (h.kin.each (tv, r.tops) (List.mem_cons_self ..))
  have htv : tv = .slice TA r.tops.length tc := htv
  subst htv
  have hT : Sl w [] (.slice TA r.tops.length tc) ((zI r.tops).map num) := by
    rw [zI_nums]
    exact Sl.own (h.kin.each (.slice TA r.tops.length tc, r.tops) (List.mem_cons_self ..)) (fun b _ => by simp)
  have hsz := RX.read_sizes hR
  have hl2 := hs
  have hM := may_yes (r.row.map RX.toI) (RX.read_may hR) r.row.length (by rw [List.length_map]) (by omega) (fun x hx => by
    obtain ⟨y, hy, rfl⟩ := List.mem_map.1 hx
    have := hsz.2.2 y hy
    simp only [RX.toI, List.length_map]; omega) A c w (NiRow.of_nd hN.row)
  have hsum := sum_wt r.row r.tops
  rw [read_T hR] at hsum
  have := expandF_any (lie_of hR hN) hM hT (zI_len _) (by omega) (inRange_of (read_tops_lt hR)) (by rw [zI_back]; unfold wtt; omega) (fun i hi => by
    rw [zI_back] at hi
    have h1 := EX.sum_mem (f := fun i => wt r.row (.top i)) hi
    omega)
  rw [zI_back, ← hlen] at this
  exact this
def ofM (s : ByteArray) : Except Int (List Fm × List Nat) := match RX.read s with
  | .error _ => .ok ([], [])
  | .ok r => EX.expand r.row r.tops
theorem nil_any (w : World) : Calls Tryz.prog 6 #[.slice none 0 0, .slice none 0 0] w (ExpQ w (.ok ([], []))) := by
  have hN : NdR w none [] := fun k hk => by simp at hk
  have L : Lie w none 0 [] := ⟨hN, rfl, fun i => (show (0 : Nat) ≤ 140737488355328 by omega), ⟨(fun x hx => absurd hx (by simp)), (fun x hx => absurd hx (by simp)), (fun i hi => absurd hi (by simp)), (fun i hi => absurd hi (by simp)), (fun i hi => absurd hi (by simp))⟩, fun i => (show (0 : Nat) ≤ 100000 by omega)⟩
  have hM := may_yes [] rfl 0 rfl (by omega) (fun x hx => by cases hx) none 0 w (fun k hk => by simp at hk)
  exact expandF_any L hM (Sl.nil _ _) (zs := []) rfl (by omega) rfl (by decide) (fun i hi => by cases hi)
set_option maxRecDepth 20000 in
theorem of_any (s : ByteArray) (hs : s.size ≤ 3000) (w : World) : Calls Tryz.prog 14 #[.string s] w (ExpQ w (ofM s)) := by
  have HR := Lib.hid (RM6.rread_any s (by omega) w)
  have HS := Lib.hid hs
  clear hs
  unfold ofM
  cases hR : RX.read s with
  | error px =>
    obtain ⟨p, x⟩ := px
    rw [hR] at HR
    clear hR
    show Calls _ _ _ _ (ExpQ w (.ok ([], [])))
    go_enter Tryz.func14, Tryz.ntmps14
    go_wp2_with (first
      | (go_at_call 13; (with_reducible refine HR.out.mono ?_); rintro e w1 hQ; obtain ⟨rfl, hF1⟩ : e = .returned (.tuple #[.slice none 0 0, .slice none 0 0, .int .i64 p, .int .i64 x]) ∧ MM.Far [] w w1 := hQ; have HF1 := Lib.hid hF1; clear hF1)
      | (go_at_call 6; (with_reducible refine (nil_any _).mono ?_); rintro e w2 ⟨fv, tv, rs, rfl, hD, hrs⟩; have HD := Lib.hid (hD.from HF1.out); have HRS := Lib.hid hrs; clear hD hrs))
    refine bodyPost_ret (v := .tuple #[fv, tv, .int .i64 0, .int .i64 0]) (by simp [results, Tryz.results14, go_sem]) rfl ?_
    exact ⟨fv, tv, rs, rfl, HD.out, HRS.out⟩
  | ok r =>
    rw [hR] at HR
    have HRD := Lib.hid hR
    show Calls _ _ _ _ (ExpQ w (EX.expand r.row r.tops))
    have HC := Lib.hid (fun (w1 : World) (rv tv : Value) (rs : List (Nd × Value)) (h : Done w w1 rv tv rs r.tops) (hrs : rs.map (·.1) = r.row) => code_any hR h hrs (by have := read_len hR; have := HS.out; omega))
    clear hR
    cases hX : EX.expand r.row r.tops with
    | error a =>
      rw [hX] at HC
      clear hX
      go_enter Tryz.func14, Tryz.ntmps14
      go_wp2_with (first
        | (go_at_call 13; (with_reducible refine HR.out.mono ?_); rintro e w1 ⟨rv, tv0, rs0, rfl, hD0, hrs0⟩; have HF1 := Lib.hid hD0.far; have HC1 := Lib.hid (HC.out _ _ _ _ hD0 hrs0); clear hD0 hrs0)
        | (go_at_call 6; (with_reducible refine HC1.out.mono ?_); rintro e w2 hQ2; obtain ⟨rfl, hF2⟩ : e = .returned (.tuple #[.slice none 0 0, .slice none 0 0, .int .i64 a, .int .i64 80]) ∧ MM.Far [] w1 w2 := hQ2; have HF2 := Lib.hid (HF1.out.trans hF2 (by simp)); clear hF2))
      refine bodyPost_ret (v := .tuple #[.slice none 0 0, .slice none 0 0, .int .i64 a, .int .i64 80]) (by simp [results, Tryz.results14, go_sem]) rfl ?_
      exact ⟨rfl, HF2.out⟩
    | ok x =>
      rw [hX] at HC
      clear hX
      go_enter Tryz.func14, Tryz.ntmps14
      go_wp2_with (first
        | (go_at_call 13; (with_reducible refine HR.out.mono ?_); rintro e w1 ⟨rv, tv0, rs0, rfl, hD0, hrs0⟩; have HF1 := Lib.hid hD0.far; have HC1 := Lib.hid (HC.out _ _ _ _ hD0 hrs0); clear hD0 hrs0)
        | (go_at_call 6; (with_reducible refine HC1.out.mono ?_); rintro e w2 ⟨fv, tv, rs, rfl, hD, hrs⟩; have HD := Lib.hid (hD.from HF1.out); have HRS := Lib.hid hrs; clear hD hrs))
      refine bodyPost_ret (v := .tuple #[fv, tv, .int .i64 0, .int .i64 0]) (by simp [results, Tryz.results14, go_sem]) rfl ?_
      exact ⟨fv, tv, rs, rfl, HD.out, HRS.out⟩
end EW
end Go.Proofs.YtaghlpolljaedaaGreat
/-
  Layer 8's laws: two rows of the same forms are held to be the same; forms as they lie. Conditions: sizes.
-/
namespace Go.Proofs.YtaghlpolljaedaaGreat
open Go.RowKit
namespace EW
open LX SX RW6 EX
open RX (Nd Rd)
open RM6 (Kin)
/-- A row of forms, wherever it lies. -/
def FmR (w : World) (A : Option Addr) (fs : List Fm) : Prop :=
  ∀ (k : Nat) (h : k < fs.length), ∃ b o PA pc LA lc, A = some ⟨b, o, none⟩ ∧ b < w.heap.size ∧ w.cell? ⟨b, o + k * 8, none⟩ = some (.int .u8 fs[k].kind) ∧ w.cell? ⟨b, o + k * 8 + 1, none⟩ = some (.int .i64 fs[k].at_) ∧ w.cell? ⟨b, o + k * 8 + 2, none⟩ = some (.int .i64 fs[k].n) ∧
    w.cell? ⟨b, o + k * 8 + 3, none⟩ = some (.int .i64 0) ∧ w.cell? ⟨b, o + k * 8 + 4, none⟩ = some (.string fs[k].s) ∧ w.cell? ⟨b, o + k * 8 + 5, none⟩ = some (.slice PA fs[k].p.length pc) ∧ w.cell? ⟨b, o + k * 8 + 6, none⟩ = some (.int .u64 0) ∧
    w.cell? ⟨b, o + k * 8 + 7, none⟩ = some (.slice LA fs[k].l.length lc) ∧ Sl w [] (.slice PA fs[k].p.length pc) (strs fs[k].p) ∧ IntRow w LA fs[k].l
theorem FmR.far {w w' : World} {A : Option Addr} {fs : List Fm} (h : FmR w A fs) (f : MM.Far [] w w') : FmR w' A fs := by
  intro k hk
  obtain ⟨b, o, PA, pc, LA, lc, e, hb, c0, c1, c2, c3, c4, c5, c6, c7, hP, hI⟩ := h k hk
  have g (x : Nat) : w'.cell? ⟨b, x, none⟩ = w.cell? ⟨b, x, none⟩ := f.cell (p := ⟨b, x, none⟩) hb (by simp)
  exact ⟨b, o, PA, pc, LA, lc, e, Nat.lt_of_lt_of_le hb f.size, (g _).trans c0, (g _).trans c1, (g _).trans c2, (g _).trans c3, (g _).trans c4, (g _).trans c5, (g _).trans c6, (g _).trans c7, hP.far f (by simp), hI.far f⟩
theorem fmC_at : ∀ (rs : List (Fm × Value × Value)) (k : Nat) (h : k < rs.length) (j : Nat) (_ : j < 8), (fmC rs)[k * 8 + j]? = (fmL rs[k])[j]? := by
  intro rs
  induction rs with
  | nil => intro k h; simp at h
  | cons x rs ih =>
    intro k h j hj
    have e : fmC (x :: rs) = fmL x ++ fmC rs := by simp [fmC]
    have hl : (fmL x).length = 8 := rfl
    rw [e]
    cases k with
    | zero => rw [Nat.zero_mul, Nat.zero_add, List.getElem?_append_left (by omega)]; rfl
    | succ k =>
      rw [List.getElem?_append_right (by omega), hl]
      have := ih k (by simpa using h) j hj
      rw [show (k + 1) * 8 + j - 8 = k * 8 + j from by omega, this]
      rfl
theorem DoneF.rows {w0 w : World} {fv tv : Value} {rs : List (Fm × Value × Value)} {tops : List Nat} (h : DoneF w0 w fv tv rs tops) : ∃ A c, fv = .slice A rs.length c ∧ rs.length ≤ c ∧ c ≤ maxLen ∧ (A = none → c = 0) ∧ FmR w A (rs.map (·.1)) := by
  obtain ⟨A, c, rfl, k0, k1, k2, k3, hh⟩ := MO.form h.row
  refine ⟨A, c, rfl, k1, k2, k0, fun k hk => ?_⟩
  have hk2 : k < rs.length := by simpa using hk
  rcases hh with ⟨_, hz, _⟩ | ⟨g, rfl, _, hlt⟩
  · omega
  obtain ⟨LA, lc, e, l1, l2, _, hI⟩ := own_ints (h.kin.each (rs[k].2.2, rs[k].1.l) (by
    refine List.mem_cons_of_mem _ ?_
    unfold kinsF
    exact List.mem_map.2 ⟨rs[k], List.getElem_mem hk2, rfl⟩))
  have hnam := h.nam rs[k] (List.getElem_mem hk2)
  obtain ⟨PA, pc, ep, _⟩ := hnam.form
  have c (j : Nat) (hj : j < 8) (u : Value) (hu : (fmL rs[k])[j]? = some u) : w.cell? ⟨g, 0 + k * 8 + j, none⟩ = some u := by
    have := @World.ownsRow.cells w _ _ _ _ _ _ h.row g rfl (k * 8 + j) u ((fmC_at rs k hk2 j hj).trans hu)
    rw [MM.head_add] at this
    rw [Nat.zero_add]; exact this
  have em : (rs.map (·.1))[k] = rs[k].1 := by simp
  rw [em]
  rw [strs_len] at ep
  rw [ep] at hnam
  exact ⟨g, 0, PA, pc, LA, lc, rfl, hlt, c 0 (by omega) _ rfl, c 1 (by omega) _ rfl, c 2 (by omega) _ rfl, c 3 (by omega) _ rfl, c 4 (by omega) _ rfl, (c 5 (by omega) _ rfl).trans (congrArg some ep), c 6 (by omega) _ rfl, (c 7 (by omega) _ rfl).trans (congrArg some e), hnam, hI⟩
theorem DoneF.tops_row {w0 w : World} {fv tv : Value} {rs : List (Fm × Value × Value)} {tops : List Nat} (h : DoneF w0 w fv tv rs tops) : ∃ A c, tv = .slice A tops.length c ∧ tops.length ≤ c ∧ c ≤ maxLen ∧ (A = none → c = 0) ∧ IntRow w A tops := own_ints (h.kin.each (tv, tops) (List.mem_cons_self ..))
set_option maxHeartbeats 4000000 in
set_option maxRecDepth 20000 in
theorem fsame_yes (fs : List Fm) (n : Nat) (hn : fs.length = n) (hm : n ≤ 100000) (hl : ∀ x ∈ fs, x.l.length ≤ 100000 ∧ x.p.length ≤ 100000) (A1 A2 : Option Addr) (c1 c2 : Nat) (w : World) (h1 : FmR w A1 fs) (h2 : FmR w A2 fs) :
    Calls Tryz.prog 9 #[.slice A1 n c1, .slice A2 n c2] w fun e w' => e = .returned (.bool true) ∧ MM.Far [] w w' := by
  have H1 := Lib.hid h1
  have H2 := Lib.hid h2
  have HN := Lib.hid hn
  have HLN := Lib.hid hl
  have HD0 := Lib.hid (MM.Far.refl [] w)
  clear h1 h2 hn hl
  go_enter Tryz.func9, Tryz.ntmps9
  go_wp2
  go_loopg [5] n (fun g i wr => ∃ k : Nat, k + g = n ∧ i = .int .i64 (k : Int) ∧ Hid (MM.Far [] w wr))
  case atStart => exact ⟨0, by omega, rfl, HD0⟩
  case round =>
    obtain ⟨k, hk, rfl, hD⟩ := hrel
    obtain ⟨wo, rfl⟩ : ∃ wo, wo = wr := ⟨_, rfl⟩
    clear HD0
    have hkn : k ≤ n := by omega
    by_cases hlt : k < n
    · have hk2 : k < fs.length := by rw [HN.out]; exact hlt
      obtain ⟨b1, o1, P1, p1, L1, e1, rfl, hb1, a0, a1, a2, a3, a4, a5, a6, a7, s1, i1⟩ := (H1.out.far hD.out) k hk2
      obtain ⟨b2, o2, P2, p2, L2, e2, rfl, hb2, d0, d1, d2, d3, d4, d5, d6, d7, s2, i2⟩ := (H2.out.far hD.out) k hk2
      have hll := HLN.out _ (List.getElem_mem hk2)
      generalize fs[k] = t at *
      obtain ⟨kd, at_, nn, ss, pp, l⟩ := t
      simp only at a0 a1 a2 a3 a4 a5 a6 a7 s1 i1 d0 d1 d2 d3 d4 d5 d6 d7 s2 i2 hll
      obtain ⟨m, hm2⟩ : ∃ m, l.length = m := ⟨_, rfl⟩
      obtain ⟨np, hnp⟩ : ∃ np, pp.length = np := ⟨_, rfl⟩
      rw [hm2] at a7 d7 hll
      rw [hnp] at a5 d5 s1 s2 hll
      have FW := ((MM.Far.refl [] wo).alloc (.cells #[.int .u8 kd, .int .i64 at_, .int .i64 nn, .int .i64 0, .string ss, .slice P1 np p1, .int .u64 0, .slice L1 m e1] 41)).alloc (.cells #[.int .u8 kd, .int .i64 at_, .int .i64 nn, .int .i64 0, .string ss, .slice P2 np p2, .int .u64 0, .slice L2 m e2] 41)
      have HI := Lib.hid (ints_call (c1 := e1) (c2 := e2) hm2 hll.1 (i1.far FW) (i2.far FW))
      have d0' := far_cell ((MM.Far.refl [] wo).alloc (.cells #[.int .u8 kd, .int .i64 at_, .int .i64 nn, .int .i64 0, .string ss, .slice P1 np p1, .int .u64 0, .slice L1 m e1] 41)) d0
      have HFW := Lib.hid FW
      have HS1 := Lib.hid s1
      have HS2 := Lib.hid s2
      have HNP := Lib.hid hnp
      have HLL := Lib.hid hll
      clear hk2 i1 i2 hm2 FW s1 s2 hnp hll
      go_wp2_with (first
        | (go_at_call 10; (with_reducible refine HI.out.mono ?_); rintro e w3 ⟨rfl, hF3⟩; have hB1 := ((MM.Row.new wo 41 [.int .u8 kd, .int .i64 at_, .int .i64 nn, .int .i64 0, .string ss, .slice P1 np p1, .int .u64 0, .slice L1 m e1]).alloc (.cells #[.int .u8 kd, .int .i64 at_, .int .i64 nn, .int .i64 0, .string ss, .slice P2 np p2, .int .u64 0, .slice L2 m e2] 41)).far hF3 (by simp); have hB2 := (row_new (w := wo.alloc (.cells #[.int .u8 kd, .int .i64 at_, .int .i64 nn, .int .i64 0, .string ss, .slice P1 np p1, .int .u64 0, .slice L1 m e1] 41)) 41 [.int .u8 kd, .int .i64 at_, .int .i64 nn, .int .i64 0, .string ss, .slice P2 np p2, .int .u64 0, .slice L2 m e2] (sz_alloc _ _)).far hF3 (by simp); have x5 := hB1.at (i := 5) rfl; have y5 := hB2.at (i := 5) rfl; have HF3 := Lib.hid (HFW.out.trans hF3 (by simp)); have HB1 := Lib.hid hB1; have HB2 := Lib.hid hB2; clear hF3 hB1 hB2))
      clear x5 y5
      go_loopg [8] np (fun g i wz => ∃ j : Nat, j + g = np ∧ i = .int .i64 (j : Int) ∧ Hid (MM.Far [] w3 wz))
      case atStart => exact ⟨0, by omega, rfl, Lib.hid (MM.Far.refl [] w3)⟩
      case round =>
        obtain ⟨j, hj, rfl, hE⟩ := hrel
        obtain ⟨wz, rfl⟩ : ∃ wz, wz = wr := ⟨_, rfl⟩
        have x5 := far_cell hE.out (HB1.out.at (i := 5) rfl)
        have y5 := far_cell hE.out (HB2.out.at (i := 5) rfl)
        by_cases hjl : j < np
        · have hjp : j < pp.length := by rw [HNP.out]; exact hjl
          obtain ⟨A1', q1', e3, _, _, hc3⟩ := HS1.out.far (HF3.out.trans hE.out (by simp)) (by simp)
          obtain ⟨A2', q2', e4, _, _, hc4⟩ := HS2.out.far (HF3.out.trans hE.out (by simp)) (by simp)
          injection e3 with e31 e32 e33
          injection e4 with e41 e42 e43
          subst e31 e33 e41 e43
          obtain ⟨g1, o3, rfl, _, _, cc1⟩ := hc3 j (.string pp[j]) (by unfold strs; rw [List.getElem?_map, List.getElem?_eq_getElem hjp]; rfl)
          obtain ⟨g2, o4, rfl, _, _, cc2⟩ := hc4 j (.string pp[j]) (by unfold strs; rw [List.getElem?_map, List.getElem?_eq_getElem hjp]; rfl)
          generalize pp[j] = sj at cc1 cc2
          have hnp5 := HLL.out.2
          have hj0 : (0 : Int) ≤ (j : Int) := by omega
          have hj1 : (j : Int) < (np : Int) := by omega
          clear hc3 hc4 e32 e42
          go_wp2
          go_quiet (fail)
          go_wp2
          go_roundg (np - (j + 1))
          case rel =>
            exact ⟨j + 1, by omega, by go_num, Lib.hid (hE.out.drewN _)⟩
          case measure => omega
        · obtain rfl : j = np := by omega
          go_wp2
          go_roundg (n - (k + 1))
          case rel => exact ⟨k + 1, by omega, by go_num, Lib.hid ((hD.out.trans HF3.out (by simp)).trans hE.out (by simp))⟩
          case measure => omega
    · obtain rfl : k = n := by omega
      go_wp2
      go_ret
      exact ⟨rfl, hD.out⟩
end EW
end Go.Proofs.YtaghlpolljaedaaGreat
/-
  Layer 8's laws: the example that stands at the head of each. No condition.
-/
namespace Go.Proofs.YtaghlpolljaedaaGreat
open Go.RowKit
namespace EW
open LX SX RW6 EX
open RX (Nd Rd)
def shownB : ByteArray := ⟨#[40, 119, 104, 101, 110, 32, 120, 32, 49, 32, 50, 41]⟩
def shownF : List Fm := [⟨4, 6, 0, ⟨#[120]⟩, [], []⟩, ⟨1, 8, 1, emp, [], []⟩, ⟨1, 10, 2, emp, [], []⟩, ⟨8, 0, 0, emp, [], [1, 2]⟩, ⟨2, 0, 0, emp, [], []⟩, ⟨5, 0, 0, emp, [], [0, 3, 4]⟩]
theorem shown_of : ofM shownB = .ok (shownF, [5]) := by kernel_rfl
theorem fmr_row {w : World} {b : Nat} {t : TypeId} (rs : List (Fm × Value × Value)) (hR : MM.Row w b t (fmC rs)) (hP : ∀ x ∈ rs, ∃ PA pc, x.2.1 = .slice PA x.1.p.length pc ∧ Sl w [] (.slice PA x.1.p.length pc) (strs x.1.p)) (hL : ∀ x ∈ rs, ∃ LA lc, x.2.2 = .slice LA x.1.l.length lc ∧ IntRow w LA x.1.l) :
    FmR w (some ⟨b, 0, none⟩) (rs.map (·.1)) := by
  intro k hk
  have hk2 : k < rs.length := by simpa using hk
  obtain ⟨PA, pc, ep, hp⟩ := hP rs[k] (List.getElem_mem hk2)
  obtain ⟨LA, lc, el, hl⟩ := hL rs[k] (List.getElem_mem hk2)
  have c (j : Nat) (hj : j < 8) (u : Value) (hu : (fmL rs[k])[j]? = some u) : w.cell? ⟨b, 0 + k * 8 + j, none⟩ = some u := by
    rw [Nat.zero_add]
    exact hR.at ((fmC_at rs k hk2 j hj).trans hu)
  have em : (rs.map (·.1))[k] = rs[k].1 := by simp
  rw [em]
  exact ⟨b, 0, PA, pc, LA, lc, rfl, hR.lt, c 0 (by omega) _ rfl, c 1 (by omega) _ rfl, c 2 (by omega) _ rfl, c 3 (by omega) _ rfl, c 4 (by omega) _ rfl, (c 5 (by omega) _ rfl).trans (congrArg some ep), c 6 (by omega) _ rfl, (c 7 (by omega) _ rfl).trans (congrArg some el), hp, hl⟩
def n0 : Value := .slice none 0 0
theorem shown_fm (w : World) : ∀ o : Obj, o = .cells (fmC [(⟨4, 6, 0, ⟨#[120]⟩, [], []⟩, n0, n0), (⟨1, 8, 1, emp, [], []⟩, n0, n0), (⟨1, 10, 2, emp, [], []⟩, n0, n0), (⟨8, 0, 0, emp, [], [1, 2]⟩, n0, .slice (some ⟨w.heap.size, 0, none⟩) 2 2), (⟨2, 0, 0, emp, [], []⟩, n0, n0), (⟨5, 0, 0, emp, [], [0, 3, 4]⟩, n0, .slice (some ⟨w.heap.size + 1, 0, none⟩) 3 3)]).toArray 41 →
    FmR (((w.alloc (.cells (ints [1, 2]).toArray 3)).alloc (.cells (ints [0, 3, 4]).toArray 3)).alloc o) (some ⟨w.heap.size + 1 + 1, 0, none⟩) shownF := by
  rintro o rfl
  have hR := row_new (w := (w.alloc (.cells (ints [1, 2]).toArray 3)).alloc (.cells (ints [0, 3, 4]).toArray 3)) 41 (fmC [(⟨4, 6, 0, ⟨#[120]⟩, [], []⟩, n0, n0), (⟨1, 8, 1, emp, [], []⟩, n0, n0), (⟨1, 10, 2, emp, [], []⟩, n0, n0), (⟨8, 0, 0, emp, [], [1, 2]⟩, n0, .slice (some ⟨w.heap.size, 0, none⟩) 2 2), (⟨2, 0, 0, emp, [], []⟩, n0, n0), (⟨5, 0, 0, emp, [], [0, 3, 4]⟩, n0, .slice (some ⟨w.heap.size + 1, 0, none⟩) 3 3)]) (by rw [sz_alloc, sz_alloc])
  have h12 := introw_new w _ [1, 2] (((MM.Far.refl [] (w.alloc (.cells (ints [1, 2]).toArray 3))).alloc (.cells (ints [0, 3, 4]).toArray 3)).alloc (.cells (fmC [(⟨4, 6, 0, ⟨#[120]⟩, [], []⟩, n0, n0), (⟨1, 8, 1, emp, [], []⟩, n0, n0), (⟨1, 10, 2, emp, [], []⟩, n0, n0), (⟨8, 0, 0, emp, [], [1, 2]⟩, n0, .slice (some ⟨w.heap.size, 0, none⟩) 2 2), (⟨2, 0, 0, emp, [], []⟩, n0, n0), (⟨5, 0, 0, emp, [], [0, 3, 4]⟩, n0, .slice (some ⟨w.heap.size + 1, 0, none⟩) 3 3)]).toArray 41))
  have h034 := introw_new (w.alloc (.cells (ints [1, 2]).toArray 3)) _ [0, 3, 4] ((MM.Far.refl [] ((w.alloc (.cells (ints [1, 2]).toArray 3)).alloc (.cells (ints [0, 3, 4]).toArray 3))).alloc (.cells (fmC [(⟨4, 6, 0, ⟨#[120]⟩, [], []⟩, n0, n0), (⟨1, 8, 1, emp, [], []⟩, n0, n0), (⟨1, 10, 2, emp, [], []⟩, n0, n0), (⟨8, 0, 0, emp, [], [1, 2]⟩, n0, .slice (some ⟨w.heap.size, 0, none⟩) 2 2), (⟨2, 0, 0, emp, [], []⟩, n0, n0), (⟨5, 0, 0, emp, [], [0, 3, 4]⟩, n0, .slice (some ⟨w.heap.size + 1, 0, none⟩) 3 3)]).toArray 41))
  rw [sz_alloc] at h034
  refine fmr_row _ hR (fun x hx => ?_) (fun x hx => ?_)
  · simp only [List.mem_cons, List.not_mem_nil, or_false] at hx
    rcases hx with rfl | rfl | rfl | rfl | rfl | rfl <;> exact ⟨none, 0, rfl, Sl.nil _ _⟩
  · simp only [List.mem_cons, List.not_mem_nil, or_false] at hx
    rcases hx with rfl | rfl | rfl | rfl | rfl | rfl
    · exact ⟨none, 0, rfl, introw_nil _ _⟩
    · exact ⟨none, 0, rfl, introw_nil _ _⟩
    · exact ⟨none, 0, rfl, introw_nil _ _⟩
    · exact ⟨_, 2, rfl, h12⟩
    · exact ⟨none, 0, rfl, introw_nil _ _⟩
    · exact ⟨_, 3, rfl, h034⟩
set_option maxRecDepth 20000 in
set_option maxHeartbeats 4000000 in
theorem shown_any (w : World) : Calls Tryz.prog 5 #[] w fun e w' => e = .returned (.bool true) ∧ MM.Far [] w w' := by
  have HOF := Lib.hid (of_any shownB (show (12 : Nat) ≤ 3000 by omega) w)
  rw [shown_of] at HOF
  unfold shownB at HOF
  have HSR := Lib.hid shown_fm
  go_enter Tryz.func5, Tryz.ntmps5
  go_wp2_with (first
    | (go_at_call 14; (with_reducible refine HOF.out.mono ?_); rintro e w1 ⟨fv, tv, rs, rfl, hD, hrs⟩; have hFR := hD.rows; have hTR := hD.tops_row; obtain ⟨FA, fc, rfl, -, -, -, hF⟩ := hFR; obtain ⟨TA, tc, rfl, -, -, -, hT⟩ := hTR; have HRL : Hid (rs.length = 6) := Lib.hid (by have := congrArg List.length hrs; simpa [shownF] using this); rw [hrs] at hF; have HFM := Lib.hid hF; have HTP := Lib.hid hT; have HF1 := Lib.hid hD.far; clear hD hrs hF hT)
    | (go_at_call 10; (refine (ints_call (l := [5]) (n := 1) rfl (by omega) (HTP.out.far ((MM.Far.refl [] w1).alloc _)) (introw_new w1 _ [5] (MM.Far.refl [] _))).mono ?_); rintro e w4 ⟨rfl, hF4⟩; have HF4 := Lib.hid ((MM.Far.refl [] w1).alloc _ |>.trans hF4 (by simp)); clear hF4)
    | (go_at_call 9; rw [HRL.out]; (refine (fsame_yes shownF 6 rfl (by omega) (fun x hx => by unfold shownF at hx; simp only [List.mem_cons, List.not_mem_nil, or_false] at hx; rcases hx with rfl | rfl | rfl | rfl | rfl | rfl <;> simp) FA _ fc 6 _ (HFM.out.far (((HF4.out.alloc _).alloc _).alloc _)) (HSR.out w4 _ rfl)).mono ?_); rintro e w5 ⟨rfl, hF5⟩; have HF5 := Lib.hid (((((MM.Far.refl [] w4).alloc _).alloc _).alloc _).trans hF5 (by simp)); clear hF5))
  go_ret
  exact ⟨rfl, (HF1.out.trans HF4.out (by simp)).trans HF5.out (by simp)⟩
end EW
end Go.Proofs.YtaghlpolljaedaaGreat
