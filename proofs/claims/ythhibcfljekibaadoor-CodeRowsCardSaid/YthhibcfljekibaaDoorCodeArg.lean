/-
  The blocks that came in, read off the argument; the first of them, cut, as the statements take them. Condition: the argument's reading.
-/
import Derived.Test.YthhibcfljekibaaDoorCodeShown
namespace Go.Proofs.YthhibcfljekibaaDoor
open Go.RowKit Go.ChangeShapes Go.WideShapes Go.Deep
set_option linter.unusedVariables false
namespace KW
open KP
/-- A block as it lies in the argument. -/
structure Bq where
  many : Int
  A : Option Addr
  l : Nat
  c : Nat
  zs : List Ki
def Bq.cells (t : Bq) : List Value := [num t.many, .slice t.A t.l t.c]
structure Bq.Ok (w : World) (t : Bq) : Prop where
  len_ : t.zs.length = t.l
  le : t.l ≤ t.c
  max : t.c ≤ maxLen
  nil : t.A = none → t.c = 0
  ir : Ir w [] t.A t.zs
  wf : ∀ x ∈ t.zs, Wf x
structure Bqs (w : World) (a : Option Addr) (len cap : Nat) (tl : List Bq) : Prop where
  len_ : tl.length = len
  le : len ≤ cap
  max : cap ≤ maxLen
  nil : a = none → cap = 0
  elems : ∀ (i : Nat) (t : Bq), tl[i]? = some t → ∃ b off, a = some ⟨b, off, none⟩ ∧ b < w.heap.size ∧ (∀ (j : Nat) (u : Value), t.cells[j]? = some u → w.cell? ⟨b, off + i * 2 + j, none⟩ = some u) ∧ t.Ok w
theorem Bq.Ok.far {w w' : World} {t : Bq} (h : t.Ok w) (f : MM.Far [] w w') : t.Ok w' := ⟨h.len_, h.le, h.max, h.nil, h.ir.far f (by simp), h.wf⟩
theorem Bqs.far {w w' : World} {a : Option Addr} {len cap : Nat} {tl : List Bq} (h : Bqs w a len cap tl) (f : MM.Far [] w w') : Bqs w' a len cap tl := by
  refine ⟨h.len_, h.le, h.max, h.nil, fun i t hi => ?_⟩
  obtain ⟨b, off, e, hb, hc, ok⟩ := h.elems i t hi
  exact ⟨b, off, e, Nat.lt_of_lt_of_le hb f.size, fun j u hu => (f.cell (p := ⟨b, off + i * 2 + j, none⟩) hb (by simp)).trans (hc j u hu), ok.far f⟩
section
variable {H : Type} {enc : TypeId × Value → H} {w : World} {fuel : Nat}
theorem wfu {k : IntKind} {z : Int} (h : (Lit.int k z).wf = true) : (Lit.int k z).wf = true := h
theorem ki_of {cs : List Value} {x : DataW H × List MemPlace} (h : DataW.trod enc Tryd.prog w 0 (fun _ => true) true fuel 38 cs = some x) : ∃ t : Ki, cs = cel t ∧ Wf t := by
  obtain ⟨hl, hf⟩ := MR.field_of Tryd.underlying38 (by kernel_rfl) (by kernel_rfl) h
  obtain ⟨v0, n0, y0, e0, g0⟩ := hf 0 _ rfl
  obtain ⟨v1, n1, y1, e1, g1⟩ := hf 1 _ rfl
  obtain ⟨v2, n2, y2, e2, g2⟩ := hf 2 _ rfl
  obtain ⟨v3, n3, y3, e3, g3⟩ := hf 3 _ rfl
  obtain ⟨a0, h0, w0⟩ := MR.int_of Tryd.underlying5 g0
  obtain ⟨a1, h1, w1⟩ := MR.int_of Tryd.underlying3 g1
  obtain ⟨a2, h2, w2⟩ := MR.int_of Tryd.underlying3 g2
  obtain ⟨a3, h3, w3⟩ := MR.int_of Tryd.underlying36 g3
  cases h0; cases h1; cases h2; cases h3
  refine ⟨⟨a0, a1, a2, a3⟩, ?_, ?_⟩
  · have hl6 : cs.length = 4 := hl
    match cs, hl6 with
    | [b0, b1, b2, b3], _ =>
      simp at e0 e1 e2 e3
      subst e0; subst e1; subst e2; subst e3
      rfl
  · simp [Lit.wf, IntKind.min, IntKind.max, IntKind.signed, IntKind.bits] at w0 w1 w2 w3
    exact ⟨by show 0 ≤ a0; omega, by show a0 < 256; omega, ⟨by show _ ≤ a1; omega, by show a1 ≤ _; omega⟩, ⟨by show _ ≤ a2; omega, by show a2 ≤ _; omega⟩, ⟨by show 0 ≤ a3; omega, by show a3 < _; omega⟩⟩
theorem kis_of {cs : List Value} {x : DataW H × List MemPlace} (h : DataW.trod enc Tryd.prog w 0 (fun _ => true) true fuel 29 cs = some x) : ∃ a len cap tl, cs = [.slice a len cap] ∧ tl.length = len ∧ len ≤ cap ∧ cap ≤ maxLen ∧ (a = none → cap = 0) ∧ Ir w [] a tl ∧ ∀ x ∈ tl, Wf x := by
  obtain ⟨a, len, cap, xs, hcs, hcame, hel⟩ := MR.came_of 4 Tryd.underlying29 (by kernel_rfl) (by omega) h
  have hz : ∀ i, ∃ t : Ki, i < len → xs i = cel t ∧ Wf t := by
    intro i
    by_cases h1 : i < len
    · obtain ⟨n, y, hy⟩ := hel i h1
      obtain ⟨t, h2⟩ := ki_of hy
      exact ⟨t, fun _ => h2⟩
    · exact ⟨⟨0, 0, 0, 0⟩, fun h => absurd h h1⟩
  obtain ⟨Z, hZ⟩ := Classical.axiomOfChoice hz
  refine ⟨a, len, cap, (List.range len).map Z, hcs, by simp, hcame.le, hcame.max, hcame.nil, fun i t hi => ?_, fun x hm => ?_⟩
  · have hil : i < len := by have := (List.getElem?_eq_some_iff.1 hi).1; simpa using this
    obtain ⟨ad, rfl, hb, hc⟩ := hcame.elems (by omega)
    simp [hil] at hi
    subst hi
    obtain ⟨_, h4⟩ := hc 0 (by omega)
    have h5 := h4 0 (.int .u8 (Z 0).op) (by rw [(hZ 0 (by omega)).1]; rfl)
    simp only [Nat.zero_mul, Nat.add_zero, add_zero_] at h5
    obtain ⟨b, off, spot⟩ := ad
    obtain rfl : spot = none := World.cell?_spot h5
    obtain ⟨_, h2⟩ := hc i hil
    refine ⟨b, off, rfl, by simp, hb, fun j u hu => ?_⟩
    have := h2 j u (by rw [(hZ i hil).1]; exact hu)
    rw [MR.mk_add] at this
    rw [Nat.add_assoc]; exact this
  · obtain ⟨i, hi, rfl⟩ := List.mem_map.1 hm
    exact (hZ i (by simpa using hi)).2
theorem bq_of {cs : List Value} {x : DataW H × List MemPlace} (h : DataW.trod enc Tryd.prog w 0 (fun _ => true) true fuel 31 cs = some x) : ∃ t : Bq, cs = t.cells ∧ t.Ok w := by
  obtain ⟨hl, hf⟩ := MR.field_of Tryd.underlying31 (by kernel_rfl) (by kernel_rfl) h
  obtain ⟨v0, n0, y0, e0, g0⟩ := hf 0 _ rfl
  obtain ⟨v1, n1, y1, e1, g1⟩ := hf 1 _ rfl
  obtain ⟨a0, h0, w0⟩ := MR.int_of Tryd.underlying3 g0
  obtain ⟨A, l, c, zs, h1, k1, k2, k3, k4, k5, k6⟩ := kis_of g1
  cases h0; cases h1
  refine ⟨⟨a0, A, l, c, zs⟩, ?_, k1, k2, k3, k4, k5, k6⟩
  have hl6 : cs.length = 2 := hl
  match cs, hl6 with
  | [b0, b1], _ =>
    simp at e0 e1
    subst e0; subst e1
    rfl
theorem bqs_of {cs : List Value} {x : DataW H × List MemPlace} (h : DataW.trod enc Tryd.prog w 0 (fun _ => true) true fuel 22 cs = some x) : ∃ a len cap tl, cs = [.slice a len cap] ∧ Bqs w a len cap tl := by
  obtain ⟨a, len, cap, xs, hcs, hcame, hel⟩ := MR.came_of 2 Tryd.underlying22 (by kernel_rfl) (by omega) h
  have hz : ∀ i, ∃ t : Bq, i < len → xs i = t.cells ∧ t.Ok w := by
    intro i
    by_cases h1 : i < len
    · obtain ⟨n, y, hy⟩ := hel i h1
      obtain ⟨t, h2⟩ := bq_of hy
      exact ⟨t, fun _ => h2⟩
    · exact ⟨⟨0, none, 0, 0, []⟩, fun h => absurd h h1⟩
  obtain ⟨Z, hZ⟩ := Classical.axiomOfChoice hz
  refine ⟨a, len, cap, (List.range len).map Z, hcs, by simp, hcame.le, hcame.max, hcame.nil, fun i t hi => ?_⟩
  have hil : i < len := by have := (List.getElem?_eq_some_iff.1 hi).1; simpa using this
  obtain ⟨ad, rfl, hb, hc⟩ := hcame.elems (by omega)
  simp [hil] at hi
  subst hi
  obtain ⟨_, h4⟩ := hc 0 (by omega)
  have h5 := h4 0 (num (Z 0).many) (by rw [(hZ 0 (by omega)).1]; rfl)
  simp only [Nat.zero_mul, Nat.add_zero, add_zero_] at h5
  obtain ⟨b, off, spot⟩ := ad
  obtain rfl : spot = none := World.cell?_spot h5
  obtain ⟨_, h2⟩ := hc i hil
  refine ⟨b, off, rfl, hb, fun j u hu => ?_, (hZ i hil).2⟩
  have := h2 j u (by rw [(hZ i hil).1]; exact hu)
  rw [MR.mk_add] at this
  rw [Nat.add_assoc]; exact this
end
/-- The block as few leaves it. -/
def Bq.cut (t : Bq) : Bq := { t with l := min t.l 60, zs := t.zs.take 60 }
def Bq.kb (t : Bq) : Kb := ⟨t.many, t.zs⟩
def flatB (tl : List Bq) : List Value := tl.flatMap Bq.cells
theorem flatB_len (tl : List Bq) : (flatB tl).length = tl.length * 2 := by
  induction tl with
  | nil => rfl
  | cons t tl ih => simp [flatB, Bq.cells] at ih ⊢; omega
/-- What few has gathered of the first k. -/
def gathB (tl : List Bq) (k : Nat) : List Bq := (tl.take (min k 8)).map Bq.cut
def GathB (w w' : World) (v : Value) (tl : List Bq) (k : Nat) : Prop :=
  w'.ownsRow w.heap.size 31 2 v (gathB tl k).length (flatB (gathB tl k)) ∧ MM.Far [] w w'
theorem gathB_next (tl : List Bq) (k : Nat) (hk : k < tl.length) (h8 : k < 8) : gathB tl (k + 1) = gathB tl k ++ [(tl[k]).cut] := by
  unfold gathB
  rw [show min (k + 1) 8 = min k 8 + 1 from by omega, show min k 8 = k from by omega, List.take_succ_eq_append_getElem hk, List.map_append]
  rfl
theorem gathB_stay (tl : List Bq) (k : Nat) (h8 : ¬ k < 8) : gathB tl (k + 1) = gathB tl k := by
  unfold gathB
  rw [show min (k + 1) 8 = min k 8 from by omega]
theorem gathB_le (tl : List Bq) (k : Nat) : (gathB tl k).length ≤ 8 := by
  unfold gathB
  rw [List.length_map, List.length_take]; omega
theorem cellsB_one (t : Bq) : ∀ u ∈ t.cells, u.oneCell' = true := by
  intro u hu
  simp only [Bq.cells, List.mem_cons, List.not_mem_nil, or_false] at hu
  rcases hu with rfl | rfl <;> rfl
theorem blocks_slice : Tryd.prog.underlying 22 = some (.slice 31) := by kernel_rfl
theorem block_info : (Tryd.prog.info? 31).map (fun i => (i.zero, i.size, i.bytes)) = some (some (.agg #[.int .i64 0, .slice none 0 0]), 2, 32) := by kernel_rfl
set_option maxHeartbeats 2000000 in
theorem few_any (a : Option Addr) (len cap : Nat) (tl : List Bq) (w : World) (hz : Bqs w a len cap tl) :
    Calls Tryd.prog 9 #[.slice a len cap] w fun e w' => ∃ v, e = .returned v ∧ GathB w w' v tl len := by
  have hle := hz.le
  have hmax := hz.max
  unfold maxLen at hmax
  have HZ := Lib.hid hz
  clear hz
  go_enter Tryd.func9, Tryd.ntmps9
  go_wp2_with (fail)
  go_loopw [3, 8] (fun v i wr => ∃ k : Nat, k ≤ len ∧ i = .int .i64 k ∧ GathB w wr v tl k) (fun _ i _ => len - (intOf i).toNat)
  case atStart => exact ⟨0, Nat.zero_le _, rfl, MO.none_ _ _ _ _, MM.Far.refl _ _⟩
  case round =>
    obtain ⟨k, hk, rfl, hG, hF⟩ := hrel
    by_cases hlt : k < len
    · have hkl : k < tl.length := by rw [HZ.out.len_]; exact hlt
      obtain ⟨b, off, rfl, hb, hcells, hok⟩ := HZ.out.elems k _ (List.getElem?_eq_getElem hkl)
      have hc : ∀ (j : Nat) (u : Value), (tl[k]).cells[j]? = some u → wr.cell? ⟨b, off + k * 2 + j, none⟩ = some u := by
        intro j u hu
        rw [hF.cell (p := ⟨b, off + k * 2 + j, none⟩) hb (by simp)]
        exact hcells j u hu
      have HT := Lib.hid (rfl : tl[k] = tl[k])
      obtain ⟨t, ht⟩ : ∃ t, tl[k] = t := ⟨_, rfl⟩
      rw [ht] at hc hok
      obtain ⟨tk, tA, tn2, tc, tzs⟩ := t
      have h0 := hc 0 _ rfl
      have h1 := hc 1 _ rfl
      rw [Nat.add_zero] at h0
      have hIle := hok.le
      have hImx := hok.max
      have hInil := hok.nil
      unfold maxLen at hImx
      simp only at h0 h1 hIle hImx hInil
      have HTK := Lib.hid ht
      clear hc hcells ht HT hok
      by_cases h80 : k < 8
      · go_upto_region 6 with (fail)
        obtain ⟨m, hm⟩ : ∃ m, m = min tn2 60 := ⟨_, rfl⟩
        have hm1 : m ≤ tn2 := by omega
        have hm2 : m ≤ 60 := by omega
        have HM := Lib.hid hm
        clear hm
        go_cut [] (fun wx => wx = wr.alloc (.cells #[num tk, .slice tA m tc] 31))
        case first =>
          have hm := HM.out
          cases tA with
          | none =>
            obtain rfl : tc = 0 := hInil rfl
            obtain rfl : tn2 = 0 := by omega
            obtain rfl : m = 0 := by omega
            clear hm
            go_wp2
            go_meet
            rfl
          | some ad =>
            by_cases h26 : tn2 ≤ 60
            · obtain rfl : m = tn2 := by omega
              clear hm
              go_wp2
              go_meet
              first | rfl | (rw [show (min (m : Int) 60).toNat = m from by omega])
            · obtain rfl : m = 60 := by omega
              clear hm
              go_wp2
              go_meet
              first | rfl | (rw [show (min (tn2 : Int) 60).toNat = 60 from by omega])
        case rest =>
          subst hcut
          have hGl := gathB_le tl k
          have hfl := flatB_len (gathB tl k)
          have s1 := hF.size
          have HGA := Lib.hid ((hG.alloc (.cells #[num tk, .slice tA m tc] 31)).alloc (.cells #[num tk, .slice tA m tc] 31))
          have HFl := Lib.hid hfl
          have HGO := Lib.hid (MM.own_lt hG)
          clear hG hfl
          go_wp2_with (first
            | (refine MO.wpList_append _ ?_ (.tmp 23) (.tmp 25) 22 ?_ w.heap.size 31 _ 2 32 blocks_slice block_info rfl (by omega) _ (gathB tl k).length (flatB (gathB tl k)) ?_ HGA.out (some ⟨wr.heap.size + 1, 0, none⟩) 1 1 (Bq.cells ⟨tk, tA, m, tc, tzs.take 60⟩) ?_ rfl (fun h => by cases h) [] ?_ (cellsB_one _) (by simp only [maxLen]; omega) (by omega) (by simp; omega) ?_
               · rfl
               · rfl
               · rfl
               · rfl
               · have := MM.Row.new (wr.alloc (.cells #[num tk, .slice tA m tc] 31)) 31 (Bq.cells ⟨tk, tA, m, tc, tzs.take 60⟩)
                 rw [World.size_alloc] at this
                 exact MM.Src.row this (by simp) _ (fun j u hu => hu)
               intro v1 wG hv1 hg1 hat1))
          go_roundw
          case rel =>
            refine ⟨k + 1, by omega, by go_num, ?_, ?_⟩
            · have hkl2 : k < tl.length := hkl
              have hcut : (tl[k]).cut = ⟨tk, tA, m, tc, tzs.take 60⟩ := by
                rw [HTK.out]; simp only [Bq.cut]; rw [HM.out]
              rw [gathB_next tl k hkl2 h80, hcut, List.length_append, List.length_singleton]
              have e : flatB (gathB tl k ++ [⟨tk, tA, m, tc, tzs.take 60⟩]) = flatB (gathB tl k) ++ Bq.cells ⟨tk, tA, m, tc, tzs.take 60⟩ := by simp [flatB]
              rw [e]; exact hv1
            · refine (((hF.alloc _).alloc _)).trans (MM.Far.of_grown (S := u3.ownBlock.toList) hg1 (by intro b1 hb1 _; simp [hb1])) (fun b1 hb1 _ => ?_)
              have := HGO.out b1 (by simpa using hb1)
              omega
          case measure => simp [intOf]; omega
      · have HG := Lib.hid hG
        clear hG
        go_wp2_with (fail)
        go_roundw
        case rel =>
          refine ⟨k + 1, by omega, by go_num, ?_, hF.alloc _⟩
          rw [gathB_stay tl k h80]
          exact HG.out.alloc _
        case measure => simp [intOf]; omega
    · have hkl : k = len := by omega
      subst hkl
      have HG := Lib.hid hG
      clear hG
      go_wp2_with (fail)
      go_ret
      exact ⟨_, rfl, HG.out, hF⟩
/-- A block that is no longer than the statements take. -/
structure Bq.Sm (w : World) (t : Bq) : Prop where
  sm : t.l ≤ 60
  len : t.zs.length = t.l
  le : t.l ≤ t.c
  max : t.c ≤ maxLen
  ir : Ir w [] t.A t.zs
  wf : ∀ x ∈ t.zs, Wf x
/-- What few leaves: a row of the call's own. -/
structure Few (w w' : World) (v : Value) (bs : List Bq) : Prop where
  own : w'.ownsRow w.heap.size 31 2 v bs.length (flatB bs)
  far : MM.Far [] w w'
  le : bs.length ≤ 8
  ok : ∀ t ∈ bs, t.Sm w
theorem few_of {w w' : World} {v : Value} {a : Option Addr} {len cap : Nat} {tl : List Bq} (h : GathB w w' v tl len) (hz : Bqs w a len cap tl) : Few w w' v (gathB tl len) := by
  refine ⟨h.1, h.2, gathB_le tl len, fun t ht => ?_⟩
  unfold gathB at ht
  obtain ⟨u, hu, rfl⟩ := List.mem_map.1 ht
  obtain ⟨i, hi⟩ := List.getElem?_of_mem (List.mem_of_mem_take hu)
  obtain ⟨_, _, _, _, _, ok⟩ := hz.elems i u hi
  have h1 := ok.len_
  have h2 := ok.le
  refine ⟨Nat.min_le_right _ _, ?_, ?_, ok.max, ok.ir.take 60, fun x hx => ok.wf x (List.mem_of_mem_take hx)⟩
  · show (u.zs.take 60).length = min u.l 60
    rw [List.length_take]; omega
  · show min u.l 60 ≤ u.c
    omega
theorem flatB_at : ∀ (bs : List Bq) (i : Nat) (t : Bq), bs[i]? = some t → ∀ (j : Nat) (u : Value), t.cells[j]? = some u → (flatB bs)[i * 2 + j]? = some u := by
  intro bs
  induction bs with
  | nil => intro i x h; simp at h
  | cons y l ih =>
    intro i x h j u hu
    unfold flatB
    rw [List.flatMap_cons]
    have hj : j < 2 := by have := (List.getElem?_eq_some_iff.1 hu).1; simpa [Bq.cells] using this
    cases i with
    | zero =>
      simp at h; subst h
      rw [Nat.zero_mul, Nat.zero_add, List.getElem?_append_left (by simp [Bq.cells]; omega)]
      exact hu
    | succ i =>
      rw [List.getElem?_append_right (by simp [Bq.cells]; omega), show (i + 1) * 2 + j - y.cells.length = i * 2 + j by simp [Bq.cells]; omega]
      exact ih i x (by simpa using h) j u hu
/-- A row of heads in memory, and the blocks that they lead to. -/
theorem br_of {w' : World} {base : Nat} {v : Value} {bs : List Bq} (ho : w'.ownsRow base 31 2 v bs.length (flatB bs)) (hb : ∀ t ∈ bs, t.Sm w') : ∃ A c, v = .slice A bs.length c ∧ bs.length ≤ c ∧ c ≤ maxLen ∧ (A = none → c = 0) ∧ ((A = none ∧ bs.length = 0 ∧ c = 0) ∨ ∃ g, A = some ⟨g, 0, none⟩ ∧ base ≤ g ∧ g < w'.heap.size) ∧ Br w' [] A (bs.map Bq.kb) := by
  obtain ⟨A, c, e, k0, k1, k2, k3, hh⟩ := MO.form ho
  refine ⟨A, c, e, k1, k2, k0, hh, fun i x hx => ?_⟩
  rw [List.getElem?_map] at hx
  cases ht : bs[i]? with
  | none => rw [ht] at hx; cases hx
  | some t =>
    rw [ht] at hx
    simp only [Option.map_some, Option.some.injEq] at hx
    subst hx
    have hil := (List.getElem?_eq_some_iff.1 ht).1
    have ok := hb t (List.mem_of_getElem? ht)
    obtain ⟨ad, e2, _, hl, hc⟩ := k3 [] (fun _ _ => by simp) (by rw [flatB_len]; omega)
    rcases hh with ⟨rfl, _, _⟩ | ⟨g, rfl, _, _⟩
    · cases e2
    · injection e2 with e2
      subst e2
      have c0 := hc (i * 2 + 0) _ (flatB_at bs i t ht 0 _ rfl)
      have c1 := hc (i * 2 + 1) _ (flatB_at bs i t ht 1 _ rfl)
      rw [MM.head_add] at c0 c1
      refine ⟨g, 0, t.A, t.c, rfl, by simp, hl, by rw [Nat.zero_add]; exact c0, ?_, ?_, ok.max, ok.ir⟩
      · rw [Nat.zero_add]
        show w'.cell? ⟨g, i * 2 + 1, none⟩ = some (.slice t.A t.zs.length t.c)
        rw [ok.len]; exact c1
      · show t.zs.length ≤ t.c
        rw [ok.len]; exact ok.le
theorem Bq.Sm.far {w w' : World} {t : Bq} (h : t.Sm w) (f : MM.Far [] w w') : t.Sm w' := ⟨h.sm, h.len, h.le, h.max, h.ir.far f (by simp), h.wf⟩
theorem sm_wb {w : World} {bs : List Bq} (h : ∀ t ∈ bs, t.Sm w) : ∀ b ∈ bs.map Bq.kb, Wb b := by
  intro b hb
  obtain ⟨t, ht, rfl⟩ := List.mem_map.1 hb
  have ok := h t ht
  refine ⟨?_, ok.wf⟩
  show t.zs.length < 1000000000
  have := ok.len
  have := ok.sm
  omega
end KW
end Go.Proofs.YthhibcfljekibaaDoor
