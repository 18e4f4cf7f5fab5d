/-
  Contract of the code's reader: add. Conditions: there are no more than 20000 data.
-/
import Derived.Test.YtbglcdjimipeeaaDoorReadC2
import Derived.Deep.LoopGhost
namespace Go.Proofs.YtbglcdjimipeeaaDoor
open Go.RowKit
namespace RX
theorem putO_stop {ps : List Pt} (row : List Nd) (tops : List Nat) (x : Nd) (h : whole ps = false) : putO ps row tops x = ⟨row ++ [x], afterT row.length ps tops, afterP row.length ps⟩ := by
  cases ps with
  | nil => rfl
  | cons p ps =>
    unfold putO
    rw [if_neg]
    · rfl
    · intro ⟨h1, h2⟩
      simp [whole, h1] at h
      omega
theorem putO_go {p : Pt} {ps : List Pt} (row : List Nd) (tops : List Nat) (x : Nd) (h : whole (p :: ps) = true) : putO (p :: ps) row tops x = putO ps (row ++ [x]) tops ⟨4, p.at_, 0, LX.emp, p.l ++ [row.length]⟩ := by
  conv => lhs; unfold putO
  rw [if_pos]
  simp [whole] at h
  exact ⟨h.1, by omega⟩
end RX
namespace RC6
open LX RX RW6
open RM6 (Kin ndC kinsN kinsP ints_snoc ints_len ndC_snoc own_off one_far)
/-- What is kept of the boxes round about: those of tokens. -/
structure KeepT (w w' : World) : Prop where
  size : w.heap.size ≤ w'.heap.size
  tok : ∀ b l, MM.Row w b 43 l → MM.Row w' b 43 l
theorem KeepT.refl (w : World) : KeepT w w := ⟨Nat.le_refl _, fun _ _ h => h⟩
theorem KeepT.trans {w w1 w2 : World} (h : KeepT w w1) (k : KeepT w1 w2) : KeepT w w2 := ⟨Nat.le_trans h.size k.size, fun b l r => k.tok b l (h.tok b l r)⟩
theorem Keep.t {v : Value} {w w' : World} (h : Keep v w w') : KeepT w w' := ⟨h.size, h.tok⟩
theorem KeepT.far {S : List Nat} {w w' : World} (f : MM.Far S w w') (hS : ∀ b ∈ S, b < w.heap.size → ∃ t l, MM.Row w b t l ∧ t ≠ 43) : KeepT w w' :=
  ⟨f.size, fun b l r => r.far f (fun hm => by
    obtain ⟨t, l2, r2, h1⟩ := hS b hm r.lt
    exact r2.ne r h1 rfl)⟩
theorem KeepT.nil {w w' : World} (f : MM.Far [] w w') : KeepT w w' := KeepT.far f (by simp)
theorem KeepT.one {w w' : World} {q : Nat} {t : TypeId} {l : List Value} (f : MM.Far [q] w w') (h : MM.Row w q t l) (ht : t ≠ 43) : KeepT w w' :=
  KeepT.far f (fun b hb _ => ⟨t, l, by
    have e : b = q := by simpa using hb
    rw [e]; exact h, ht⟩)
/-- What a datum that is put comes to. -/
def PutC (w0 w : World) (q : Nat) (R : Rd) (ex : List (Value × List Nat)) (e : Ending) (w' : World) : Prop :=
  e = .returned (.tuple #[]) ∧ KeepT w w' ∧ ∃ rv tv ov rs os, Rdr w0 w' q rv tv ov rs R.tops os ex ∧ rs.map (·.1) = R.row ∧ os.map (·.1) = R.op
/-- What holds at the head of add's loop. -/
def AddI (w0 wA : World) (q bx : Nat) (R : Rd) (ex : List (Value × List Nat)) (k : Nat) (wr : World) : Prop :=
  ∃ rv tv ov rs tops os, ∃ (y : Nd) (yA : Option Addr) (yc : Nat), k = os.length ∧ Rdr w0 wr q rv tv ov rs tops os ((.slice yA y.l.length yc, y.l) :: ex) ∧
    MM.Row wr bx 33 [.int .u8 y.kind, .int .i64 y.at_, .int .i64 y.n, .string y.s, .slice yA y.l.length yc] ∧ putO (os.map (·.1)) (rs.map (·.1)) tops y = R ∧ rv.ownBlock ≠ some bx ∧ KeepT wA wr ∧
    rs.length + os.length ≤ 20000 ∧ tops.length ≤ 20000 ∧ ∀ p ∈ os, p.1.l.length ≤ 20000
section
variable {w0 w : World} {q : Nat} {rv tv ov : Value} {rs : List (Nd × Value)} {tops : List Nat} {os : List (Pt × Value)} {ex : List (Value × List Nat)}
/-- A box of a datum besides turns. -/
theorem Rdr.box {w1 : World} {bx : Nat} {l : List Value} (h : Rdr w0 w q rv tv ov rs tops os ex) (hb : MM.Row w bx 33 l) (hne : rv.ownBlock ≠ some bx) (h0 : w0.heap.size ≤ bx) (f : MM.Far [bx] w w1) : Rdr w0 w1 q rv tv ov rs tops os ex := by
  have off {e : TypeId} {size n : Nat} {v : Value} {xs : List Value} (ho : w.ownsRow w0.heap.size e size v n xs) (ht : e ≠ 33) : ∀ b, v.ownBlock = some b → b ∉ [bx] := by
    intro b hb2 hm
    have : b = bx := by simpa using hm
    subst this
    exact MM.own_row_ne ho hb ht hb2
  refine ⟨h.far.trans f (fun b hb2 hl => ?_), h.qb, h.head.far f (fun hm => ?_), MM.own_far h.row f (fun b hb2 hm => ?_), MM.own_far h.op f (off h.op (by decide)), h.kin.far f (fun k hk => off (h.kin.each k hk) (by decide))⟩
  · have e : b = bx := by simpa using hb2
    omega
  · have e : q = bx := by simpa using hm
    subst e
    exact h.head.ne hb (by decide) rfl
  · have e : b = bx := by simpa using hm
    subst e
    exact hne hb2
theorem box_far (w : World) (bx : Nat) (a b c d e : Value) : MM.Far [bx] w (((((w.setCell ⟨bx, 0, none⟩ a).setCell ⟨bx, 1, none⟩ b).setCell ⟨bx, 2, none⟩ c).setCell ⟨bx, 3, none⟩ d).setCell ⟨bx, 4, none⟩ e) :=
  (((((MM.Far.refl [bx] w).setCell (by simp) a).setCell (by simp) b).setCell (by simp) c).setCell (by simp) d).setCell (by simp) e
theorem box_row {w : World} {bx : Nat} {a0 b0 c0 d0 e0 : Value} (a b c d e : Value) (h : MM.Row w bx 33 [a0, b0, c0, d0, e0]) :
    MM.Row (((((w.setCell ⟨bx, 0, none⟩ a).setCell ⟨bx, 1, none⟩ b).setCell ⟨bx, 2, none⟩ c).setCell ⟨bx, 3, none⟩ d).setCell ⟨bx, 4, none⟩ e) bx 33 [a, b, c, d, e] :=
  ((((h.put 0 a).put 1 b).put 2 c).put 3 d).put 4 e
theorem map_cons_ {α β : Type} {l : List (α × β)} {p : α} {ps : List α} (h : l.map (·.1) = p :: ps) : ∃ v l', l = (p, v) :: l' ∧ l'.map (·.1) = ps := by
  cases l with
  | nil => cases h
  | cons z l =>
    rw [List.map_cons] at h
    injection h with h1 h2
    obtain ⟨z1, z2⟩ := z
    subst h1
    exact ⟨z2, l, rfl, h2⟩
set_option maxHeartbeats 2000000 in
set_option maxRecDepth 20000 in
theorem add_any (x : Nd) (A : Option Addr) (c : Nat) (h : Rdr w0 w q rv tv ov rs tops os ((.slice A x.l.length c, x.l) :: ex)) (hn : rs.length + os.length ≤ 20000) (ht : tops.length ≤ 20000)
    (hl : ∀ p ∈ os, p.1.l.length ≤ 20000) :
    Calls Tryd.prog 15 #[.pointer (some ⟨q, 0, none⟩), .agg #[.int .u8 x.kind, .int .i64 x.at_, .int .i64 x.n, .string x.s, .slice A x.l.length c]] w
      (PutC w0 w q (putO (os.map (·.1)) (rs.map (·.1)) tops x) ex) := by
  obtain ⟨R, hRR⟩ : ∃ R, putO (os.map (·.1)) (rs.map (·.1)) tops x = R := ⟨_, rfl⟩
  have hbx : w0.heap.size ≤ w.heap.size := h.far.size
  have H0 : Hid (AddI w0 w q w.heap.size R ex os.length (w.alloc (.cells #[.int .u8 x.kind, .int .i64 x.at_, .int .i64 x.n, .string x.s, .slice A x.l.length c] 33))) := Lib.hid
    ⟨rv, tv, ov, rs, tops, os, x, A, c, rfl, h.to ((MM.Far.refl [] w).alloc _), MM.Row.new w 33 [.int .u8 x.kind, .int .i64 x.at_, .int .i64 x.n, .string x.s, .slice A x.l.length c], hRR, fun e => by have := MM.own_lt h.row _ e; omega, KeepT.nil ((MM.Far.refl [] w).alloc _), hn, ht, hl⟩
  rw [hRR]
  have HBX := Lib.hid hbx
  obtain ⟨bx, hbx2⟩ : ∃ bx, w.heap.size = bx := ⟨_, rfl⟩
  rw [hbx2] at H0 HBX
  have HX := Lib.hid hbx2
  clear h hn ht hl hRR hbx
  go_enter Tryd.func15, Tryd.ntmps15
  go_wp2
  clear hbx2
  go_loopg [] os.length (fun k wr => AddI w0 w q bx R ex k wr)
  case atStart => exact H0.out
  case round =>
    obtain ⟨rv, tv, ov, rs, tops, os, y, yA, yc, rfl, hR, hB, hP, hne, hK, hn, ht, hl⟩ := hrel
    have z0 := hB.at (i := 0) rfl
    have z1 := hB.at (i := 1) rfl
    have z2 := hB.at (i := 2) rfl
    have z3 := hB.at (i := 3) rfl
    have z4 := hB.at (i := 4) rfl
    have HPl := Lib.hid (place_any y yA yc hR hn ht hl)
    have HN := Lib.hid hne
    have HB := Lib.hid hB
    have HP := Lib.hid hP
    have HKr := Lib.hid hK
    have HL := Lib.hid hl
    have HR := Lib.hid hR
    cases hw : whole (os.map (·.1)) with
    | false =>
      have HW := Lib.hid hw
      clear hw hP hne hK hl hR hB H0 HBX HX
      go_wp2_with (first
        | (go_at_call 21; refine HPl.out.mono ?_; rintro e w2 ⟨he, hK2, rv', tv', ov', os', hR2, hos, hB2⟩; rw [HW.out] at he; subst he; have HE : Hid (PutC w0 w q R ex (.returned (.tuple #[])) w2) := Lib.hid ⟨rfl, HKr.out.trans hK2.t, rv', tv', ov', rs ++ [(y, .slice yA y.l.length yc)], os', by rw [← HP.out, putO_stop _ _ _ HW.out, List.length_map]; exact hR2, by rw [← HP.out, putO_stop _ _ _ HW.out, List.map_append]; rfl, by rw [← HP.out, putO_stop _ _ _ HW.out, List.length_map]; exact hos⟩; clear hK2 hR2 hos hB2))
      refine bodyPost_end (results_none rfl _ _ _) rfl ?_
      exact HE.out
    | true =>
      have HW := Lib.hid hw
      obtain ⟨⟨p, hp⟩, os1, rfl⟩ : ∃ z os1, os = z :: os1 := by
        cases os with
        | nil => cases hw
        | cons z l => exact ⟨z, l, rfl⟩
      clear hw hP hne hK hl hR hB H0 HX
      go_wp2_with (first
        | (go_at_call 21; refine HPl.out.mono ?_; rintro e w2 ⟨he, hK2, rv', tv', ov', os', hR2, hos, hB2⟩; rw [HW.out] at he; subst he
           obtain ⟨hp', os1', rfl, hos1⟩ := map_cons_ hos
           have HK2 := Lib.hid hK2
           have HR2 := Lib.hid hR2
           have HB2 := Lib.hid hB2
           have HO := Lib.hid hos1
           have HOL : Hid (os1'.length = os1.length) := Lib.hid (by have := congrArg List.length hos1; simpa using this)
           clear hK2 hR2 hB2 hos hos1))
      have hp1 : os1'.length ≤ 20000 := by have := HOL.out; rw [List.length_cons] at hn; omega
      refine (pop_any HR2.out hp1).mono ?_
      rintro e w3 ⟨rfl, hF3, ov3, hR3⟩
      have HR3 := Lib.hid hR3
      have hne3 : rv'.ownBlock ≠ some bx := by
        rcases HB2.out with e | ⟨g, e, hg⟩
        · rw [e]; exact HN.out
        · rw [e]; intro e2; injection e2 with e2; have := HB.out.lt; omega
      have hrow3 := (HK2.out.node bx _ HB.out HN.out).far hF3 (fun hm => by
        have e : bx = q := by simpa using hm
        subst e
        exact (HK2.out.node _ _ HB.out HN.out).ne HR2.out.head (by decide) rfl)
      have HB3 := Lib.hid hrow3
      have HN3 := Lib.hid hne3
      have HK3 := Lib.hid ((HKr.out.trans HK2.out.t).trans (KeepT.one hF3 HR2.out.head (by decide)))
      have hlen : (p.l ++ [rs.length]).length = p.l.length + 1 := by simp
      obtain ⟨hA', hc', e⟩ : ∃ A c, hp' = .slice A (p.l.length + 1) c := by
        obtain ⟨A, c, e⟩ := form_ w0 (HR3.out.kin.each (hp', p.l ++ [rs.length]) (by simp))
        exact ⟨A, c, by rw [← hlen]; exact e⟩
      subst e
      have HLEN := Lib.hid hlen
      have y0 := HB3.out.at (i := 0) rfl
      have y1 := HB3.out.at (i := 1) rfl
      have y2 := HB3.out.at (i := 2) rfl
      have y3 := HB3.out.at (i := 3) rfl
      have y4 := HB3.out.at (i := 4) rfl
      have g0 := HB3.out.frozen 0
      have g1 := HB3.out.frozen 1
      have g2 := HB3.out.frozen 2
      have g3 := HB3.out.frozen 3
      have g4 := HB3.out.frozen 4
      clear hF3 hR3 hne3 hrow3 z0 z1 z2 z3 z4 hlen
      dsimp only
      go_wp2
      have hn3 := hn
      rw [List.length_cons] at hn3
      go_roundg os1'.length
      case measure => have := HOL.out; simp; omega
      case rel =>
        refine ⟨rv', tv', ov3, rs ++ [(y, .slice yA y.l.length yc)], tops, os1', ⟨4, p.at_, 0, emp, p.l ++ [rs.length]⟩, hA', hc', rfl, ?_, ?_, ?_, HN3.out, HK3.out.trans (KeepT.one (box_far _ bx _ _ _ _ _) HB3.out (by decide)), ?_, ht, ?_⟩
        · rw [HLEN.out]
          exact HR3.out.box HB3.out HN3.out HBX.out (box_far _ bx _ _ _ _ _)
        · rw [HLEN.out]
          exact box_row _ _ _ _ _ HB3.out
        · have := HP.out
          rw [List.map_cons, putO_go _ _ _ HW.out] at this
          rw [HO.out, List.map_append, ← this, List.length_map]
          rfl
        · have := HOL.out
          rw [List.length_append, List.length_singleton]
          omega
        · intro z hz
          obtain ⟨z2, hz2, e2⟩ : ∃ z2 ∈ os1, z2.1 = z.1 := by
            have : z.1 ∈ os1'.map (·.1) := List.mem_map_of_mem hz
            rw [HO.out] at this
            obtain ⟨z2, h2, e2⟩ := List.mem_map.1 this
            exact ⟨z2, h2, e2⟩
          rw [← e2]
          exact HL.out z2 (List.mem_cons_of_mem _ hz2)
end
end RC6
end Go.Proofs.YtbglcdjimipeeaaDoor
