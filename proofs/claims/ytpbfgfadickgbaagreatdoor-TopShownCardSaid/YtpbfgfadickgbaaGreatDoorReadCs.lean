/-
  Several texts in one: ReadC3, ReadC4, ReadC5, ReadC6. Each one's own head tells its conditions.
-/
import Derived.Test.YtpbfgfadickgbaaGreatDoorReadMems
import Derived.Deep.LoopGhost
import Derived.Test.YtpbfgfadickgbaaGreatDoorLexPure
import Derived.Test.YtpbfgfadickgbaaGreatDoorReadPuts
import Derived.Test.YtpbfgfadickgbaaGreatDoorLexCodes
import Derived.Test.YtpbfgfadickgbaaGreatDoorLexMids
/-
  Contract of the code's reader: add. Conditions: there are no more than 20000 data.
-/
namespace Go.Proofs.YtpbfgfadickgbaaGreatDoor
open Go.RowKit
namespace RX
theorem putO_stop {ps : List Pt} (row : List Nd) (tops : List Nat) (x : Nd) (h : whole ps = false) : putO ps row tops x = ⟨row ++ [x], afterT row.length ps tops, afterP row.length ps⟩ := by
  cases ps with
  | nil => rfl
  | cons p ps =>
    unfold putO
    rw [if_neg]
    · rfl
    · intro ⟨h1, h2⟩
      simp [whole, h1] at h
      omega
theorem putO_go {p : Pt} {ps : List Pt} (row : List Nd) (tops : List Nat) (x : Nd) (h : whole (p :: ps) = true) : putO (p :: ps) row tops x = putO ps (row ++ [x]) tops ⟨4, p.at_, 0, LX.emp, p.l ++ [row.length]⟩ := by
  conv => lhs; unfold putO
  rw [if_pos]
  simp [whole] at h
  exact ⟨h.1, by omega⟩
end RX
namespace RC6
open LX RX RW6
open RM6 (Kin ndC kinsN kinsP ints_snoc ints_len ndC_snoc own_off one_far)
/-- What is kept of the boxes round about: those of tokens. -/
structure KeepT (w w' : World) : Prop where
  size : w.heap.size ≤ w'.heap.size
  tok : ∀ b l, MM.Row w b 50 l → MM.Row w' b 50 l
theorem KeepT.refl (w : World) : KeepT w w := ⟨Nat.le_refl _, fun _ _ h => h⟩
theorem KeepT.trans {w w1 w2 : World} (h : KeepT w w1) (k : KeepT w1 w2) : KeepT w w2 := ⟨Nat.le_trans h.size k.size, fun b l r => k.tok b l (h.tok b l r)⟩
theorem Keep.t {v : Value} {w w' : World} (h : Keep v w w') : KeepT w w' := ⟨h.size, h.tok⟩
theorem KeepT.far {S : List Nat} {w w' : World} (f : MM.Far S w w') (hS : ∀ b ∈ S, b < w.heap.size → ∃ t l, MM.Row w b t l ∧ t ≠ 50) : KeepT w w' :=
  ⟨f.size, fun b l r => r.far f (fun hm => by
    obtain ⟨t, l2, r2, h1⟩ := hS b hm r.lt
    exact r2.ne r h1 rfl)⟩
theorem KeepT.nil {w w' : World} (f : MM.Far [] w w') : KeepT w w' := KeepT.far f (by simp)
theorem KeepT.one {w w' : World} {q : Nat} {t : TypeId} {l : List Value} (f : MM.Far [q] w w') (h : MM.Row w q t l) (ht : t ≠ 50) : KeepT w w' :=
  KeepT.far f (fun b hb _ => ⟨t, l, by
    have e : b = q := by simpa using hb
    rw [e]; exact h, ht⟩)
/-- What a datum that is put comes to. -/
def PutC (w0 w : World) (q : Nat) (R : Rd) (ex : List (Value × List Nat)) (e : Ending) (w' : World) : Prop :=
  e = .returned (.tuple #[]) ∧ KeepT w w' ∧ ∃ rv tv ov rs os, Rdr w0 w' q rv tv ov rs R.tops os ex ∧ rs.map (·.1) = R.row ∧ os.map (·.1) = R.op
/-- What holds at the head of add's loop. -/
def AddI (w0 wA : World) (q bx : Nat) (R : Rd) (ex : List (Value × List Nat)) (k : Nat) (wr : World) : Prop :=
  ∃ rv tv ov rs tops os, ∃ (y : Nd) (yA : Option Addr) (yc : Nat), k = os.length ∧ Rdr w0 wr q rv tv ov rs tops os ((.slice yA y.l.length yc, y.l) :: ex) ∧
    MM.Row wr bx 81 [.int .u8 y.kind, .int .i64 y.at_, .int .i64 y.n, .string y.s, .slice yA y.l.length yc] ∧ putO (os.map (·.1)) (rs.map (·.1)) tops y = R ∧ rv.ownBlock ≠ some bx ∧ KeepT wA wr ∧
    rs.length + os.length ≤ 20000 ∧ tops.length ≤ 20000 ∧ ∀ p ∈ os, p.1.l.length ≤ 20000
section
variable {w0 w : World} {q : Nat} {rv tv ov : Value} {rs : List (Nd × Value)} {tops : List Nat} {os : List (Pt × Value)} {ex : List (Value × List Nat)}
/-- A box of a datum besides turns. -/
theorem Rdr.box {w1 : World} {bx : Nat} {l : List Value} (h : Rdr w0 w q rv tv ov rs tops os ex) (hb : MM.Row w bx 81 l) (hne : rv.ownBlock ≠ some bx) (h0 : w0.heap.size ≤ bx) (f : MM.Far [bx] w w1) : Rdr w0 w1 q rv tv ov rs tops os ex := by
  have off {e : TypeId} {size n : Nat} {v : Value} {xs : List Value} (ho : w.ownsRow w0.heap.size e size v n xs) (ht : e ≠ 81) : ∀ b, v.ownBlock = some b → b ∉ [bx] := by
    intro b hb2 hm
    have : b = bx := by simpa using hm
    subst this
    exact MM.own_row_ne ho hb ht hb2
  refine ⟨h.far.trans f (fun b hb2 hl => ?_), h.qb, h.head.far f (fun hm => ?_), MM.own_far h.row f (fun b hb2 hm => ?_), MM.own_far h.op f (off h.op (by decide)), h.kin.far f (fun k hk => off (h.kin.each k hk) (by decide))⟩
  · have e : b = bx := by simpa using hb2
    omega
  · have e : q = bx := by simpa using hm
    subst e
    exact h.head.ne hb (by decide) rfl
  · have e : b = bx := by simpa using hm
    subst e
    exact hne hb2
theorem box_far (w : World) (bx : Nat) (a b c d e : Value) : MM.Far [bx] w (((((w.setCell ⟨bx, 0, none⟩ a).setCell ⟨bx, 1, none⟩ b).setCell ⟨bx, 2, none⟩ c).setCell ⟨bx, 3, none⟩ d).setCell ⟨bx, 4, none⟩ e) :=
  (((((MM.Far.refl [bx] w).setCell (by simp) a).setCell (by simp) b).setCell (by simp) c).setCell (by simp) d).setCell (by simp) e
theorem box_row {w : World} {bx : Nat} {a0 b0 c0 d0 e0 : Value} (a b c d e : Value) (h : MM.Row w bx 81 [a0, b0, c0, d0, e0]) :
    MM.Row (((((w.setCell ⟨bx, 0, none⟩ a).setCell ⟨bx, 1, none⟩ b).setCell ⟨bx, 2, none⟩ c).setCell ⟨bx, 3, none⟩ d).setCell ⟨bx, 4, none⟩ e) bx 81 [a, b, c, d, e] :=
  ((((h.put 0 a).put 1 b).put 2 c).put 3 d).put 4 e
theorem map_cons_ {α β : Type} {l : List (α × β)} {p : α} {ps : List α} (h : l.map (·.1) = p :: ps) : ∃ v l', l = (p, v) :: l' ∧ l'.map (·.1) = ps := by
  cases l with
  | nil => cases h
  | cons z l =>
    rw [List.map_cons] at h
    injection h with h1 h2
    obtain ⟨z1, z2⟩ := z
    subst h1
    exact ⟨z2, l, rfl, h2⟩
set_option maxHeartbeats 2000000 in
set_option maxRecDepth 20000 in
theorem add_any (x : Nd) (A : Option Addr) (c : Nat) (h : Rdr w0 w q rv tv ov rs tops os ((.slice A x.l.length c, x.l) :: ex)) (hn : rs.length + os.length ≤ 20000) (ht : tops.length ≤ 20000)
    (hl : ∀ p ∈ os, p.1.l.length ≤ 20000) :
    Calls Tryz.prog 25 #[.pointer (some ⟨q, 0, none⟩), .agg #[.int .u8 x.kind, .int .i64 x.at_, .int .i64 x.n, .string x.s, .slice A x.l.length c]] w
      (PutC w0 w q (putO (os.map (·.1)) (rs.map (·.1)) tops x) ex) := by
  obtain ⟨R, hRR⟩ : ∃ R, putO (os.map (·.1)) (rs.map (·.1)) tops x = R := ⟨_, rfl⟩
  have hbx : w0.heap.size ≤ w.heap.size := h.far.size
  have H0 : Hid (AddI w0 w q w.heap.size R ex os.length (w.alloc (.cells #[.int .u8 x.kind, .int .i64 x.at_, .int .i64 x.n, .string x.s, .slice A x.l.length c] 81))) := Lib.hid
    ⟨rv, tv, ov, rs, tops, os, x, A, c, rfl, h.to ((MM.Far.refl [] w).alloc _), MM.Row.new w 81 [.int .u8 x.kind, .int .i64 x.at_, .int .i64 x.n, .string x.s, .slice A x.l.length c], hRR, fun e => by have := MM.own_lt h.row _ e; omega, KeepT.nil ((MM.Far.refl [] w).alloc _), hn, ht, hl⟩
  rw [hRR]
  have HBX := Lib.hid hbx
  obtain ⟨bx, hbx2⟩ : ∃ bx, w.heap.size = bx := ⟨_, rfl⟩
  rw [hbx2] at H0 HBX
  have HX := Lib.hid hbx2
  clear h hn ht hl hRR hbx
  go_enter Tryz.func25, Tryz.ntmps25
  go_wp2
  clear hbx2
  go_loopg [] os.length (fun k wr => AddI w0 w q bx R ex k wr)
  case atStart => exact H0.out
  case round =>
    obtain ⟨rv, tv, ov, rs, tops, os, y, yA, yc, rfl, hR, hB, hP, hne, hK, hn, ht, hl⟩ := hrel
    have z0 := hB.at (i := 0) rfl
    have z1 := hB.at (i := 1) rfl
    have z2 := hB.at (i := 2) rfl
    have z3 := hB.at (i := 3) rfl
    have z4 := hB.at (i := 4) rfl
    have HPl := Lib.hid (place_any y yA yc hR hn ht hl)
    have HN := Lib.hid hne
    have HB := Lib.hid hB
    have HP := Lib.hid hP
    have HKr := Lib.hid hK
    have HL := Lib.hid hl
    have HR := Lib.hid hR
    cases hw : whole (os.map (·.1)) with
    | false =>
      have HW := Lib.hid hw
      clear hw hP hne hK hl hR hB H0 HBX HX
      go_wp2_with (first
        | (go_at_call 42; refine HPl.out.mono ?_; rintro e w2 ⟨he, hK2, rv', tv', ov', os', hR2, hos, hB2⟩; rw [HW.out] at he; subst he; have HE : Hid (PutC w0 w q R ex (.returned (.tuple #[])) w2) := Lib.hid ⟨rfl, HKr.out.trans hK2.t, rv', tv', ov', rs ++ [(y, .slice yA y.l.length yc)], os', by rw [← HP.out, putO_stop _ _ _ HW.out, List.length_map]; exact hR2, by rw [← HP.out, putO_stop _ _ _ HW.out, List.map_append]; rfl, by rw [← HP.out, putO_stop _ _ _ HW.out, List.length_map]; exact hos⟩; clear hK2 hR2 hos hB2))
      refine bodyPost_end (results_none rfl _ _ _) rfl ?_
      exact HE.out
    | true =>
      have HW := Lib.hid hw
      obtain ⟨⟨p, hp⟩, os1, rfl⟩ : ∃ z os1, os = z :: os1 := by
        cases os with
        | nil => cases hw
        | cons z l => exact ⟨z, l, rfl⟩
      clear hw hP hne hK hl hR hB H0 HX
      go_wp2_with (first
        | (go_at_call 42; refine HPl.out.mono ?_; rintro e w2 ⟨he, hK2, rv', tv', ov', os', hR2, hos, hB2⟩; rw [HW.out] at he; subst he
           obtain ⟨hp', os1', rfl, hos1⟩ := map_cons_ hos
           have HK2 := Lib.hid hK2
           have HR2 := Lib.hid hR2
           have HB2 := Lib.hid hB2
           have HO := Lib.hid hos1
           have HOL : Hid (os1'.length = os1.length) := Lib.hid (by have := congrArg List.length hos1; simpa using this)
           clear hK2 hR2 hB2 hos hos1))
      have hp1 : os1'.length ≤ 20000 := by have := HOL.out; rw [List.length_cons] at hn; omega
      refine (pop_any HR2.out hp1).mono ?_
      rintro e w3 ⟨rfl, hF3, ov3, hR3⟩
      have HR3 := Lib.hid hR3
      have hne3 : rv'.ownBlock ≠ some bx := by
        rcases HB2.out with e | ⟨g, e, hg⟩
        · rw [e]; exact HN.out
        · rw [e]; intro e2; injection e2 with e2; have := HB.out.lt; omega
      have hrow3 := (HK2.out.node bx _ HB.out HN.out).far hF3 (fun hm => by
        have e : bx = q := by simpa using hm
        subst e
        exact (HK2.out.node _ _ HB.out HN.out).ne HR2.out.head (by decide) rfl)
      have HB3 := Lib.hid hrow3
      have HN3 := Lib.hid hne3
      have HK3 := Lib.hid ((HKr.out.trans HK2.out.t).trans (KeepT.one hF3 HR2.out.head (by decide)))
      have hlen : (p.l ++ [rs.length]).length = p.l.length + 1 := by simp
      obtain ⟨hA', hc', e⟩ : ∃ A c, hp' = .slice A (p.l.length + 1) c := by
        obtain ⟨A, c, e⟩ := form_ w0 (HR3.out.kin.each (hp', p.l ++ [rs.length]) (by simp))
        exact ⟨A, c, by rw [← hlen]; exact e⟩
      subst e
      have HLEN := Lib.hid hlen
      have y0 := HB3.out.at (i := 0) rfl
      have y1 := HB3.out.at (i := 1) rfl
      have y2 := HB3.out.at (i := 2) rfl
      have y3 := HB3.out.at (i := 3) rfl
      have y4 := HB3.out.at (i := 4) rfl
      have g0 := HB3.out.frozen 0
      have g1 := HB3.out.frozen 1
      have g2 := HB3.out.frozen 2
      have g3 := HB3.out.frozen 3
      have g4 := HB3.out.frozen 4
      clear hF3 hR3 hne3 hrow3 z0 z1 z2 z3 z4 hlen
      dsimp only
      go_wp2
      have hn3 := hn
      rw [List.length_cons] at hn3
      go_roundg os1'.length
      case measure => have := HOL.out; simp; omega
      case rel =>
        refine ⟨rv', tv', ov3, rs ++ [(y, .slice yA y.l.length yc)], tops, os1', ⟨4, p.at_, 0, emp, p.l ++ [rs.length]⟩, hA', hc', rfl, ?_, ?_, ?_, HN3.out, HK3.out.trans (KeepT.one (box_far _ bx _ _ _ _ _) HB3.out (by decide)), ?_, ht, ?_⟩
        · rw [HLEN.out]
          exact HR3.out.box HB3.out HN3.out HBX.out (box_far _ bx _ _ _ _ _)
        · rw [HLEN.out]
          exact box_row _ _ _ _ _ HB3.out
        · have := HP.out
          rw [List.map_cons, putO_go _ _ _ HW.out] at this
          rw [HO.out, List.map_append, ← this, List.length_map]
          rfl
        · have := HOL.out
          rw [List.length_append, List.length_singleton]
          omega
        · intro z hz
          obtain ⟨z2, hz2, e2⟩ : ∃ z2 ∈ os1, z2.1 = z.1 := by
            have : z.1 ∈ os1'.map (·.1) := List.mem_map_of_mem hz
            rw [HO.out] at this
            obtain ⟨z2, h2, e2⟩ := List.mem_map.1 this
            exact ⟨z2, h2, e2⟩
          rw [← e2]
          exact HL.out z2 (List.mem_cons_of_mem _ hz2)
end
end RC6
end Go.Proofs.YtpbfgfadickgbaaGreatDoor
/-
  Contracts of the code's reader: begin, finish. Conditions: there are no more than 20000 data.
-/
namespace Go.Proofs.YtpbfgfadickgbaaGreatDoor
open Go.RowKit
namespace RC6
open LX RX RW6
open RM6 (Kin ndC kinsN kinsP ints_snoc ints_len ndC_snoc own_off one_far)
/-- The reader at q is r. -/
def Has (w0 w : World) (q : Nat) (r : Rd) : Prop := ∃ rv tv ov rs os, Rdr w0 w q rv tv ov rs r.tops os [] ∧ rs.map (·.1) = r.row ∧ os.map (·.1) = r.op
/-- What a token comes to. -/
def TokC (w0 w : World) (q : Nat) (X : Except Int Rd) (e : Ending) (w' : World) : Prop := match X with
  | .error z => e = .returned (.int .i64 z) ∧ MM.Far [] w w'
  | .ok r => e = .returned (.int .i64 0) ∧ KeepT w w' ∧ Has w0 w' q r
theorem PutC.has {w0 w w' : World} {q : Nat} {R : Rd} {e : Ending} (h : PutC w0 w q R [] e w') : Has w0 w' q R := by
  obtain ⟨_, _, rv, tv, ov, rs, os, h1, h2, h3⟩ := h
  exact ⟨rv, tv, ov, rs, os, h1, h2, h3⟩
theorem Has.to {w0 w w1 : World} {q : Nat} {r : Rd} (h : Has w0 w q r) (f : MM.Far [] w w1) : Has w0 w1 q r := by
  obtain ⟨rv, tv, ov, rs, os, h1, h2, h3⟩ := h
  exact ⟨rv, tv, ov, rs, os, h1.to f, h2, h3⟩
/-- Behind the append to what is open. -/
def CutP (w0 w : World) (q : Nat) (rv tv : Value) (rs : List (Nd × Value)) (tops : List Nat) (os : List (Pt × Value)) (a : Int) (b : Bool) (wx : World) : Prop :=
  KeepT w wx ∧ ∃ ov', Rdr w0 wx q rv tv ov' rs tops ((⟨a, b, []⟩, .slice none 0 0) :: os) []
section
variable {w0 w : World} {q : Nat} {rv tv ov : Value} {rs : List (Nd × Value)} {tops : List Nat} {os : List (Pt × Value)} {ex : List (Value × List Nat)}
theorem pt_one (a : Int) (b : Bool) : ∀ u ∈ [Value.int .u8 4, .int .i64 a, .int .i64 0, .string ⟨#[]⟩, .slice none 0 0, .bool b], u.oneCell' = true := by
  intro u hu
  simp only [List.mem_cons, List.not_mem_nil, or_false] at hu
  rcases hu with rfl | rfl | rfl | rfl | rfl | rfl <;> rfl
set_option maxHeartbeats 4000000 in
set_option maxRecDepth 20000 in
theorem begin_any (t : Tk) (htk : t.kind = 1 ∨ t.kind = 3) (r : Rd) (h : Has w0 w q r) (hbd : Bd r 19990) :
    Calls Tryz.prog 23 #[.pointer (some ⟨q, 0, none⟩), .agg #[.int .u8 t.kind, .int .i64 t.at_, .int .i64 t.n, .string t.s]] w
      (TokC w0 w q (token r t)) := by
  obtain ⟨rv, tv, ov, rs, os, hR, hrs, hos⟩ := h
  obtain ⟨oA, oc, rfl⟩ := form_ w0 hR.op
  have hrl : rs.length = r.row.length := by rw [← hrs, List.length_map]
  have hol : os.length = r.op.length := by rw [← hos, List.length_map]
  have hsum : rs.length + os.length ≤ 19990 := by rw [hrl, hol]; exact hbd.sum
  have htop := hbd.tops
  have hls : ∀ p ∈ os, p.1.l.length ≤ 19990 := fun p hp => hbd.lists _ (by rw [← hos]; exact List.mem_map_of_mem hp)
  obtain ⟨bq, hbq⟩ : ∃ bq, bq = (t.kind == 3) := ⟨_, rfl⟩
  have HBQ := Lib.hid hbq
  have hkq : (t.kind == 3) = bq := hbq.symm
  have HR := Lib.hid (hR.to ((MM.Far.refl [] w).alloc (.cells #[.int .u8 t.kind, .int .i64 t.at_, .int .i64 t.n, .string t.s] 50)))
  have HK := Lib.hid (KeepT.nil ((MM.Far.refl [] w).alloc (.cells #[.int .u8 t.kind, .int .i64 t.at_, .int .i64 t.n, .string t.s] 50)))
  have HF := Lib.hid ((MM.Far.refl [] w).alloc (.cells #[.int .u8 t.kind, .int .i64 t.at_, .int .i64 t.n, .string t.s] 50))
  have HB := Lib.hid (MM.Row.new w 50 [.int .u8 t.kind, .int .i64 t.at_, .int .i64 t.n, .string t.s])
  have c2 := HR.out.head.at (i := 2) rfl
  have f2 := HR.out.head.frozen 2
  have z0 := HB.out.at (i := 0) rfl
  have z1 := HB.out.at (i := 1) rfl
  have HRS := Lib.hid hrs
  have HOS := Lib.hid hos
  have HOL := Lib.hid hol
  have HRL := Lib.hid hrl
  have HTK := Lib.hid htk
  have HLS := Lib.hid hls
  clear hR hbq hrs hos hol hrl htk hbd hls
  have hbW := HR.out.far.size
  by_cases hd : 50 ≤ os.length
  · have hd1 : decide ((50 : Int) ≤ (os.length : Int)) = true := by simp; omega
    have HT : Hid (token r t = .error 62) := Lib.hid (by
      unfold token
      have h50 : 50 ≤ r.op.length := by rw [← HOL.out]; exact hd
      rcases HTK.out with e | e <;> simp [e, h50])
    clear hkq HBQ
    go_enter Tryz.func23, Tryz.ntmps23
    go_wp2
    go_ret
    rw [HT.out]
    exact ⟨rfl, HF.out⟩
  · have hd1 : decide ((50 : Int) ≤ (os.length : Int)) = false := by simp; omega
    go_enter Tryz.func23, Tryz.ntmps23
    go_wp2
    rw [show w.alloc (.cells [Value.int .u8 t.kind, .int .i64 t.at_, .int .i64 t.n, .string t.s].toArray 50) = w.alloc (.cells #[.int .u8 t.kind, .int .i64 t.at_, .int .i64 t.n, .string t.s] 50) from rfl] at HB
    obtain ⟨tb, htb⟩ : ∃ tb, w.heap.size = tb := ⟨_, rfl⟩
    rw [htb] at HB z0 z1
    rw [htb]
    clear htb
    generalize hWE : w.alloc (.cells #[.int .u8 t.kind, .int .i64 t.at_, .int .i64 t.n, .string t.s] 50) = W at *
    clear hWE
    have c2a := (HR.out.to ((MM.Far.refl [] W).alloc (.cells #[.int .u8 4, .int .i64 t.at_, .int .i64 0, .string ⟨#[]⟩, .slice none 0 0, .bool bq] 85))).head.at (i := 2) rfl
    go_cut [] (fun wx => CutP w0 W q rv tv rs r.tops os t.at_ bq wx)
    case first =>
      go_region_law (
        refine MO.step_append ?_ (.tmp 19) (.tmp 25) 46 ?_ w0.heap.size 85 _ 6 72 opens_slice open_info rfl (by omega) (.slice oA os.length oc) os.length (ptC os.reverse) ?_ ?_ (some ⟨W.heap.size, 0, none⟩) 1 1 [.int .u8 4, .int .i64 t.at_, .int .i64 0, .string ⟨#[]⟩, .slice none 0 0, .bool bq] ?_ rfl (fun h => by cases h) [] ?_ (pt_one t.at_ bq) ?_ ?_ ?_ ?_
        · rfl
        · rfl
        · rfl
        · exact HR.out.op.alloc _
        · rfl
        · exact (MM.Src.row (MM.Row.new W 85 [.int .u8 4, .int .i64 t.at_, .int .i64 0, .string ⟨#[]⟩, .slice none 0 0, .bool bq]) (by simp) _ (fun j u hu => hu))
        · simp only [maxLen]; omega
        · omega
        · simp; omega
        intro v2 w2 hv2 hg2 hat2
        obtain ⟨A2, c2, rfl⟩ := form_ w0 hv2
        have F2 : MM.Far (Value.slice oA os.length oc).ownBlock.toList W w2 := far_app hg2
        have HH2 : Hid (MM.Row w2 q 48 _) := Lib.hid (HR.out.head.far F2 (fun hm => MM.own_row_ne HR.out.op HR.out.head (by decide) (by simpa using hm)))
        have d2W := HH2.out.at (i := 2) rfl
        have e2W := HH2.out.frozen 2
        have HN := Lib.hid (HR.out.push (w1 := w2) ⟨t.at_, bq, []⟩ rfl hv2 F2)
        have HK2 := Lib.hid (KeepT.far F2 (fun b hb _ => by
          obtain ⟨l, r2⟩ := own_row HR.out.op b (by simpa using hb)
          exact ⟨_, l, r2, by decide⟩))
        clear hg2 hv2 hat2)
      all_goals
        go_wp2_with fail
        go_meet
        exact ⟨HK2.out.trans (KeepT.one (one_far w2 q 2 _) HH2.out (by decide)), _, HN.out⟩
    case rest =>
      obtain ⟨hKc, ov', hRc⟩ := hcut
      have HKc := Lib.hid (HK.out.trans hKc)
      have HRc := Lib.hid hRc
      have HBc := Lib.hid (hKc.tok tb _ HB.out)
      have y1 := HBc.out.at (i := 1) rfl
      have hnd : ¬ 50 ≤ r.op.length := by rw [← HOL.out]; exact hd
      have HND := Lib.hid hnd
      clear hKc hRc z0 z1 c2 f2 c2a hbW HR HK HF HB hd hd1 hnd
      cases bq with
      | false =>
        have hk1 : t.kind = 1 := by
          have := HBQ.out
          rcases HTK.out with e | e
          · exact e
          · rw [e] at this; cases this
        have HT : Hid (token r t = .ok ⟨r.row, r.tops, ⟨t.at_, false, []⟩ :: r.op⟩) := Lib.hid (by
          unfold token
          simp [hk1, HND.out])
        clear hk1 hkq
        go_wp2
        go_ret
        rw [HT.out]
        exact ⟨rfl, HKc.out, rv, tv, ov', rs, _, HRc.out, HRS.out, by rw [List.map_cons, HOS.out]⟩
      | true =>
        have hk1 : t.kind = 3 := by
          have := HBQ.out
          rcases HTK.out with e | e
          · rw [e] at this; cases this
          · exact e
        have HT : Hid (token r t = .ok (put ⟨r.row, r.tops, ⟨t.at_, true, []⟩ :: r.op⟩ ⟨3, t.at_, 0, quoteB, []⟩)) := Lib.hid (by
          unfold token
          simp [hk1, HND.out])
        clear hk1 hkq
        have HA := Lib.hid (add_any ⟨3, t.at_, 0, quoteB, []⟩ none 0 HRc.out.ex_none (by rw [List.length_cons]; omega) (by omega) (by
          intro p hp
          rcases List.mem_cons.1 hp with rfl | hp
          · simp
          · have := HLS.out p hp; omega))
        go_wp2_with (first
          | (go_at_call 25; refine HA.out.mono ?_; rintro e w7 ⟨rfl, hK7, hH7⟩; have HK7 := Lib.hid hK7; have HH7 := Lib.hid hH7; clear hK7 hH7))
        go_ret
        rw [HT.out]
        obtain ⟨rv7, tv7, ov7, rs7, os7, h1, h2, h3⟩ := HH7.out
        rw [List.map_cons, HOS.out, HRS.out] at h1 h2 h3
        exact ⟨rfl, HKc.out.trans HK7.out, rv7, tv7, ov7, rs7, os7, h1, h2, h3⟩
set_option maxHeartbeats 4000000 in
set_option maxRecDepth 20000 in
theorem finish_any (t : Tk) (htk : t.kind = 2) (r : Rd) (h : Has w0 w q r) (hbd : Bd r 19990) :
    Calls Tryz.prog 24 #[.pointer (some ⟨q, 0, none⟩)] w (TokC w0 w q (token r t)) := by
  obtain ⟨rv, tv, ov, rs, os, hR, hrs, hos⟩ := h
  obtain ⟨oA, oc, rfl⟩ := form_ w0 hR.op
  have hrl : rs.length = r.row.length := by rw [← hrs, List.length_map]
  have hol : os.length = r.op.length := by rw [← hos, List.length_map]
  have hsum : rs.length + os.length ≤ 19990 := by rw [hrl, hol]; exact hbd.sum
  have htop := hbd.tops
  have hls : ∀ p ∈ os, p.1.l.length ≤ 19990 := fun p hp => hbd.lists _ (by rw [← hos]; exact List.mem_map_of_mem hp)
  have HR := Lib.hid hR
  have c2 := HR.out.head.at (i := 2) rfl
  by_cases ho : os.length = 0
  · have d0 : decide ((os.length : Int) = 0) = true := by simp [ho]
    have hop : r.op = [] := List.eq_nil_of_length_eq_zero (by omega)
    have HT : Hid (token r t = .error 61) := Lib.hid (by
      unfold token inQ
      simp [htk, hop])
    have d1 : (((os.length : Nat) : Int) == 0) = true := by simp [ho]
    clear hR hrs hos hrl hol hsum htop hls hbd hop htk ho
    go_enter Tryz.func24, Tryz.ntmps24
    go_wp2
    go_ret
    rw [HT.out]
    exact ⟨rfl, MM.Far.refl _ _⟩
  · obtain ⟨⟨p, hp⟩, os1, rfl⟩ : ∃ z os1, os = z :: os1 := by
      cases os with
      | nil => exact absurd rfl ho
      | cons z l => exact ⟨z, l, rfl⟩
    obtain ⟨og, oc2, e, hc1, hc2, c0, c1, c2', c3, c4, c5, hfz, hog, hog0⟩ := open_at HR.out
    injection e with e1 e2 e3
    subst e1 e3
    have hop : r.op = p :: os1.map (·.1) := by rw [← hos, List.map_cons]
    rw [List.length_cons] at c2 hsum
    have d0 : decide (((os1.length : Nat) : Int) + 1 = 0) = false := by simp; omega
    obtain ⟨bq, hbq⟩ : ∃ bq, p.q = bq := ⟨_, rfl⟩
    have HQ := Lib.hid c2
    have HBQ := Lib.hid hbq
    have HC5 := Lib.hid (hbq ▸ c5)
    have HOP := Lib.hid hop
    have HRS := Lib.hid hrs
    have HTK := Lib.hid htk
    have HLS := Lib.hid hls
    have hos1 : os1.length ≤ 20000 := by omega
    clear hR hrs hos hrl hol hls hbd hop htk ho e2 c0 c1 c2' c3 c4 c5 hfz hbq
    cases bq with
    | true =>
      have HT : Hid (token r t = .error 63) := Lib.hid (by
        unfold token inQ
        simp [HTK.out, HOP.out, HBQ.out])
      have c5 := HC5.out
      go_enter Tryz.func24, Tryz.ntmps24
      go_wp2_with (first
        | (go_at_call 26; refine (inner_any _ HQ.out hos1).mono ?_; rintro e w3 ⟨rfl, d, rfl⟩))
      go_ret
      rw [HT.out]
      exact ⟨rfl, (MM.Far.refl [] w).drewN d⟩
    | false =>
      have HT : Hid (token r t = .ok (putO (os1.map (·.1)) r.row r.tops ⟨4, p.at_, 0, emp, p.l⟩)) := Lib.hid (by
        unfold token inQ close
        simp [HTK.out, HOP.out, HBQ.out])
      have c5 := HC5.out
      go_enter Tryz.func24, Tryz.ntmps24
      go_wp2_with (first
        | (go_at_call 26; refine (inner_any _ HQ.out hos1).mono ?_; rintro e w3 ⟨rfl, d, rfl⟩; have HRd := Lib.hid (HR.out.to ((MM.Far.refl [] w).drewN d))))
      refine (pop_any HRd.out hos1).mono ?_
      rintro e w4 ⟨rfl, hF4, ov4, hR4⟩
      have HK4 := Lib.hid ((KeepT.nil ((MM.Far.refl [] w).drewN d)).trans (KeepT.one hF4 HRd.out.head (by decide)))
      obtain ⟨hA, hc, rfl⟩ : ∃ A c, hp = .slice A p.l.length c := form_ w0 (hR4.kin.each (hp, p.l) (by simp))
      have HA := Lib.hid (add_any ⟨4, p.at_, 0, emp, p.l⟩ hA hc hR4 (by omega) (by omega) (fun z hz => by have := HLS.out z (List.mem_cons_of_mem _ hz); omega))
      clear hF4 hR4
      dsimp only
      go_wp2_with (first
        | (go_at_call 25; refine HA.out.mono ?_; rintro e w7 ⟨rfl, hK7, hH7⟩; have HK7 := Lib.hid hK7; have HH7 := Lib.hid hH7; clear hK7 hH7))
      go_ret
      rw [HT.out]
      obtain ⟨rv7, tv7, ov7, rs7, os7, h1, h2, h3⟩ := HH7.out
      rw [HRS.out] at h1 h2 h3
      exact ⟨rfl, HK4.out.trans HK7.out, rv7, tv7, ov7, rs7, os7, h1, h2, h3⟩
end
end RC6
end Go.Proofs.YtpbfgfadickgbaaGreatDoor
/-
  Contracts of the code's reader: take, end. Conditions: there are no more than 20000 data; tokens of the six kinds.
-/
namespace Go.Proofs.YtpbfgfadickgbaaGreatDoor
open Go.RowKit
namespace RC6
open LX RX RW6
open RM6 (Kin ndC kinsN kinsP ints_snoc ints_len ndC_snoc own_off one_far)
section
variable {w0 w : World} {q : Nat} {rv tv ov : Value} {rs : List (Nd × Value)} {tops : List Nat} {os : List (Pt × Value)} {ex : List (Value × List Nat)}
theorem TokC.from {w1 w' : World} {X : Except Int Rd} {e : Ending} (f : MM.Far [] w w1) (h : TokC w0 w1 q X e w') : TokC w0 w q X e w' := by
  cases X with
  | error z => exact ⟨h.1, f.trans h.2 (by simp)⟩
  | ok r => exact ⟨h.1, (KeepT.nil f).trans h.2.1, h.2.2⟩
theorem put_has {w' : World} {r : Rd} {x : Nd} {e : Ending} (hrs : rs.map (·.1) = r.row) (hos : os.map (·.1) = r.op) (h : PutC w0 w q (putO (os.map (·.1)) (rs.map (·.1)) r.tops x) [] e w') : KeepT w w' ∧ Has w0 w' q (put r x) := by
  obtain ⟨_, hk, rv, tv, ov, rs2, os2, h1, h2, h3⟩ := h
  rw [hrs, hos] at h1 h2 h3
  exact ⟨hk, rv, tv, ov, rs2, os2, h1, h2, h3⟩
set_option maxHeartbeats 4000000 in
set_option maxRecDepth 20000 in
theorem take_any (t : Tk) (htk : t.kind = 1 ∨ t.kind = 2 ∨ t.kind = 3 ∨ t.kind = 4 ∨ t.kind = 5 ∨ t.kind = 6) (r : Rd) (h : Has w0 w q r) (hbd : Bd r 19990) :
    Calls Tryz.prog 11 #[.pointer (some ⟨q, 0, none⟩), .agg #[.int .u8 t.kind, .int .i64 t.at_, .int .i64 t.n, .string t.s]] w
      (TokC w0 w q (token r t)) := by
  have hF0 := (MM.Far.refl [] w).alloc (.cells #[.int .u8 t.kind, .int .i64 t.at_, .int .i64 t.n, .string t.s] 50)
  have HF := Lib.hid hF0
  have HH := Lib.hid (h.to hF0)
  obtain ⟨rv, tv, ov, rs, os, hR, hrs, hos⟩ := h.to hF0
  have HB := Lib.hid (MM.Row.new w 50 [.int .u8 t.kind, .int .i64 t.at_, .int .i64 t.n, .string t.s])
  have z0 := HB.out.at (i := 0) rfl
  have z1 := HB.out.at (i := 1) rfl
  have z2 := HB.out.at (i := 2) rfl
  have z3 := HB.out.at (i := 3) rfl
  have hsum : rs.length + os.length ≤ 20000 := by have := hbd.sum; rw [← hrs, ← hos, List.length_map, List.length_map] at this; omega
  have htop : r.tops.length ≤ 20000 := by have := hbd.tops; omega
  have hls : ∀ p ∈ os, p.1.l.length ≤ 20000 := fun p hp => by have := hbd.lists _ (by rw [← hos]; exact List.mem_map_of_mem hp); omega
  have HRn := Lib.hid hR.ex_none
  have HRS := Lib.hid hrs
  have HOS := Lib.hid hos
  have HBD := Lib.hid hbd
  have HLS := Lib.hid hls
  have HSUM := Lib.hid hsum
  have HTOP := Lib.hid htop
  clear hF0 h hR hrs hos hbd hls hsum htop
  obtain ⟨kd, at_, n, s⟩ := t
  simp only at *
  rcases htk with rfl | rfl | rfl | rfl | rfl | rfl
  · have HC := Lib.hid (begin_any ⟨1, at_, n, s⟩ (.inl rfl) r HH.out HBD.out)
    obtain ⟨X, hX⟩ : ∃ X, token r ⟨1, at_, n, s⟩ = X := ⟨_, rfl⟩
    rw [hX] at HC ⊢
    clear hX
    cases X with
    | error z =>
      go_enter Tryz.func11, Tryz.ntmps11
      go_wp2_with (go_at_call 23; refine HC.out.mono ?_; rintro e w2 ⟨rfl, hF2⟩; have HF2 := Lib.hid hF2; clear hF2)
      go_ret
      exact ⟨rfl, HF.out.trans HF2.out (by simp)⟩
    | ok R =>
      go_enter Tryz.func11, Tryz.ntmps11
      go_wp2_with (go_at_call 23; refine HC.out.mono ?_; rintro e w2 ⟨rfl, hK2, hH2⟩; have HK2 := Lib.hid hK2; have HH2 := Lib.hid hH2; clear hK2 hH2)
      go_ret
      exact ⟨rfl, (KeepT.nil HF.out).trans HK2.out, HH2.out⟩
  · have HC := Lib.hid (finish_any ⟨2, at_, n, s⟩ rfl r HH.out HBD.out)
    obtain ⟨X, hX⟩ : ∃ X, token r ⟨2, at_, n, s⟩ = X := ⟨_, rfl⟩
    rw [hX] at HC ⊢
    clear hX
    cases X with
    | error z =>
      go_enter Tryz.func11, Tryz.ntmps11
      go_wp2_with (go_at_call 24; refine HC.out.mono ?_; rintro e w2 ⟨rfl, hF2⟩; have HF2 := Lib.hid hF2; clear hF2)
      go_ret
      exact ⟨rfl, HF.out.trans HF2.out (by simp)⟩
    | ok R =>
      go_enter Tryz.func11, Tryz.ntmps11
      go_wp2_with (go_at_call 24; refine HC.out.mono ?_; rintro e w2 ⟨rfl, hK2, hH2⟩; have HK2 := Lib.hid hK2; have HH2 := Lib.hid hH2; clear hK2 hH2)
      go_ret
      exact ⟨rfl, (KeepT.nil HF.out).trans HK2.out, HH2.out⟩
  · have HC := Lib.hid (begin_any ⟨3, at_, n, s⟩ (.inr rfl) r HH.out HBD.out)
    obtain ⟨X, hX⟩ : ∃ X, token r ⟨3, at_, n, s⟩ = X := ⟨_, rfl⟩
    rw [hX] at HC ⊢
    clear hX
    cases X with
    | error z =>
      go_enter Tryz.func11, Tryz.ntmps11
      go_wp2_with (go_at_call 23; refine HC.out.mono ?_; rintro e w2 ⟨rfl, hF2⟩; have HF2 := Lib.hid hF2; clear hF2)
      go_ret
      exact ⟨rfl, HF.out.trans HF2.out (by simp)⟩
    | ok R =>
      go_enter Tryz.func11, Tryz.ntmps11
      go_wp2_with (go_at_call 23; refine HC.out.mono ?_; rintro e w2 ⟨rfl, hK2, hH2⟩; have HK2 := Lib.hid hK2; have HH2 := Lib.hid hH2; clear hK2 hH2)
      go_ret
      exact ⟨rfl, (KeepT.nil HF.out).trans HK2.out, HH2.out⟩
  · have HA := Lib.hid (add_any ⟨1, at_, n, emp, []⟩ none 0 HRn.out HSUM.out HTOP.out HLS.out)
    have HT : Hid (token r ⟨4, at_, n, s⟩ = .ok (put r ⟨1, at_, n, emp, []⟩)) := Lib.hid (by unfold token; simp)
    rw [HT.out]
    go_enter Tryz.func11, Tryz.ntmps11
    go_wp2_with (go_at_call 25; refine HA.out.mono ?_; rintro e w2 h2; have he := h2.1; subst he; have HP2 := Lib.hid (put_has HRS.out HOS.out h2); clear h2)
    go_ret
    exact ⟨rfl, (KeepT.nil HF.out).trans HP2.out.1, HP2.out.2⟩
  · have HA := Lib.hid (add_any ⟨2, at_, n, emp, []⟩ none 0 HRn.out HSUM.out HTOP.out HLS.out)
    have HT : Hid (token r ⟨5, at_, n, s⟩ = .ok (put r ⟨2, at_, n, emp, []⟩)) := Lib.hid (by unfold token; simp)
    rw [HT.out]
    go_enter Tryz.func11, Tryz.ntmps11
    go_wp2_with (go_at_call 25; refine HA.out.mono ?_; rintro e w2 h2; have he := h2.1; subst he; have HP2 := Lib.hid (put_has HRS.out HOS.out h2); clear h2)
    go_ret
    exact ⟨rfl, (KeepT.nil HF.out).trans HP2.out.1, HP2.out.2⟩
  · have HA := Lib.hid (add_any ⟨3, at_, 0, s, []⟩ none 0 HRn.out HSUM.out HTOP.out HLS.out)
    have HT : Hid (token r ⟨6, at_, n, s⟩ = .ok (put r ⟨3, at_, 0, s, []⟩)) := Lib.hid (by unfold token; simp)
    rw [HT.out]
    go_enter Tryz.func11, Tryz.ntmps11
    go_wp2_with (go_at_call 25; refine HA.out.mono ?_; rintro e w2 h2; have he := h2.1; subst he; have HP2 := Lib.hid (put_has HRS.out HOS.out h2); clear h2)
    go_ret
    exact ⟨rfl, (KeepT.nil HF.out).trans HP2.out.1, HP2.out.2⟩
/-- What the end comes to. -/
def EndP (w : World) (X : Except (Int × Int) Rd) (e : Ending) (w' : World) : Prop := (match X with
  | .ok _ => e = .returned (.tuple #[.int .i64 0, .int .i64 0])
  | .error (a, z) => e = .returned (.tuple #[.int .i64 a, .int .i64 z])) ∧ ∃ d, w' = w.drewN d
set_option maxHeartbeats 1000000 in
theorem end_any (r : Rd) (h : Has w0 w q r) (hbd : Bd r 20000) :
    Calls Tryz.prog 12 #[.pointer (some ⟨q, 0, none⟩)] w (EndP w (endE r)) := by
  obtain ⟨rv, tv, ov, rs, os, hR, hrs, hos⟩ := h
  obtain ⟨oA, oc, rfl⟩ := form_ w0 hR.op
  have hol : os.length = r.op.length := by rw [← hos, List.length_map]
  have HR := Lib.hid hR
  have c2 := HR.out.head.at (i := 2) rfl
  by_cases ho : os.length = 0
  · have d1 : (((os.length : Nat) : Int) == 0) = true := by simp [ho]
    have HE : Hid (endE r = .ok r) := Lib.hid (by
      have hop : r.op = [] := List.eq_nil_of_length_eq_zero (by omega)
      unfold endE; rw [hop])
    clear hR hrs hos hol ho hbd
    go_enter Tryz.func12, Tryz.ntmps12
    go_wp2
    go_ret2
    rw [HE.out]
    exact ⟨rfl, 0, rfl⟩
  · obtain ⟨⟨p, hp⟩, os1, rfl⟩ : ∃ z os1, os = z :: os1 := by
      cases os with
      | nil => exact absurd rfl ho
      | cons z l => exact ⟨z, l, rfl⟩
    obtain ⟨og, oc2, e, hc1, hc2, c0, c1, c2', c3, c4, c5, hfz, hog, hog0⟩ := open_at HR.out
    injection e with e1 e2 e3
    subst e1 e3
    have hop : r.op = p :: os1.map (·.1) := by rw [← hos, List.map_cons]
    have hos1 : os1.length ≤ 20000 := by have := hbd.sum; rw [hop, List.length_cons, List.length_map] at this; omega
    rw [List.length_cons] at c2
    have d0 : decide (((os1.length : Nat) : Int) + 1 = 0) = false := by simp; omega
    obtain ⟨bq, hbq⟩ : ∃ bq, p.q = bq := ⟨_, rfl⟩
    have HQ := Lib.hid c2
    have HE : Hid (endE r = if bq = true then .error (p.at_, 63) else .error (p.at_, 60)) := Lib.hid (by unfold endE; rw [hop]; simp only [hbq])
    have HC5 := Lib.hid (hbq ▸ c5)
    have HC1 := Lib.hid c1
    clear hR hrs hos hol hbd hop ho e2 c0 c1 c2' c3 c4 c5 hfz hbq
    cases bq
    all_goals
      have c1 := HC1.out
      have c5 := HC5.out
      go_enter Tryz.func12, Tryz.ntmps12
      go_wp2_with (first
        | (go_at_call 26; refine (inner_any _ HQ.out hos1).mono ?_; rintro e w3 ⟨rfl, d, rfl⟩))
      go_ret2
      rw [HE.out]
      exact ⟨rfl, d, rfl⟩
end
end RC6
end Go.Proofs.YtpbfgfadickgbaaGreatDoor
/-
  Contract of the code's own Read. No condition.
-/
namespace Go.Proofs.YtpbfgfadickgbaaGreatDoor
open Go.RowKit
namespace RC6
open LX RX RW6
open RM6 (Kin ndC kinsN kinsP ints_snoc ints_len ndC_snoc own_off one_far)
section
variable {w0 w : World} {q : Nat} {rv tv ov : Value} {rs : List (Nd × Value)} {tops : List Nat} {os : List (Pt × Value)} {ex : List (Value × List Nat)}
theorem Rdr.done (h : Rdr w0 w q rv tv ov rs tops os []) : Done w0 w rv tv rs tops :=
  ⟨h.far, h.row, ⟨fun k hk => h.kin.each k (by
    rcases List.mem_cons.1 hk with rfl | hk
    · exact List.mem_cons_self ..
    · exact List.mem_cons_of_mem _ (List.mem_append_left _ hk)), by
    have := h.kin.apart
    rw [List.pairwise_cons] at this ⊢
    exact ⟨fun k hk => this.1 k (List.mem_append_left _ hk), (List.pairwise_append.1 this.2).1⟩⟩⟩
theorem Has.start (w : World) : Has w (w.alloc (.cells #[.slice none 0 0, .slice none 0 0, .slice none 0 0] 48)) w.heap.size ⟨[], [], []⟩ := by
  refine ⟨.slice none 0 0, .slice none 0 0, .slice none 0 0, [], [], ⟨(MM.Far.refl [] w).alloc _, Nat.le_refl _, MM.Row.new w 48 [.slice none 0 0, .slice none 0 0, .slice none 0 0], MO.none_ _ _ _ _, MO.none_ _ _ _ _, ⟨fun k hk => ?_, by simp [kinsN, kinsP]⟩⟩, rfl, rfl⟩
  obtain rfl : k = (.slice none 0 0, []) := by simpa [kinsN, kinsP] using hk
  exact MO.none_ _ _ _ _
theorem Has.far {r : Rd} (h : Has w0 w q r) : MM.Far [] w0 w := by
  obtain ⟨_, _, _, _, _, h1, _⟩ := h
  exact h1.far
/-- What holds at the head of Read's loop. -/
def RdI (w0 : World) (q : Nat) (ts : List Tk) (X : Except (Int × Int) Rd) (k : Nat) (wr : World) : Prop := ∃ r, Has w0 wr q r ∧ Bd r (2 * k) ∧ tokens (ts.drop k) r = X
set_option maxHeartbeats 4000000 in
set_option maxRecDepth 20000 in
theorem read_any (s : ByteArray) (hs : s.size ≤ 140737488355328) (w : World) : Calls Tryz.prog 5 #[.string s] w (ReadQ w (RX.read s)) := by
  have HL := Lib.hid (LW.lex_q s hs)
  cases hR : LX.lex s with
  | error px =>
    obtain ⟨p, x⟩ := px
    have de := lex_errne hR
    have de1 : ¬ (x = 0) := by rwa [beq_eq_false_iff_ne] at de
    have de2 : (x != 0) = true := by simp [bne, de]
    have HE : Hid (RX.read s = .error ((p : Int), x)) := Lib.hid (by unfold RX.read; rw [hR])
    rw [hR] at HL
    clear hR
    go_enter Tryz.func5, Tryz.ntmps5
    go_wp2_with (go_at_call 10; refine (HL.out _).mono ?_; rintro e w2 ⟨hF2, A1, c1, rfl, -⟩; have HF2 := Lib.hid hF2; clear hF2)
    refine bodyPost_ret (v := .tuple #[.slice none 0 0, .slice none 0 0, .int .i64 p, .int .i64 x]) (by simp [results, Tryz.results5, go_sem]) rfl ?_
    rw [HE.out]
    exact ⟨rfl, HF2.out⟩
  | ok ts =>
    have hlen := lex_len hR
    have hin := (lex_in_s hR).1
    have hkd : ∀ t ∈ ts, t.kind = 1 ∨ t.kind = 2 ∨ t.kind = 3 ∨ t.kind = 4 ∨ t.kind = 5 ∨ t.kind = 6 := fun t ht => (hin t ht).good.kind
    obtain ⟨n, hn⟩ : ∃ n, ts.length = n := ⟨_, rfl⟩
    have hn4 : n ≤ 4000 := by omega
    have HN := Lib.hid hn
    obtain ⟨X, hX⟩ : ∃ X, tokens ts ⟨[], [], []⟩ = X := ⟨_, rfl⟩
    have HE : Hid (RX.read s = fin X) := Lib.hid (by
      unfold RX.read
      rw [hR]
      simp only
      rw [readT_fin hkd, hX])
    have HX := Lib.hid hX
    have HKD := Lib.hid hkd
    rw [hR] at HL
    unfold LW.LexQ at HL
    simp only [hn] at HL
    clear hR hlen hin hkd hn hX
    go_enter Tryz.func5, Tryz.ntmps5
    go_wp2_with (go_at_call 10; refine (HL.out _).mono ?_; rintro e w2 ⟨hF2, A1, c1, rfl, hc1, hc2, -, hs2⟩; have HF2 := Lib.hid hF2; have HT2 := Lib.hid (LW.TkRow.of_src hs2); have HST := Lib.hid (Has.start w2); clear hF2 hs2)
    clear HL
    have HSB := Lib.hid (show RdI w2 w2.heap.size ts X 0 (w2.alloc (.cells #[.slice none 0 0, .slice none 0 0, .slice none 0 0] 48)) from ⟨⟨[], [], []⟩, HST.out, ⟨by simp, by simp, by simp⟩, HX.out⟩)
    clear HST HX
    obtain ⟨q, hq⟩ : ∃ q, w2.heap.size = q := ⟨_, rfl⟩
    rw [hq] at HSB
    have HQ := Lib.hid hq
    rw [hq]
    go_wp2
    clear hq
    go_loopw [27] (fun s27 wr => ∃ k : Nat, k ≤ n ∧ s27 = .int .i64 k ∧ Hid (RdI w2 q ts X k wr)) (fun s27 _ => n - (intOf s27).toNat)
    case atStart => exact ⟨0, by omega, rfl, HSB⟩
    case round =>
      obtain ⟨k, hk, rfl, hI⟩ := hrel
      obtain ⟨r, hH, hbd, hX⟩ := hI.out
      clear hI HSB
      by_cases hlt : k < n
      · have hk2 : k < ts.length := by rw [HN.out]; exact hlt
        obtain ⟨b, o, rfl, hb, d0, d1, d2, d3⟩ := (HT2.out.far hH.far) k hk2
        have htk := HKD.out _ (List.getElem_mem hk2)
        rw [List.drop_eq_getElem_cons hk2] at hX
        generalize ts[k] = t at *
        have HF3 := Lib.hid ((MM.Far.refl [] wr).alloc (.cells #[.int .u8 t.kind, .int .i64 t.at_, .int .i64 t.n, .string t.s] 50))
        have HB3 := Lib.hid (MM.Row.new wr 50 [.int .u8 t.kind, .int .i64 t.at_, .int .i64 t.n, .string t.s])
        have HC := Lib.hid (take_any t htk r (hH.to HF3.out) (hbd.mono (by omega)))
        have HFr := Lib.hid hH.far
        have HBD := Lib.hid hbd
        have HX := Lib.hid hX
        clear hk2 htk hH hbd hX
        obtain ⟨Y, hY⟩ : ∃ Y, token r t = Y := ⟨_, rfl⟩
        rw [hY] at HC
        cases Y with
        | error z =>
          have hz := token_err hY
          have de : (z == 0) = false := by rw [beq_eq_false_iff_ne]; omega
          have de1 : ¬ (z = 0) := by omega
          have de2 : (z != 0) = true := by simp [bne, de]
          have HE2 : Hid (RX.read s = .error (t.at_, z)) := Lib.hid (by
            rw [HE.out, ← HX.out]
            simp only [tokens, hY, fin])
          clear hY hz
          go_wp2_with (go_at_call 11; refine HC.out.mono ?_; rintro e w4 ⟨rfl, hF4⟩; have HB4 := Lib.hid (HB3.out.far hF4 (by simp)); have HF4 := Lib.hid hF4; have y1 := HB4.out.at (i := 1) rfl; clear hF4)
          go_quiet (fail)
          go_wp2
          refine bodyPost_ret (v := .tuple #[.slice none 0 0, .slice none 0 0, .int .i64 t.at_, .int .i64 z]) (by simp [results, Tryz.results5, go_sem]) rfl ?_
          rw [HE2.out]
          exact ⟨rfl, ((((HF2.out.trans HFr.out (by simp)).trans HF3.out (by simp)).trans HF4.out (by simp)).drewN _)⟩
        | ok R =>
          have HY := Lib.hid hY
          clear hY
          go_wp2_with (go_at_call 11; refine HC.out.mono ?_; rintro e w4 ⟨rfl, -, hH4⟩; have HH4 := Lib.hid hH4; clear hH4)
          go_roundw
          case rel => exact ⟨k + 1, by omega, by go_num, Lib.hid ⟨R, HH4.out, (token_bd HBD.out HY.out).mono (by omega), by rw [← HX.out]; simp only [tokens, HY.out]⟩⟩
          case measure => simp [intOf]; omega
      · obtain rfl : k = n := by omega
        rw [List.drop_of_length_le (by rw [HN.out]; exact Nat.le_refl _)] at hX
        simp only [tokens] at hX
        subst hX
        have HEND := Lib.hid (end_any r hH (hbd.mono (by omega)))
        obtain ⟨rv, tv, ov, rs, os, hR, hrs, hos⟩ := hH
        have c0 := hR.head.at (i := 0) rfl
        have c1' := hR.head.at (i := 1) rfl
        have HR := Lib.hid hR
        have HRS := Lib.hid hrs
        clear hR hrs hos hbd
        obtain ⟨Y, hY⟩ : ∃ Y, endE r = Y := ⟨_, rfl⟩
        rw [hY] at HEND
        cases Y with
        | error az =>
          obtain ⟨a, z⟩ := az
          have hz := end_err hY
          have de : (z == 0) = false := by rw [beq_eq_false_iff_ne]; omega
          have de1 : ¬ (z = 0) := by omega
          have de2 : (z != 0) = true := by simp [bne, de]
          have HE2 : Hid (RX.read s = .error (a, z)) := Lib.hid (by
            rw [HE.out]
            simp only [fin, hY])
          clear hY hz
          go_wp2_with (go_at_call 12; refine HEND.out.mono ?_; rintro e w4 ⟨rfl, d, rfl⟩)
          refine bodyPost_ret (v := .tuple #[.slice none 0 0, .slice none 0 0, .int .i64 a, .int .i64 z]) (by simp [results, Tryz.results5, go_sem]) rfl ?_
          rw [HE2.out]
          exact ⟨rfl, (HF2.out.trans HR.out.far (by simp)).drewN _⟩
        | ok R =>
          have HE2 : Hid (RX.read s = .ok r) := Lib.hid (by
            have := end_ok hY
            subst this
            rw [HE.out]
            simp only [fin, hY])
          clear hY
          go_wp2_with (go_at_call 12; refine HEND.out.mono ?_; rintro e w4 ⟨rfl, d, rfl⟩)
          go_quiet (fail)
          go_wp2
          refine bodyPost_ret (v := .tuple #[rv, tv, .int .i64 0, .int .i64 0]) (by simp [results, Tryz.results5, go_sem]) rfl ?_
          rw [HE2.out]
          exact ⟨rv, tv, rs, rfl, (HR.out.done.from HF2.out).to (((MM.Far.refl [] wr).drewN _).drewN _), HRS.out⟩
end
end RC6
end Go.Proofs.YtpbfgfadickgbaaGreatDoor
