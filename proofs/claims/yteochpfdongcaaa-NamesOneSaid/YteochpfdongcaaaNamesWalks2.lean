/-
  Contracts of layer 4's add and Put: a name is put behind those that are there. Conditions: the table's blocks are as the row of names says; a text is no longer than 2^47 bytes.
-/
import Derived.Test.YteochpfdongcaaaNamesWalks1
import Derived.WalkSpells
namespace Go.Proofs.Yteochpfdongcaaa
open Go.RowKit Go.Maps
namespace NW
section
variable {w : World} {g : Nat} {S : List Nat} {L : List ByteArray} {mv sv : Value}
theorem own_block {w : World} {base : Nat} {e : TypeId} {size n : Nat} {v : Value} {xs : List Value} (h : w.ownsRow base e size v n xs) (b : Nat) (hb : v.ownBlock = some b) : ∃ cs, w.heap[b]? = some (.cells cs e (0, 0)) := by
  rcases h.2 with ⟨rfl, _⟩ | ⟨g, cap, cur, rfl, _, hg, _⟩
  · simp [Value.ownBlock] at hb
  · have : g = b := by simpa [Value.ownBlock] using hb
    subst this
    exact ⟨_, hg⟩
theorem map_block {w : World} {k : TypeId} {R : Value → Option (DataW Unit × List MemPlace)} {b n : Nat} {D : DataW Unit} (h : w.ownsMap Try.prog k R b n D) : ∃ es clock, w.heap[b]? = some (.map es clock) := by
  obtain ⟨es, clock, hb, _⟩ := h
  exact ⟨es, clock, hb⟩
theorem row_ne_map {w : World} {k : TypeId} {R : Value → Option (DataW Unit × List MemPlace)} {b n g : Nat} {D : DataW Unit} {t : TypeId} {l : List Value} (h : w.ownsMap Try.prog k R b n D) (hr : MM.Row w g t l) : b ≠ g := by
  rintro rfl
  obtain ⟨es, clock, hb⟩ := map_block h
  unfold MM.Row at hr
  rw [hb] at hr
  cases hr
theorem own_ne_map {w : World} {k : TypeId} {R : Value → Option (DataW Unit × List MemPlace)} {b n : Nat} {D : DataW Unit} {base : Nat} {e : TypeId} {size m : Nat} {v : Value} {xs : List Value} (h : w.ownsMap Try.prog k R b n D) (hr : w.ownsRow base e size v m xs) : v.ownBlock ≠ some b := by
  intro e
  obtain ⟨es, clock, hb⟩ := map_block h
  obtain ⟨cs, hc⟩ := own_block hr b e
  rw [hb] at hc
  cases hc
/-- The table behind: a world that has turned the map, the row and the head. -/
theorem added {w w1 w2 w3 : World} {b : Nat} {D : DataW Unit} {s : ByteArray} {sv' : Value} {o : Obj} (hok : NP.Ok (L ++ [s])) (h : Nm w g S L (.map (some b)) sv) (hb : b ∈ S) (hw1 : MM.Far [] w w1)
    (hm : w2.ownsMap Try.prog 9 (plainElem Try.prog 3) b (L.length + 1) D) (ht : NP.Tab D (NP.num (L ++ [s]))) (h2 : w1.grownBy w2 (some b))
    (h3 : w3.ownsRow 0 9 1 sv' (L.length + 1) (strs L ++ [.string s])) (hg : (w2.alloc o).grownBy w3 sv.ownBlock) (hl : sv'.ownBlock = sv.ownBlock ∨ sv'.ownBlock = some (w2.alloc o).heap.size) :
    Nxt w g S (L ++ [s]) (w3.setCell ⟨g, 1, none⟩ sv') := by
  have F1 : MM.Far S w w1 := hw1.mono (by simp)
  have F2 : MM.Far S w w2 := F1.trans (MM.Far.of_grown (S := [b]) h2 (fun x hx _ => by simp at hx; simp [hx])) (fun x hx _ => by simp at hx; subst hx; exact hb)
  have F3 : MM.Far S w w3 := (F2.alloc o).trans (MM.Far.of_grown (S := S) hg (fun x hx _ => h.own x hx)) (fun x hx _ => hx)
  have r1 : MM.Row w1 g 51 [.map (some b), sv] := h.head.far hw1 (by simp)
  have m1 : ∃ D', w1.ownsMap Try.prog 9 (plainElem (H := Unit) Try.prog 3) b L.length D' := by
    rcases (h.map.far hw1 (by simp)) with ⟨h', _⟩ | ⟨b', D', e, _, h', _⟩
    · cases h'
    · cases e; exact ⟨D', h'⟩
  obtain ⟨D', m1⟩ := m1
  have o1 := MM.own_far h.row hw1 (by simp)
  have r2 : MM.Row w2 g 51 [.map (some b), sv] := r1.of_block (h2.block g r1.lt (fun e => row_ne_map m1 r1 (by simpa using e.symm)))
  have o2 : (w2.alloc o).ownsRow 0 9 1 sv L.length (strs L) := (MM.own_far o1 (MM.Far.of_grown (S := [b]) h2 (fun x hx _ => by simp at hx; simp [hx])) (fun x hx e => by simp at e; subst e; exact own_ne_map m1 o1 hx)).alloc o
  have r3 : MM.Row w3 g 51 [.map (some b), sv] := (r2.alloc o).of_block (hg.block g (r2.alloc o).lt (fun e => MM.own_row_ne o2 (r2.alloc o) (by decide) e.symm))
  have m3 := (hm.alloc o).kept hg (fun e => own_ne_map (hm.alloc o) o2 e.symm)
  have hne : g ≠ b := fun e => row_ne_map m3 r3 e.symm
  have hne2 : sv'.ownBlock ≠ some g := MM.own_row_ne h3 r3 (by decide)
  refine ⟨S ++ sv'.ownBlock.toList, _, _, ⟨hok, by simp [h.mem], r3.put 1 sv', .inr ⟨b, D, rfl, by simp [hb], ?_, ht⟩, ?_, (fun x hx => by simp [hx]), fun x hx => ?_⟩, F3.setCell (fun _ => h.mem) _, ?_⟩
  · have := m3.setCell (a := ⟨g, 1, none⟩) (fun e => hne e.symm) sv'
    simpa using this
  · have := MM.own_far (S := [g]) h3 ((MM.Far.refl [g] w3).setCell (p := ⟨g, 1, none⟩) (by simp) sv') (fun x hx e => by simp at e; subst e; exact hne2 hx)
    simpa [strs] using this
  · show x < (w3.setCell ⟨g, 1, none⟩ sv').heap.size
    rw [show (w3.setCell ⟨g, 1, none⟩ sv').heap.size = w3.heap.size from by simp [World.setCell]]
    rcases List.mem_append.1 hx with hx | hx
    · exact Nat.lt_of_lt_of_le (h.lt x hx) F3.size
    · exact (MM.own_lt h3 x (by simpa using hx)).1
  · intro x hx
    rcases List.mem_append.1 hx with hx | hx
    · exact .inl hx
    · have hx : sv'.ownBlock = some x := by simpa using hx
      rcases hl with e | e
      · exact .inl (h.own x (by rw [← e]; exact hx))
      · rw [e] at hx
        have := F2.size
        simp at hx
        right; omega
theorem Nm.ok_snoc {s : ByteArray} (h : Nm w g S L mv sv) (hs : NP.fits s) (hL : s ∉ L) (hn : L.length < 4096) : NP.Ok (L ++ [s]) := by
  have := h.ok.putL s
  unfold NP.putL at this
  rwa [if_pos ⟨hs, hL, hn⟩] at this
theorem added_map {s : ByteArray} (hL : s ∉ L) {w1 : World} {b : Nat} (h : Nm w g S L (.map (some b)) sv) (hw1 : MM.Far [] w w1) : ∃ D, w1.ownsMap Try.prog 9 (plainElem Try.prog 3) b L.length D ∧ b ∈ S ∧ NP.Tab (D.put (NP.key s) (.lit (.int .i64 L.length))) (NP.num (L ++ [s])) := by
  rcases (h.map.far hw1 (by simp)) with ⟨h', _⟩ | ⟨b', D', e, hb, h', ht⟩
  · cases h'
  · cases e; exact ⟨D', h', hb, (ht.put s L.length).congr (NP.num_snoc L s hL)⟩
/-- The table with its first map made. -/
theorem Nm.first (h : Nm w g S L (.map none) sv) : Nm ((w.alloc (.map #[] 0)).setCell ⟨g, 0, none⟩ (.map (some w.heap.size))) g (w.heap.size :: S) L (.map (some w.heap.size)) sv ∧ MM.Far S w ((w.alloc (.map #[] 0)).setCell ⟨g, 0, none⟩ (.map (some w.heap.size))) := by
  have hF : MM.Far S w (w.alloc (.map #[] 0)) := (MM.Far.refl S w).alloc _
  have hlt := h.head.lt
  have hL : L = [] := by
    rcases h.map with ⟨_, h0⟩ | ⟨_, _, e, _⟩
    · cases L with
      | nil => rfl
      | cons a l => have := h0 a; simp [NP.num] at this
    · cases e
  subst hL
  refine ⟨⟨h.ok, by simp [h.mem], (h.head.alloc _).put 0 _, .inr ⟨_, .map [], rfl, by simp, ?_, ?_⟩, ?_, (fun x hx => by simp [h.own x hx]), fun x hx => ?_⟩, hF.setCell (fun _ => h.mem) _⟩
  · exact (World.ownsMap_made w Try.prog 9 _).setCell (by simp; omega) _
  · exact NP.Tab.none_.congr (fun s => by simp [NP.num])
  · exact MM.own_far (S := [g]) (h.row.alloc _) ((MM.Far.refl [g] _).setCell (p := ⟨g, 0, none⟩) (by simp) _) (fun x hx e => by simp at e; subst e; exact MM.own_row_ne h.row h.head (by decide) hx)
  · rw [show ((w.alloc (.map #[] 0)).setCell ⟨g, 0, none⟩ (.map (some w.heap.size))).heap.size = w.heap.size + 1 from by simp [World.setCell]]
    rcases List.mem_cons.1 hx with e | e
    · omega
    · have := h.lt x e; omega
theorem nxt_first {w0 w1 w2 : World} {L' : List ByteArray} (h : Nxt w1 g (w0.heap.size :: S) L' w2) (hF : MM.Far S w0 w1) : Nxt w0 g S L' w2 := by
  obtain ⟨S', mv', sv', h1, h2, h3⟩ := h
  refine ⟨S', mv', sv', h1, hF.trans h2 (fun b hb hlt => ?_), fun b hb => ?_⟩
  · rcases List.mem_cons.1 hb with e | e
    · omega
    · exact e
  · rcases h3 b hb with h3 | h3
    · rcases List.mem_cons.1 h3 with e | e
      · right; omega
      · exact .inl e
    · right; have := hF.size; omega
theorem added_row {w1 w2 : World} {b : Nat} {D : DataW Unit} (h : Nm w1 g S L (.map (some b)) sv) (m1 : w1.ownsMap Try.prog 9 (plainElem Try.prog 3) b L.length D) (h2 : w1.grownBy w2 (some b)) :
    MM.Row w2 g 51 [.map (some b), sv] ∧ w2.ownsRow 0 9 1 sv L.length (strs L) :=
  ⟨h.head.of_block (h2.block g h.head.lt (fun e => row_ne_map m1 h.head (by simpa using e.symm))),
   MM.own_far h.row (MM.Far.of_grown (S := [b]) h2 (fun x hx _ => by simp at hx; simp [hx])) (fun x hx e => by simp at e; subst e; exact own_ne_map m1 h.row hx)⟩
theorem added_head {w2 w3 : World} {l : List Value} {o : Obj} (r : MM.Row w2 g 51 l) (o2 : w2.ownsRow 0 9 1 sv L.length (strs L)) (hg : (w2.alloc o).grownBy w3 sv.ownBlock) : MM.Row w3 g 51 l :=
  (r.alloc o).of_block (hg.block g (r.alloc o).lt (fun e => MM.own_row_ne (o2.alloc o) (r.alloc o) (by decide) e.symm))
set_option maxHeartbeats 1000000 in
theorem add_some {b : Nat} (h : Nm w g S L (.map (some b)) sv) (s : ByteArray) (hs : NP.fits s) (hL : s ∉ L) (hn : L.length < 4096) :
    Calls Try.prog 19 #[ptr g, .string s] w fun e w' => e = .returned (.int .i64 L.length) ∧ Nxt w g S (L ++ [s]) w' := by
  have hnil := fun W r => run_eql_map_nil (P := Try.prog) W 40 9 3 r Try.underlying40
  have h0 := h.head.at (i := 0) rfl
  have h32 := hs.2
  have HL := Lib.hid hL
  have HS := Lib.hid hs
  have H := Lib.hid h
  clear h hL hs
  go_enter Try.func19, Try.ntmps19
  go_wp2_with fail
  refine (MC.clone_any s _ (by omega)).mono ?_
  rintro e w1 ⟨rfl, hF1⟩
  have N1 := Lib.hid (H.out.nil hF1)
  go_wp2_with fail
  refine (len_any N1.out).mono ?_
  rintro e w' ⟨rfl, rfl⟩
  obtain ⟨D, m1, hb, ht⟩ := added_map HL.out H.out hF1
  have HT := Lib.hid ht
  clear ht
  have c0 := N1.out.head.at (i := 0) rfl
  go_wp2_with (first
    | (at_mapUpdate; refine wpList_mapUpdate_own _ rfl _ _ _ 40 rfl 9 3 string_keyed_ Try.underlying40 _ b L.length D rfl m1 (by unfold maxLen; omega) _ _ _ rfl rfl (key_of (by unfold maxLen; omega)) _ [] (plainElem_int Try.underlying3 (WalkArith.wf_i64 (by omega))) ?_; intro w2 m2 hg2; obtain ⟨r2, o2⟩ := added_row N1.out m1 hg2; have c1 := r2.at (i := 1) rfl)
    | (at_builtin; refine MO.wpList_append _ rfl (.tmp 30) (.tmp 32) 22 rfl 0 9 (.string ⟨#[]⟩) 1 16 Try.underlying22 string_info rfl (by omega) sv L.length (strs L) rfl (o2.alloc _) (some ⟨w2.heap.size, 0, none⟩) 1 1 [.string s] rfl rfl (by simp) [] (MM.Src.row (MM.Row.new _ _ [.string s]) (by simp) _ (fun j u hu => hu)) (strs_one [s]) (by unfold maxLen; omega) (by omega) (by omega) ?_; intro sv' w3 o3 hg3 hl3; have r3 := added_head r2 o2 hg3; have c3 := r3.at (i := 1) rfl; have f3 := r3.frozen 1; obtain ⟨A3, cap3, hv3, _⟩ := MO.form o3; rw [hv3]; have HV := Lib.hid hv3; clear hv3))
  go_ret
  exact ⟨rfl, HV.out ▸ added (H.out.ok_snoc HS.out HL.out hn) H.out hb hF1 m2 HT.out hg2 o3 hg3 hl3⟩
set_option maxHeartbeats 1000000 in
theorem add_none (h : Nm w g S L (.map none) sv) (s : ByteArray) (hs : NP.fits s) (hL : s ∉ L) (hn : L.length < 4096) :
    Calls Try.prog 19 #[ptr g, .string s] w fun e w' => e = .returned (.int .i64 L.length) ∧ Nxt w g S (L ++ [s]) w' := by
  have hnil := fun W r => run_eql_map_nil (P := Try.prog) W 40 9 3 r Try.underlying40
  have hmm := @run_makeMap Try.prog
  have h0 := h.head.at (i := 0) rfl
  have c0 := (h.head.alloc (.map #[] 0)).at (i := 0) rfl
  have f0 := (h.head.alloc (.map #[] 0)).frozen 0
  have hfst := Lib.hid (h.first)
  have h32 := hs.2
  have HL := Lib.hid hL
  have HS := Lib.hid hs
  clear h hL hs
  go_enter Try.func19, Try.ntmps19
  go_wp2_with fail
  obtain ⟨H0, hF0⟩ := hfst.out
  have H := Lib.hid H0
  clear H0
  refine (MC.clone_any s _ (by omega)).mono ?_
  rintro e w1 ⟨rfl, hF1⟩
  have N1 := Lib.hid (H.out.nil hF1)
  go_wp2_with fail
  refine (len_any N1.out).mono ?_
  rintro e w' ⟨rfl, rfl⟩
  obtain ⟨D, m1, hb, ht⟩ := added_map HL.out H.out hF1
  have HT := Lib.hid ht
  clear ht
  have c0 := N1.out.head.at (i := 0) rfl
  go_wp2_with (first
    | (at_mapUpdate; refine wpList_mapUpdate_own _ rfl _ _ _ 40 rfl 9 3 string_keyed_ Try.underlying40 _ w.heap.size L.length D rfl m1 (by unfold maxLen; omega) _ _ _ rfl rfl (key_of (by unfold maxLen; omega)) _ [] (plainElem_int Try.underlying3 (WalkArith.wf_i64 (by omega))) ?_; intro w2 m2 hg2; obtain ⟨r2, o2⟩ := added_row N1.out m1 hg2; have c1 := r2.at (i := 1) rfl)
    | (at_builtin; refine MO.wpList_append _ rfl (.tmp 30) (.tmp 32) 22 rfl 0 9 (.string ⟨#[]⟩) 1 16 Try.underlying22 string_info rfl (by omega) sv L.length (strs L) rfl (o2.alloc _) (some ⟨w2.heap.size, 0, none⟩) 1 1 [.string s] rfl rfl (by simp) [] (MM.Src.row (MM.Row.new _ _ [.string s]) (by simp) _ (fun j u hu => hu)) (strs_one [s]) (by unfold maxLen; omega) (by omega) (by omega) ?_; intro sv' w3 o3 hg3 hl3; have r3 := added_head r2 o2 hg3; have c3 := r3.at (i := 1) rfl; have f3 := r3.frozen 1; obtain ⟨A3, cap3, hv3, _⟩ := MO.form o3; rw [hv3]; have HV := Lib.hid hv3; clear hv3))
  go_ret
  have X := added (H.out.ok_snoc HS.out HL.out hn) H.out hb hF1 m2 HT.out hg2 o3 hg3 hl3
  rw [HV.out] at X
  exact ⟨rfl, nxt_first X hF0⟩
end
end NW
end Go.Proofs.Yteochpfdongcaaa
