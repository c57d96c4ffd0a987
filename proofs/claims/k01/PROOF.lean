import PyProof.Rows.All
import Wide.All
import OpenK.AllK
import Wide.FinOn
import HandS.ForMost
import HandS.Evl
import HandS.IsInst
import HandS.Deep
import HandS.Walk
import HandS.Steps
import HandS.Style
import PySem.Challenge.RW_lastturn_k01_names_and_constants
set_option Elab.async false
set_option linter.all false
set_option maxRecDepth 100000
set_option maxHeartbeats 2000000
namespace LT
open PySem PySem.Spec PyProof.Rows L2 Evl
/-! ### the pen -/
def penK (c : Addr) (s m : Int) : List (Key × V) := [(.inr "cells", .ref c), (.inr "spot", .int s), (.inr "more", .int m)]
theorem n_cs : ¬ (Sum.inr ("cells" : Str) : Key) = Sum.inr ("spot" : Str) := by decide +kernel
theorem n_cm : ¬ (Sum.inr ("cells" : Str) : Key) = Sum.inr ("more" : Str) := by decide +kernel
theorem n_sm : ¬ (Sum.inr ("spot" : Str) : Key) = Sum.inr ("more" : Str) := by decide +kernel
theorem n_ms : ¬ (Sum.inr ("more" : Str) : Key) = Sum.inr ("spot" : Str) := by decide +kernel
section
variable {H : Hp} {p c : Addr} {s m t : Int}
theorem pen_cells (h : H p = some (.dK (penK c s m))) : DGet H p (.str "cells") (some (.ref c)) :=
  .inl ⟨_, .inr "cells", .inl h, rfl, by rw [penK, valV_pos rfl]⟩
theorem pen_spot (h : H p = some (.dK (penK c s m))) : DGet H p (.str "spot") (some (.int s)) :=
  .inl ⟨_, .inr "spot", .inl h, rfl, by rw [penK, valV_neg n_cs, valV_pos rfl]⟩
theorem pen_more (h : H p = some (.dK (penK c s m))) : DGet H p (.str "more") (some (.int m)) :=
  .inl ⟨_, .inr "more", .inl h, rfl, by rw [penK, valV_neg n_cm, valV_neg n_sm, valV_pos rfl]⟩
theorem put_spot : putK (penK c s m) (.inr "spot") (.int t) = penK c t m := by
  unfold putK penK
  rw [if_pos (by simp), List.map_cons, List.map_cons, List.map_cons, List.map_nil]
  rw [if_neg n_cs, if_neg n_ms, if_pos rfl]
theorem put_more : putK (penK c s m) (.inr "more") (.int t) = penK c s t := by
  unfold putK penK
  rw [if_pos (by simp), List.map_cons, List.map_cons, List.map_cons, List.map_nil]
  rw [if_neg n_cm, if_neg n_sm, if_pos rfl]
theorem put_spotH (h : H p = some (.dK (penK c s m))) : DPut H p (.str "spot") (.int t) (upd H p (.dK (penK c t m))) :=
  .inl ⟨_, .inr "spot", h, rfl, (by show 3 < sizeLine; decide), by rw [put_spot]⟩
theorem put_moreH (h : H p = some (.dK (penK c s m))) : DPut H p (.str "more") (.int t) (upd H p (.dK (penK c s t))) :=
  .inl ⟨_, .inr "more", h, rfl, (by show 3 < sizeLine; decide), by rw [put_more]⟩
end
/-- what stands for good (G), within what stands (H), with the pen at p, of which at most B cells were drawn -/
structure Wd (K : PySem.W.Frag) (G H : Hp) (p : Addr) (B : Nat) : Prop where
  ex : Ex G H
  np : G p = none
  pen : ∃ (c : Addr) (s m : Int) (ns : List Int), H p = some (.dK (penK c s m)) ∧ SqL K G c (ns.map V.int) ∧ ns.length ≤ 63 ∧ 0 ≤ s ∧ s ≤ (B : Int) ∧ 0 ≤ m
/-- what a step leaves: G grows by new objects, all else but the pen stands -/
structure Tr (G H G' H' : Hp) (p : Addr) : Prop where
  g : Ex G G'
  nw : ∀ a, H a ≠ none → G a = none → G' a = none
  k : ∀ b o, H b = some o → b ≠ p → H' b = some o
  st : ∀ b, H b ≠ none → H' b ≠ none
theorem Tr.trans {G H G1 H1 G2 H2 : Hp} {p : Addr} (a : Tr G H G1 H1 p) (b : Tr G1 H1 G2 H2 p) : Tr G H G2 H2 p :=
  ⟨a.g.trans b.g, fun x h1 h2 => b.nw x (a.st x h1) (a.nw x h1 h2), fun x o h n => b.k x o (a.k x o h n) n, fun x h => b.st x (a.st x h)⟩
theorem Tr.refl (G H : Hp) (p : Addr) : Tr G H G H p := ⟨Ex.refl G, fun _ _ h => h, fun _ _ h _ => h, fun _ h => h⟩
def RetW (K : PySem.W.Frag) (G H : Hp) (p : Addr) (B k : Nat) (P : Hp → V → Prop) (Q : VK) : Prop := ∀ G' H' v, Tr G H G' H' p → Wd K G' H' p (B + k) → P G' v → Q v H'
theorem st_upd {H : Hp} {p : Addr} {o : HO} : ∀ b, H b ≠ none → (upd H p o) b ≠ none := fun b h => by
  by_cases z : b = p
  · rw [z, upd_same]; exact fun q => nomatch q
  · rw [upd_ne z]; exact h
/-! ### lists of ints as data -/
theorem dp_ints {K : PySem.W.Frag} {H : Hp} : ∀ ns : List Int, DpAll K H (ns.map V.int) (ns.map PyData.int)
  | [] => .nil
  | n :: r => .cons (.int n) (dp_ints r)
theorem lay_ints : ∀ ns : List Int, PyData.canLayAll0 (ns.map PyData.int) = true
  | [] => by simp [PyData.canLayAll0]
  | n :: r => by simp [PyData.canLayAll0, PyData.canLay0, lay_ints r]
theorem depth_ints : ∀ ns : List Int, PyData.depthAll (ns.map PyData.int) ≤ 0
  | [] => by simp [PyData.depthAll]
  | n :: r => by
    have := depth_ints r
    simp only [List.map_cons, PyData.depthAll, PyData.depth]
    omega
theorem shaped_ints (ns : List Int) : SeqAt.shaped (.list (ns.map PyData.int)) = true := by
  have h1 := depth_ints ns
  have h2 : PyData.depth (.list (ns.map PyData.int)) ≤ 64 := by
    simp only [PyData.depth]
    omega
  show (PyData.canLay0 (.list (ns.map PyData.int)) && decide (PyData.depth (.list (ns.map PyData.int)) ≤ 64)) = true
  rw [Bool.and_eq_true]
  exact ⟨by simp only [PyData.canLay0]; exact lay_ints ns, decide_eq_true h2⟩
theorem eqv_nil (ds : List PyData) : PyData.eqv (.list ds) (.list []) = ds.isEmpty := by
  cases ds <;> simp [PyData.eqv, PyData.eqvAll]
/-! ### numbers -/
theorem mod_lo {a b : Int} (h : 0 < b) : 0 ≤ a % b := Int.emod_nonneg a (by omega)
theorem mod_hi {a b : Int} (h : 0 < b) : a % b < b := Int.emod_lt_of_pos a h
theorem pow18 : ((10 : Int) ^ (18 : Int).toNat) = 1000000000000000000 := by decide +kernel
theorem atOf {α : Type} {xs : List α} {z : Int} {j : Nat} {v : α} (e : z = (j : Int)) (h : xs[j]? = some v) : atI xs z = some v := by
  rw [e]
  exact atI_nat h
/-! ### the world and new objects -/
theorem Wd.new {K : PySem.W.Frag} {G H : Hp} {p t : Addr} {o : HO} {B : Nat} (W : Wd K G H p B) (ht : H t = none) : Wd K G (upd H t o) p B := by
  obtain ⟨ex, np, c, s, m, ns, hp, r⟩ := W
  exact ⟨ex.trans (Ex.new ht), np, c, s, m, ns, by rw [upd_ne (ne_of_none hp ht)]; exact hp, r⟩
/-- a new object that will not change -/
theorem Wd.grow {K : PySem.W.Frag} {G H : Hp} {p t : Addr} {o : HO} {B : Nat} (W : Wd K G H p B) (ht : H t = none) : Wd K (upd G t o) (upd H t o) p B := by
  obtain ⟨ex, np, c, s, m, ns, hp, hc, r⟩ := W
  refine ⟨fun b u e => ?_, ?_, c, s, m, ns, by rw [upd_ne (ne_of_none hp ht)]; exact hp, ex_l (Ex.new (fresh_back ex ht)) hc, r⟩
  · by_cases z : b = t
    · subst z; rw [upd_same] at e ⊢; exact e
    · rw [upd_ne z] at e ⊢; exact ex b u e
  · rw [upd_ne (ne_of_none hp ht)]; exact np
theorem Wd.freeze {K : PySem.W.Frag} {G H : Hp} {p t : Addr} {o : HO} {B : Nat} (W : Wd K G H p B) (hg : G t = none) (ht : H t = some o) (hn : t ≠ p) : Wd K (upd G t o) H p B := by
  obtain ⟨ex, np, c, s, m, ns, hp, hc, r⟩ := W
  refine ⟨fun b u e => ?_, ?_, c, s, m, ns, hp, ex_l (Ex.new hg) hc, r⟩
  · by_cases z : b = t
    · subst z; rw [upd_same] at e; rw [ht]; exact e
    · rw [upd_ne z] at e; exact ex b u e
  · rw [upd_ne hn.symm]; exact np
/-- a local object changes -/
theorem Wd.mut {K : PySem.W.Frag} {G H : Hp} {p t : Addr} {o : HO} {B : Nat} (W : Wd K G H p B) (hg : G t = none) (hn : t ≠ p) : Wd K G (upd H t o) p B := by
  obtain ⟨ex, np, c, s, m, ns, hp, r⟩ := W
  exact ⟨ex.mut hg, np, c, s, m, ns, by rw [upd_ne hn.symm]; exact hp, r⟩
theorem Wd.mono {K : PySem.W.Frag} {G H : Hp} {p : Addr} {B B' : Nat} (W : Wd K G H p B) (h : B ≤ B') : Wd K G H p B' := by
  obtain ⟨ex, np, c, s, m, ns, hp, hc, hl, h0, h1, h2⟩ := W
  exact ⟨ex, np, c, s, m, ns, hp, hc, hl, h0, by omega, h2⟩
section
variable {G0 H0 G H : Hp} {p t : Addr} {o : HO}
theorem Tr.new (T : Tr G0 H0 G H p) (ht : H t = none) : Tr G0 H0 G (upd H t o) p :=
  ⟨T.g, T.nw, fun b u e n => by rw [upd_ne (ne_of_none (T.k b u e n) ht)]; exact T.k b u e n, fun b h => st_upd b (T.st b h)⟩
theorem Tr.old (T : Tr G0 H0 G H p) (ht : H t = none) : H0 t = none := by
  cases q : H0 t with
  | none => rfl
  | some u => exact absurd ht (T.st t (by rw [q]; exact fun z => nomatch z))
theorem Tr.mut (T : Tr G0 H0 G H p) (ht : H0 t = none) : Tr G0 H0 G (upd H t o) p :=
  ⟨T.g, T.nw, fun b u e n => by rw [upd_ne (ne_of_none e ht)]; exact T.k b u e n, fun b h => st_upd b (T.st b h)⟩
theorem Tr.freeze (T : Tr G0 H0 G H p) (ht : H0 t = none) (hg : G t = none) : Tr G0 H0 (upd G t o) H p :=
  ⟨T.g.trans (Ex.new hg), fun a h1 h2 => by
    rw [upd_ne (fun e => h1 (by rw [e]; exact ht))]; exact T.nw a h1 h2, T.k, T.st⟩
theorem Tr.grow (T : Tr G0 H0 G H p) (ex : Ex G H) (ht : H t = none) : Tr G0 H0 (upd G t o) (upd H t o) p :=
  (T.new ht).freeze (T.old ht) (fresh_back ex ht)
end
/-- a list made on the way, that the caller may change -/
def RetN (K : PySem.W.Frag) (G H : Hp) (p : Addr) (B k : Nat) (P : Hp → List V → Prop) (Q : VK) : Prop :=
  ∀ G' H' l xs, Tr G H G' H' p → Wd K G' H' p (B + k) → H l = none → G' l = none → H' l = some (.lst xs) → P G' xs → Q (.ref l) H'
/-! ### texts -/
theorem tl_app (a b : Str) : (a ++ b).cps.toList = a.cps.toList ++ b.cps.toList := by
  show (a.cps ++ b.cps).toList = _
  rw [Array.toList_append]
theorem len_tl (a : Str) : a.length = a.cps.toList.length := by
  show a.cps.size = _
  simp
theorem str_ext {a b : Str} (h : a.cps.toList = b.cps.toList) : a = b := by
  cases a; cases b
  simp only at h
  rw [Array.toList_inj.mp h]
theorem tl_join : ∀ ys : List Str, (Txt.join "" ys).cps.toList = (ys.map (·.cps.toList)).flatten := by
  intro ys
  rw [show Txt.join "" ys = Str.join "" ys from PySem.StrLaws.glued_eq_join _ _]
  induction ys with
  | nil => rfl
  | cons x r ih =>
    cases r with
    | nil => simp [Str.join]
    | cons y r =>
      show (x ++ ("" : Str) ++ Str.join "" (y :: r)).cps.toList = _
      rw [tl_app, tl_app, ih, show (("" : Str)).cps.toList = [] by decide +kernel, List.append_nil]
      simp only [List.map_cons, List.flatten_cons]
def Az (c : Nat) : Prop := 97 ≤ c ∧ c ≤ 122
instance (c : Nat) : Decidable (Az c) := inferInstanceAs (Decidable (97 ≤ c ∧ c ≤ 122))
def NameOk (z : Str) : Prop := 1 ≤ z.length ∧ z.length ≤ 8 ∧ ∀ c ∈ z.cps.toList, Az c
def abc : Str := "abcdefghijklmnopqrstuvwxyz"
theorem abc_tl : abc.cps.toList = List.range' 97 26 := by decide +kernel
theorem abc_len : abc.length = 26 := by decide +kernel
theorem abc_mem {c : Nat} : c ∈ abc.cps.toList ↔ Az c := by
  rw [abc_tl, List.mem_range'_1]
  unfold Az
  omega
theorem abc_at {j : Nat} (h : j < 26) : abc.cps.toList[j]? = some (97 + j) := by
  rw [abc_tl, List.getElem?_range' (by omega)]
  simp
/-- cuts -/
theorem cut_to (z : Str) (k : Nat) : (cutS z none (some (k : Int))).cps.toList = z.cps.toList.take k := by
  unfold cutS
  rw [HT.sIx_none, HT.sIx_nat, len_tl]
  show ((z.cps.toList.drop 0).take (min k z.cps.toList.length - 0)) = _
  rw [List.drop_zero, Nat.sub_zero]
  by_cases h : k ≤ z.cps.toList.length
  · rw [Nat.min_eq_left h]
  · rw [Nat.min_eq_right (by omega), List.take_length, List.take_of_length_le (by omega)]
theorem cut_from (z : Str) (k : Nat) : (cutS z (some (k : Int)) none).cps.toList = z.cps.toList.drop k := by
  unfold cutS
  rw [HT.sIx_none, HT.sIx_nat, len_tl]
  show ((z.cps.toList.drop (min k z.cps.toList.length)).take (z.cps.toList.length - min k z.cps.toList.length)) = _
  by_cases h : k ≤ z.cps.toList.length
  · rw [Nat.min_eq_left h, List.take_of_length_le (by rw [List.length_drop]; omega)]
  · rw [Nat.min_eq_right (by omega), List.drop_of_length_le (Nat.le_refl _), List.drop_of_length_le (by omega), List.take_nil]
/-! ### data -/
inductive D where
  | non | bl (b : Bool) | int (i : Int) | str (x : Str) | tup (ds : List D) | lst (ds : List D) | dct (kvs : List (Key × D))
mutual
inductive Den (K : PySem.W.Frag) (G : Hp) : V → D → Prop
  | non : Den K G .non .non
  | bl (b : Bool) : Den K G (.bl b) (.bl b)
  | int (i : Int) : Den K G (.int i) (.int i)
  | str (x : Str) : Den K G (.str x) (.str x)
  | tup {a : Addr} {vs : List V} {ds : List D} : SqT K G a vs → DenL K G vs ds → Den K G (.ref a) (.tup ds)
  | lst {a : Addr} {vs : List V} {ds : List D} : SqL K G a vs → DenL K G vs ds → Den K G (.ref a) (.lst ds)
  | dct {a : Addr} {vs : List (Key × V)} {ds : List (Key × D)} : G a = some (.dK vs) → DenK K G vs ds → Den K G (.ref a) (.dct ds)
inductive DenL (K : PySem.W.Frag) (G : Hp) : List V → List D → Prop
  | nil : DenL K G [] []
  | cons {v : V} {vs : List V} {d : D} {ds : List D} : Den K G v d → DenL K G vs ds → DenL K G (v :: vs) (d :: ds)
inductive DenK (K : PySem.W.Frag) (G : Hp) : List (Key × V) → List (Key × D) → Prop
  | nil : DenK K G [] []
  | cons {k : Key} {v : V} {vs : List (Key × V)} {d : D} {ds : List (Key × D)} : Den K G v d → DenK K G vs ds → DenK K G ((k, v) :: vs) ((k, d) :: ds)
end
section
variable {K : PySem.W.Frag} {G G' : Hp}
mutual
theorem Den.mono (e : Ex G G') : ∀ {v : V} {d : D}, Den K G v d → Den K G' v d
  | _, _, .non => .non
  | _, _, .bl b => .bl b
  | _, _, .int i => .int i
  | _, _, .str x => .str x
  | _, _, .tup h l => .tup (ex_t e h) (DenL.mono e l)
  | _, _, .lst h l => .lst (ex_l e h) (DenL.mono e l)
  | _, _, .dct h l => .dct (e _ _ h) (DenK.mono e l)
theorem DenL.mono (e : Ex G G') : ∀ {vs : List V} {ds : List D}, DenL K G vs ds → DenL K G' vs ds
  | _, _, .nil => .nil
  | _, _, .cons h l => .cons (Den.mono e h) (DenL.mono e l)
theorem DenK.mono (e : Ex G G') : ∀ {vs : List (Key × V)} {ds : List (Key × D)}, DenK K G vs ds → DenK K G' vs ds
  | _, _, .nil => .nil
  | _, _, .cons h l => .cons (Den.mono e h) (DenK.mono e l)
end
theorem DenL.length : ∀ {vs : List V} {ds : List D}, DenL K G vs ds → vs.length = ds.length
  | _, _, .nil => rfl
  | _, _, .cons _ l => by rw [List.length_cons, List.length_cons, DenL.length l]
theorem DenL.append : ∀ {vs ws : List V} {ds es : List D}, DenL K G vs ds → DenL K G ws es → DenL K G (vs ++ ws) (ds ++ es)
  | _, _, _, _, .nil, h => h
  | _, _, _, _, .cons a l, h => .cons a (DenL.append l h)
theorem DenL.mem : ∀ {vs : List V} {ds : List D} {v : V}, DenL K G vs ds → v ∈ vs → ∃ d ∈ ds, Den K G v d
  | _, _, _, .nil, h => by cases h
  | _, _, _, .cons a l, h => by
    rcases List.mem_cons.mp h with rfl | h
    · exact ⟨_, List.mem_cons_self, a⟩
    · obtain ⟨d, h1, h2⟩ := DenL.mem l h
      exact ⟨d, List.mem_cons_of_mem _ h1, h2⟩
theorem DenL.strs : ∀ zs : List Str, DenL K G (zs.map V.str) (zs.map D.str)
  | [] => .nil
  | z :: r => .cons (.str z) (DenL.strs r)
end
theorem in_set {te : TE} {i : Nat} {u : TS} {D : Ends} {σ : L2.St} {H : Hp} (h : te σ H (fun x H1 => u D (σ.set i (some x)) H1)) : tSeq (tAsg te (gName i)) u D σ H := h
theorem in_set1 {te : TE} {i : Nat} {D : Ends} {σ : L2.St} {H : Hp} (h : te σ H (fun x H1 => D.nx (σ.set i (some x)) H1)) : tAsg te (gName i) D σ H := h
theorem in_ret {te : TE} {D : Ends} {σ : L2.St} {H : Hp} (h : te σ H D.rt) : tRet te D σ H := h
/-! ### expressions that give data, whatever else stands -/
def EvD (K : PySem.W.Frag) (G0 : Hp) (te : TE) (σ : L2.St) (p : Addr) (d : D) : Prop :=
  ∀ G H B, Ex G0 G → Wd K G H p B → ∀ Q : VK, (∀ G' H' v, Tr G H G' H' p → Wd K G' H' p B → Den K G' v d → Q v H') → te σ H Q
def EvDA (K : PySem.W.Frag) (G0 : Hp) (ta : TA) (σ : L2.St) (p : Addr) (ds : List D) : Prop :=
  ∀ G H B, Ex G0 G → Wd K G H p B → ∀ Q : List V → Hp → Prop, (∀ G' H' vs, Tr G H G' H' p → Wd K G' H' p B → DenL K G' vs ds → Q vs H') → ta σ H Q
section
variable {K : PySem.W.Frag} {G0 : Hp} {σ : L2.St} {p : Addr} {te tb : TE} {ta : TA} {d : D} {ds : List D}
theorem evd_var {i : Nat} {v : V} (h : σ[i]? = some (some v)) (hd : Den K G0 v d) : EvD K G0 (tVar i) σ p d := fun G H B e W Q q => ⟨v, h, q G H v (Tr.refl _ _ _) W (hd.mono e)⟩
theorem evd_non : EvD K G0 (tC .non) σ p .non := fun G H B _ W Q q => q G H _ (Tr.refl _ _ _) W .non
theorem evd_bl {b : Bool} : EvD K G0 (tC (.bl b)) σ p (.bl b) := fun G H B _ W Q q => q G H _ (Tr.refl _ _ _) W (.bl b)
theorem evd_int {i : Int} : EvD K G0 (tC (.int i)) σ p (.int i) := fun G H B _ W Q q => q G H _ (Tr.refl _ _ _) W (.int i)
theorem evd_str {x : Str} : EvD K G0 (tC (.str x)) σ p (.str x) := fun G H B _ W Q q => q G H _ (Tr.refl _ _ _) W (.str x)
theorem evda_nil : EvDA K G0 tNil σ p [] := fun G H B _ W Q q => q G H _ (Tr.refl _ _ _) W .nil
theorem evda_cons (h : EvD K G0 te σ p d) (hr : EvDA K G0 ta σ p ds) : EvDA K G0 (tCons te ta) σ p (d :: ds) := fun G H B e W Q q =>
  h G H B e W _ fun G1 H1 v T1 W1 d1 => hr G1 H1 B (e.trans T1.g) W1 _ fun G2 H2 vs T2 W2 d2 => q G2 H2 _ (T1.trans T2) W2 (.cons (d1.mono T2.g) d2)
theorem evd_tup (h : EvDA K G0 ta σ p ds) (hl : ds.length ≤ 100000) : EvD K G0 (tTup ta) σ p (.tup ds) := fun G H B e W Q q =>
  h G H B e W _ fun G1 H1 vs T1 W1 d1 => ⟨sz_of (by rw [d1.length]; exact hl), fun a ha =>
    q (upd G1 a (.tup vs)) _ _ (T1.grow W1.ex ha) (W1.grow ha) (.tup (.inl (.inl upd_same)) (d1.mono (Ex.new (fresh_back W1.ex ha))))⟩
theorem evd_lst (h : EvDA K G0 ta σ p ds) (hl : ds.length ≤ 100000) : EvD K G0 (tLst ta) σ p (.lst ds) := fun G H B e W Q q =>
  h G H B e W _ fun G1 H1 vs T1 W1 d1 => ⟨sz_of (by rw [d1.length]; exact hl), fun a ha =>
    q (upd G1 a (.lst vs)) _ _ (T1.grow W1.ex ha) (W1.grow ha) (.lst (.inl (.inl upd_same)) (d1.mono (Ex.new (fresh_back W1.ex ha))))⟩
theorem evd_dnew : EvD K G0 tDNewK σ p (.dct []) := fun G H B _ W Q q => fun a ha => q (upd G a (.dK [])) _ _ ((Tr.refl _ _ _).grow W.ex ha) (W.grow ha) (.dct upd_same .nil)
/-- {'x': 1} -/
theorem evd_disp1 {x : Str} {i : Int} : EvD K G0 (tDisp [(tC (.str x), tC (.int i))]) σ p (.dct [(.inr x, .int i)]) := fun G H B _ W Q q => fun a ha => by
  refine ⟨upd_same, [(.inr x, .int i)], rfl, by show 1 ≤ 15; decide, ?_⟩
  have e : mergeK [] [((.inr x, .int i) : Key × V)] = [(.inr x, .int i)] := rfl
  rw [e, upd_upd]
  exact q (upd G a (.dK [(.inr x, .int i)])) _ _ ((Tr.refl _ _ _).grow W.ex ha) (W.grow ha) (.dct upd_same (.cons (.int i) .nil))
theorem evd_pow {i j : Int} (hc : CPow i j) : EvD K G0 (tOp (rI CPow fun i j => .int (i ^ j.toNat)) (tC (.int i)) (tC (.int j))) σ p (.int (i ^ j.toNat)) := fun G H B _ W Q q => ⟨i, j, rfl, rfl, hc, q G H _ (Tr.refl _ _ _) W (.int _)⟩
theorem evd_neg {i : Int} : EvD K G0 (tUn (rU fun i => .int (-i)) (tC (.int i))) σ p (.int (-i)) := fun G H B _ W Q q => ⟨i, rfl, q G H _ (Tr.refl _ _ _) W (.int _)⟩
theorem evn_lst (h : EvDA K G0 ta σ p ds) (hl : ds.length ≤ 100000) : ∀ G H B, Ex G0 G → Wd K G H p B → ∀ Q : VK, (∀ G' H' a vs, Tr G H G' H' p → Wd K G' H' p B → G' a = some (.lst vs) → DenL K G' vs ds → Q (.ref a) H') → tLst ta σ H Q := fun G H B e W Q q =>
  h G H B e W _ fun G1 H1 vs T1 W1 d1 => ⟨sz_of (by rw [d1.length]; exact hl), fun a ha =>
    q (upd G1 a (.lst vs)) _ _ vs (T1.grow W1.ex ha) (W1.grow ha) upd_same (d1.mono (Ex.new (fresh_back W1.ex ha)))⟩
end
/-! ### kinds of values -/
def AnyV (K : PySem.W.Frag) (H : Hp) (v : V) : Prop := (∃ z : Str, v = .str z ∧ z.length ≤ 1000 ∧ PyData.strOk z = true) ∨ ((∀ z, v ≠ .str z) ∧ ∃ t : String, TyX K H v (.type t) ∧ kitB t "str" = some false)
section
variable {K : PySem.W.Frag} {G H : Hp}
theorem tyx_l {a : Addr} {vs : List V} (h : SqL K H a vs) : TyX K H (.ref a) (.type "list") := by
  rcases h with (h | ⟨o, h⟩) | ⟨o, its, n, h, c, _⟩
  · exact .base (.lst h)
  · exact .base (.frz h)
  · exact .kList h c
theorem tyx_t {a : Addr} {vs : List V} (h : SqT K H a vs) : TyX K H (.ref a) (.type "tuple") := by
  rcases h with (h | ⟨o, h⟩) | ⟨o, its, n, h, c, _⟩
  · exact .base (.tup h)
  · exact .fTuple h
  · exact .kTuple h c
def D.short : D → Bool
  | .str z => decide (z.length ≤ 1000) && PyData.strOk z
  | _ => true
theorem Den.any {v : V} {d : D} (h : Den K G v d) (hs : d.short = true) (e : Ex G H) : AnyV K H v := by
  cases h with
  | non => exact .inr ⟨fun _ q => (by cases q), "NoneType", .base .non, by decide +kernel⟩
  | bl b => exact .inr ⟨fun _ q => (by cases q), "bool", .base (.bl b), by decide +kernel⟩
  | int i => exact .inr ⟨fun _ q => (by cases q), "int", .base (.int i), by decide +kernel⟩
  | str x => 
    have h2 : (decide (x.length ≤ 1000) && PyData.strOk x) = true := hs
    rw [Bool.and_eq_true] at h2
    exact .inl ⟨x, rfl, of_decide_eq_true h2.1, h2.2⟩
  | tup h l => exact .inr ⟨fun _ q => (by cases q), "tuple", tyx_t (ex_t e h), by decide +kernel⟩
  | lst h l => exact .inr ⟨fun _ q => (by cases q), "list", tyx_l (ex_l e h), by decide +kernel⟩
  | dct h l => exact .inr ⟨fun _ q => (by cases q), "dict", .base (.dK (e _ _ h)), by decide +kernel⟩
theorem AnyV.mono {v : V} (e : Ex G H) (h : AnyV K G v) (hk : ∀ t, TyX K G v (.type t) → TyX K H v (.type t)) : AnyV K H v := by
  rcases h with h | ⟨h1, t, h2, h3⟩
  · exact .inl h
  · exact .inr ⟨h1, t, hk t h2, h3⟩
end
/-! ### names, as both sides say them -/
def isN : V → Bool
  | .str z => decide (1 ≤ z.length) && (decide (z.length ≤ 8) && z.cps.toList.all fun c => decide (c ∈ abc.cps.toList))
  | _ => false
theorem isN_not {v : V} (h : ∀ z, v ≠ .str z) : isN v = false := by
  cases v with
  | str z => exact absurd rfl (h z)
  | _ => rfl
theorem isN_ok {z : Str} : isN (.str z) = true ↔ NameOk z := by
  show (decide (1 ≤ z.length) && (decide (z.length ≤ 8) && z.cps.toList.all fun c => decide (c ∈ abc.cps.toList))) = true ↔ _
  rw [Bool.and_eq_true, Bool.and_eq_true, decide_eq_true_eq, decide_eq_true_eq, List.all_eq_true]
  constructor
  · rintro ⟨a, b, c⟩
    exact ⟨a, b, fun x hx => abc_mem.mp (of_decide_eq_true (c x hx))⟩
  · rintro ⟨a, b, c⟩
    exact ⟨a, b, fun x hx => decide_eq_true (abc_mem.mpr (c x hx))⟩
/-- lists of texts as the library's data -/
theorem dp_strs {K : PySem.W.Frag} {H : Hp} : ∀ ns : List Str, DpAll K H (ns.map V.str) (ns.map PyData.str)
  | [] => .nil
  | n :: r => .cons (.str n) (dp_strs r)
theorem lay_strs : ∀ ns : List Str, (∀ n ∈ ns, PyData.strOk n = true) → PyData.canLayAll0 (ns.map PyData.str) = true
  | [], _ => by simp [PyData.canLayAll0]
  | n :: r, h => by
    have h1 := h n List.mem_cons_self
    have h2 := lay_strs r fun x hx => h x (List.mem_cons_of_mem _ hx)
    simp [PyData.canLayAll0, PyData.canLay0, h1, h2]
theorem depth_strs : ∀ ns : List Str, PyData.depthAll (ns.map PyData.str) ≤ 0
  | [] => by simp [PyData.depthAll]
  | n :: r => by
    have := depth_strs r
    simp only [List.map_cons, PyData.depthAll, PyData.depth]
    omega
theorem shaped_strs (ns : List Str) (h : ∀ n ∈ ns, PyData.strOk n = true) : SeqAt.shaped (.list (ns.map PyData.str)) = true := by
  have h1 := depth_strs ns
  have h2 : PyData.depth (.list (ns.map PyData.str)) ≤ 64 := by
    simp only [PyData.depth]
    omega
  show (PyData.canLay0 (.list (ns.map PyData.str)) && decide (PyData.depth (.list (ns.map PyData.str)) ≤ 64)) = true
  rw [Bool.and_eq_true]
  exact ⟨by simp only [PyData.canLay0]; exact lay_strs ns h, decide_eq_true h2⟩
/-! ### good texts -/
def Good (z : Str) : Prop := z.length ≤ 1000 ∧ PyData.strOk z = true
theorem strOk_iff {z : Str} : PyData.strOk z = true ↔ ∀ c ∈ z.cps.toList, c < 1114112 := by
  unfold PyData.strOk
  rw [← Array.all_toList, List.all_eq_true]
  exact ⟨fun h c hc => of_decide_eq_true (h c hc), fun h c hc => decide_eq_true (h c hc)⟩
theorem NameOk.good {z : Str} (h : NameOk z) : Good z := ⟨by have := h.2.1; omega, strOk_iff.mpr fun c hc => by have := (h.2.2 c hc).2; omega⟩
theorem Good.app {a b : Str} (ha : Good a) (hb : Good b) (hl : a.length + b.length ≤ 1000) : Good (a ++ b) :=
  ⟨by rw [len_tl, tl_app, List.length_append, ← len_tl, ← len_tl]; exact hl, strOk_iff.mpr fun c hc => by
    rw [tl_app] at hc
    rcases List.mem_append.mp hc with h | h
    · exact strOk_iff.mp ha.2 c h
    · exact strOk_iff.mp hb.2 c h⟩
theorem Good.cut {a : Str} (ha : Good a) (lo hi : Option Int) : Good (cutS a lo hi) := by
  have hsub : ∀ c ∈ (cutS a lo hi).cps.toList, c ∈ a.cps.toList := fun c hc => List.mem_of_mem_drop (List.mem_of_mem_take hc)
  refine ⟨?_, strOk_iff.mpr fun c hc => strOk_iff.mp ha.2 c (hsub c hc)⟩
  have h1 := ha.1
  rw [len_tl] at h1 ⊢
  show ((a.cps.toList.drop _).take _).length ≤ 1000
  rw [List.length_take, List.length_drop]
  omega
theorem up1_small : ∀ c, c < 128 → up1 c < 128 := by decide +kernel
theorem NameOk.upper {z : Str} (h : NameOk z) : Good (Txt.upper z) := by
  have ha : ∀ c ∈ z.cps.toList, c < 128 := fun c hc => by have := (h.2.2 c hc).2; omega
  rw [upper_ascii ha]
  refine ⟨?_, strOk_iff.mpr fun c hc => ?_⟩
  · show (z.cps.map up1).size ≤ 1000
    rw [Array.size_map]
    have := h.2.1
    show z.length ≤ 1000
    omega
  · have hc' : c ∈ (z.cps.map up1).toList := hc
    rw [Array.toList_map] at hc'
    obtain ⟨d, hd, rfl⟩ := List.mem_map.mp hc'
    have := up1_small d (ha d hd)
    omega
theorem Wd.ext {K : PySem.W.Frag} {G H H' : Hp} {p : Addr} {B : Nat} (W : Wd K G H p B) (e : Ex H H') : Wd K G H' p B := by
  obtain ⟨ex, np, c, s, m, ns, hp, r⟩ := W
  exact ⟨ex.trans e, np, c, s, m, ns, e _ _ hp, r⟩
end LT

/-! Promises of defs that are only called where no repr is under way: A.guards is told. -/
namespace LT
open PySem PySem.Spec PyProof.Rows L2 Evl
/-- as FnOk (no exception leaves), where no guard stands -/
structure FnG (P : Program) (w : World) (K : PySem.W.Frag) (mg : Str → Option Value) (base : Heap) (k : Nat) (f : Addr) (fd : FuncData) (ps : List Str) (sp : Sp) : Prop where
  ar : ∀ vs H Q E, sp vs H Q E → vs.length = ps.length
  go : ∀ (A : Around) (fr : List Env) (s : Shared) (H : Hp) (ag : Args) (us : List Value) (vs : List V) (Q : VK) (E : XK), A.guards = some [] → Room k A → Env0 P w K mg base A fr s H →
    BindsTo s fd ag (ps.zip us) → Vals vs us → sp vs H Q E → codeAny (model P w) A (.call (.ref f) ag) (CR CX0 fr P w H s Q E) s
section
variable {P : Program} {w : World} {K : PySem.W.Frag} {mg : Str → Option Value} {base : Heap}
theorem FnG.of {k : Nat} {f : Addr} {fd : FuncData} {ps : List Str} {sp : Sp} (F : FnOk P w K mg base CX0 k f fd ps sp) : FnG P w K mg base k f fd ps sp :=
  ⟨F.len, fun A fr s H ag us vs Q E _ hr he hb hv hs => F.run A fr s H ag us vs Q E hr he hb hv hs⟩
theorem FnG.up {j k : Nat} {f : Addr} {fd : FuncData} {ps : List Str} {sp : Sp} (F : FnG P w K mg base j f fd ps sp) (h : j ≤ k) : FnG P w K mg base k f fd ps sp :=
  ⟨F.ar, fun A fr s H ag us vs Q E hg hr => F.go A fr s H ag us vs Q E hg (hr.mono h)⟩
/-- a def's body, where no guard stands: one fixes A first, then it is a def as any other -/
theorem okG {x qual : Str} {st : Stmt} {f : Addr} {fd : FuncData} {N ps : List Str} {k : Nat} {sp : Sp} (F : Fun K x qual st f fd) (S : FnScope N ps (defScope st)) (len : ∀ vs H Q E, sp vs H Q E → vs.length = ps.length)
    (body : ∀ (cdv : Value) (A : Around) (fr : List Env) (s : Shared) (H : Hp) (vs : List V) (Q : VK) (E : XK), A.guards = some [] → Room k (A.deeper (envOfC qual (defScope st) s.heap.objs.size f cdv)) → sp vs H Q E →
      ∃ t, PSs (cxOf CX0 P w K mg base N qual (defScope st) f cdv A fr s H E).nox (defBody st) t ∧ t { nx := fun _ H' => Q .non H', rt := Q } (start N vs) H) : FnG P w K mg base (k + 1) f fd ps sp := by
  obtain ⟨oc, od, kV, doc, pm, an, cdv, ct, osl, rfl, lk, hc⟩ := F.ex
  refine ⟨len, fun A fr s H ag us vs Q E hg hr e0 hb r hsp => ?_⟩
  have ln := len _ _ _ _ hsp
  have stand : ∀ b o, base.get? b = some o → s.heap.get? b = some o := fun b o e => (e0.bs b o e).1
  have KX := e0.mod.kin.keeps stand
  have par : ∀ y ∈ ps.zip us, (defScope st).names.lookup y.1 = some .local ∨ ((defScope st).names.lookup y.1 = some .cell ∧ ((cellsFrom (s.heap.objs.size + 1) (defScope st).names []).lookup y.1).isSome = true) := by
    rintro ⟨n, v⟩ hy
    have hn := (List.of_mem_zip hy).1
    cases S.par n hn with
    | inl q => exact Or.inl q
    | inr q => exact Or.inr ⟨q, PySem.W.cellsFrom_some _ _ _ (Or.inl q)⟩
  apply codeAny_call_function hr.depth (KX _ _ lk) rfl S.co S.gen rfl (PySem.W.codeRec_of KX hc) (hb _ _ _ _ ?_)
  apply wpAny_newFunctionEnv_cells S.kind par
  intro env he s1 x
  cases he
  refine ⟨(e0.mod.nolimit.keeps stand).keeps x.toInCall.keep, codeAny_func ?_⟩
  obtain ⟨t, ht, hq⟩ := body cdv A fr s H vs Q E hg (hr.deeper _) hsp
  have I0 := inv_start (CX := CX0) (E := E) S hr.hd e0 ln r x
  have back : ∀ {σ' : L2.St} {H' : Hp} {v : V} {u : Value} {s' : Shared}, Inv (cxOf CX0 P w K mg base N qual (defScope st) f cdv A fr s H E) [] σ' H' s' → RelV v u → Q v H' → CE fr P w H s Q u s' := by
    intro σ' H' v u s' J rv q
    exact ⟨v, H', J.os, J.bare, J.base, J.hok, rv, q⟩
  refine wpAny_mono (ht.nox.run [] s1 (start N vs) H _ I0 hq) (fun fl s' hs => ?_) (fun _ _ hs => hs)
  match fl, hs with
  | .ret u, ⟨v, σ', H', J, rv, q⟩ => exact back J rv q
  | .next, ⟨σ', H', J, q⟩ => exact back (v := V.non) (u := Value.none) J rfl q
  | .brk, ⟨_, _, _, q⟩ => exact q.elim
  | .cont, ⟨_, _, _, q⟩ => exact q.elim
end
section
variable {X : Cx} {k : Nat} {f : Addr} {fd : FuncData} {ps : List Str} {sp : Sp} {dvs : List V} {ds : List Value} {x : Str} {p pos : Pos} {e : Expr} {es : List Expr} {t : TA}
theorem runG {pins : List (Addr × Obj)} {σ : L2.St} {H : Hp} {s : Shared} {Q : VK} {us : List Value} {vs : List V} (F : FnG X.prog X.w X.K X.mg X.base k f fd ps sp) (hg : X.A.guards = some []) (hr : Room k X.A) (hb : L2.Binds X.K fd ps ds) (hd : Vals dvs ds)
    (I : Inv X pins σ H s) (r : Vals vs us) (h : sp (vs ++ dvs) H Q E0) : wpAny (model X.prog X.w) X.A (call (.ref f) us) (EP X pins σ Q) X.xe s := by
  have rr := r.append hd
  have ln : (us ++ ds).length = ps.length := by rw [← rr.length]; exact F.ar _ _ _ _ h
  apply wpAny_call
  refine codeAny_mono (F.go X.A X.stack s H ⟨us, []⟩ _ _ Q E0 hg hr I.env0 (hb s us I.kIn ln) rr h) fun res s' hq => ?_
  match res, hq with
  | .error e, hq => exact False.elim hq
  | .ok (.ret u), hq => exact I.after hq
  | .ok .next, hq => exact False.elim hq
  | .ok .brk, hq => exact False.elim hq
  | .ok .cont, hq => exact False.elim hq
theorem pe_callG (F : FnG X.prog X.w X.K X.mg X.base k f fd ps sp) (hgu : X.A.guards = some []) (hr : Room k X.A) (hg : Gl X x) (hm : X.mg x = some (.ref f)) (hk : PySem.W.keepIn X.K (.ref f) = true) (hb : L2.Binds X.K fd ps ds) (hd : Vals dvs ds)
    (ha : PA X (e :: es) t) (hdb : (x == ("__debug__" : Str)) = false := by decide) (he : starEach (e :: es) X.env = (false, eval e X.env) :: starEach es X.env := by rfl) (hpl : (backTo pos (starEach es X.env)).any (·.1) = false := by rfl) :
    PE X (.Call (.Name x p) (e :: es) [] pos) (tCall sp dvs E0 t) := ⟨fun pins s σ H Q I h => by
  apply wpAny_Call_Name_kw
  refine ld_glob I hg hm ?_ hdb
  exact PySem.W.callWith_K (h₀ := X.base) I.ok.mod.kin hk (thn (ha.run pos pins s σ H _ I h) fun us s1 hh =>
    let ⟨vs, H1, I1, r, q⟩ := hh
    ⟨I1.kIn, runG F hgu hr hb hd I1 r q⟩) he hpl⟩
end
/-! ### the law itself -/
section
variable {P : Program} {w : World} {K : PySem.W.Frag} {mg mb : Str → Option Value} {k : Nat} {fa a : Addr} {fd : FuncData} {x : Str} {sp : Sp} {s₁ : Shared} {vs : List Value} {ns : List Int}
/-- the run over any abstract heap that tracks the script at most -/
theorem lawG_at (H : Hp) (KX : K.In s₁.heap) (hns : s₁.heap.Ns mainGlobals mg) (hb : s₁.heap.Ns builtinsNs mb) (hbb : ∀ x : Str, x ≠ "__name__" → mb x = bootBuiltins x) (hlim : s₁.heap.NoLimit) (hg : s₁.gens = #[])
    (ha : s₁.heap.get? a = some { cls := .type "list", data := .seq vs.toArray }) (hr : Room k callerA) (F : ∀ base : Heap, K.In base → base.Ns mainGlobals mg → FnG P w K mg base k fa fd [x] sp)
    (hbind : ∀ (s : Shared) (u : Value), BindsTo s fd ⟨[u], []⟩ [(x, u)]) (hO : Only H) (hsp : sp [.ref a] H (fun v _ => v = .bl true) fun _ _ _ => False) (hok : HOk P w H s₁.heap) (hA : ∀ b, H b ≠ none → b = a) (hK : H a ≠ none → K.lookup a = none) :
    codeAny (model P w) callerA (.call (.ref fa) ⟨[.ref a], []⟩) (fun r s' => r = .ok (.ret (.bool true)) ∧ OldK s₁.heap s'.heap ∧ s'.os = s₁.os ∧ AllBare s'.gens) s₁ := by
  -- a dict is not the script, nor is what K knows
  have free : ∀ b o, s₁.heap.get? b = some o → (b = a → False) → H b = none := by
    intro b o _ nb
    match q : H b with
    | none => rfl
    | some u => exact (nb (hA b (by rw [q]; exact fun z => nomatch z))).elim
  have dictFree : ∀ b o es ep, s₁.heap.get? b = some o → o.data = Data.dict es ep → H b = none := by
    intro b o es ep e d
    refine free b o e fun q => ?_
    rw [q, ha] at e
    have d2 := d
    rw [← Option.some.inj e] at d2
    exact nomatch d2
  have nsB : ∀ b (m : Str → Option Value), s₁.heap.Ns b m → (hidT s₁.heap H).Ns b m := by
    intro b m hm
    obtain ⟨o, es, ep, e, d, r⟩ := hm
    exact ⟨o, es, ep, hidT_get e (dictFree b o es ep e d), d, r⟩
  have KB : K.In (hidT s₁.heap H) := by
    intro b o e
    refine hidT_get (KX b o e) ?_
    match q : H b with
    | none => rfl
    | some u =>
      have nb : H b ≠ none := by rw [q]; exact fun z => nomatch z
      have eb := hA b nb
      rw [eb] at nb e
      rw [hK nb] at e
      exact nomatch e
  obtain ⟨mc, l1, l2⟩ := hlim
  have E1 : Env0 P w K mg (hidT s₁.heap H) callerA [] s₁ H :=
    { frames := rfl, mod := ⟨KB, nsB _ _ hns, ⟨mb, nsB _ _ hb, hbb⟩, ⟨mc, nsB _ _ l1, l2⟩⟩, bs := fun b o e => of_hidT e, bsz := Nat.le_of_eq (hidT_size _ _), funs := trivial, frf := fun b hb => (nomatch hb), hok := hok, bare := .of_eq hg }
  refine codeAny_mono ((F _ KB (nsB _ _ hns)).go callerA [] s₁ H ⟨[.ref a], []⟩ [.ref a] [.ref a] _ _ rfl hr E1 (hbind s₁ (.ref a)) (.cons rfl .nil) hsp) fun r s' h => ?_
  match r, h with
  | .error e, h => exact h.elim
  | .ok .next, h => exact h.elim
  | .ok .brk, h => exact h.elim
  | .ok .cont, h => exact h.elim
  | .ok (.ret u), ⟨v, H', os, bare, un, hok', rv, q⟩ =>
    cases (show v = .bl true from q)
    cases (show u = Value.bool true from rv)
    refine ⟨rfl, OldK.of_keep fun b o e => ?_, os, bare⟩
    match q : H b with
    | none => exact un.keep b o e q (fun z => nomatch z) (fun z => nomatch z)
    | some y =>
      cases hO b with
      | inl z => rw [q] at z; exact nomatch z
      | inr z =>
        obtain ⟨ob, xs, z⟩ := z
        have old := (hok b _ z).1
        have new := (hok' b _ (un.frzs b ob _ z)).1
        rw [e] at old
        rw [Option.some.inj old]
        exact new
theorem lawG (KX : K.In s₁.heap) (hns : s₁.heap.Ns mainGlobals mg) (hb : s₁.heap.Ns builtinsNs mb) (hbb : ∀ x : Str, x ≠ "__name__" → mb x = bootBuiltins x) (hlim : s₁.heap.NoLimit) (hg : s₁.gens = #[])
    (ha : s₁.heap.get? a = some { cls := .type "list", data := .seq vs.toArray }) (hi : IntsAre vs ns) (hl : ns.length ≤ sizeLine) (hr : Room k callerA) (F : ∀ base : Heap, K.In base → base.Ns mainGlobals mg → FnG P w K mg base k fa fd [x] sp)
    (hbind : ∀ (s : Shared) (u : Value), BindsTo s fd ⟨[u], []⟩ [(x, u)]) (hsp : ∀ H : Hp, Only H → SqL K H a (ns.map V.int) → sp [.ref a] H (fun v _ => v = .bl true) fun _ _ _ => False) :
    codeAny (model P w) callerA (.call (.ref fa) ⟨[.ref a], []⟩) (fun r s' => r = .ok (.ret (.bool true)) ∧ OldK s₁.heap s'.heap ∧ s'.os = s₁.os ∧ AllBare s'.gens) s₁ := by
  have ra := vals_ints hi
  have ln := hi.length
  match hk : K.lookup a with
  | some o =>
    have e := KX a o hk
    rw [ha] at e
    have eo := Option.some.inj e
    refine lawG_at (fun _ => none) KX hns hb hbb hlim hg ha hr F hbind (fun _ => .inl rfl) (hsp _ (fun _ => .inl rfl) (Or.inr ⟨o, vs.toArray, _, hk, by rw [← eo], by rw [← eo], by rw [← eo], by rw [List.size_toArray, ln]; exact hl, by simpa using ra⟩)) (fun b u z => nomatch z) (fun b z => (z rfl).elim) (fun z => (z rfl).elim)
  | none =>
    have at1 : ∀ b, (upd (fun _ => none) a (.frz { cls := .type "list", data := .seq vs.toArray } (.lst (ns.map V.int))) : Hp) b = none ∨ b = a := fun b => by
      by_cases z : b = a
      · exact .inr z
      · exact .inl (upd_ne z)
    have only : Only (upd (fun _ => none) a (.frz { cls := .type "list", data := .seq vs.toArray } (.lst (ns.map V.int)))) := fun b => (at1 b).elim .inl fun z => .inr ⟨{ cls := .type "list", data := .seq vs.toArray }, ns.map V.int, by subst z; exact upd_same⟩
    refine lawG_at (upd (fun _ => none) a (.frz { cls := .type "list", data := .seq vs.toArray } (.lst (ns.map V.int)))) KX hns hb hbb hlim hg ha hr F hbind only (hsp _ only (Or.inl (Or.inr ⟨_, upd_same⟩))) (fun b u z => ?_) (fun b z => (at1 b).resolve_left z) (fun _ => hk)
    have hb' : b = a := (at1 b).resolve_left (by rw [z]; exact fun q => nomatch q)
    subst hb'
    rw [upd_same] at z
    rw [← Option.some.inj z]
    exact ⟨ha, by rw [List.length_map]; exact hl, vs, _, ra, ha⟩
end
theorem walkG {l : PySem.W.OpenLaw} {n k : Nat} {q : Program} {loose : List Str} {XP : (Str → Option Value) → Heap → Prop} {YP : World → Heap → Prop} {d : DefRec} {K : Params → PySem.W.Frag} {sp : World → Sp} {x : Str}
    (hn : l.most = some n) (hn2 : n ≤ sizeLine) (hdf : d.params.defaults = []) (hr : Room k callerA) (hY : ∀ (w : World) (h : Heap), YP w h → (K w.params).In h)
    (F : ∀ (w : World) (mg : Str → Option Value) (fa : Addr) (h : Heap), (K w.params).In h → h.Ns mainGlobals mg → mg d.name = some (.ref fa) →
      ∃ fd : FuncData, (∀ (s : Shared) (u : Value), BindsTo s fd ⟨[u], []⟩ [(x, u)]) ∧ ∀ base : Heap, (K w.params).In base → base.Ns mainGlobals mg → FnG l.prog w (K w.params) mg base k fa fd [x] (sp w))
    (hsp : ∀ (w : World) (H : Hp) (a : Addr) (ns : List Int), ns.length ≤ n → SqL (K w.params) H a (ns.map V.int) → sp w [.ref a] H (fun v _ => v = .bl true) fun _ _ _ => False) :
    PySem.W.WalkO q loose XP YP l.row.toRowW d [] (fun f vs => PySem.call f vs) := by
  apply Att.attach_call hn hdf
  intro w s₀ s₁ mg mb fa o pm cd doc a vs ns G Y ho hd hcd hmg hobj hints hlen hg
  obtain ⟨fd, hb, hF⟩ := F w mg fa _ (hY w _ Y) G.T.g hmg
  exact lawG (hY w _ Y) G.T.g G.T.b G.T.builtins G.T.nolimit hg hobj hints (Nat.le_trans hlen hn2) hr hF hb fun H _ hS => hsp w H a ns hlen hS
/-! ### repr -/
section
variable {X : Cx}
theorem cr_reprB : CallR X (.builtin "repr") (fun xs H Q => ∃ b : Bool, xs = [.bl b] ∧ Q (.str (if b then "True" else "False")) H) := by
  intro pins s σ H xs us Q I r h
  obtain ⟨b, rfl, q⟩ := h
  cases r with
  | cons rv rn =>
    cases rn
    cases rv
    exact PySem.P.repr_of_bool ⟨.str _, H, I.tok _, ⟨_, rfl⟩, q⟩
/-- of a list or tuple of data without dicts -/
theorem cr_reprD (hg : X.A.guards = some []) (hu : X.A.units + 70 < cLine) : CallR X (.builtin "repr") (fun xs H Q => ∃ (a : Addr) (d : PyData), xs = [.ref a] ∧ Dp X.K H (.ref a) d ∧ d.showable = true ∧ d.hasDict = false ∧ d.depth ≤ 60 ∧ d.shown.length ≤ sizeLine ∧ Q (.str d.shown) H) := by
  intro pins s σ H xs us Q I r h
  obtain ⟨a, d, rfl, hd, hs, hn, hdp, hz, q⟩ := h
  cases r with
  | cons rv rn =>
    cases rn
    cases rv
    obtain ⟨as, rd⟩ := Dp.reads I d _ _ hd rfl
    exact PySem.repr_of_reads' rd hs (PySem.PyData.noDict_hsm hn) hg (by omega) (fun _ _ e => e) (fun h' u tk k => ⟨.str d.shown, H, I.un (t' := tk) (Un.kept k) (I.hok.kept k), ⟨u, rfl⟩, q⟩) hz
end
section
variable {X : Cx}
theorem op_mulS : OpR X (binaryOp .Mult) (fun x y H Q => ∃ (z : Str) (n : Int), x = .str z ∧ y = .int n ∧ PySem.MulOk z n ∧ Q (.str (Txt.mul z n)) H) := by
  intro pins s σ H x y v u Q I rx ry h
  obtain ⟨z, n, rfl, rfl, hok, q⟩ := h
  obtain ⟨t, rfl⟩ := rx
  obtain ⟨t2, rfl⟩ := ry
  exact PySem.SB.mul hok fun t' k => ⟨.str _, H, I.tok _, ⟨_, rfl⟩, q⟩
end
theorem room70 {A : Around} {k : Nat} (hr : Room k A) : A.units + 70 < cLine := by
  have := hr.un
  omega
end LT

namespace K01
open PySem PySem.Spec PyProof.Rows L2 Evl LT
def top (i : Nat) : Stmt := PySem.Challenge.pw_lastturn_k01_names_and_constants.main.body.getD i (.Pass ⟨0, 0, 0, 0⟩)
abbrev sLDraw : Stmt := top 13
abbrev NLDraw : List Str := ["_law_pen_here", "_law_many", "_law_digit", "_law_spot", "_law_cell", "_law_mix"]
theorem scLDraw : FnScope NLDraw ["_law_pen_here", "_law_many"] (defScope sLDraw) := ⟨rfl, rfl, rfl, by decide +kernel, rfl, by decide +kernel, by decide +kernel⟩
def spDraw (K : PySem.W.Frag) : Sp := fun vs H Q _ => ∃ (G : Hp) (p : Addr) (n : Int) (B : Nat), vs = [.ref p, .int n] ∧ 0 < n ∧ n < 1073741824 ∧ Wd K G H p B ∧ B < 1000000000 ∧
  RetW K G H p B 1 (fun _ v => ∃ i : Int, v = .int i ∧ 0 ≤ i ∧ i < n) Q
section
variable {P : Program} {w : World} {K : PySem.W.Frag} {mg : Str → Option Value} {base : Heap}
theorem ok_draw {f : Addr} {fd : FuncData} (F : Fun K "_law_draw" "_law_draw" sLDraw f fd) (ml : mg "len" = none) (ma : mg "abs" = none) : FnOk P w K mg base CX0 1 f fd ["_law_pen_here", "_law_many"] (spDraw K) := by
  refine F.ok scLDraw (fun vs H Q E h => ?_) (fun cdv A outer s H vs Q E hr h => ?_)
  · obtain ⟨G, p, n, B, rfl, _⟩ := h
    rfl
  · obtain ⟨G, p, n, B, rfl, hn, hn2, ⟨ex, np, c, sp, m, ns, hp, hc, hl, s0, sB, m0⟩, hB, k⟩ := h
    have hu := hu_of hr
    refine ⟨_, (pss_cons (ps_if (pt_cmpR op_gt (pe_dget hu (pv 0) pe_str (fun _ _ => rfl)) pe_int (nomark _)) (pss_cons (ps_set (i := 2) scLDraw.nd rfl (.inl rfl) (pe_op op_mod (pe_dget hu (pv 0) pe_str (fun _ _ => rfl)) (pv 1)))
      (pss_cons (ps_dput hu (pv 0) pe_str (pe_op op_fdiv (pe_dget hu (pv 0) pe_str (fun _ _ => rfl)) (pv 1)) rfl)
      (pss_one (ps_ret (pv 2))))) pss_nil)
      (pss_cons (ps_set (i := 3) scLDraw.nd rfl (.inl rfl) (pe_dget hu (pv 0) pe_str (fun _ _ => rfl)))
      (pss_cons (ps_dput hu (pv 0) pe_str (pe_op op_add (pv 3) pe_int) rfl)
      (Evl.pss_cut (ps_set (i := 4) scLDraw.nd rfl (.inl rfl) (pe_ifExp (pt_cmpR (op_neD hr.units) (pe_dget hu (pv 0) pe_str (fun _ _ => rfl)) (pe_lst pa_nil) (nomark _)) (pe_ix ix_list (pe_dget hu (pv 0) pe_str (fun _ _ => rfl)) (pe_op op_mod (pv 3) (pe_callB call_len_seq (by rfl) ml PySem.boot_len (pa_cons (pe_dget hu (pv 0) pe_str (fun _ _ => rfl)) pa_nil))) (fun _ _ => rfl)) (pe_op op_add (pe_op op_mul pe_int (pv 3)) pe_int)))
      (Evl.pss_cut (ps_if (PW.pt (pw_and (pt_cmpR op_lt (pv 3) (pe_callB call_len_seq (by rfl) ml PySem.boot_len (pa_cons (pe_dget hu (pv 0) pe_str (fun _ _ => rfl)) pa_nil)) (nomark _)) (pw_and1 (pt_cmpR op_ge (pe_callB call_abs (by rfl) ma (by decide +kernel) (pa_cons (pv 4) pa_nil)) (pe_op op_pow pe_int pe_int) (nomark _))))) (pss_cons (ps_dput hu (pv 0) pe_str (pe_op op_fdiv (pe_op op_sub (pe_callB call_abs (by rfl) ma (by decide +kernel) (pa_cons (pv 4) pa_nil)) (pe_op op_pow pe_int pe_int)) (pv 1)) rfl)
      (pss_one (ps_ret (pe_op op_mod (pe_op op_sub (pe_callB call_abs (by rfl) ma (by decide +kernel) (pa_cons (pv 4) pa_nil)) (pe_op op_pow pe_int pe_int)) (pv 1))))) pss_nil)
      (pss_cons (ps_set (i := 5) scLDraw.nd rfl (.inl rfl) (pe_op op_mod (pe_op op_add (pe_op op_add (pe_op op_add (pe_op op_mul (pe_op op_mod (pv 4) pe_int) pe_int) (pe_op op_mul (pe_op op_mul pe_int (pv 3)) (pv 3))) (pe_op op_mul pe_int (pv 3))) pe_int) pe_int))
      (pss_cons (ps_set (i := 5) scLDraw.nd rfl (.inl rfl) (pe_op op_mod (pe_op op_add (pe_op op_add (pe_op op_add (pe_op op_mul (pv 5) (pv 5)) (pe_op op_mul pe_int (pv 5))) (pe_op op_mul pe_int (pv 3))) pe_int) pe_int))
      (pss_one (ps_ret (pe_op op_mod (pe_op op_fdiv (pe_op op_mod (pe_op op_mul (pv 5) (pe_op op_add (pv 5) pe_int)) pe_int) pe_int) (pv 1))))))))))), ?_⟩
    -- what is left behind: the pen alone
    have done : ∀ (s' m' i : Int), 0 ≤ s' → s' ≤ (B : Int) + 1 → 0 ≤ m' → 0 ≤ i → i < n → ∀ H', (∀ b o, H b = some o → b ≠ p → H' b = some o) → (∀ b, H b ≠ none → H' b ≠ none) → H' p = some (.dK (penK c s' m')) → Q (.int i) H' := by
      intro s' m' i h1 h2 h3 h4 h5 H' hk hst hp'
      refine k G H' _ ⟨Ex.refl G, fun _ _ h => h, hk, hst⟩ ⟨fun b o e => hk b o (ex b o e) (fun z => by rw [z, np] at e; cases e), np, c, s', m', ns, hp', hc, hl, h1, by push_cast; omega, h3⟩ ⟨i, rfl, h4, h5⟩
    have stay : ∀ {H1 : Hp} (o : HO), (∀ b o, H b = some o → b ≠ p → H1 b = some o) → ∀ b o', H b = some o' → b ≠ p → (upd H1 p o) b = some o' := fun o h b o' e n => by rw [upd_ne n]; exact h b o' e n
    refine ⟨_, rfl, p, _, rfl, pen_more hp, _, _, rfl, rfl, _, rfl, ite2 (fun hm => ?_) (fun hm => ?_)⟩
    · have hm' : 0 < m := of_decide_eq_true hm
      refine ⟨_, rfl, p, _, rfl, pen_more hp, _, rfl, _, _, rfl, rfl, hn, ?_⟩
      refine ⟨_, rfl, p, _, rfl, pen_more hp, _, rfl, _, _, rfl, rfl, ⟨hn, hn2⟩, _, rfl, p, _, rfl, put_moreH hp, ?_⟩
      refine ⟨_, rfl, done sp (m / n) (m % n) s0 (by omega) (Int.ediv_nonneg m0 (by omega)) (mod_lo hn) (mod_hi hn) _ (fun b o e h => by rw [upd_ne h]; exact e) (fun b h => ?_) upd_same⟩
      by_cases z : b = p
      · rw [z, upd_same]; exact fun q => nomatch q
      · rw [upd_ne z]; exact h
    · have em : m = 0 := by have := of_decide_eq_false (by simpa using hm : decide (0 < m) = false); omega
      refine ⟨_, rfl, p, _, rfl, pen_spot hp, _, rfl, _, _, rfl, rfl, _, rfl, p, _, rfl, put_spotH hp, ?_⟩
      have hp1 : (upd H p (.dK (penK c (sp + 1) m))) p = some (.dK (penK c (sp + 1) m)) := upd_same
      have ex1 : Ex G (upd H p (.dK (penK c (sp + 1) m))) := Ex.mut ex np
      have k1 : ∀ b o, H b = some o → b ≠ p → (upd H p (.dK (penK c (sp + 1) m))) b = some o := fun b o e h => by rw [upd_ne h]; exact e
      have st1 : ∀ b, H b ≠ none → (upd H p (.dK (penK c (sp + 1) m))) b ≠ none := st_upd
      generalize hH1 : upd H p (.dK (penK c (sp + 1) m)) = H1 at hp1 ex1 k1 st1
      refine ⟨fun σ' H' => ∃ z : Int, σ' = [some (.ref p), some (.int n), none, some (.int sp), some (.int z), none] ∧ H' p = some (.dK (penK c (sp + 1) m)) ∧ SqL K H' c (ns.map V.int) ∧ (∀ b o, H b = some o → b ≠ p → H' b = some o) ∧ (∀ b, H b ≠ none → H' b ≠ none), ?_, ?_⟩
      refine ⟨_, rfl, p, _, rfl, pen_cells hp1, Nat.zero_le _, fun q hq => ?_⟩
      have npq : p ≠ q := ne_of_none hp1 hq
      have hp2 : (upd H1 q (.lst [])) p = some (.dK (penK c (sp + 1) m)) := by rw [upd_ne npq]; exact hp1
      have x2 : Ex H1 (upd H1 q (.lst [])) := Ex.new hq
      have hc2 : SqL K (upd H1 q (.lst [])) c (ns.map V.int) := ex_l (ex1.trans x2) hc
      have hn2' : Dp K (upd H1 q (.lst [])) (.ref q) (.list []) := .lst (.inl (.inl upd_same)) .nil
      have k2 : ∀ b o, H b = some o → b ≠ p → (upd H1 q (.lst [])) b = some o := fun b o e h => x2 b o (k1 b o e h)
      have st2 : ∀ b, H b ≠ none → (upd H1 q (.lst [])) b ≠ none := fun b h => st_upd b (st1 b h)
      generalize hH2 : upd H1 q (.lst []) = H2 at hp2 hc2 hn2' k2 st2
      refine ⟨_, _, .lst hc2 (dp_ints ns), hn2', shaped_ints ns, shaped_ints [], _, rfl, ?_⟩
      refine ite2 (fun hne => ?_) (fun _ => ?_)
      · have hns : 0 < ns.length := by
          rw [eqv_nil] at hne
          cases ns with
          | nil => exact absurd hne (by decide)
          | cons => exact Nat.succ_pos _
        have hz : 0 ≤ sp % ((ns.map V.int).length : Int) ∧ sp % ((ns.map V.int).length : Int) < (ns.length : Int) := by
          rw [List.length_map]; exact ⟨mod_lo (by omega), mod_hi (by omega)⟩
        obtain ⟨j, hj⟩ : ∃ j : Nat, sp % ((ns.map V.int).length : Int) = (j : Int) := ⟨_, (Int.toNat_of_nonneg hz.1).symm⟩
        have hjl : j < ns.length := by omega
        refine ⟨_, rfl, p, _, rfl, pen_cells hp2, _, rfl, _, rfl, p, _, rfl, pen_cells hp2, c, _, rfl, .inl hc2, _, _, rfl, rfl, (by rw [List.length_map]; omega), ?_⟩
        refine ⟨c, _, _, .int ns[j], rfl, rfl, hc2, at_of hj (by rw [List.getElem?_map, List.getElem?_eq_getElem hjl]; rfl), ?_⟩
        exact ⟨_, rfl, hp2, hc2, k2, st2⟩
      · refine ⟨_, rfl, _, _, rfl, rfl, .inl (by decide), _, _, rfl, rfl, ?_⟩
        exact ⟨_, rfl, hp2, hc2, k2, st2⟩
      rintro _ H2 ⟨z, rfl, hp2, hc2, k2, st2⟩
      -- if spot < len(cells) and abs(cell) >= 10 ** 18
      have ha : 0 ≤ (if z < 0 then -z else z) := by split <;> omega
      refine ⟨fun σ' H' => σ' = [some (.ref p), some (.int n), none, some (.int sp), some (.int z), none] ∧ H' = H2, ?_, ?_⟩
      · refine ⟨_, rfl, _, rfl, p, _, rfl, pen_cells hp2, c, _, rfl, .inl hc2, _, _, rfl, rfl, _, rfl, ite2 (fun _ => ?_) (fun _ => iteF ⟨rfl, rfl⟩)⟩
        refine ⟨_, rfl, z, rfl, _, _, rfl, rfl, ⟨by decide, by decide, by decide⟩, _, _, rfl, rfl, _, rfl, ite2 (fun h => ?_) (fun _ => ⟨rfl, rfl⟩)⟩
        have hz18 : 1000000000000000000 ≤ (if z < 0 then -z else z) := by
          have := of_decide_eq_true h
          rw [pow18] at this
          exact this
        refine ⟨_, rfl, z, rfl, _, _, rfl, rfl, ⟨by decide, by decide, by decide⟩, _, _, rfl, rfl, _, rfl, _, _, rfl, rfl, ⟨hn, hn2⟩, _, rfl, p, _, rfl, put_moreH hp2, ?_⟩
        refine ⟨_, rfl, z, rfl, _, _, rfl, rfl, ⟨by decide, by decide, by decide⟩, _, _, rfl, rfl, _, rfl, _, _, rfl, rfl, hn, ?_⟩
        rw [pow18]
        exact done (sp + 1) _ _ (by omega) (by omega) (Int.ediv_nonneg (by omega) (by omega)) (mod_lo hn) (mod_hi hn) _ (stay _ k2) (fun b h => st_upd b (st2 b h)) upd_same
      · rintro _ _ ⟨rfl, rfl⟩
        have b1 : 0 ≤ z % 2147483647 ∧ z % 2147483647 < 2147483647 := ⟨mod_lo (by decide), mod_hi (by decide)⟩
        refine ⟨_, rfl, _, _, rfl, rfl, (by show (0 : Int) < _; decide), _, _, rfl, rfl, .inl ⟨by omega, by omega⟩, _, rfl, _, _, rfl, rfl, .inl (by decide), _, rfl, _, _, rfl, rfl, .inr ⟨by omega, by omega⟩, _, _, rfl, rfl, _, rfl, _, _, rfl, rfl, .inl (by decide), _, _, rfl, rfl, _, _, rfl, rfl, _, _, rfl, rfl, (by show (0 : Int) < _; decide), ?_⟩
        refine ⟨_, rfl, _, rfl, _, _, rfl, rfl, .inl ⟨by omega, by omega⟩, _, rfl, _, _, rfl, rfl, .inl (by decide), _, _, rfl, rfl, _, rfl, _, _, rfl, rfl, .inl (by decide), _, _, rfl, rfl, _, _, rfl, rfl, _, _, rfl, rfl, (by show (0 : Int) < _; decide), ?_⟩
        refine ⟨_, rfl, _, rfl, _, _, rfl, rfl, _, _, rfl, rfl, .inl ⟨by omega, by omega⟩, _, _, rfl, rfl, (by show (0 : Int) < _; decide), _, _, rfl, rfl, ⟨by decide, by decide⟩, _, rfl, _, _, rfl, rfl, hn, ?_⟩
        exact done (sp + 1) m _ (by omega) (by omega) m0 (mod_lo hn) (mod_hi hn) _ k2 st2 hp2
end
end K01

namespace K01
open PySem PySem.Spec PyProof.Rows L2 Evl LT
/-! ### pick -/
abbrev sLPick : Stmt := top 14
abbrev NLPick : List Str := ["_law_pen_here", "_law_some"]
theorem scLPick : FnScope NLPick ["_law_pen_here", "_law_some"] (defScope sLPick) := ⟨rfl, rfl, rfl, by decide +kernel, rfl, by decide +kernel, by decide +kernel⟩
/-- a def of the text as it is called -/
structure Cal (P : Program) (w : World) (K : PySem.W.Frag) (mg : Str → Option Value) (base : Heap) (k : Nat) (x : Str) (ps : List Str) (sp : Sp) : Prop where
  ex : ∃ (f : Addr) (fd : FuncData), FnOk P w K mg base CX0 k f fd ps sp ∧ mg x = some (.ref f) ∧ PySem.W.keepIn K (.ref f) = true ∧ Binds K fd ps []
def spPick (K : PySem.W.Frag) : Sp := fun vs H Q _ => ∃ (G : Hp) (p : Addr) (B : Nat) (v : V), vs = [.ref p, v] ∧ Wd K G H p B ∧ B < 999999999 ∧
  ((∃ z : Str, v = .str z ∧ 0 < z.length ∧ z.length ≤ 1000 ∧ RetW K G H p B 1 (fun _ r => ∃ c, c ∈ z.cps.toList ∧ r = .str ⟨#[c]⟩) Q) ∨
   ∃ (a : Addr) (xs : List V), v = .ref a ∧ (SqL K H a xs ∨ SqT K H a xs) ∧ 0 < xs.length ∧ xs.length ≤ 100000 ∧ RetW K G H p B 1 (fun _ r => r ∈ xs) Q)
section
variable {P : Program} {w : World} {K : PySem.W.Frag} {mg : Str → Option Value} {base : Heap}
theorem rd_tr {H H' : Hp} {p a : Addr} {o u : HO} (hp : H p = some (.dK u')) (k : ∀ b o, H b = some o → b ≠ p → H' b = some o) (h : Rd H a o) (hn : ∀ kv, o ≠ .dK kv) : Rd H' a o := by
  rcases h with h | ⟨ob, h⟩
  · exact .inl (k a _ h (fun e => by rw [e, hp] at h; exact hn _ (Option.some.inj h).symm))
  · exact .inr ⟨ob, k a _ h (fun e => by rw [e, hp] at h; cases h)⟩
theorem sl_tr {H H' : Hp} {p a : Addr} {xs : List V} (hp : H p = some (.dK u')) (k : ∀ b o, H b = some o → b ≠ p → H' b = some o) (h : SqL K H a xs) : SqL K H' a xs := by
  rcases h with h | h
  · exact .inl (rd_tr (u := .lst xs) hp k h (fun _ q => nomatch q))
  · exact .inr h
theorem st_tr {H H' : Hp} {p a : Addr} {xs : List V} (hp : H p = some (.dK u')) (k : ∀ b o, H b = some o → b ≠ p → H' b = some o) (h : SqT K H a xs) : SqT K H' a xs := by
  rcases h with h | h
  · exact .inl (rd_tr (u := .lst xs) hp k h (fun _ q => nomatch q))
  · exact .inr h
theorem ok_pick {f : Addr} {fd : FuncData} (F : Fun K "_law_pick" "_law_pick" sLPick f fd) (ml : mg "len" = none) (cd : Cal P w K mg base 1 "_law_draw" ["_law_pen_here", "_law_many"] (spDraw K)) :
    FnOk P w K mg base CX0 2 f fd ["_law_pen_here", "_law_some"] (spPick K) := by
  obtain ⟨fD, fdD, GD, gD, kD, bD⟩ := cd.ex
  refine F.ok scLPick (fun vs H Q E h => ?_) (fun cdv A outer s H vs Q E hr h => ?_)
  · obtain ⟨G, p, B, v, rfl, _⟩ := h
    rfl
  · obtain ⟨G, p, B, v, rfl, W, hB, h⟩ := h
    refine ⟨_, (pss_one (ps_ret (pe_ix ix_seq (pv 1) (pe_call GD hr rfl gD kD bD .nil pass0 (pa_cons (pv 0) (pa_cons (pe_callB call_len (by rfl) ml PySem.boot_len (pa_cons (pv 1) pa_nil)) pa_nil))) (fun _ _ => rfl)))), ?_⟩
    obtain ⟨c, sp, m, ns, hp, _⟩ := id W.pen
    rcases h with ⟨z, rfl, h0, h1, k⟩ | ⟨a, xs, rfl, hs, h0, h1, k⟩
    · refine ⟨_, rfl, _, rfl, _, rfl, _, z.length, rfl, ⟨sz_of (by omega), rfl⟩, G, p, _, B, rfl, by omega, by omega, W, by omega, fun G' H' v T W' ⟨i, e, i0, i1⟩ => ?_⟩
      subst e
      obtain ⟨j, hj⟩ : ∃ j : Nat, i = (j : Int) := ⟨_, (Int.toNat_of_nonneg i0).symm⟩
      have hjl : j < z.cps.toList.length := by
        have : z.length = z.cps.toList.length := by simp [Str.length]
        omega
      exact .inr (.inr ⟨z, i, z.cps.toList[j], rfl, rfl, sz_of (by omega), atOf hj (List.getElem?_eq_getElem hjl), k G' H' _ T W' ⟨_, List.getElem_mem hjl, rfl⟩⟩)
    · refine ⟨_, rfl, _, rfl, _, rfl, _, xs.length, rfl, (by rcases hs with h | h; exact .inl ⟨xs, h, rfl⟩; exact .inr ⟨xs, h, rfl⟩), G, p, _, B, rfl, by omega, by omega, W, by omega, fun G' H' v T W' ⟨i, e, i0, i1⟩ => ?_⟩
      subst e
      obtain ⟨j, hj⟩ : ∃ j : Nat, i = (j : Int) := ⟨_, (Int.toNat_of_nonneg i0).symm⟩
      have hjl : j < xs.length := by omega
      have ha : atI xs i = some xs[j] := atOf hj (List.getElem?_eq_getElem hjl)
      have q := k G' H' _ T W' (List.getElem_mem hjl)
      rcases hs with h | h
      · exact .inl ⟨a, xs, i, _, rfl, rfl, sl_tr hp T.k h, ha, q⟩
      · exact .inr (.inl ⟨a, xs, i, _, rfl, rfl, st_tr hp T.k h, ha, q⟩)
end
end K01

namespace K01
open PySem PySem.Spec PyProof.Rows L2 Evl LT
/-! ### the pen is made -/
abbrev sLPen : Stmt := top 12
abbrev NLPen : List Str := ["_law_script"]
theorem scLPen : FnScope NLPen ["_law_script"] (defScope sLPen) := ⟨rfl, rfl, rfl, by decide +kernel, rfl, by decide +kernel, by decide +kernel⟩
def spPen (K : PySem.W.Frag) : Sp := fun vs H Q _ => ∃ (a : Addr) (ns : List Int), vs = [.ref a] ∧ SqL K H a (ns.map V.int) ∧ ns.length ≤ 63 ∧ ∀ G' H' p, Ex H G' → Wd K G' H' p 0 → Q (.ref p) H'
theorem cut_all {xs : List V} {n : Nat} (h : xs.length ≤ n) : cutV xs none (some (n : Int)) = xs := by
  unfold cutV
  rw [HT.sIx_none, show HT.sIx xs.length xs.length (some (n : Int)) = min n xs.length from HT.sIx_nat xs.length xs.length n, Nat.min_eq_right h]
  show (xs.drop 0).take (xs.length - 0) = xs
  rw [List.drop_zero, Nat.sub_zero, List.take_length]
theorem put_new {kvs : List (Key × V)} {k : Key} {v : V} (h : ∀ p ∈ kvs, ¬ p.1 = k) : putK kvs k v = kvs ++ [(k, v)] := by
  unfold putK
  rw [if_neg]
  intro q
  obtain ⟨x, hx, e⟩ := List.any_eq_true.mp q
  exact h x hx (of_decide_eq_true e)
theorem merge_pen (c : Addr) : mergeK [] (penK c 0 0) = penK c 0 0 := by
  unfold mergeK penK
  have e1 : putK ([] : List (Key × V)) (.inr "cells") (.ref c) = [(.inr "cells", .ref c)] := put_new (by simp)
  have e2 : putK [((.inr "cells", .ref c) : Key × V)] (.inr "spot") (.int 0) = [(.inr "cells", .ref c), (.inr "spot", .int 0)] := put_new (by
    intro p hp
    rw [List.mem_singleton] at hp
    rw [hp]
    exact n_cs)
  have e3 : putK [((.inr "cells", .ref c) : Key × V), (.inr "spot", .int 0)] (.inr "more") (.int 0) = [(.inr "cells", .ref c), (.inr "spot", .int 0), (.inr "more", .int 0)] := put_new (by
    intro p hp
    rcases List.mem_cons.mp hp with rfl | hp
    · exact n_cm
    · rw [List.mem_singleton] at hp
      rw [hp]
      exact n_sm)
  show putK (putK (putK ([] : List (Key × V)) (.inr "cells") (.ref c)) (.inr "spot") (.int 0)) (.inr "more") (.int 0) = _
  rw [e1, e2, e3]
section
variable {P : Program} {w : World} {K : PySem.W.Frag} {mg : Str → Option Value} {base : Heap}
theorem ok_pen {f : Addr} {fd : FuncData} (F : Fun K "_law_pen" "_law_pen" sLPen f fd) (ml : mg "list" = none) : FnOk P w K mg base CX0 1 f fd ["_law_script"] (spPen K) := by
  refine F.ok scLPen (fun vs H Q E h => ?_) (fun cdv A outer s H vs Q E hr h => ?_)
  · obtain ⟨a, ns, rfl, _⟩ := h
    rfl
  · obtain ⟨a, ns, rfl, hs, hl, k⟩ := h
    refine ⟨_, (pss_one (ps_ret (pe_disp (pps_cons pe_str (pe_callTy call_list_of (by rfl) ml (by decide +kernel) (pa_cons (pe_slice sl_list (pv 0) po_none (po_some pe_int)) pa_nil)) (pps_cons pe_str pe_int (pps_cons pe_str pe_int pps_nil))) rfl rfl (by decide) (by decide)))), ?_⟩
    intro p hp
    have x1 : Ex H (upd H p (.dK [])) := Ex.new hp
    refine ⟨_, rfl, 63, rfl, a, _, rfl, ex_l x1 hs, fun q hq => ?_⟩
    have x2 := x1.trans (Ex.new (o := .lst (cutV (ns.map V.int) none (some 63))) hq)
    have hpq : p ≠ q := fun e => by rw [← e, upd_same] at hq; cases hq
    refine ⟨q, _, rfl, .inl (.inl (.inl upd_same)), fun c hc => ?_⟩
    have hcp : p ≠ c := fun e => by rw [← e, upd_ne hpq, upd_same] at hc; cases hc
    have hcut : cutV (ns.map V.int) none (some 63) = ns.map V.int := cut_all (n := 63) (by rw [List.length_map]; exact hl)
    rw [hcut]
    have hHc : H c = none := by
      have := hc
      rw [upd_ne (fun e => by rw [e, upd_same] at hc; cases hc), upd_ne hcp.symm] at this
      exact this
    refine ⟨by rw [upd_ne hcp, upd_ne hpq, upd_same], penK c 0 0, rfl, by show 3 ≤ 15; decide, ?_⟩
    rw [merge_pen]
    refine k (upd H c (.lst (ns.map V.int))) _ p (Ex.new hHc) ⟨fun b o e => ?_, ?_, c, 0, 0, ns, upd_same, .inl (.inl upd_same), hl, Int.le_refl _, Int.le_refl _, Int.le_refl _⟩
    · by_cases z : b = c
      · subst z
        rw [upd_same] at e
        rw [upd_ne hcp.symm, upd_same]
        exact e
      · rw [upd_ne z] at e
        have nb : b ≠ p := ne_of_none e hp
        rw [upd_ne nb, upd_ne z, upd_ne (ne_of_none e (by rw [upd_ne hpq.symm] at hq; exact hq)), upd_ne nb]
        exact e
    · rw [upd_ne hcp]
      exact hp
end
end K01

namespace K01
open PySem PySem.Spec PyProof.Rows L2 Evl LT
/-! ### names -/
abbrev sLNames : Stmt := top 15
abbrev NLNames : List Str := ["_law_pen_here", "_law_many", "_law_letters", "_law_k", "_law_stem", "_law_at", "_law_begin", "_law_trim", "_law_step", "_law_found", "_law_tail"]
theorem scLNames : FnScope NLNames ["_law_pen_here", "_law_many"] (defScope sLNames) := ⟨rfl, rfl, rfl, by decide +kernel, rfl, by decide +kernel, by decide +kernel⟩
def steps12 : List Int := [1, 3, 5, 7, 9, 11, 15, 17, 19, 21, 23, 25]
theorem step_inj : ∀ s ∈ steps12, ∀ i ∈ List.range 26, ∀ j ∈ List.range 26, (s * (i : Int)) % 26 = (s * (j : Int)) % 26 → i = j := by decide +kernel
/-- the j-th name's signs -/
structure NameAt (S : List Nat) (a : Nat) (b s : Int) (j : Nat) (z : Str) : Prop where
  ex : ∃ t : List Nat, z.cps.toList = S.take a ++ (97 + ((b + s * (j : Int)) % 26).toNat) :: t ∧ t.length + a < 8 ∧ ∀ c ∈ t, Az c
theorem NameAt.ok {S : List Nat} {a j : Nat} {b s : Int} {z : Str} (h : NameAt S a b s j z) (hS : ∀ c ∈ S, Az c) (ha : a < S.length) : NameOk z := by
  obtain ⟨t, e, hl, ht⟩ := h.ex
  have hm : 0 ≤ (b + s * (j : Int)) % 26 ∧ (b + s * (j : Int)) % 26 < 26 := ⟨mod_lo (by decide), mod_hi (by decide)⟩
  have hz : z.length = a + 1 + t.length := by
    rw [len_tl, e, List.length_append, List.length_take, List.length_cons]
    omega
  refine ⟨by omega, by omega, fun c hc => ?_⟩
  rw [e] at hc
  rcases List.mem_append.mp hc with h | h
  · exact hS c (List.mem_of_mem_take h)
  · rcases List.mem_cons.mp h with rfl | h
    · unfold Az; omega
    · exact ht c h
theorem NameAt.ne {S : List Nat} {a i j : Nat} {b s : Int} {y z : Str} (hi : NameAt S a b s i y) (hj : NameAt S a b s j z) (ha : a < S.length) (hs : s ∈ steps12) (i26 : i < 26) (j26 : j < 26) (e : y = z) : i = j := by
  obtain ⟨t, e1, _, _⟩ := hi.ex
  obtain ⟨u, e2, _, _⟩ := hj.ex
  rw [e, e2] at e1
  have h := List.append_cancel_left e1
  have h1 := (List.cons.inj h).1
  have a1 : 0 ≤ (b + s * (i : Int)) % 26 := mod_lo (by decide)
  have a2 : 0 ≤ (b + s * (j : Int)) % 26 := mod_lo (by decide)
  have h2 : (b + s * (i : Int)) % 26 = (b + s * (j : Int)) % 26 := by omega
  refine step_inj s hs i (List.mem_range.mpr i26) j (List.mem_range.mpr j26) ?_
  generalize s * (i : Int) = x at h2 ⊢
  generalize s * (j : Int) = y at h2 ⊢
  omega
def NamesP (n : Nat) (xs : List V) : Prop := ∃ zs : List Str, xs = zs.map V.str ∧ zs.length = n ∧ zs.Nodup ∧ ∀ z ∈ zs, NameOk z
def spNames (K : PySem.W.Frag) : Sp := fun vs H Q _ => ∃ (G : Hp) (p : Addr) (n : Nat) (B : Nat), vs = [.ref p, .int (n : Int)] ∧ n ≤ 26 ∧ Wd K G H p B ∧ B < 900000000 ∧ RetN K G H p B 13 (fun _ xs => NamesP n xs) Q
section
variable {P : Program} {w : World} {K : PySem.W.Frag} {mg : Str → Option Value} {base : Heap}
theorem ok_names {f : Addr} {fd : FuncData} (F : Fun K "_law_names" "_law_names" sLNames f fd) (ml : mg "len" = none) (mr : mg "range" = none) (cd : Cal P w K mg base 1 "_law_draw" ["_law_pen_here", "_law_many"] (spDraw K))
    (cp : Cal P w K mg base 2 "_law_pick" ["_law_pen_here", "_law_some"] (spPick K)) : FnOk P w K mg base CX0 3 f fd ["_law_pen_here", "_law_many"] (spNames K) := by
  obtain ⟨fD, fdD, GD, gD, kD, bD⟩ := cd.ex
  obtain ⟨fP, fdP, GP, gP, kP, bP⟩ := cp.ex
  refine F.ok scLNames (fun vs H Q E h => ?_) (fun cdv A outer s H vs Q E hr h => ?_)
  · obtain ⟨G, p, n, B, rfl, _⟩ := h
    rfl
  · obtain ⟨G, p, n, B, rfl, hn, W, hB, k⟩ := h
    have hr1 : Room 1 _ := hr.mono (by decide)
    refine ⟨_, (pss_cons (ps_set (i := 2) scLNames.nd rfl (.inr rfl) pe_str)
      (pss_cons (ps_set (i := 4) scLNames.nd rfl (.inl rfl) (pe_join pe_str (pe_lc (own := [("_law_k", 3)]) (g := (gName 3)) (tt := tYes) rfl scLNames.nd (pi_range1 rfl mr (pa_cons (pe_op op_add pe_int (pe_call GD hr1 rfl gD kD bD .nil pass0 (pa_cons (pv 0) (pa_cons pe_int pa_nil)))) pa_nil)) (blkOk_by (N := NLNames) (sc := defScope sLNames) (by decide +kernel)) (fun _ _ _ _ _ => (pg_name (i := 3) scLNames.nd rfl (.inl rfl))) (fun _ _ _ _ _ => pts_nil) (fun _ _ _ _ _ => (pe_call GP hr rfl gP kP bP .nil pass0 (pa_cons (pv 0) (pa_cons (pv 2) pa_nil)))))))
      (pss_cons (ps_par3 (i := 5) (j := 6) (l := 7) rfl scLNames.nd rfl rfl rfl (by decide) (by decide) (by decide) rfl rfl rfl (pa_cons (pe_call GD hr1 rfl gD kD bD .nil pass0 (pa_cons (pv 0) (pa_cons (pe_callB call_len_str (by rfl) ml PySem.boot_len (pa_cons (pv 4) pa_nil)) pa_nil))) (pa_cons (pe_call GD hr1 rfl gD kD bD .nil pass0 (pa_cons (pv 0) (pa_cons pe_int pa_nil))) (pa_cons (pe_call GD hr1 rfl gD kD bD .nil pass0 (pa_cons (pv 0) (pa_cons pe_int pa_nil))) pa_nil))) (by rfl))
      (pss_cons (ps_par (i := 8) (j := 9) rfl scLNames.nd rfl rfl (by decide) rfl rfl (pa_cons (pe_call GP hr rfl gP kP bP .nil pass0 (pa_cons (pv 0) (pa_cons (pe_lst (pa_cons pe_int (pa_cons pe_int (pa_cons pe_int (pa_cons pe_int (pa_cons pe_int (pa_cons pe_int (pa_cons pe_int (pa_cons pe_int (pa_cons pe_int (pa_cons pe_int (pa_cons pe_int (pa_cons pe_int pa_nil))))))))))))) pa_nil))) (pa_cons (pe_lst pa_nil) pa_nil)) (by rfl))
      (pss_cons (ps_for PassesOwn.never rfl (pi_range1 rfl mr (pa_cons (pv 1) pa_nil)) (pg_name (i := 3) scLNames.nd rfl (.inl rfl)) (Evl.pss_cut (ps_set (i := 10) scLNames.nd rfl (.inl rfl) (pe_ifExp (pt_cmpR op_eq (pv 7) pe_int (nomark _)) (pe_slice sl_str (pv 4) (po_some (pe_op op_add (pv 5) pe_int)) po_none) (pe_slice sl_str (pe_slice sl_str (pv 4) (po_some (pe_op op_add (pv 5) pe_int)) po_none) po_none (po_some (pe_op op_mod (pv 3) pe_int)))))
      (pss_one (ps_expr (pe_bm PySem.F.plainAttrs_list PySem.F.slot_list_append PySem.F.type_list_append mt_append (pv 9) (pa_cons (pe_op op_add_str (pe_op op_add_str (pe_slice sl_str (pv 4) po_none (po_some (pv 5))) (pe_ix ix_str (pv 2) (pe_op op_mod (pe_op op_add (pv 6) (pe_op op_mul (pv 8) (pv 3))) pe_int) (fun _ _ => rfl))) (pv 10)) pa_nil))))))
      (pss_one (ps_ret (pv 9)))))))), ?_⟩
    -- the range: 1 + draw(pen, 8)
    refine ⟨⟨_, rfl⟩, _, rfl, G, p, 8, B, rfl, by decide, by decide, W, by omega, fun G1 H1 v T1 W1 ⟨d, e, d0, d8⟩ => ?_⟩
    subst e
    refine ⟨_, _, rfl, rfl, _, rfl, by omega, by omega, fun D hD => ?_⟩
    obtain ⟨nn, hnn⟩ : ∃ nn : Nat, (1 + d).toNat = nn ∧ (nn : Int) = 1 + d := ⟨_, rfl, Int.toNat_of_nonneg (by omega)⟩
    rw [hnn.1]
    have hDp : D ≠ p := (ne_of_none W1.pen.choose_spec.choose_spec.choose_spec.choose_spec.1 hD).symm
    refine lc_range (lo := 0) (n := nn) (fun i Hc => ∃ (G' : Hp) (zs : List Str), Tr G H G' Hc p ∧ Wd K G' Hc p (B + 1 + i) ∧ G' D = none ∧ Hc D = some (.lst (zs.map V.str)) ∧ zs.length = i ∧ ∀ z ∈ zs, z.length = 1 ∧ ∀ c ∈ z.cps.toList, Az c)
      ⟨G1, [], T1.new hD, W1.new hD, fresh_back W1.ex hD, upd_same, rfl, by simp⟩ ?_ ?_
    · rintro i Hc hi ⟨G', zs, T, Wc, gD', hDc, hz, hzs⟩
      refine ⟨rfl, _, rfl, _, rfl, G', p, B + 1 + i, _, rfl, Wc, by omega, .inl ⟨abc, rfl, by decide +kernel, by decide +kernel, fun G2 H2 v T2 W2 ⟨c, hc, e⟩ => ?_⟩⟩
      subst e
      have hD2 : H2 D = some (.lst (zs.map V.str)) := T2.k _ _ hDc hDp
      have gD2 : G2 D = none := T2.nw D (by rw [hDc]; exact fun q => nomatch q) gD'
      refine ⟨_, hD2, sz_lt (by rw [List.length_map]; omega), G2, zs ++ [⟨#[c]⟩], (T.trans T2).mut (T1.old hD), W2.mut gD2 hDp, gD2, by rw [upd_same, List.map_append]; rfl, by rw [List.length_append, hz]; rfl, fun z hz' => ?_⟩
      rcases List.mem_append.mp hz' with h | h
      · exact hzs z h
      · rw [List.mem_singleton.mp h]
        refine ⟨rfl, fun c' hc' => ?_⟩
        rw [List.mem_singleton.mp (show c' ∈ [c] from hc')]
        exact abc_mem.mp hc
    · rintro Hc ⟨G', zs, T, Wc, gD', hDc, hz, hzs⟩
      have hsum : (zs.map (·.length)).sum = nn := by
        have : zs.map (·.length) = List.replicate nn 1 := by
          refine List.eq_replicate_iff.mpr ⟨by rw [List.length_map]; exact hz, fun b hb => ?_⟩
          obtain ⟨z, hz1, rfl⟩ := List.mem_map.mp hb
          exact (hzs z hz1).1
        rw [this, List.sum_replicate_nat, Nat.mul_one]
      refine ⟨_, D, zs, rfl, rfl, .inl (.inl (.inl hDc)), (by rw [hsum, show (("" : Str)).length = 0 by decide +kernel]; omega), ?_⟩
      have htl := tl_join zs
      generalize Txt.join "" zs = stem at htl ⊢
      have hS : ∀ c ∈ stem.cps.toList, Az c := by
        rw [htl]
        intro c hc
        obtain ⟨l, hl, hcl⟩ := List.mem_flatten.mp hc
        obtain ⟨z, hz1, rfl⟩ := List.mem_map.mp hl
        exact (hzs z hz1).2 c hcl
      have hL : stem.cps.toList.length = nn := by
        rw [htl, List.length_flatten, List.map_map]
        rw [← hsum]
        congr 1
      have hn1 : 1 ≤ nn ∧ nn ≤ 8 := by omega
      have hlen : (stem.length : Int) = (nn : Int) := by rw [len_tl, hL]
      clear hsum htl hzs hz hDc
      -- at, begin, trim
      refine ⟨_, rfl, _, rfl, stem, rfl, sz_of (by omega), G', p, _, B + 1 + nn, rfl, by omega, by omega, Wc, by omega, fun G2 H2 v2 T2 W2 ⟨a', ea, a0, a1⟩ => ?_⟩
      subst ea
      refine ⟨_, rfl, G2, p, 26, _, rfl, by decide, by decide, W2, by omega, fun G3 H3 v3 T3 W3 ⟨b, eb, b0, b1⟩ => ?_⟩
      subst eb
      refine ⟨_, rfl, G3, p, 2, _, rfl, by decide, by decide, W3, by omega, fun G4 H4 v4 T4 W4 ⟨tr, et, t0, t1⟩ => ?_⟩
      subst et
      obtain ⟨a, rfl⟩ : ∃ a : Nat, a' = (a : Int) := ⟨_, (Int.toNat_of_nonneg a0).symm⟩
      have haS : a < stem.cps.toList.length := by omega
      have TT := ((T.trans T2).trans T3).trans T4
      clear T T2 T3 Wc W2 W3
      refine ⟨_, _, _, rfl, ?_⟩
      -- step, found
      refine ⟨_, rfl, (by show 12 ≤ sizeLine; decide), fun L hL4 => ?_⟩
      refine ⟨G4, p, _, .ref L, rfl, W4.new hL4, by omega, .inr ⟨L, steps12.map V.int, rfl, .inl (.inl (.inl upd_same)), by decide, by decide, fun G5 H5 v5 T5 W5 hv => ?_⟩⟩
      obtain ⟨st, hst, rfl⟩ := List.mem_map.mp hv
      refine ⟨Nat.zero_le _, fun Fd hF => ⟨_, _, rfl, ?_⟩⟩
      have T6 := ((TT.new hL4).trans T5).new (o := .lst []) hF
      have hF0 : H Fd = none := ((TT.new hL4).trans T5).old hF
      have W6 : Wd K G5 (upd H5 Fd (.lst [])) p (B + 13) := (W5.new hF).mono (by omega)
      have gF : G5 Fd = none := fresh_back W5.ex hF
      have hFp : Fd ≠ p := (ne_of_none W5.pen.choose_spec.choose_spec.choose_spec.choose_spec.1 hF).symm
      have hst1 : 1 ≤ st ∧ st ≤ 25 := by
        revert hst
        unfold steps12
        simp only [List.mem_cons, List.not_mem_nil, or_false]
        omega
      refine ⟨_, rfl, n, rfl, by omega, by omega, for_range (lo := 0) (n := n) (fun i σ Hc => ∃ (ko to : Option V) (zs : List Str), σ = [some (.ref p), some (.int n), some (.str abc), ko, some (.str stem), some (.int a), some (.int b), some (.int tr), some (.int st), some (.ref Fd), to] ∧
          Hc = upd H5 Fd (.lst (zs.map V.str)) ∧ zs.length = i ∧ ∀ j z, zs[j]? = some z → NameAt stem.cps.toList a b st j z)
        ⟨none, none, [], rfl, rfl, rfl, by simp⟩ ?_ ?_⟩
      · rintro i σ Hc hi ⟨ko, to, zs, rfl, rfl, hz, hzs⟩
        have hsl : stem.length ≤ sizeLine := sz_of (by omega)
        have c1 := cut_from stem (a + 1)
        refine ⟨fun σ' H' => ∃ t : Str, σ' = [some (.ref p), some (.int n), some (.str abc), some (.int (0 + (i : Int))), some (.str stem), some (.int a), some (.int b), some (.int tr), some (.int st), some (.ref Fd), some (.str t)] ∧
          H' = upd H5 Fd (.lst (zs.map V.str)) ∧ t.length + a < 8 ∧ ∀ c ∈ t.cps.toList, Az c, ?_, ?_⟩
        · refine ⟨_, rfl, rfl, _, rfl, ite2 (fun _ => ?_) (fun _ => ?_)⟩
          · refine ⟨_, rfl, _, rfl, _, _, rfl, rfl, _, rfl, stem, rfl, hsl, _, rfl, rfl, ?_, fun c hc => ?_⟩
            · show (cutS stem (some ((a + 1 : Nat) : Int)) none).length + a < 8
              rw [len_tl, c1, List.length_drop]
              omega
            · have hc : c ∈ (cutS stem (some ((a + 1 : Nat) : Int)) none).cps.toList := hc
              rw [c1] at hc
              exact hS c (List.mem_of_mem_drop hc)
          · obtain ⟨m, hm⟩ : ∃ m : Nat, (0 + (i : Int)) % 3 = (m : Int) := ⟨_, (Int.toNat_of_nonneg (mod_lo (by decide))).symm⟩
            have c2 := cut_to (cutS stem (some ((a + 1 : Nat) : Int)) none) m
            rw [c1] at c2
            refine ⟨_, rfl, _, rfl, _, _, rfl, rfl, _, rfl, stem, rfl, hsl, _, rfl, _, _, rfl, rfl, (by show (0 : Int) < _; decide), _, rfl, _, rfl, sz_of ?_, _, rfl, rfl, ?_, fun c hc => ?_⟩
            · show (cutS stem (some ((a + 1 : Nat) : Int)) none).length ≤ 100000
              rw [len_tl, c1, List.length_drop]
              omega
            · show (cutS (cutS stem (some ((a + 1 : Nat) : Int)) none) none (some ((0 + (i : Int)) % 3))).length + a < 8
              rw [hm, len_tl, c2, List.length_take, List.length_drop]
              omega
            · have hc : c ∈ (cutS (cutS stem (some ((a + 1 : Nat) : Int)) none) none (some ((0 + (i : Int)) % 3))).cps.toList := hc
              rw [hm, c2] at hc
              exact hS c (List.mem_of_mem_drop (List.mem_of_mem_take hc))
        · rintro _ _ ⟨t, rfl, rfl, htl, htz⟩
          have hm : 0 ≤ (b + st * (0 + (i : Int))) % 26 ∧ (b + st * (0 + (i : Int))) % 26 < 26 := ⟨mod_lo (by decide), mod_hi (by decide)⟩
          obtain ⟨j, hj⟩ : ∃ j : Nat, (b + st * (0 + (i : Int))) % 26 = (j : Int) := ⟨_, (Int.toNat_of_nonneg hm.1).symm⟩
          have c2 := cut_to stem a
          have l2 : (cutS stem none (some (a : Int))).length ≤ 8 := by
            rw [len_tl, c2, List.length_take]
            omega
          refine ⟨_, rfl, .inl ⟨rfl, _, .inl (.inl upd_same)⟩, _, rfl, _, rfl, _, rfl, stem, rfl, hsl, _, rfl, _, rfl, _, rfl, _, rfl, _, _, rfl, rfl, .inl ⟨by omega, by omega⟩, _, _, rfl, rfl, _, _, rfl, rfl, (by show (0 : Int) < _; decide), ?_⟩
          refine ⟨abc, _, 97 + j, rfl, rfl, (by rw [abc_len]; decide), atOf hj (abc_at (by omega)), ?_⟩
          refine ⟨_, _, rfl, rfl, sz_of (by have := l2; show _ + 1 ≤ _; omega), _, rfl, _, _, rfl, rfl, sz_of ?_, ?_⟩
          · rw [len_tl, tl_app, List.length_append, ← len_tl, ← len_tl]
            have := l2
            show _ + 1 + _ ≤ _
            omega
          refine ⟨Fd, _, _, rfl, rfl, upd_same, sz_lt (by rw [List.length_map]; omega), ?_⟩
          refine ⟨_, _, zs ++ [cutS stem none (some (a : Int)) ++ ⟨#[97 + j]⟩ ++ t], rfl, by rw [upd_upd, List.map_append]; rfl, by rw [List.length_append, hz]; rfl, fun j' z hz' => ?_⟩
          by_cases hlt : j' < zs.length
          · rw [List.getElem?_append_left hlt] at hz'
            exact hzs j' z hz'
          · rw [List.getElem?_append_right (by omega)] at hz'
            have e0 : j' = i := by
              have := (List.getElem?_eq_some_iff.mp hz').1
              simp only [List.length_singleton] at this
              omega
            subst e0
            rw [hz, Nat.sub_self] at hz'
            have e1 := Option.some.inj hz'
            subst e1
            refine ⟨t.cps.toList, ?_, by rw [← len_tl]; omega, htz⟩
            have e2 : ((b + st * (j' : Int)) % 26).toNat = j := by
              rw [Int.zero_add] at hj
              rw [hj]
              rfl
            rw [tl_app, tl_app, c2, e2]
            show (stem.cps.toList.take a ++ [97 + j]) ++ t.cps.toList = _
            rw [List.append_assoc]
            rfl
      · rintro σ Hc ⟨ko, to, zs, rfl, rfl, hz, hzs⟩
        refine ⟨_, rfl, k G5 _ Fd _ ((TT.new hL4).trans T5 |>.new hF) ((W5.new hF).mono (by omega)) hF0 gF upd_same ⟨zs, rfl, hz, ?_, ?_⟩⟩
        · refine List.pairwise_iff_getElem.mpr fun x y hx hy hxy e => ?_
          have := NameAt.ne (hzs x _ (List.getElem?_eq_getElem hx)) (hzs y _ (List.getElem?_eq_getElem hy)) haS hst (by omega) (by omega) e
          omega
        · intro z hz'
          obtain ⟨j, hj, rfl⟩ := List.getElem_of_mem hz'
          exact (hzs j _ (List.getElem?_eq_getElem hj)).ok hS haS
end
end K01

namespace K01
open PySem PySem.Spec PyProof.Rows L2 Evl LT
/-! ### odd values -/
abbrev sLOdd : Stmt := top 16
abbrev NLOdd : List Str := ["_law_pen_here", "_law_some"]
theorem scLOdd : FnScope NLOdd ["_law_pen_here"] (defScope sLOdd) := ⟨rfl, rfl, rfl, by decide +kernel, rfl, by decide +kernel, by decide +kernel⟩
def odd1 : List D := [.non, .bl true, .bl false, .int 0, .int 1, .int (-1), .int 2, .int (10 ^ (60 : Int).toNat), .str "", .str "a", .str "Ab", .str "a b", .str "abcdefgh", .str "abcdefghi", .str "a1", .tup [], .tup [.str "a"]]
def odd2 : List D := [.lst [], .lst [.str "a"], .dct [], .dct [(.inr "a", .int 1)], .tup [.tup []], .tup [.int 0], .lst [.int 0], .tup [.non], .lst [.lst []], .tup [.str "a", .str "a"]]
def oddL : List D := odd1 ++ odd2
def spOdd (K : PySem.W.Frag) : Sp := fun vs H Q _ => ∃ (G : Hp) (p : Addr) (B : Nat), vs = [.ref p] ∧ Wd K G H p B ∧ B < 900000000 ∧ RetW K G H p B 1 (fun G' v => ∃ d ∈ oddL, Den K G' v d) Q
section
variable {P : Program} {w : World} {K : PySem.W.Frag} {mg : Str → Option Value} {base : Heap}
theorem ok_odd {f : Addr} {fd : FuncData} (F : Fun K "_law_odd" "_law_odd" sLOdd f fd) (cp : Cal P w K mg base 2 "_law_pick" ["_law_pen_here", "_law_some"] (spPick K)) : FnOk P w K mg base CX0 3 f fd ["_law_pen_here"] (spOdd K) := by
  obtain ⟨fP, fdP, GP, gP, kP, bP⟩ := cp.ex
  refine F.ok scLOdd (fun vs H Q E h => ?_) (fun cdv A outer s H vs Q E hr h => ?_)
  · obtain ⟨G, p, B, rfl, _⟩ := h
    rfl
  · obtain ⟨G, p, B, rfl, W, hB, k⟩ := h
    refine ⟨_, (pss_cons (ps_set (i := 1) scLOdd.nd rfl (.inl rfl) (pe_lst (pa_cons pe_non (pa_cons pe_bl (pa_cons pe_bl (pa_cons pe_int (pa_cons pe_int (pa_cons (pe_un un_neg pe_int) (pa_cons pe_int (pa_cons (pe_op op_pow pe_int pe_int) (pa_cons pe_str (pa_cons pe_str (pa_cons pe_str (pa_cons pe_str (pa_cons pe_str (pa_cons pe_str (pa_cons pe_str (pa_cons (pe_tup pa_nil) (pa_cons (pe_tup (pa_cons pe_str pa_nil)) pa_nil)))))))))))))))))))
      (pss_one (ps_ret (pe_call GP hr rfl gP kP bP .nil pass0 (pa_cons (pv 0) (pa_cons (pe_op op_cat (pv 1) (pe_lst (pa_cons (pe_lst pa_nil) (pa_cons (pe_lst (pa_cons pe_str pa_nil)) (pa_cons pe_dnewK (pa_cons (pe_disp (pps_cons pe_str pe_int pps_nil) rfl rfl (by decide) (by decide)) (pa_cons (pe_tup (pa_cons (pe_tup pa_nil) pa_nil)) (pa_cons (pe_tup (pa_cons pe_int pa_nil)) (pa_cons (pe_lst (pa_cons pe_int pa_nil)) (pa_cons (pe_tup (pa_cons pe_non pa_nil)) (pa_cons (pe_lst (pa_cons (pe_lst pa_nil) pa_nil)) (pa_cons (pe_tup (pa_cons pe_str (pa_cons pe_str pa_nil))) pa_nil)))))))))))) pa_nil)))))), ?_⟩
    refine in_set ?_
    refine evn_lst (ds := odd1) (evda_cons evd_non (evda_cons evd_bl (evda_cons evd_bl (evda_cons evd_int (evda_cons evd_int (evda_cons evd_neg (evda_cons evd_int (evda_cons (evd_pow ⟨by decide, by decide, by decide⟩) (evda_cons evd_str (evda_cons evd_str (evda_cons evd_str (evda_cons evd_str (evda_cons evd_str (evda_cons evd_str (evda_cons evd_str (evda_cons (evd_tup evda_nil (by decide)) (evda_cons (evd_tup (evda_cons evd_str evda_nil) (by decide)) evda_nil))))))))))))))))) (by decide) G H B (Ex.refl G) W _ fun G1 H1 a vs T1 W1 ha dl => ?_
    refine ⟨_, rfl, _, rfl, ?_⟩
    show tLst _ _ _ _
    refine evn_lst (ds := odd2) (evda_cons (evd_lst evda_nil (by decide)) (evda_cons (evd_lst (evda_cons evd_str evda_nil) (by decide)) (evda_cons evd_dnew (evda_cons evd_disp1 (evda_cons (evd_tup (evda_cons (evd_tup evda_nil (by decide)) evda_nil) (by decide)) (evda_cons (evd_tup (evda_cons evd_int evda_nil) (by decide)) (evda_cons (evd_lst (evda_cons evd_int evda_nil) (by decide)) (evda_cons (evd_tup (evda_cons evd_non evda_nil) (by decide)) (evda_cons (evd_lst (evda_cons (evd_lst evda_nil (by decide)) evda_nil) (by decide)) (evda_cons (evd_tup (evda_cons evd_str (evda_cons evd_str evda_nil)) (by decide)) evda_nil)))))))))) (by decide) G1 H1 B (Ex.refl G1) W1 _ fun G2 H2 b ws T2 W2 hb dm => ?_
    have h17 : vs.length = 17 := dl.length
    have h10 : ws.length = 10 := dm.length
    refine ⟨a, b, vs, ws, rfl, rfl, W2.ex _ _ (T2.g _ _ ha), W2.ex _ _ hb, sz_of (by omega), fun c hc => ?_⟩
    refine ⟨upd G2 c (.lst (vs ++ ws)), p, B, .ref c, rfl, W2.grow hc, by omega, .inr ⟨c, vs ++ ws, rfl, .inl (.inl (.inl upd_same)), by rw [List.length_append]; omega, by rw [List.length_append]; omega, fun G3 H3 v T3 W3 hv => ?_⟩⟩
    obtain ⟨d, h1, h2⟩ := ((dl.mono T2.g).append dm).mem hv
    exact k G3 H3 v (((T1.trans T2).grow W2.ex hc).trans T3) W3 ⟨d, h1, h2.mono ((Ex.new (fresh_back W2.ex hc)).trans T3.g)⟩
end
end K01

namespace K01
open PySem PySem.Spec PyProof.Rows L2 Evl LT
/-! ### is_name -/
abbrev sIsName : Stmt := top 10
abbrev NIsName : List Str := ["value", "letter"]
theorem scIsName : FnScope NIsName ["value"] (defScope sIsName) := ⟨rfl, rfl, rfl, by decide +kernel, rfl, by decide +kernel, by decide +kernel⟩
def spIsName (K : PySem.W.Frag) : Sp := fun vs H Q _ => ∃ v, vs = [v] ∧ AnyV K H v ∧ ∀ H', Ex H H' → Q (.bl (isN v)) H'
theorem take_suc {α : Type} {l : List α} {i : Nat} {x : α} (h : l[i]? = some x) : l.take (i + 1) = l.take i ++ [x] := by
  rw [List.take_add_one, h]
  rfl
section
variable {P : Program} {w : World} {K : PySem.W.Frag} {mg : Str → Option Value} {base : Heap}
theorem ok_isname {f : Addr} {fd : FuncData} (F : Fun K "is_name" "is_name" sIsName f fd) (mi : mg "isinstance" = none) (ms : mg "str" = none) (ml : mg "len" = none) (ma : mg "all" = none) (mL : ∃ t, mg "LETTERS" = some (.str abc t)) :
    FnOk P w K mg base CX0 1 f fd ["value"] (spIsName K) := by
  obtain ⟨tk, mL⟩ := mL
  refine F.ok scIsName (fun vs H Q E h => ?_) (fun cdv A outer s H vs Q E hr h => ?_)
  · obtain ⟨v, rfl, _⟩ := h
    rfl
  · obtain ⟨v, rfl, hv, k⟩ := h
    refine ⟨_, (pss_one (ps_ret (pe_and (pe_callB call_isi (by rfl) mi (by decide +kernel) (pa_cons (pv 0) (pa_cons (pe_bltn (v := .ty "str") (by rfl) ms (by decide +kernel) rfl) pa_nil))) (pe_and (pe_chain op_le op_le pe_int (pe_callB call_len (by rfl) ml PySem.boot_len (pa_cons (pv 0) pa_nil)) pe_int) (pe_one (pe_callB (cr_all rfl) (by rfl) ma (by decide +kernel) (pa_cons (pe_lc (own := [("letter", 1)]) (g := (gName 1)) (tt := tYes) rfl scIsName.nd (pi_str (pv 0)) (blkOk_by (N := NIsName) (sc := defScope sIsName) (by decide +kernel)) (fun _ _ _ _ _ => (pg_name (i := 1) scIsName.nd rfl (.inl rfl))) (fun _ _ _ _ _ => pts_nil) (fun _ _ _ _ _ => (pe_cmpR op_in_sign (pv 1) (pe_glob (v := .str abc) rfl mL ⟨_, rfl⟩) (by rfl)))) pa_nil))))))), ?_⟩
    rcases hv with ⟨z, rfl, hz, _⟩ | ⟨hn, t, ht, hk⟩
    · refine ⟨_, rfl, .str z, .ty "str", _, _, true, rfl, .ty "str", .base (.str z), kit_ty (by decide +kernel), true, rfl, ?_⟩
      refine ⟨_, rfl, .str z, z.length, rfl, ⟨sz_of (by omega), rfl⟩, _, _, rfl, rfl, _, rfl, ?_⟩
      have e : isN (.str z) = (decide (1 ≤ z.length) && (decide (z.length ≤ 8) && z.cps.toList.all fun c => decide (c ∈ abc.cps.toList))) := rfl
      refine ite2 (fun h1 => ?_) (fun h1 => ?_)
      · have h1' : 1 ≤ z.length := by have := of_decide_eq_true h1; omega
        rw [decide_eq_true h1', Bool.true_and] at e
        refine ⟨_, _, rfl, rfl, _, rfl, ite2 (fun h2 => ?_) (fun h2 => ?_)⟩
        · have h2' : z.length ≤ 8 := by have := of_decide_eq_true h2; omega
          rw [decide_eq_true h2', Bool.true_and] at e
          refine ⟨_, rfl, z, rfl, fun Dl hD => ?_⟩
          refine lc_it walk_str (fun i Hc => Ex H Hc ∧ Hc Dl = some (.lst (((z.cps.toList.take i).map fun c => decide (c ∈ abc.cps.toList)).map V.bl))) ⟨Ex.new hD, upd_same⟩ (fun _ _ _ _ => trivial) ?_ ?_
          · rintro i x Hc H' hi ⟨ex, hDl⟩ ⟨rfl, c, hc, rfl⟩
            have hc' : z.cps.toList[i]? = some c := by rw [Array.getElem?_toList]; exact hc
            refine ⟨rfl, _, rfl, c, abc, rfl, rfl, _, hDl, sz_lt (by
              rw [List.length_map, List.length_map, List.length_take]
              rw [len_tl] at h2'
              omega), Ex.mut ex hD, ?_⟩
            rw [upd_same, take_suc hc', List.map_append, List.map_append]
            rfl
          · rintro Hc ⟨ex, hDl⟩
            have et : z.cps.toList.take z.cps.size = z.cps.toList := List.take_of_length_le (by simp)
            rw [et] at hDl
            refine ⟨Dl, _, rfl, .inl (.inl hDl), ?_⟩
            have q := k Hc ex
            rw [e] at q
            rw [List.all_map]
            exact q
        · have h2' : ¬ z.length ≤ 8 := fun q => h2 (decide_eq_true (by omega))
          rw [decide_eq_false h2', Bool.false_and] at e
          have q := k H (Ex.refl H)
          rw [e] at q
          exact q
      · have h1' : ¬ 1 ≤ z.length := fun q => h1 (decide_eq_true (by omega))
        rw [decide_eq_false h1', Bool.false_and] at e
        have q := k H (Ex.refl H)
        rw [e] at q
        exact ⟨_, rfl, iteF q⟩
    · refine ⟨_, rfl, v, .ty "str", _, _, false, rfl, .ty "str", ht, kit_ty hk, false, rfl, iteF ?_⟩
      have q := k H (Ex.refl H)
      rw [isN_not hn] at q
      exact q
end
end K01

namespace K01
open PySem PySem.Spec PyProof.Rows L2 Evl LT
/-! ### the law's own is_name -/
abbrev sLIsName : Stmt := top 17
abbrev NLIsName : List Str := ["_law_value", "_law_letter"]
theorem scLIsName : FnScope NLIsName ["_law_value"] (defScope sLIsName) := ⟨rfl, rfl, rfl, by decide +kernel, rfl, by decide +kernel, by decide +kernel⟩
def one (c : Nat) : Str := ⟨#[c]⟩
def notAbc (cs : List Nat) : List Nat := cs.filter fun c => !decide (c ∈ abc.cps.toList)
theorem notAbc_nil (cs : List Nat) : ((notAbc cs).map fun c => PyData.str (one c)).isEmpty = cs.all fun c => decide (c ∈ abc.cps.toList) := by
  induction cs with
  | nil => rfl
  | cons c r ih =>
    unfold notAbc at ih ⊢
    rw [List.filter_cons, List.all_cons]
    by_cases h : c ∈ abc.cps.toList
    · rw [decide_eq_true h, Bool.true_and, ← ih]
      rfl
    · rw [decide_eq_false h, Bool.false_and]
      rfl
section
variable {P : Program} {w : World} {K : PySem.W.Frag} {mg : Str → Option Value} {base : Heap}
theorem ok_lisname {f : Addr} {fd : FuncData} (F : Fun K "_law_is_name" "_law_is_name" sLIsName f fd) (mi : mg "isinstance" = none) (ms : mg "str" = none) (ml : mg "len" = none) :
    FnOk P w K mg base CX0 1 f fd ["_law_value"] (spIsName K) := by
  refine F.ok scLIsName (fun vs H Q E h => ?_) (fun cdv A outer s H vs Q E hr h => ?_)
  · obtain ⟨v, rfl, _⟩ := h
    rfl
  · obtain ⟨v, rfl, hv, k⟩ := h
    refine ⟨_, (pss_cons (ps_if (PW.pt (pw_or (pt_not (pt_val (pe_callB call_isi (by rfl) mi (by decide +kernel) (pa_cons (pv 0) (pa_cons (pe_bltn (v := .ty "str") (by rfl) ms (by decide +kernel) rfl) pa_nil))))) (pw_or1 (pt_not (pt_chain op_le op_le pe_int (pe_callB call_len (by rfl) ml PySem.boot_len (pa_cons (pv 0) pa_nil)) pe_int))))) (pss_one (ps_ret pe_bl)) pss_nil)
      (pss_one (ps_ret (pe_cmpR (op_eqD hr.units) (pe_lc (own := [("_law_letter", 1)]) (g := (gName 1)) rfl scLIsName.nd (pi_str (pv 0)) (blkOk_by (N := NLIsName) (sc := defScope sLIsName) (by decide +kernel)) (fun _ _ _ _ _ => (pg_name (i := 1) scLIsName.nd rfl (.inl rfl))) (fun _ _ _ _ _ => (pts_one (pt_cmpR op_notIn_sign (pv 1) pe_str (by rfl)))) (fun _ _ _ _ _ => (pv 1))) (pe_lst pa_nil) (nomark _))))), ?_⟩
    rcases hv with ⟨z, rfl, hz, hok⟩ | ⟨hn, t, ht, hk⟩
    · have e : isN (.str z) = (decide (1 ≤ z.length) && (decide (z.length ≤ 8) && z.cps.toList.all fun c => decide (c ∈ abc.cps.toList))) := rfl
      have no : isN (.str z) = false → Q (.bl false) H := fun q => by have := k H (Ex.refl H); rw [q] at this; exact this
      refine ⟨_, rfl, .str z, .ty "str", _, _, true, rfl, .ty "str", .base (.str z), kit_ty (by decide +kernel), true, rfl, ?_⟩
      refine ⟨_, rfl, .str z, z.length, rfl, ⟨sz_of (by omega), rfl⟩, _, _, rfl, rfl, _, rfl, ?_⟩
      refine ite2 (fun h1 => ?_) (fun h1 => ?_)
      · have h1' : 1 ≤ z.length := by have := of_decide_eq_true h1; omega
        refine ⟨_, _, rfl, rfl, _, rfl, ?_⟩
        show if (!decide ((z.length : Int) ≤ 8)) = true then _ else _
        refine ite2 (fun h2 => ?_) (fun h2 => ?_)
        · have h2' : ¬ z.length ≤ 8 := fun q => by rw [decide_eq_true (show (z.length : Int) ≤ 8 by omega)] at h2; cases h2
          exact no (by rw [e, decide_eq_false h2', Bool.false_and, Bool.and_false])
        · have h2' : z.length ≤ 8 := by
            by_cases q : z.length ≤ 8
            · exact q
            · exact absurd (by rw [decide_eq_false (show ¬ (z.length : Int) ≤ 8 by omega)]; rfl) h2
          refine ⟨_, rfl, z, rfl, fun Dl hD => ?_⟩
          refine lc_it walk_str (fun i Hc => Ex H Hc ∧ Hc Dl = some (.lst ((notAbc (z.cps.toList.take i)).map fun c => V.str (one c)))) ⟨Ex.new hD, upd_same⟩ (fun _ _ _ _ => trivial) ?_ ?_
          · rintro i x Hc H' hi ⟨ex, hDl⟩ ⟨rfl, c, hc, rfl⟩
            have hc' : z.cps.toList[i]? = some c := by rw [Array.getElem?_toList]; exact hc
            have hcut : notAbc (z.cps.toList.take (i + 1)) = notAbc (z.cps.toList.take i) ++ notAbc [c] := by rw [take_suc hc']; unfold notAbc; rw [List.filter_append]
            refine ⟨rfl, _, rfl, c, abc, rfl, rfl, _, rfl, ite2 (fun hb => ?_) (fun hb => ?_)⟩
            · have h3 : notAbc [c] = [c] := by unfold notAbc; rw [List.filter_cons, if_pos hb]; rfl
              refine ⟨_, rfl, _, hDl, sz_lt ?_, Ex.mut ex hD, ?_⟩
              · rw [List.length_map]
                have := List.length_filter_le (fun c => !decide (c ∈ abc.cps.toList)) (z.cps.toList.take i)
                rw [List.length_take] at this
                unfold notAbc
                rw [len_tl] at h2'
                omega
              · rw [upd_same, hcut, h3, List.map_append]
                rfl
            · have h3 : notAbc [c] = [] := by unfold notAbc; rw [List.filter_cons, if_neg hb]; rfl
              exact ⟨ex, by rw [hcut, h3, List.append_nil]; exact hDl⟩
          · rintro Hc ⟨ex, hDl⟩
            have et : z.cps.toList.take z.cps.size = z.cps.toList := List.take_of_length_le (by simp)
            rw [et] at hDl
            refine ⟨Nat.zero_le _, fun q hq => ?_⟩
            have xq : Ex Hc (upd Hc q (.lst [])) := Ex.new hq
            have hDl2 := xq _ _ hDl
            have hmm : ((notAbc z.cps.toList).map fun c => V.str (one c)) = ((notAbc z.cps.toList).map one).map V.str := by rw [List.map_map]; rfl
            have hmp : ((notAbc z.cps.toList).map fun c => PyData.str (one c)) = ((notAbc z.cps.toList).map one).map PyData.str := by rw [List.map_map]; rfl
            rw [hmm] at hDl2
            refine ⟨_, _, .lst (.inl (.inl hDl2)) (dp_strs _), .lst (.inl (.inl upd_same)) .nil, shaped_strs _ ?_, shaped_ints [], ?_⟩
            · intro n hn
              obtain ⟨c, hc, rfl⟩ := List.mem_map.mp hn
              have hcz : c ∈ z.cps.toList := (List.mem_filter.mp hc).1
              have hall : z.cps.all (fun x => decide (x < 0x110000)) = true := hok
              rw [← Array.all_toList, List.all_eq_true] at hall
              show (#[c] : Array Nat).all (fun x => decide (x < 0x110000)) = true
              rw [← Array.all_toList]
              show (decide (c < 0x110000) && true) = true
              rw [Bool.and_true]
              exact hall c hcz
            · rw [eqv_nil, ← hmp, notAbc_nil]
              have q := k _ (ex.trans xq)
              rw [e, decide_eq_true h1', decide_eq_true h2', Bool.true_and, Bool.true_and] at q
              exact q
      · have h1' : ¬ 1 ≤ z.length := fun q => h1 (decide_eq_true (by omega))
        exact ⟨_, rfl, no (by rw [e, decide_eq_false h1', Bool.false_and])⟩
    · refine ⟨_, rfl, v, .ty "str", _, _, false, rfl, .ty "str", ht, kit_ty hk, false, rfl, ?_⟩
      have q := k H (Ex.refl H)
      rw [isN_not hn] at q
      exact q
end
end K01

namespace K01
open PySem PySem.Spec PyProof.Rows L2 Evl LT
/-! ### the law -/
abbrev sLaw : Stmt := top 18
abbrev NLaw : List Str := ["_law_script", "_law_pen_here", "_law_some", "_law_bout", "_law_name", "_law_value"]
theorem scLaw : FnScope NLaw ["_law_script"] (defScope sLaw) := ⟨rfl, rfl, rfl, by decide +kernel, rfl, by decide +kernel, by decide +kernel⟩
def spLaw (K : PySem.W.Frag) : Sp := fun vs H Q _ => ∃ (a : Addr) (ns : List Int), vs = [.ref a] ∧ SqL K H a (ns.map V.int) ∧ ns.length ≤ 63 ∧ ∀ H', Q (.bl true) H'
def eight : List Int := [16, 16, 12, 7, 6, 5, 10, 4]
theorem eight_shown : PyData.shown (.list (eight.map PyData.int)) = ("[16, 16, 12, 7, 6, 5, 10, 4]" : Str) := by decide +kernel
theorem a_good : Good "a" := ⟨by decide +kernel, by decide +kernel⟩
theorem b_good : Good " " := ⟨by decide +kernel, by decide +kernel⟩
theorem o_good : Good "1" := ⟨by decide +kernel, by decide +kernel⟩
theorem z9_good : Good (Txt.mul "z" 9) := ⟨by decide +kernel, by decide +kernel⟩
theorem z8_good : Good (Txt.mul "z" 8) := ⟨by decide +kernel, by decide +kernel⟩
theorem z9_ok : PySem.MulOk "z" 9 := ⟨by decide +kernel, fun _ _ => by decide +kernel, fun _ _ => by decide +kernel⟩
theorem z8_ok : PySem.MulOk "z" 8 := ⟨by decide +kernel, fun _ _ => by decide +kernel, fun _ _ => by decide +kernel⟩
theorem odd_short : ∀ d ∈ oddL, d.short = true := by
  intro d hd
  unfold oddL odd1 odd2 at hd
  simp only [List.cons_append, List.nil_append, List.mem_cons, List.not_mem_nil, or_false] at hd
  rcases hd with rfl | rfl | rfl | rfl | rfl | rfl | rfl | rfl | rfl | rfl | rfl | rfl | rfl | rfl | rfl | rfl | rfl | rfl | rfl | rfl | rfl | rfl | rfl | rfl | rfl | rfl | rfl <;> first | rfl | decide +kernel
section
variable {P : Program} {w : World} {K : PySem.W.Frag} {mg : Str → Option Value} {base : Heap}
structure Txt0 (mg : Str → Option Value) : Prop where
  repr : mg "repr" = none
  range : mg "range" = none
  c1 : ∃ t, mg "GUESTS" = some (.int 16 t)
  c2 : ∃ t, mg "GIFTS" = some (.int 16 t)
  c3 : ∃ t, mg "COUNTED" = some (.int 12 t)
  c4 : ∃ t, mg "LISTED" = some (.int 7 t)
  c5 : ∃ t, mg "ARRIVALS" = some (.int 6 t)
  c6 : ∃ t, mg "HOUSE" = some (.int 5 t)
  c7 : ∃ t, mg "LOGGED" = some (.int 10 t)
  c8 : ∃ t, mg "PLANNED" = some (.int 4 t)
theorem ok_law {f : Addr} {fd : FuncData} (F : Fun K "law" "law" sLaw f fd) (T : Txt0 mg) (cpen : Cal P w K mg base 1 "_law_pen" ["_law_script"] (spPen K)) (cp : Cal P w K mg base 2 "_law_pick" ["_law_pen_here", "_law_some"] (spPick K))
    (cn : Cal P w K mg base 3 "_law_names" ["_law_pen_here", "_law_many"] (spNames K)) (co : Cal P w K mg base 3 "_law_odd" ["_law_pen_here"] (spOdd K)) (ci : Cal P w K mg base 1 "is_name" ["value"] (spIsName K)) (cl : Cal P w K mg base 1 "_law_is_name" ["_law_value"] (spIsName K)) :
    FnG P w K mg base 4 f fd ["_law_script"] (spLaw K) := by
  obtain ⟨fE, fdE, GE, gE, kE, bE⟩ := cpen.ex
  obtain ⟨fP, fdP, GP, gP, kP, bP⟩ := cp.ex
  obtain ⟨fN, fdN, GN, gN, kN, bN⟩ := cn.ex
  obtain ⟨fO, fdO, GO, gO, kO, bO⟩ := co.ex
  obtain ⟨fI, fdI, GI, gI, kI, bI⟩ := ci.ex
  obtain ⟨fL, fdL, GL, gL, kL, bL⟩ := cl.ex
  obtain ⟨mrepr, mrange, ⟨t1, c1⟩, ⟨t2, c2⟩, ⟨t3, c3⟩, ⟨t4, c4⟩, ⟨t5, c5⟩, ⟨t6, c6⟩, ⟨t7, c7⟩, ⟨t8, c8⟩⟩ := T
  refine okG F scLaw (fun vs H Q E h => ?_) (fun cdv A outer s H vs Q E hgd hr h => ?_)
  · obtain ⟨a, ns, rfl, _⟩ := h
    rfl
  · obtain ⟨a, ns, rfl, hs, hl, k⟩ := h
    have hr1 : Room 1 _ := hr.mono (by decide)
    have hr2 : Room 2 _ := hr.mono (by decide)
    refine ⟨_, (pss_cons (ps_set (i := 1) scLaw.nd rfl (.inl rfl) (pe_call GE hr1 rfl gE kE bE .nil pass0 (pa_cons (pv 0) pa_nil)))
      (pss_cons (ps_set (i := 2) scLaw.nd rfl (.inl rfl) (pe_lst (pa_cons (pe_glob (v := .int 16) rfl c1 ⟨_, rfl⟩) (pa_cons (pe_glob (v := .int 16) rfl c2 ⟨_, rfl⟩) (pa_cons (pe_glob (v := .int 12) rfl c3 ⟨_, rfl⟩) (pa_cons (pe_glob (v := .int 7) rfl c4 ⟨_, rfl⟩) (pa_cons (pe_glob (v := .int 6) rfl c5 ⟨_, rfl⟩) (pa_cons (pe_glob (v := .int 5) rfl c6 ⟨_, rfl⟩) (pa_cons (pe_glob (v := .int 10) rfl c7 ⟨_, rfl⟩) (pa_cons (pe_glob (v := .int 4) rfl c8 ⟨_, rfl⟩) pa_nil))))))))))
      (pss_cons (ps_if (pt_cmpR op_ne (pe_callB (cr_reprD hgd (room70 hr)) (by rfl) mrepr (by decide +kernel) (pa_cons (pv 2) pa_nil)) pe_str (nomark _)) (pss_one (ps_ret pe_bl)) pss_nil)
      (pss_cons (ps_for PassesOwn.never rfl (pi_range1 rfl mrange (pa_cons pe_int pa_nil)) (pg_name (i := 3) scLaw.nd rfl (.inl rfl)) (pss_cons (ps_set (i := 4) scLaw.nd rfl (.inl rfl) (pe_call GP hr2 rfl gP kP bP .nil pass0 (pa_cons (pv 1) (pa_cons (pe_call GN hr rfl gN kN bN .nil pass0 (pa_cons (pv 1) (pa_cons pe_int pa_nil))) pa_nil))))
      (pss_cons (ps_set (i := 2) scLaw.nd rfl (.inl rfl) (pe_lst (pa_cons (pv 4) (pa_cons (pe_op op_add_str (pv 4) pe_str) (pa_cons (pe_slice sl_str (pv 4) po_none (po_some (pe_un un_neg pe_int))) (pa_cons (pe_upper (pv 4)) (pa_cons (pe_op op_add_str (pv 4) pe_str) (pa_cons (pe_op op_add_str pe_str (pv 4)) (pa_cons (pe_op op_add_str (pv 4) pe_str) (pa_cons (pe_op op_mulS pe_str pe_int) (pa_cons (pe_op op_mulS pe_str pe_int) pa_nil)))))))))))
      (pss_one (ps_for PassesOwn.never rfl (pi_tup (pe_tup (pa_cons (pe_call GP hr2 rfl gP kP bP .nil pass0 (pa_cons (pv 1) (pa_cons (pv 2) pa_nil))) (pa_cons (pe_call GO hr rfl gO kO bO .nil pass0 (pa_cons (pv 1) pa_nil)) pa_nil)))) (pg_name (i := 5) scLaw.nd rfl (.inl rfl)) (pss_one (ps_if (pt_cmpR op_ne (pe_callB cr_reprB (by rfl) mrepr (by decide +kernel) (pa_cons (pe_call GI hr1 rfl gI kI bI .nil pass0 (pa_cons (pv 5) pa_nil)) pa_nil)) (pe_callB cr_reprB (by rfl) mrepr (by decide +kernel) (pa_cons (pe_call GL hr1 rfl gL kL bL .nil pass0 (pa_cons (pv 5) pa_nil)) pa_nil)) (nomark _)) (pss_one (ps_ret pe_bl)) pss_nil)))))))
      (pss_one (ps_ret pe_bl)))))), ?_⟩
    refine ⟨_, rfl, a, ns, rfl, hs, hl, fun G H1 p ex W => ?_⟩
    refine ⟨by show 8 ≤ sizeLine; decide, fun L hL => ?_⟩
    have W1 : Wd K G (upd H1 L (.lst (eight.map V.int))) p 0 := W.new hL
    refine ⟨_, rfl, L, .list (eight.map PyData.int), rfl, .lst (.inl (.inl upd_same)) (dp_ints eight), by decide +kernel, by decide +kernel, by decide +kernel, by rw [eight_shown]; decide +kernel, rfl, _, rfl, ?_⟩
    rw [eight_shown]
    refine iteNS rfl ?_
    refine ⟨12, rfl, by decide, by decide, for_range (lo := 0) (n := 12) (fun i σ Hc => ∃ (G' : Hp) (o2 o3 o4 o5 : Option V), σ = [some (.ref a), some (.ref p), o2, o3, o4, o5] ∧ Wd K G' Hc p (i * 20)) ⟨G, _, _, _, _, rfl, W1.mono (by omega)⟩ ?_ ?_⟩
    · rintro i σ Hc hi ⟨G', o2, o3, o4, o5, rfl, Wc⟩
      refine ⟨_, rfl, _, rfl, G', p, 5, _, rfl, by decide, Wc, by omega, fun G1 H2 l xs T1 W2 h0 g0 hl' ⟨zs, exs, hz, nd, ok⟩ => ?_⟩
      subst exs
      refine ⟨G1, p, _, .ref l, rfl, W2, by omega, .inr ⟨l, _, rfl, .inl (.inl (.inl hl')), by rw [List.length_map]; omega, by rw [List.length_map]; omega, fun G2 H3 v T2 W3 hv => ?_⟩⟩
      obtain ⟨z, hzm, rfl⟩ := List.mem_map.mp hv
      have hok := ok z hzm
      have hg := hok.good
      have h8 := hok.2.1
      have hsz : z.length ≤ sizeLine := sz_of (by omega)
      refine ⟨_, rfl, _, rfl, _, _, rfl, rfl, sz_of (by show _ + 1 ≤ _; omega), _, rfl, _, rfl, _, rfl, z, rfl, hsz, _, rfl, ⟨_, rfl⟩, z, rfl, rfl, by omega, _, rfl, _, _, rfl, rfl, sz_of (by show _ + 1 ≤ _; omega), _, rfl, _, _, rfl, rfl, sz_of (by show 1 + _ ≤ _; omega), _, rfl, _, _, rfl, rfl, sz_of (by show _ + 1 ≤ _; omega), "z", 9, rfl, rfl, z9_ok, "z", 8, rfl, rfl, z8_ok, ?_⟩
      refine ⟨by show 9 ≤ sizeLine; decide, fun S hS => ?_⟩
      -- pick(pen, some), odd(pen)
      have hSp : S ≠ p := (ne_of_none W3.pen.choose_spec.choose_spec.choose_spec.choose_spec.1 hS).symm
      refine ⟨_, rfl, _, rfl, G2, p, _, .ref S, rfl, W3.new hS, by omega,   .inr ⟨S, _, rfl, .inl (.inl (.inl upd_same)), Nat.succ_pos _, (by show 9 ≤ 100000; decide), fun G3 H4 v1 T3 W4 hv1 => ?_⟩⟩
      have good1 : ∃ y, v1 = .str y ∧ Good y := by
        simp only [List.mem_cons, List.not_mem_nil, or_false] at hv1
        rcases hv1 with rfl | rfl | rfl | rfl | rfl | rfl | rfl | rfl | rfl
        · exact ⟨_, rfl, hg⟩
        · exact ⟨_, rfl, hg.app a_good (by show _ + 1 ≤ _; omega)⟩
        · exact ⟨_, rfl, hg.cut _ _⟩
        · exact ⟨_, rfl, hok.upper⟩
        · exact ⟨_, rfl, hg.app b_good (by show _ + 1 ≤ _; omega)⟩
        · exact ⟨_, rfl, b_good.app hg (by show 1 + _ ≤ _; omega)⟩
        · exact ⟨_, rfl, hg.app o_good (by show _ + 1 ≤ _; omega)⟩
        · exact ⟨_, rfl, z9_good⟩
        · exact ⟨_, rfl, z8_good⟩
      obtain ⟨y, rfl, hy⟩ := good1
      refine ⟨_, rfl, G3, p, _, rfl, W4, by omega, fun G4 H5 v2 T4 W5 ⟨d, hd, hden⟩ => ?_⟩
      refine ⟨by show 2 ≤ sizeLine; decide, fun t ht => ?_⟩
      have W6 : Wd K G4 (upd H5 t (.tup [.str y, v2])) p ((i + 1) * 20) := (W5.new ht).mono (by omega)
      have any2 : ∀ Hx, Ex (upd H5 t (.tup [.str y, v2])) Hx → ∀ v, v = .str y ∨ v = v2 → AnyV K Hx v := by
        rintro Hx e v (rfl | rfl)
        · exact .inl ⟨y, rfl, hy.1, hy.2⟩
        · exact hden.any (odd_short d hd) (W6.ex.trans e)
      have tup0 : (upd H5 t (.tup [.str y, v2])) t = some (.tup [.str y, v2]) := upd_same
      generalize upd H5 t (.tup [.str y, v2]) = H6 at W6 any2 tup0 ⊢
      refine ⟨t, rfl, ⟨_, .inl (.inl tup0)⟩, for_tup (K := K) (xs := [.str y, v2]) (fun _ σ Hx => ∃ o2 o5 : Option V, σ = [some (.ref a), some (.ref p), o2, some (.int (0 + (i : Int))), some (.str z), o5] ∧ Ex H6 Hx)
        ⟨_, _, rfl, Ex.refl _⟩ (fun _ _ Hx _ ⟨_, _, _, e⟩ => .inl (.inl (e _ _ tup0))) ?_ ?_⟩
      · rintro j v σ Hx hj ⟨o2', o5', rfl, e⟩
        have hv : v = .str y ∨ v = v2 := by
          have := List.mem_of_getElem? hj
          simp only [List.mem_cons, List.not_mem_nil, or_false] at this
          exact this
        refine ⟨_, rfl, v, rfl, any2 Hx e v hv, fun H7 e7 => ⟨_, rfl, _, rfl, v, rfl, any2 H7 (e.trans e7) v hv, fun H8 e8 => ⟨_, rfl, rfl, _, rfl, iteNS rfl ?_⟩⟩⟩
        exact ⟨_, _, rfl, (e.trans e7).trans e8⟩
      · rintro σ Hx ⟨o2', o5', rfl, e⟩
        exact ⟨G4, _, _, _, _, rfl, W6.ext e⟩
    · rintro σ Hc ⟨G', o2, o3, o4, o5, rfl, Wc⟩
      exact k Hc
end
end K01

namespace K01
open PySem PySem.Spec PyProof.Rows L2 Evl LT
theorem all_mk {l : PySem.W.OpenLaw} {w : World} {K : PySem.W.Frag} {h : Heap} {mg : Str → Option Value} {fa : Addr} (X : K.In h) (G : h.Ns mainGlobals mg) (hfa : mg "law" = some (.ref fa))
    {f0 f1 f2 f3 f4 f5 f6 f7 : Addr} {od0 an0 od1 an1 od2 an2 od3 an3 od4 an4 od5 an5 od6 an6 od7 an7 : Option Addr} {sl0 sl1 sl2 sl3 sl4 sl5 sl6 sl7 : Array (Option Value)} {oc0 kV0 dc0 pm0 cd0 ct0 oc1 kV1 dc1 pm1 cd1 ct1 oc2 kV2 dc2 pm2 cd2 ct2 oc3 kV3 dc3 pm3 cd3 ct3 oc4 kV4 dc4 pm4 cd4 ct4 oc5 kV5 dc5 pm5 cd5 ct5 oc6 kV6 dc6 pm6 cd6 ct6 oc7 kV7 dc7 pm7 cd7 ct7 : Value}
    {tk0 tk1 tk2 tk3 tk4 tk5 tk6 tk7 tk8 : Tok}
    (a0 : PySem.W.nsIn K mainGlobals "_law_pen" = some (some (.ref f0))) (l0 : K.lookup f0 = some ⟨oc0, od0, .func (PySem.W.fnOf "_law_pen" "_law_pen" (defArgs sLPen) (defBody sLPen) (defScope sLPen) .none kV0 dc0 pm0 an0 cd0 ct0), sl0⟩) (c0 : PySem.W.codeIn K cd0 "_law_pen" = true) (k0 : PySem.W.keepIn K (.ref f0) = true)
    (a1 : PySem.W.nsIn K mainGlobals "_law_draw" = some (some (.ref f1))) (l1 : K.lookup f1 = some ⟨oc1, od1, .func (PySem.W.fnOf "_law_draw" "_law_draw" (defArgs sLDraw) (defBody sLDraw) (defScope sLDraw) .none kV1 dc1 pm1 an1 cd1 ct1), sl1⟩) (c1 : PySem.W.codeIn K cd1 "_law_draw" = true) (k1 : PySem.W.keepIn K (.ref f1) = true)
    (a2 : PySem.W.nsIn K mainGlobals "_law_pick" = some (some (.ref f2))) (l2 : K.lookup f2 = some ⟨oc2, od2, .func (PySem.W.fnOf "_law_pick" "_law_pick" (defArgs sLPick) (defBody sLPick) (defScope sLPick) .none kV2 dc2 pm2 an2 cd2 ct2), sl2⟩) (c2 : PySem.W.codeIn K cd2 "_law_pick" = true) (k2 : PySem.W.keepIn K (.ref f2) = true)
    (a3 : PySem.W.nsIn K mainGlobals "_law_names" = some (some (.ref f3))) (l3 : K.lookup f3 = some ⟨oc3, od3, .func (PySem.W.fnOf "_law_names" "_law_names" (defArgs sLNames) (defBody sLNames) (defScope sLNames) .none kV3 dc3 pm3 an3 cd3 ct3), sl3⟩) (c3 : PySem.W.codeIn K cd3 "_law_names" = true) (k3 : PySem.W.keepIn K (.ref f3) = true)
    (a4 : PySem.W.nsIn K mainGlobals "_law_odd" = some (some (.ref f4))) (l4 : K.lookup f4 = some ⟨oc4, od4, .func (PySem.W.fnOf "_law_odd" "_law_odd" (defArgs sLOdd) (defBody sLOdd) (defScope sLOdd) .none kV4 dc4 pm4 an4 cd4 ct4), sl4⟩) (c4 : PySem.W.codeIn K cd4 "_law_odd" = true) (k4 : PySem.W.keepIn K (.ref f4) = true)
    (a5 : PySem.W.nsIn K mainGlobals "is_name" = some (some (.ref f5))) (l5 : K.lookup f5 = some ⟨oc5, od5, .func (PySem.W.fnOf "is_name" "is_name" (defArgs sIsName) (defBody sIsName) (defScope sIsName) .none kV5 dc5 pm5 an5 cd5 ct5), sl5⟩) (c5 : PySem.W.codeIn K cd5 "is_name" = true) (k5 : PySem.W.keepIn K (.ref f5) = true)
    (a6 : PySem.W.nsIn K mainGlobals "_law_is_name" = some (some (.ref f6))) (l6 : K.lookup f6 = some ⟨oc6, od6, .func (PySem.W.fnOf "_law_is_name" "_law_is_name" (defArgs sLIsName) (defBody sLIsName) (defScope sLIsName) .none kV6 dc6 pm6 an6 cd6 ct6), sl6⟩) (c6 : PySem.W.codeIn K cd6 "_law_is_name" = true) (k6 : PySem.W.keepIn K (.ref f6) = true)
    (a7 : PySem.W.nsIn K mainGlobals "law" = some (some (.ref f7))) (l7 : K.lookup f7 = some ⟨oc7, od7, .func (PySem.W.fnOf "law" "law" (defArgs sLaw) (defBody sLaw) (defScope sLaw) .none kV7 dc7 pm7 an7 cd7 ct7), sl7⟩) (c7 : PySem.W.codeIn K cd7 "law" = true) (k7 : PySem.W.keepIn K (.ref f7) = true)
    (z_list : PySem.W.nsIn K mainGlobals "list" = some none)
    (z_len : PySem.W.nsIn K mainGlobals "len" = some none)
    (z_abs : PySem.W.nsIn K mainGlobals "abs" = some none)
    (z_range : PySem.W.nsIn K mainGlobals "range" = some none)
    (z_isinstance : PySem.W.nsIn K mainGlobals "isinstance" = some none)
    (z_str : PySem.W.nsIn K mainGlobals "str" = some none)
    (z_all : PySem.W.nsIn K mainGlobals "all" = some none)
    (z_repr : PySem.W.nsIn K mainGlobals "repr" = some none)
    (q0 : PySem.W.nsIn K mainGlobals "GUESTS" = some (some (.int 16 tk0)))
    (q1 : PySem.W.nsIn K mainGlobals "GIFTS" = some (some (.int 16 tk1)))
    (q2 : PySem.W.nsIn K mainGlobals "COUNTED" = some (some (.int 12 tk2)))
    (q3 : PySem.W.nsIn K mainGlobals "LISTED" = some (some (.int 7 tk3)))
    (q4 : PySem.W.nsIn K mainGlobals "ARRIVALS" = some (some (.int 6 tk4)))
    (q5 : PySem.W.nsIn K mainGlobals "HOUSE" = some (some (.int 5 tk5)))
    (q6 : PySem.W.nsIn K mainGlobals "LOGGED" = some (some (.int 10 tk6)))
    (q7 : PySem.W.nsIn K mainGlobals "PLANNED" = some (some (.int 4 tk7)))
    (q8 : PySem.W.nsIn K mainGlobals "LETTERS" = some (some (.str abc tk8)))
    : ∃ fd : FuncData, (∀ (s : Shared) (v : Value), BindsTo s fd ⟨[v], []⟩ [("_law_script", v)]) ∧ ∀ base : Heap, K.In base → base.Ns mainGlobals mg → FnG l.prog w K mg base 4 fa fd ["_law_script"] (spLaw K) := by
  have e := hfa.symm.trans (PySem.W.mg_of X G a7)
  cases e
  have F0 := fun_mk (st := sLPen) l0 c0 k0
  have b0 := F0.binds (ps := ["_law_script"]) fun _ _ _ _ _ _ us hl => match us, hl with | [_], _ => rfl
  have g0 := PySem.W.mg_of X G a0
  have F1 := fun_mk (st := sLDraw) l1 c1 k1
  have b1 := F1.binds (ps := ["_law_pen_here", "_law_many"]) fun _ _ _ _ _ _ us hl => match us, hl with | [_, _], _ => rfl
  have g1 := PySem.W.mg_of X G a1
  have F2 := fun_mk (st := sLPick) l2 c2 k2
  have b2 := F2.binds (ps := ["_law_pen_here", "_law_some"]) fun _ _ _ _ _ _ us hl => match us, hl with | [_, _], _ => rfl
  have g2 := PySem.W.mg_of X G a2
  have F3 := fun_mk (st := sLNames) l3 c3 k3
  have b3 := F3.binds (ps := ["_law_pen_here", "_law_many"]) fun _ _ _ _ _ _ us hl => match us, hl with | [_, _], _ => rfl
  have g3 := PySem.W.mg_of X G a3
  have F4 := fun_mk (st := sLOdd) l4 c4 k4
  have b4 := F4.binds (ps := ["_law_pen_here"]) fun _ _ _ _ _ _ us hl => match us, hl with | [_], _ => rfl
  have g4 := PySem.W.mg_of X G a4
  have F5 := fun_mk (st := sIsName) l5 c5 k5
  have b5 := F5.binds (ps := ["value"]) fun _ _ _ _ _ _ us hl => match us, hl with | [_], _ => rfl
  have g5 := PySem.W.mg_of X G a5
  have F6 := fun_mk (st := sLIsName) l6 c6 k6
  have b6 := F6.binds (ps := ["_law_value"]) fun _ _ _ _ _ _ us hl => match us, hl with | [_], _ => rfl
  have g6 := PySem.W.mg_of X G a6
  have F7 := fun_mk (st := sLaw) l7 c7 k7
  have n_list := PySem.W.mg_none_of X G z_list
  have n_len := PySem.W.mg_none_of X G z_len
  have n_abs := PySem.W.mg_none_of X G z_abs
  have n_range := PySem.W.mg_none_of X G z_range
  have n_isinstance := PySem.W.mg_none_of X G z_isinstance
  have n_str := PySem.W.mg_none_of X G z_str
  have n_all := PySem.W.mg_none_of X G z_all
  have n_repr := PySem.W.mg_none_of X G z_repr
  have v0 := PySem.W.mg_of X G q0
  have v1 := PySem.W.mg_of X G q1
  have v2 := PySem.W.mg_of X G q2
  have v3 := PySem.W.mg_of X G q3
  have v4 := PySem.W.mg_of X G q4
  have v5 := PySem.W.mg_of X G q5
  have v6 := PySem.W.mg_of X G q6
  have v7 := PySem.W.mg_of X G q7
  have v8 := PySem.W.mg_of X G q8
  refine ⟨PySem.W.fnOf "law" "law" (defArgs sLaw) (defBody sLaw) (defScope sLaw) .none kV7 dc7 pm7 an7 cd7 ct7, fun s v => .of_eq rfl, fun base _ _ => ?_⟩
  have cpen : Cal l.prog w K mg base 1 "_law_pen" ["_law_script"] (spPen K) := ⟨_, _, ok_pen F0 n_list, g0, k0, b0⟩
  have cd : Cal l.prog w K mg base 1 "_law_draw" ["_law_pen_here", "_law_many"] (spDraw K) := ⟨_, _, ok_draw F1 n_len n_abs, g1, k1, b1⟩
  have cp : Cal l.prog w K mg base 2 "_law_pick" ["_law_pen_here", "_law_some"] (spPick K) := ⟨_, _, ok_pick F2 n_len cd, g2, k2, b2⟩
  have cn : Cal l.prog w K mg base 3 "_law_names" ["_law_pen_here", "_law_many"] (spNames K) := ⟨_, _, ok_names F3 n_len n_range cd cp, g3, k3, b3⟩
  have co : Cal l.prog w K mg base 3 "_law_odd" ["_law_pen_here"] (spOdd K) := ⟨_, _, ok_odd F4 cp, g4, k4, b4⟩
  have ci : Cal l.prog w K mg base 1 "is_name" ["value"] (spIsName K) := ⟨_, _, ok_isname F5 n_isinstance n_str n_len n_all ⟨_, v8⟩, g5, k5, b5⟩
  have cl : Cal l.prog w K mg base 1 "_law_is_name" ["_law_value"] (spIsName K) := ⟨_, _, ok_lisname F6 n_isinstance n_str n_len, g6, k6, b6⟩
  exact ok_law F7 ⟨n_repr, n_range, ⟨_, v0⟩, ⟨_, v1⟩, ⟨_, v2⟩, ⟨_, v3⟩, ⟨_, v4⟩, ⟨_, v5⟩, ⟨_, v6⟩, ⟨_, v7⟩⟩ cpen cp cn co ci cl
end K01

open PySem PySem.W PyProof.Rows in
set_option maxRecDepth 100000 in
set_option maxHeartbeats 0 in
theorem PySem.Challenge.cw_lastturn_k01_names_and_constants_holds : PySem.Challenge.rw_lastturn_k01_names_and_constants.Holds := by
  w_on; o_law; k_head; (case hw => w_witness2)
  k_fill
  refine LT.walkG (l := PySem.Challenge.rw_lastturn_k01_names_and_constants) (n := 63) (k := 4) (x := "_law_script") (sp := fun w => K01.spLaw _) rfl (by decide) rfl ⟨rfl, by decide, by decide⟩ (fun w h Y => PySem.W.kIn_of Y) ?F (fun w H a ns hl hS => ⟨a, ns, rfl, hS, hl, fun _ => rfl⟩)
  case F =>
    intro w mg fa h KX G hmg
    refine' K01.all_mk KX G hmg ?a0 ?l0 ?c0 ?k0 ?a1 ?l1 ?c1 ?k1 ?a2 ?l2 ?c2 ?k2 ?a3 ?l3 ?c3 ?k3 ?a4 ?l4 ?c4 ?k4 ?a5 ?l5 ?c5 ?k5 ?a6 ?l6 ?c6 ?k6 ?a7 ?l7 ?c7 ?k7 ?z_list ?z_len ?z_abs ?z_range ?z_isinstance ?z_str ?z_all ?z_repr ?q0 ?q1 ?q2 ?q3 ?q4 ?q5 ?q6 ?q7 ?q8
    (case a0 => k_is)
    (case l0 => k_is)
    (case c0 => k_is)
    (case k0 => k_is)
    (case a1 => k_is)
    (case l1 => k_is)
    (case c1 => k_is)
    (case k1 => k_is)
    (case a2 => k_is)
    (case l2 => k_is)
    (case c2 => k_is)
    (case k2 => k_is)
    (case a3 => k_is)
    (case l3 => k_is)
    (case c3 => k_is)
    (case k3 => k_is)
    (case a4 => k_is)
    (case l4 => k_is)
    (case c4 => k_is)
    (case k4 => k_is)
    (case a5 => k_is)
    (case l5 => k_is)
    (case c5 => k_is)
    (case k5 => k_is)
    (case a6 => k_is)
    (case l6 => k_is)
    (case c6 => k_is)
    (case k6 => k_is)
    (case a7 => k_is)
    (case l7 => k_is)
    (case c7 => k_is)
    (case k7 => k_is)
    (case z_list => k_is)
    (case z_len => k_is)
    (case z_abs => k_is)
    (case z_range => k_is)
    (case z_isinstance => k_is)
    (case z_str => k_is)
    (case z_all => k_is)
    (case z_repr => k_is)
    (case q0 => k_is)
    (case q1 => k_is)
    (case q2 => k_is)
    (case q3 => k_is)
    (case q4 => k_is)
    (case q5 => k_is)
    (case q6 => k_is)
    (case q7 => k_is)
    (case q8 => k_is)

