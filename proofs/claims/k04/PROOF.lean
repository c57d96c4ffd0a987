import PyProof.Rows.All
import Wide.All
import OpenK.AllK
import Wide.FinOn
import HandS.ForMost
import HandS.Evl
import HandS.IsInst
import HandS.Deep
import HandS.Walk
import HandS.Steps
import PyProof.RowDictHeap
import PyProof.ReprText
import PyProof.StrLawsRepr
import HandS.RaiseMore
import PyProof.EqKinds
import KE.KEqDict
import HandS.DictComp
import HandS.Exc
import HandS.ExcOwn
import HandS.Small
import HandS.WordsExc
import HandS.SetFor
import HandS.Strs
import KE.DataFind
import PyProof.Rows.JoinGen
import HandS.TupAny
import HandS.Sort
import HandS.ListItems
import KE.KDictCopyH
import KE.KDictList
import PyProof.Rows.SetFrom
import HandS.Style
import HandS.More
import HandS.WordsDict
import HandS.ExcIs
import HandS.Finally
import PySem.Challenge.RW_lastturn_k04_choosing_down_rows
set_option Elab.async false
set_option linter.all false
set_option maxRecDepth 100000
set_option maxHeartbeats 2000000
namespace LT
open PySem PySem.Spec PyProof.Rows L2 Evl
/-! ### the pen -/
def penK (c : Addr) (s m : Int) : List (Key × V) := [(.inr "cells", .ref c), (.inr "spot", .int s), (.inr "more", .int m)]
theorem n_cs : ¬ (Sum.inr ("cells" : Str) : Key) = Sum.inr ("spot" : Str) := by decide +kernel
theorem n_cm : ¬ (Sum.inr ("cells" : Str) : Key) = Sum.inr ("more" : Str) := by decide +kernel
theorem n_sm : ¬ (Sum.inr ("spot" : Str) : Key) = Sum.inr ("more" : Str) := by decide +kernel
theorem n_ms : ¬ (Sum.inr ("more" : Str) : Key) = Sum.inr ("spot" : Str) := by decide +kernel
section
variable {H : Hp} {p c : Addr} {s m t : Int}
theorem pen_cells (h : H p = some (.dK (penK c s m))) : DGet H p (.str "cells") (some (.ref c)) :=
  .inl ⟨_, .inr "cells", .inl h, rfl, by rw [penK, valV_pos rfl]⟩
theorem pen_spot (h : H p = some (.dK (penK c s m))) : DGet H p (.str "spot") (some (.int s)) :=
  .inl ⟨_, .inr "spot", .inl h, rfl, by rw [penK, valV_neg n_cs, valV_pos rfl]⟩
theorem pen_more (h : H p = some (.dK (penK c s m))) : DGet H p (.str "more") (some (.int m)) :=
  .inl ⟨_, .inr "more", .inl h, rfl, by rw [penK, valV_neg n_cm, valV_neg n_sm, valV_pos rfl]⟩
theorem put_spot : putK (penK c s m) (.inr "spot") (.int t) = penK c t m := by
  unfold putK penK
  rw [if_pos (by simp), List.map_cons, List.map_cons, List.map_cons, List.map_nil]
  rw [if_neg n_cs, if_neg n_ms, if_pos rfl]
theorem put_more : putK (penK c s m) (.inr "more") (.int t) = penK c s t := by
  unfold putK penK
  rw [if_pos (by simp), List.map_cons, List.map_cons, List.map_cons, List.map_nil]
  rw [if_neg n_cm, if_neg n_sm, if_pos rfl]
theorem put_spotH (h : H p = some (.dK (penK c s m))) : DPut H p (.str "spot") (.int t) (upd H p (.dK (penK c t m))) :=
  .inl ⟨_, .inr "spot", h, rfl, (by show 3 < sizeLine; decide), by rw [put_spot]⟩
theorem put_moreH (h : H p = some (.dK (penK c s m))) : DPut H p (.str "more") (.int t) (upd H p (.dK (penK c s t))) :=
  .inl ⟨_, .inr "more", h, rfl, (by show 3 < sizeLine; decide), by rw [put_more]⟩
end
/-- what stands for good (G), within what stands (H), with the pen at p, of which at most B cells were drawn -/
structure Wd (K : PySem.W.Frag) (G H : Hp) (p : Addr) (B : Nat) : Prop where
  ex : Ex G H
  np : G p = none
  pen : ∃ (c : Addr) (s m : Int) (ns : List Int), H p = some (.dK (penK c s m)) ∧ SqL K G c (ns.map V.int) ∧ ns.length ≤ 63 ∧ 0 ≤ s ∧ s ≤ (B : Int) ∧ 0 ≤ m
/-- what a step leaves: G grows by new objects, all else but the pen stands -/
structure Tr (G H G' H' : Hp) (p : Addr) : Prop where
  g : Ex G G'
  nw : ∀ a, H a ≠ none → G a = none → G' a = none
  k : ∀ b o, H b = some o → b ≠ p → H' b = some o
  st : ∀ b, H b ≠ none → H' b ≠ none
theorem Tr.trans {G H G1 H1 G2 H2 : Hp} {p : Addr} (a : Tr G H G1 H1 p) (b : Tr G1 H1 G2 H2 p) : Tr G H G2 H2 p :=
  ⟨a.g.trans b.g, fun x h1 h2 => b.nw x (a.st x h1) (a.nw x h1 h2), fun x o h n => b.k x o (a.k x o h n) n, fun x h => b.st x (a.st x h)⟩
theorem Tr.refl (G H : Hp) (p : Addr) : Tr G H G H p := ⟨Ex.refl G, fun _ _ h => h, fun _ _ h _ => h, fun _ h => h⟩
def RetW (K : PySem.W.Frag) (G H : Hp) (p : Addr) (B k : Nat) (P : Hp → V → Prop) (Q : VK) : Prop := ∀ G' H' v, Tr G H G' H' p → Wd K G' H' p (B + k) → P G' v → Q v H'
theorem st_upd {H : Hp} {p : Addr} {o : HO} : ∀ b, H b ≠ none → (upd H p o) b ≠ none := fun b h => by
  by_cases z : b = p
  · rw [z, upd_same]; exact fun q => nomatch q
  · rw [upd_ne z]; exact h
/-! ### lists of ints as data -/
theorem dp_ints {K : PySem.W.Frag} {H : Hp} : ∀ ns : List Int, DpAll K H (ns.map V.int) (ns.map PyData.int)
  | [] => .nil
  | n :: r => .cons (.int n) (dp_ints r)
theorem lay_ints : ∀ ns : List Int, PyData.canLayAll0 (ns.map PyData.int) = true
  | [] => by simp [PyData.canLayAll0]
  | n :: r => by simp [PyData.canLayAll0, PyData.canLay0, lay_ints r]
theorem depth_ints : ∀ ns : List Int, PyData.depthAll (ns.map PyData.int) ≤ 0
  | [] => by simp [PyData.depthAll]
  | n :: r => by
    have := depth_ints r
    simp only [List.map_cons, PyData.depthAll, PyData.depth]
    omega
theorem shaped_ints (ns : List Int) : SeqAt.shaped (.list (ns.map PyData.int)) = true := by
  have h1 := depth_ints ns
  have h2 : PyData.depth (.list (ns.map PyData.int)) ≤ 64 := by
    simp only [PyData.depth]
    omega
  show (PyData.canLay0 (.list (ns.map PyData.int)) && decide (PyData.depth (.list (ns.map PyData.int)) ≤ 64)) = true
  rw [Bool.and_eq_true]
  exact ⟨by simp only [PyData.canLay0]; exact lay_ints ns, decide_eq_true h2⟩
theorem eqv_nil (ds : List PyData) : PyData.eqv (.list ds) (.list []) = ds.isEmpty := by
  cases ds <;> simp [PyData.eqv, PyData.eqvAll]
/-! ### numbers -/
theorem mod_lo {a b : Int} (h : 0 < b) : 0 ≤ a % b := Int.emod_nonneg a (by omega)
theorem mod_hi {a b : Int} (h : 0 < b) : a % b < b := Int.emod_lt_of_pos a h
theorem pow18 : ((10 : Int) ^ (18 : Int).toNat) = 1000000000000000000 := by decide +kernel
theorem atOf {α : Type} {xs : List α} {z : Int} {j : Nat} {v : α} (e : z = (j : Int)) (h : xs[j]? = some v) : atI xs z = some v := by
  rw [e]
  exact atI_nat h
/-! ### the world and new objects -/
theorem Wd.new {K : PySem.W.Frag} {G H : Hp} {p t : Addr} {o : HO} {B : Nat} (W : Wd K G H p B) (ht : H t = none) : Wd K G (upd H t o) p B := by
  obtain ⟨ex, np, c, s, m, ns, hp, r⟩ := W
  exact ⟨ex.trans (Ex.new ht), np, c, s, m, ns, by rw [upd_ne (ne_of_none hp ht)]; exact hp, r⟩
/-- a new object that will not change -/
theorem Wd.grow {K : PySem.W.Frag} {G H : Hp} {p t : Addr} {o : HO} {B : Nat} (W : Wd K G H p B) (ht : H t = none) : Wd K (upd G t o) (upd H t o) p B := by
  obtain ⟨ex, np, c, s, m, ns, hp, hc, r⟩ := W
  refine ⟨fun b u e => ?_, ?_, c, s, m, ns, by rw [upd_ne (ne_of_none hp ht)]; exact hp, ex_l (Ex.new (fresh_back ex ht)) hc, r⟩
  · by_cases z : b = t
    · subst z; rw [upd_same] at e ⊢; exact e
    · rw [upd_ne z] at e ⊢; exact ex b u e
  · rw [upd_ne (ne_of_none hp ht)]; exact np
theorem Wd.freeze {K : PySem.W.Frag} {G H : Hp} {p t : Addr} {o : HO} {B : Nat} (W : Wd K G H p B) (hg : G t = none) (ht : H t = some o) (hn : t ≠ p) : Wd K (upd G t o) H p B := by
  obtain ⟨ex, np, c, s, m, ns, hp, hc, r⟩ := W
  refine ⟨fun b u e => ?_, ?_, c, s, m, ns, hp, ex_l (Ex.new hg) hc, r⟩
  · by_cases z : b = t
    · subst z; rw [upd_same] at e; rw [ht]; exact e
    · rw [upd_ne z] at e; exact ex b u e
  · rw [upd_ne hn.symm]; exact np
/-- a local object changes -/
theorem Wd.mut {K : PySem.W.Frag} {G H : Hp} {p t : Addr} {o : HO} {B : Nat} (W : Wd K G H p B) (hg : G t = none) (hn : t ≠ p) : Wd K G (upd H t o) p B := by
  obtain ⟨ex, np, c, s, m, ns, hp, r⟩ := W
  exact ⟨ex.mut hg, np, c, s, m, ns, by rw [upd_ne hn.symm]; exact hp, r⟩
theorem Wd.mono {K : PySem.W.Frag} {G H : Hp} {p : Addr} {B B' : Nat} (W : Wd K G H p B) (h : B ≤ B') : Wd K G H p B' := by
  obtain ⟨ex, np, c, s, m, ns, hp, hc, hl, h0, h1, h2⟩ := W
  exact ⟨ex, np, c, s, m, ns, hp, hc, hl, h0, by omega, h2⟩
section
variable {G0 H0 G H : Hp} {p t : Addr} {o : HO}
theorem Tr.new (T : Tr G0 H0 G H p) (ht : H t = none) : Tr G0 H0 G (upd H t o) p :=
  ⟨T.g, T.nw, fun b u e n => by rw [upd_ne (ne_of_none (T.k b u e n) ht)]; exact T.k b u e n, fun b h => st_upd b (T.st b h)⟩
theorem Tr.old (T : Tr G0 H0 G H p) (ht : H t = none) : H0 t = none := by
  cases q : H0 t with
  | none => rfl
  | some u => exact absurd ht (T.st t (by rw [q]; exact fun z => nomatch z))
theorem Tr.mut (T : Tr G0 H0 G H p) (ht : H0 t = none) : Tr G0 H0 G (upd H t o) p :=
  ⟨T.g, T.nw, fun b u e n => by rw [upd_ne (ne_of_none e ht)]; exact T.k b u e n, fun b h => st_upd b (T.st b h)⟩
theorem Tr.freeze (T : Tr G0 H0 G H p) (ht : H0 t = none) (hg : G t = none) : Tr G0 H0 (upd G t o) H p :=
  ⟨T.g.trans (Ex.new hg), fun a h1 h2 => by
    rw [upd_ne (fun e => h1 (by rw [e]; exact ht))]; exact T.nw a h1 h2, T.k, T.st⟩
theorem Tr.grow (T : Tr G0 H0 G H p) (ex : Ex G H) (ht : H t = none) : Tr G0 H0 (upd G t o) (upd H t o) p :=
  (T.new ht).freeze (T.old ht) (fresh_back ex ht)
end
/-- a list made on the way, that the caller may change -/
def RetN (K : PySem.W.Frag) (G H : Hp) (p : Addr) (B k : Nat) (P : Hp → List V → Prop) (Q : VK) : Prop :=
  ∀ G' H' l xs, Tr G H G' H' p → Wd K G' H' p (B + k) → H l = none → G' l = none → H' l = some (.lst xs) → P G' xs → Q (.ref l) H'
/-! ### texts -/
theorem tl_app (a b : Str) : (a ++ b).cps.toList = a.cps.toList ++ b.cps.toList := by
  show (a.cps ++ b.cps).toList = _
  rw [Array.toList_append]
theorem len_tl (a : Str) : a.length = a.cps.toList.length := by
  show a.cps.size = _
  simp
theorem str_ext {a b : Str} (h : a.cps.toList = b.cps.toList) : a = b := by
  cases a; cases b
  simp only at h
  rw [Array.toList_inj.mp h]
theorem tl_join : ∀ ys : List Str, (Txt.join "" ys).cps.toList = (ys.map (·.cps.toList)).flatten := by
  intro ys
  rw [show Txt.join "" ys = Str.join "" ys from PySem.StrLaws.glued_eq_join _ _]
  induction ys with
  | nil => rfl
  | cons x r ih =>
    cases r with
    | nil => simp [Str.join]
    | cons y r =>
      show (x ++ ("" : Str) ++ Str.join "" (y :: r)).cps.toList = _
      rw [tl_app, tl_app, ih, show (("" : Str)).cps.toList = [] by decide +kernel, List.append_nil]
      simp only [List.map_cons, List.flatten_cons]
def Az (c : Nat) : Prop := 97 ≤ c ∧ c ≤ 122
instance (c : Nat) : Decidable (Az c) := inferInstanceAs (Decidable (97 ≤ c ∧ c ≤ 122))
def NameOk (z : Str) : Prop := 1 ≤ z.length ∧ z.length ≤ 8 ∧ ∀ c ∈ z.cps.toList, Az c
def abc : Str := "abcdefghijklmnopqrstuvwxyz"
theorem abc_tl : abc.cps.toList = List.range' 97 26 := by decide +kernel
theorem abc_len : abc.length = 26 := by decide +kernel
theorem abc_mem {c : Nat} : c ∈ abc.cps.toList ↔ Az c := by
  rw [abc_tl, List.mem_range'_1]
  unfold Az
  omega
theorem abc_at {j : Nat} (h : j < 26) : abc.cps.toList[j]? = some (97 + j) := by
  rw [abc_tl, List.getElem?_range' (by omega)]
  simp
/-- cuts -/
theorem cut_to (z : Str) (k : Nat) : (cutS z none (some (k : Int))).cps.toList = z.cps.toList.take k := by
  unfold cutS
  rw [HT.sIx_none, HT.sIx_nat, len_tl]
  show ((z.cps.toList.drop 0).take (min k z.cps.toList.length - 0)) = _
  rw [List.drop_zero, Nat.sub_zero]
  by_cases h : k ≤ z.cps.toList.length
  · rw [Nat.min_eq_left h]
  · rw [Nat.min_eq_right (by omega), List.take_length, List.take_of_length_le (by omega)]
theorem cut_from (z : Str) (k : Nat) : (cutS z (some (k : Int)) none).cps.toList = z.cps.toList.drop k := by
  unfold cutS
  rw [HT.sIx_none, HT.sIx_nat, len_tl]
  show ((z.cps.toList.drop (min k z.cps.toList.length)).take (z.cps.toList.length - min k z.cps.toList.length)) = _
  by_cases h : k ≤ z.cps.toList.length
  · rw [Nat.min_eq_left h, List.take_of_length_le (by rw [List.length_drop]; omega)]
  · rw [Nat.min_eq_right (by omega), List.drop_of_length_le (Nat.le_refl _), List.drop_of_length_le (by omega), List.take_nil]
/-! ### data -/
inductive D where
  | non | bl (b : Bool) | int (i : Int) | str (x : Str) | tup (ds : List D) | lst (ds : List D) | dct (kvs : List (Key × D))
mutual
inductive Den (K : PySem.W.Frag) (G : Hp) : V → D → Prop
  | non : Den K G .non .non
  | bl (b : Bool) : Den K G (.bl b) (.bl b)
  | int (i : Int) : Den K G (.int i) (.int i)
  | str (x : Str) : Den K G (.str x) (.str x)
  | tup {a : Addr} {vs : List V} {ds : List D} : SqT K G a vs → DenL K G vs ds → Den K G (.ref a) (.tup ds)
  | lst {a : Addr} {vs : List V} {ds : List D} : SqL K G a vs → DenL K G vs ds → Den K G (.ref a) (.lst ds)
  | dct {a : Addr} {vs : List (Key × V)} {ds : List (Key × D)} : G a = some (.dK vs) → DenK K G vs ds → Den K G (.ref a) (.dct ds)
inductive DenL (K : PySem.W.Frag) (G : Hp) : List V → List D → Prop
  | nil : DenL K G [] []
  | cons {v : V} {vs : List V} {d : D} {ds : List D} : Den K G v d → DenL K G vs ds → DenL K G (v :: vs) (d :: ds)
inductive DenK (K : PySem.W.Frag) (G : Hp) : List (Key × V) → List (Key × D) → Prop
  | nil : DenK K G [] []
  | cons {k : Key} {v : V} {vs : List (Key × V)} {d : D} {ds : List (Key × D)} : Den K G v d → DenK K G vs ds → DenK K G ((k, v) :: vs) ((k, d) :: ds)
end
section
variable {K : PySem.W.Frag} {G G' : Hp}
mutual
theorem Den.mono (e : Ex G G') : ∀ {v : V} {d : D}, Den K G v d → Den K G' v d
  | _, _, .non => .non
  | _, _, .bl b => .bl b
  | _, _, .int i => .int i
  | _, _, .str x => .str x
  | _, _, .tup h l => .tup (ex_t e h) (DenL.mono e l)
  | _, _, .lst h l => .lst (ex_l e h) (DenL.mono e l)
  | _, _, .dct h l => .dct (e _ _ h) (DenK.mono e l)
theorem DenL.mono (e : Ex G G') : ∀ {vs : List V} {ds : List D}, DenL K G vs ds → DenL K G' vs ds
  | _, _, .nil => .nil
  | _, _, .cons h l => .cons (Den.mono e h) (DenL.mono e l)
theorem DenK.mono (e : Ex G G') : ∀ {vs : List (Key × V)} {ds : List (Key × D)}, DenK K G vs ds → DenK K G' vs ds
  | _, _, .nil => .nil
  | _, _, .cons h l => .cons (Den.mono e h) (DenK.mono e l)
end
theorem DenL.length : ∀ {vs : List V} {ds : List D}, DenL K G vs ds → vs.length = ds.length
  | _, _, .nil => rfl
  | _, _, .cons _ l => by rw [List.length_cons, List.length_cons, DenL.length l]
theorem DenL.append : ∀ {vs ws : List V} {ds es : List D}, DenL K G vs ds → DenL K G ws es → DenL K G (vs ++ ws) (ds ++ es)
  | _, _, _, _, .nil, h => h
  | _, _, _, _, .cons a l, h => .cons a (DenL.append l h)
theorem DenL.mem : ∀ {vs : List V} {ds : List D} {v : V}, DenL K G vs ds → v ∈ vs → ∃ d ∈ ds, Den K G v d
  | _, _, _, .nil, h => by cases h
  | _, _, _, .cons a l, h => by
    rcases List.mem_cons.mp h with rfl | h
    · exact ⟨_, List.mem_cons_self, a⟩
    · obtain ⟨d, h1, h2⟩ := DenL.mem l h
      exact ⟨d, List.mem_cons_of_mem _ h1, h2⟩
theorem DenL.strs : ∀ zs : List Str, DenL K G (zs.map V.str) (zs.map D.str)
  | [] => .nil
  | z :: r => .cons (.str z) (DenL.strs r)
end
theorem in_set {te : TE} {i : Nat} {u : TS} {D : Ends} {σ : L2.St} {H : Hp} (h : te σ H (fun x H1 => u D (σ.set i (some x)) H1)) : tSeq (tAsg te (gName i)) u D σ H := h
theorem in_set1 {te : TE} {i : Nat} {D : Ends} {σ : L2.St} {H : Hp} (h : te σ H (fun x H1 => D.nx (σ.set i (some x)) H1)) : tAsg te (gName i) D σ H := h
theorem in_ret {te : TE} {D : Ends} {σ : L2.St} {H : Hp} (h : te σ H D.rt) : tRet te D σ H := h
/-! ### expressions that give data, whatever else stands -/
def EvD (K : PySem.W.Frag) (G0 : Hp) (te : TE) (σ : L2.St) (p : Addr) (d : D) : Prop :=
  ∀ G H B, Ex G0 G → Wd K G H p B → ∀ Q : VK, (∀ G' H' v, Tr G H G' H' p → Wd K G' H' p B → Den K G' v d → Q v H') → te σ H Q
def EvDA (K : PySem.W.Frag) (G0 : Hp) (ta : TA) (σ : L2.St) (p : Addr) (ds : List D) : Prop :=
  ∀ G H B, Ex G0 G → Wd K G H p B → ∀ Q : List V → Hp → Prop, (∀ G' H' vs, Tr G H G' H' p → Wd K G' H' p B → DenL K G' vs ds → Q vs H') → ta σ H Q
section
variable {K : PySem.W.Frag} {G0 : Hp} {σ : L2.St} {p : Addr} {te tb : TE} {ta : TA} {d : D} {ds : List D}
theorem evd_var {i : Nat} {v : V} (h : σ[i]? = some (some v)) (hd : Den K G0 v d) : EvD K G0 (tVar i) σ p d := fun G H B e W Q q => ⟨v, h, q G H v (Tr.refl _ _ _) W (hd.mono e)⟩
theorem evd_non : EvD K G0 (tC .non) σ p .non := fun G H B _ W Q q => q G H _ (Tr.refl _ _ _) W .non
theorem evd_bl {b : Bool} : EvD K G0 (tC (.bl b)) σ p (.bl b) := fun G H B _ W Q q => q G H _ (Tr.refl _ _ _) W (.bl b)
theorem evd_int {i : Int} : EvD K G0 (tC (.int i)) σ p (.int i) := fun G H B _ W Q q => q G H _ (Tr.refl _ _ _) W (.int i)
theorem evd_str {x : Str} : EvD K G0 (tC (.str x)) σ p (.str x) := fun G H B _ W Q q => q G H _ (Tr.refl _ _ _) W (.str x)
theorem evda_nil : EvDA K G0 tNil σ p [] := fun G H B _ W Q q => q G H _ (Tr.refl _ _ _) W .nil
theorem evda_cons (h : EvD K G0 te σ p d) (hr : EvDA K G0 ta σ p ds) : EvDA K G0 (tCons te ta) σ p (d :: ds) := fun G H B e W Q q =>
  h G H B e W _ fun G1 H1 v T1 W1 d1 => hr G1 H1 B (e.trans T1.g) W1 _ fun G2 H2 vs T2 W2 d2 => q G2 H2 _ (T1.trans T2) W2 (.cons (d1.mono T2.g) d2)
theorem evd_tup (h : EvDA K G0 ta σ p ds) (hl : ds.length ≤ 100000) : EvD K G0 (tTup ta) σ p (.tup ds) := fun G H B e W Q q =>
  h G H B e W _ fun G1 H1 vs T1 W1 d1 => ⟨sz_of (by rw [d1.length]; exact hl), fun a ha =>
    q (upd G1 a (.tup vs)) _ _ (T1.grow W1.ex ha) (W1.grow ha) (.tup (.inl (.inl upd_same)) (d1.mono (Ex.new (fresh_back W1.ex ha))))⟩
theorem evd_lst (h : EvDA K G0 ta σ p ds) (hl : ds.length ≤ 100000) : EvD K G0 (tLst ta) σ p (.lst ds) := fun G H B e W Q q =>
  h G H B e W _ fun G1 H1 vs T1 W1 d1 => ⟨sz_of (by rw [d1.length]; exact hl), fun a ha =>
    q (upd G1 a (.lst vs)) _ _ (T1.grow W1.ex ha) (W1.grow ha) (.lst (.inl (.inl upd_same)) (d1.mono (Ex.new (fresh_back W1.ex ha))))⟩
theorem evd_dnew : EvD K G0 tDNewK σ p (.dct []) := fun G H B _ W Q q => fun a ha => q (upd G a (.dK [])) _ _ ((Tr.refl _ _ _).grow W.ex ha) (W.grow ha) (.dct upd_same .nil)
/-- {'x': 1} -/
theorem evd_disp1 {x : Str} {i : Int} : EvD K G0 (tDisp [(tC (.str x), tC (.int i))]) σ p (.dct [(.inr x, .int i)]) := fun G H B _ W Q q => fun a ha => by
  refine ⟨upd_same, [(.inr x, .int i)], rfl, by show 1 ≤ 15; decide, ?_⟩
  have e : mergeK [] [((.inr x, .int i) : Key × V)] = [(.inr x, .int i)] := rfl
  rw [e, upd_upd]
  exact q (upd G a (.dK [(.inr x, .int i)])) _ _ ((Tr.refl _ _ _).grow W.ex ha) (W.grow ha) (.dct upd_same (.cons (.int i) .nil))
theorem evd_pow {i j : Int} (hc : CPow i j) : EvD K G0 (tOp (rI CPow fun i j => .int (i ^ j.toNat)) (tC (.int i)) (tC (.int j))) σ p (.int (i ^ j.toNat)) := fun G H B _ W Q q => ⟨i, j, rfl, rfl, hc, q G H _ (Tr.refl _ _ _) W (.int _)⟩
theorem evd_neg {i : Int} : EvD K G0 (tUn (rU fun i => .int (-i)) (tC (.int i))) σ p (.int (-i)) := fun G H B _ W Q q => ⟨i, rfl, q G H _ (Tr.refl _ _ _) W (.int _)⟩
theorem evn_lst (h : EvDA K G0 ta σ p ds) (hl : ds.length ≤ 100000) : ∀ G H B, Ex G0 G → Wd K G H p B → ∀ Q : VK, (∀ G' H' a vs, Tr G H G' H' p → Wd K G' H' p B → G' a = some (.lst vs) → DenL K G' vs ds → Q (.ref a) H') → tLst ta σ H Q := fun G H B e W Q q =>
  h G H B e W _ fun G1 H1 vs T1 W1 d1 => ⟨sz_of (by rw [d1.length]; exact hl), fun a ha =>
    q (upd G1 a (.lst vs)) _ _ vs (T1.grow W1.ex ha) (W1.grow ha) upd_same (d1.mono (Ex.new (fresh_back W1.ex ha)))⟩
end
/-! ### kinds of values -/
def AnyV (K : PySem.W.Frag) (H : Hp) (v : V) : Prop := (∃ z : Str, v = .str z ∧ z.length ≤ 1000 ∧ PyData.strOk z = true) ∨ ((∀ z, v ≠ .str z) ∧ ∃ t : String, TyX K H v (.type t) ∧ kitB t "str" = some false)
section
variable {K : PySem.W.Frag} {G H : Hp}
theorem tyx_l {a : Addr} {vs : List V} (h : SqL K H a vs) : TyX K H (.ref a) (.type "list") := by
  rcases h with (h | ⟨o, h⟩) | ⟨o, its, n, h, c, _⟩
  · exact .base (.lst h)
  · exact .base (.frz h)
  · exact .kList h c
theorem tyx_t {a : Addr} {vs : List V} (h : SqT K H a vs) : TyX K H (.ref a) (.type "tuple") := by
  rcases h with (h | ⟨o, h⟩) | ⟨o, its, n, h, c, _⟩
  · exact .base (.tup h)
  · exact .fTuple h
  · exact .kTuple h c
def D.short : D → Bool
  | .str z => decide (z.length ≤ 1000) && PyData.strOk z
  | _ => true
theorem Den.any {v : V} {d : D} (h : Den K G v d) (hs : d.short = true) (e : Ex G H) : AnyV K H v := by
  cases h with
  | non => exact .inr ⟨fun _ q => (by cases q), "NoneType", .base .non, by decide +kernel⟩
  | bl b => exact .inr ⟨fun _ q => (by cases q), "bool", .base (.bl b), by decide +kernel⟩
  | int i => exact .inr ⟨fun _ q => (by cases q), "int", .base (.int i), by decide +kernel⟩
  | str x => 
    have h2 : (decide (x.length ≤ 1000) && PyData.strOk x) = true := hs
    rw [Bool.and_eq_true] at h2
    exact .inl ⟨x, rfl, of_decide_eq_true h2.1, h2.2⟩
  | tup h l => exact .inr ⟨fun _ q => (by cases q), "tuple", tyx_t (ex_t e h), by decide +kernel⟩
  | lst h l => exact .inr ⟨fun _ q => (by cases q), "list", tyx_l (ex_l e h), by decide +kernel⟩
  | dct h l => exact .inr ⟨fun _ q => (by cases q), "dict", .base (.dK (e _ _ h)), by decide +kernel⟩
theorem AnyV.mono {v : V} (e : Ex G H) (h : AnyV K G v) (hk : ∀ t, TyX K G v (.type t) → TyX K H v (.type t)) : AnyV K H v := by
  rcases h with h | ⟨h1, t, h2, h3⟩
  · exact .inl h
  · exact .inr ⟨h1, t, hk t h2, h3⟩
end
/-! ### names, as both sides say them -/
def isN : V → Bool
  | .str z => decide (1 ≤ z.length) && (decide (z.length ≤ 8) && z.cps.toList.all fun c => decide (c ∈ abc.cps.toList))
  | _ => false
theorem isN_not {v : V} (h : ∀ z, v ≠ .str z) : isN v = false := by
  cases v with
  | str z => exact absurd rfl (h z)
  | _ => rfl
theorem isN_ok {z : Str} : isN (.str z) = true ↔ NameOk z := by
  show (decide (1 ≤ z.length) && (decide (z.length ≤ 8) && z.cps.toList.all fun c => decide (c ∈ abc.cps.toList))) = true ↔ _
  rw [Bool.and_eq_true, Bool.and_eq_true, decide_eq_true_eq, decide_eq_true_eq, List.all_eq_true]
  constructor
  · rintro ⟨a, b, c⟩
    exact ⟨a, b, fun x hx => abc_mem.mp (of_decide_eq_true (c x hx))⟩
  · rintro ⟨a, b, c⟩
    exact ⟨a, b, fun x hx => decide_eq_true (abc_mem.mpr (c x hx))⟩
/-- lists of texts as the library's data -/
theorem dp_strs {K : PySem.W.Frag} {H : Hp} : ∀ ns : List Str, DpAll K H (ns.map V.str) (ns.map PyData.str)
  | [] => .nil
  | n :: r => .cons (.str n) (dp_strs r)
theorem lay_strs : ∀ ns : List Str, (∀ n ∈ ns, PyData.strOk n = true) → PyData.canLayAll0 (ns.map PyData.str) = true
  | [], _ => by simp [PyData.canLayAll0]
  | n :: r, h => by
    have h1 := h n List.mem_cons_self
    have h2 := lay_strs r fun x hx => h x (List.mem_cons_of_mem _ hx)
    simp [PyData.canLayAll0, PyData.canLay0, h1, h2]
theorem depth_strs : ∀ ns : List Str, PyData.depthAll (ns.map PyData.str) ≤ 0
  | [] => by simp [PyData.depthAll]
  | n :: r => by
    have := depth_strs r
    simp only [List.map_cons, PyData.depthAll, PyData.depth]
    omega
theorem shaped_strs (ns : List Str) (h : ∀ n ∈ ns, PyData.strOk n = true) : SeqAt.shaped (.list (ns.map PyData.str)) = true := by
  have h1 := depth_strs ns
  have h2 : PyData.depth (.list (ns.map PyData.str)) ≤ 64 := by
    simp only [PyData.depth]
    omega
  show (PyData.canLay0 (.list (ns.map PyData.str)) && decide (PyData.depth (.list (ns.map PyData.str)) ≤ 64)) = true
  rw [Bool.and_eq_true]
  exact ⟨by simp only [PyData.canLay0]; exact lay_strs ns h, decide_eq_true h2⟩
/-! ### good texts -/
def Good (z : Str) : Prop := z.length ≤ 1000 ∧ PyData.strOk z = true
theorem strOk_iff {z : Str} : PyData.strOk z = true ↔ ∀ c ∈ z.cps.toList, c < 1114112 := by
  unfold PyData.strOk
  rw [← Array.all_toList, List.all_eq_true]
  exact ⟨fun h c hc => of_decide_eq_true (h c hc), fun h c hc => decide_eq_true (h c hc)⟩
theorem NameOk.good {z : Str} (h : NameOk z) : Good z := ⟨by have := h.2.1; omega, strOk_iff.mpr fun c hc => by have := (h.2.2 c hc).2; omega⟩
theorem Good.app {a b : Str} (ha : Good a) (hb : Good b) (hl : a.length + b.length ≤ 1000) : Good (a ++ b) :=
  ⟨by rw [len_tl, tl_app, List.length_append, ← len_tl, ← len_tl]; exact hl, strOk_iff.mpr fun c hc => by
    rw [tl_app] at hc
    rcases List.mem_append.mp hc with h | h
    · exact strOk_iff.mp ha.2 c h
    · exact strOk_iff.mp hb.2 c h⟩
theorem Good.cut {a : Str} (ha : Good a) (lo hi : Option Int) : Good (cutS a lo hi) := by
  have hsub : ∀ c ∈ (cutS a lo hi).cps.toList, c ∈ a.cps.toList := fun c hc => List.mem_of_mem_drop (List.mem_of_mem_take hc)
  refine ⟨?_, strOk_iff.mpr fun c hc => strOk_iff.mp ha.2 c (hsub c hc)⟩
  have h1 := ha.1
  rw [len_tl] at h1 ⊢
  show ((a.cps.toList.drop _).take _).length ≤ 1000
  rw [List.length_take, List.length_drop]
  omega
theorem up1_small : ∀ c, c < 128 → up1 c < 128 := by decide +kernel
theorem NameOk.upper {z : Str} (h : NameOk z) : Good (Txt.upper z) := by
  have ha : ∀ c ∈ z.cps.toList, c < 128 := fun c hc => by have := (h.2.2 c hc).2; omega
  rw [upper_ascii ha]
  refine ⟨?_, strOk_iff.mpr fun c hc => ?_⟩
  · show (z.cps.map up1).size ≤ 1000
    rw [Array.size_map]
    have := h.2.1
    show z.length ≤ 1000
    omega
  · have hc' : c ∈ (z.cps.map up1).toList := hc
    rw [Array.toList_map] at hc'
    obtain ⟨d, hd, rfl⟩ := List.mem_map.mp hc'
    have := up1_small d (ha d hd)
    omega
theorem Wd.ext {K : PySem.W.Frag} {G H H' : Hp} {p : Addr} {B : Nat} (W : Wd K G H p B) (e : Ex H H') : Wd K G H' p B := by
  obtain ⟨ex, np, c, s, m, ns, hp, r⟩ := W
  exact ⟨ex.trans e, np, c, s, m, ns, e _ _ hp, r⟩
theorem perm_erase {α : Type} : ∀ {l : List α} {k : Nat} {y : α}, l[k]? = some y → (y :: l.eraseIdx k).Perm l
  | [], k, y, h => by simp at h
  | a :: l, 0, y, h => by
    have e : a = y := Option.some.inj h
    subst e
    exact List.Perm.refl _
  | a :: l, k + 1, y, h => by
    have ih := perm_erase (l := l) (k := k) (y := y) h
    exact List.Perm.trans (List.Perm.swap a y _) (List.Perm.cons a ih)
theorem erase_map {α β : Type} (f : α → β) : ∀ (l : List α) (k : Nat), (l.map f).eraseIdx k = (l.eraseIdx k).map f
  | [], _ => rfl
  | a :: l, 0 => rfl
  | a :: l, k + 1 => by
    show f a :: (l.map f).eraseIdx k = f a :: (l.eraseIdx k).map f
    rw [erase_map f l k]
/-! ### data as the library's data -/
mutual
def D.py : D → PyData
  | .non => .none
  | .bl b => .bool b
  | .int i => .int i
  | .str x => .str x
  | .tup ds => .tuple (D.pyL ds)
  | .lst ds => .list (D.pyL ds)
  | .dct kvs => .dict (D.pyK kvs)
def D.pyL : List D → List PyData
  | [] => []
  | d :: r => d.py :: D.pyL r
def D.pyK : List (Key × D) → List (PyData × PyData)
  | [] => []
  | (.inl i, d) :: r => (.int i, d.py) :: D.pyK r
  | (.inr x, d) :: r => (.str x, d.py) :: D.pyK r
end
mutual
/-- no dict within -/
def D.nd : D → Bool
  | .non => true
  | .bl _ => true
  | .int _ => true
  | .str _ => true
  | .tup ds => D.ndL ds
  | .lst ds => D.ndL ds
  | .dct _ => false
def D.ndL : List D → Bool
  | [] => true
  | d :: r => d.nd && D.ndL r
end
section
variable {K : PySem.W.Frag} {G : Hp}
mutual
theorem Den.dp : ∀ {v : V} {d : D}, Den K G v d → d.nd = true → Dp K G v d.py
  | _, _, .non, _ => .non
  | _, _, .bl b, _ => .bl b
  | _, _, .int i, _ => .int i
  | _, _, .str x, _ => .str x
  | _, _, .tup h l, n => .tup h (DenL.dp l n)
  | _, _, .lst h l, n => .lst h (DenL.dp l n)
  | _, _, .dct _ _, n => (by cases n)
theorem DenL.dp : ∀ {vs : List V} {ds : List D}, DenL K G vs ds → D.ndL ds = true → DpAll K G vs (D.pyL ds)
  | _, _, .nil, _ => .nil
  | _, _, .cons h l, n => by
    have n2 := Bool.and_eq_true_iff.mp (show (_ && _) = true from n)
    exact .cons (Den.dp h n2.1) (DenL.dp l n2.2)
end
end
def dStrs (zs : List Str) : D := .lst (zs.map D.str)
theorem nd_strs : ∀ zs : List Str, D.ndL (zs.map D.str) = true
  | [] => rfl
  | z :: r => by
    show (true && D.ndL (r.map D.str)) = true
    rw [nd_strs r]
    rfl
theorem py_strs : ∀ zs : List Str, D.pyL (zs.map D.str) = zs.map PyData.str
  | [] => rfl
  | z :: r => by
    show PyData.str z :: D.pyL (r.map D.str) = _
    rw [py_strs r]
    rfl
theorem nd_strss : ∀ zs : List (List Str), D.ndL (zs.map dStrs) = true
  | [] => rfl
  | z :: r => by
    show (D.ndL (z.map D.str) && D.ndL (r.map dStrs)) = true
    rw [nd_strs z, nd_strss r]
    rfl
theorem shaped_strss (zs : List (List Str)) (h : ∀ z ∈ zs, ∀ n ∈ z, PyData.strOk n = true) : SeqAt.shaped (.list (D.pyL (zs.map dStrs))) = true := by
  have lay : ∀ zs : List (List Str), (∀ z ∈ zs, ∀ n ∈ z, PyData.strOk n = true) → PyData.canLayAll0 (D.pyL (zs.map dStrs)) = true := by
    intro zs
    induction zs with
    | nil => intro _; simp [D.pyL, PyData.canLayAll0]
    | cons z r ih =>
      intro h
      have h1 := lay_strs z (h z List.mem_cons_self)
      have h2 := ih fun x hx => h x (List.mem_cons_of_mem _ hx)
      show PyData.canLayAll0 (PyData.list (D.pyL (z.map D.str)) :: D.pyL (r.map dStrs)) = true
      rw [py_strs]
      simp [PyData.canLayAll0, PyData.canLay0, h1, h2]
  have dep : ∀ zs : List (List Str), PyData.depthAll (D.pyL (zs.map dStrs)) ≤ 1 := by
    intro zs
    induction zs with
    | nil => simp [D.pyL, PyData.depthAll]
    | cons z r ih =>
      have h1 := depth_strs z
      show PyData.depthAll (PyData.list (D.pyL (z.map D.str)) :: D.pyL (r.map dStrs)) ≤ 1
      rw [py_strs]
      simp only [PyData.depthAll, PyData.depth]
      omega
  have h2 : PyData.depth (.list (D.pyL (zs.map dStrs))) ≤ 64 := by
    have := dep zs
    simp only [PyData.depth]
    omega
  show (PyData.canLay0 (.list (D.pyL (zs.map dStrs))) && decide (PyData.depth (.list (D.pyL (zs.map dStrs))) ≤ 64)) = true
  rw [Bool.and_eq_true]
  exact ⟨by simp only [PyData.canLay0]; exact lay zs h, decide_eq_true h2⟩
theorem den_strs {K : PySem.W.Frag} {G : Hp} {a : Addr} {zs : List Str} (h : Den K G (.ref a) (dStrs zs)) : SqL K G a (zs.map V.str) := by
  unfold dStrs at h
  cases h with
  | lst h l =>
    rename_i vs
    have : vs = zs.map V.str := by
      clear h
      induction zs generalizing vs with
      | nil => cases l; rfl
      | cons z r ih =>
        cases l with
        | cons a b =>
          cases a
          rw [ih b]
          rfl
    rw [← this]
    exact h
/-- two neighbours change places -/
theorem swap_perm {α : Type} : ∀ {l : List α} {j : Nat} {x y : α}, l[j]? = some x → l[j + 1]? = some y → ((l.set j y).set (j + 1) x).Perm l
  | [], j, x, y, h, _ => by simp at h
  | [a], 0, x, y, _, h => by simp at h
  | [a], j + 1, x, y, h, _ => by simp at h
  | a :: b :: l, 0, x, y, h1, h2 => by
    have e1 : a = x := Option.some.inj h1
    have e2 : b = y := Option.some.inj h2
    subst e1 e2
    exact List.Perm.swap a b l
  | a :: b :: l, j + 1, x, y, h1, h2 => List.Perm.cons a (swap_perm (l := b :: l) (j := j) h1 h2)
/-! ### what the law draws: gifts, guests with their rankings -/
def dRanks (R : List (Str × List Str)) : D := .dct (R.map fun r => (.inr r.1, dStrs r.2))
def dRaw (gs : List Str) (R : List (Str × List Str)) : D := .tup [dStrs gs, dRanks R]
structure RawOk (gs : List Str) (R : List (Str × List Str)) : Prop where
  gn : gs.Nodup
  go : ∀ z ∈ gs, NameOk z
  un : (R.map (·.1)).Nodup
  uo : ∀ r ∈ R, NameOk r.1
  rk : ∀ r ∈ R, r.2.Perm gs
section
variable {K : PySem.W.Frag} {G : Hp}
theorem DenK.vals : ∀ {vs : List (Key × V)} {ds : List (Key × D)}, DenK K G vs ds → DenL K G (vs.map (·.2)) (ds.map (·.2))
  | _, _, .nil => .nil
  | _, _, .cons h l => .cons h (DenK.vals l)
theorem DenK.keys : ∀ {vs : List (Key × V)} {ds : List (Key × D)}, DenK K G vs ds → vs.map (·.1) = ds.map (·.1)
  | _, _, .nil => rfl
  | _, _, .cons h l => by rw [List.map_cons, List.map_cons, DenK.keys l]
theorem DenK.append : ∀ {vs ws : List (Key × V)} {ds es : List (Key × D)}, DenK K G vs ds → DenK K G ws es → DenK K G (vs ++ ws) (ds ++ es)
  | _, _, _, _, .nil, h => h
  | _, _, _, _, .cons a l, h => .cons a (DenK.append l h)
theorem DenK.length {vs : List (Key × V)} {ds : List (Key × D)} (h : DenK K G vs ds) : vs.length = ds.length := by
  have := congrArg List.length h.keys
  rw [List.length_map, List.length_map] at this
  exact this
theorem den_of_strs {a : Addr} {zs : List Str} (h : SqL K G a (zs.map V.str)) : Den K G (.ref a) (dStrs zs) := .lst h (DenL.strs zs)
end
theorem put_fresh {kvs : List (Key × V)} {k : Key} {v : V} (h : k ∉ kvs.map (·.1)) : putK kvs k v = kvs ++ [(k, v)] := by
  unfold putK
  rw [if_neg]
  intro q
  obtain ⟨x, hx, e⟩ := List.any_eq_true.mp q
  exact h (List.mem_map.mpr ⟨x, hx, of_decide_eq_true e⟩)
/-! ### what is drawn, where it stands -/
structure RawAt (K : PySem.W.Frag) (G : Hp) (v : V) (gs : List Str) (R : List (Str × List Str)) : Prop where
  ex : ∃ (r gv rd : Addr) (kvs : List (Key × V)), v = .ref r ∧ SqT K G r [.ref gv, .ref rd] ∧ SqL K G gv (gs.map V.str) ∧ G rd = some (.dK kvs) ∧ DenK K G kvs (R.map fun r => (.inr r.1, dStrs r.2))
section
variable {K : PySem.W.Frag} {G : Hp}
theorem rawAt {v : V} {gs : List Str} {R : List (Str × List Str)} (h : Den K G v (dRaw gs R)) : RawAt K G v gs R := by
  unfold dRaw at h
  cases h with
  | tup hs l =>
    cases l with
    | cons a l =>
      cases l with
      | cons b l =>
        cases l
        unfold dRanks at b
        cases b with
        | dct hd hk =>
          have a2 := a
          unfold dStrs at a2
          cases a2 with
          | lst _ _ => exact ⟨_, _, _, _, rfl, hs, den_strs a, hd, hk⟩
theorem DenK.get {R : List (Str × List Str)} : ∀ {kvs : List (Key × V)} {u : Str} {rk : List Str}, DenK K G kvs (R.map fun r => (.inr r.1, dStrs r.2)) → (R.map (·.1)).Nodup → (u, rk) ∈ R → ∃ v, valV kvs (.inr u) = some v ∧ Den K G v (dStrs rk) := by
  induction R with
  | nil =>
    intro kvs u rk _ _ hm
    cases hm
  | cons p R ih =>
    intro kvs u rk h hn hm
    obtain ⟨x, y⟩ := p
    have hn2 := List.nodup_cons.mp (show (x :: R.map (·.1)).Nodup from hn)
    cases h with
    | cons hd l =>
      rcases List.mem_cons.mp hm with e | hm
      · cases e
        exact ⟨_, valV_pos rfl, hd⟩
      · obtain ⟨w, h1, h2⟩ := ih l hn2.2 hm
        refine ⟨w, ?_, h2⟩
        rw [valV_neg (fun e => hn2.1 (by
          have : x = u := Sum.inr.inj e
          rw [this]
          exact List.mem_map.mpr ⟨(u, rk), hm, rfl⟩))]
        exact h1
end
theorem flat_strs (ls : List Str) : (ls.map V.str).all flatV = true := by
  rw [List.all_eq_true]
  intro v hv
  obtain ⟨z, _, rfl⟩ := List.mem_map.mp hv
  rfl
theorem in_strs (z : Str) (ls : List Str) : inV (.str z) (ls.map V.str) = decide (z ∈ ls) := by
  unfold inV
  rw [List.any_map, Bool.eq_iff_iff, List.any_eq_true, decide_eq_true_eq]
  constructor
  · rintro ⟨y, hy, e⟩
    have e2 : y = z := by simpa [eqV] using e
    exact e2 ▸ hy
  · intro h
    exact ⟨z, h, by simp [eqV]⟩
/-- the best of these gifts -/
def bestV (rk ls : List Str) : V := match rk.find? (fun z => decide (z ∈ ls)) with
  | some z => .str z
  | none => .non
theorem best_head (rk ls : List Str) : (((rk.filter fun z => decide (z ∈ ls)).map V.str) ++ [V.non])[0]? = some (bestV rk ls) := by
  unfold bestV
  induction rk with
  | nil => rfl
  | cons a r ih =>
    rw [List.filter_cons, List.find?_cons]
    by_cases h : decide (a ∈ ls) = true
    · rw [if_pos h, h]
      rfl
    · have h2 : decide (a ∈ ls) = false := by simpa using h
      rw [if_neg h, h2]
      exact ih
/-! ### choosing down a row -/
def rkOf (R : List (Str × List Str)) (u : Str) : List Str := (R.lookup u).getD []
theorem rkOf_mem {R : List (Str × List Str)} {u : Str} : u ∈ R.map (·.1) → (u, rkOf R u) ∈ R := by
  induction R with
  | nil => intro h; cases h
  | cons p R ih =>
    obtain ⟨x, y⟩ := p
    intro h
    unfold rkOf
    rw [List.lookup_cons]
    by_cases e : u = x
    · subst e
      rw [beq_self_eq_true]
      exact List.mem_cons_self
    · have e2 : (u == x) = false := by simpa using e
      rw [e2]
      rcases List.mem_cons.mp h with q | q
      · exact absurd q e
      · exact List.mem_cons_of_mem _ (ih q)
theorem rkOf_eq {R : List (Str × List Str)} (hn : (R.map (·.1)).Nodup) {u : Str} {rk : List Str} (h : (u, rk) ∈ R) : rkOf R u = rk := by
  induction R with
  | nil => cases h
  | cons p R ih =>
    obtain ⟨x, y⟩ := p
    have hn2 := List.nodup_cons.mp (show (x :: R.map (·.1)).Nodup from hn)
    unfold rkOf
    rw [List.lookup_cons]
    rcases List.mem_cons.mp h with e | h
    · cases e
      rw [beq_self_eq_true]
      rfl
    · have ne : u ≠ x := fun e => hn2.1 (e ▸ List.mem_map.mpr ⟨(u, rk), h, rfl⟩)
      have e2 : (u == x) = false := by simpa using ne
      rw [e2]
      exact ih hn2.2 h
/-- what is found so far, what is left -/
def stepC (R : List (Str × List Str)) (s : List (Str × V) × List Str) (u : Str) : List (Str × V) × List Str :=
  (s.1 ++ [(u, bestV (rkOf R u) s.2)], s.2.filter fun z => !decide (V.str z = bestV (rkOf R u) s.2))
def cst (R : List (Str × List Str)) (gs ws : List Str) : List (Str × V) × List Str := ws.foldl (stepC R) ([], gs)
theorem cst_snoc (R : List (Str × List Str)) (gs ws : List Str) (u : Str) : cst R gs (ws ++ [u]) = stepC R (cst R gs ws) u := by
  unfold cst
  rw [List.foldl_append]
  rfl
theorem cst_keys (R : List (Str × List Str)) (gs : List Str) : ∀ (n : Nat) (ws : List Str), n ≤ ws.length → (cst R gs (ws.take n)).1.map (·.1) = ws.take n := by
  intro n ws
  induction n with
  | zero => intro _; rfl
  | succ n ih =>
    intro h
    have e : ws.take (n + 1) = ws.take n ++ [ws[n]] := by rw [List.take_add_one, List.getElem?_eq_getElem (by omega)]; rfl
    rw [e, cst_snoc]
    unfold stepC
    rw [List.map_append, ih (by omega)]
    rfl
theorem cst_left (R : List (Str × List Str)) (gs ws : List Str) : (cst R gs ws).2.length ≤ gs.length := by
  have : ∀ (ws : List Str) (s : List (Str × V) × List Str), (ws.foldl (stepC R) s).2.length ≤ s.2.length := by
    intro ws
    induction ws with
    | nil => intro s; exact Nat.le_refl _
    | cons u r ih =>
      intro s
      exact Nat.le_trans (ih _) (List.length_filter_le _ _)
  exact this ws ([], gs)
/-- who holds what, in guest order -/
def holdL (R : List (Str × List Str)) (gs ws : List Str) : List (Str × V) := R.map fun r => (r.1, ((cst R gs ws).1.lookup r.1).getD .non)
def keyed (l : List (Str × V)) : List (Key × V) := l.map fun p => (.inr p.1, p.2)
theorem keyed_get {l : List (Str × V)} {u : Str} : u ∈ l.map (·.1) → valV (keyed l) (.inr u) = some ((l.lookup u).getD .non) := by
  induction l with
  | nil => intro h; cases h
  | cons p l ih =>
    obtain ⟨x, y⟩ := p
    intro h
    show valV ((Sum.inr x, y) :: keyed l) (.inr u) = _
    rw [List.lookup_cons]
    by_cases e : u = x
    · subst e
      rw [beq_self_eq_true, valV_pos rfl]
      rfl
    · have e2 : (u == x) = false := by simpa using e
      rw [e2, valV_neg (fun q => e (Sum.inr.inj q).symm)]
      rcases List.mem_cons.mp h with q | q
      · exact absurd q e
      · exact ih q
theorem keyed_last {l : List (Str × V)} {u : Str} {v : V} (h : u ∉ l.map (·.1)) : valV (keyed (l ++ [(u, v)])) (.inr u) = some v := by
  induction l with
  | nil => exact valV_pos rfl
  | cons p l ih =>
    obtain ⟨x, y⟩ := p
    have h2 : u ≠ x ∧ u ∉ l.map (·.1) := ⟨fun e => h (e ▸ List.mem_cons_self), fun q => h (List.mem_cons_of_mem _ q)⟩
    show valV ((Sum.inr x, y) :: keyed (l ++ [(u, v)])) (.inr u) = _
    rw [valV_neg (fun q => h2.1 (Sum.inr.inj q).symm)]
    exact ih h2.2
theorem merge_nodup (kvs : List (Key × V)) (h : (kvs.map (·.1)).Nodup) : mergeK [] kvs = kvs := by
  have : ∀ (more acc : List (Key × V)), ((acc ++ more).map (·.1)).Nodup → more.foldl (fun acc kv => putK acc kv.1 kv.2) acc = acc ++ more := by
    intro more
    induction more with
    | nil => intro acc _; rw [List.append_nil]; rfl
    | cons p r ih =>
      intro acc hn
      rw [List.foldl_cons]
      have hno : p.1 ∉ acc.map (·.1) := by
        rw [List.map_append, List.map_cons] at hn
        have := (List.nodup_append.mp hn).2.2
        intro q
        exact this _ q _ List.mem_cons_self rfl
      rw [put_fresh hno, ih (acc ++ [(p.1, p.2)]) (by rw [List.append_assoc]; exact hn), List.append_assoc]
      rfl
  exact this kvs [] h
end LT

/-! Promises of defs that are only called where no repr is under way: A.guards is told. -/
namespace LT
open PySem PySem.Spec PyProof.Rows L2 Evl
/-- as FnOk (no exception leaves), where no guard stands -/
structure FnG (P : Program) (w : World) (K : PySem.W.Frag) (mg : Str → Option Value) (base : Heap) (k : Nat) (f : Addr) (fd : FuncData) (ps : List Str) (sp : Sp) : Prop where
  ar : ∀ vs H Q E, sp vs H Q E → vs.length = ps.length
  go : ∀ (A : Around) (fr : List Env) (s : Shared) (H : Hp) (ag : Args) (us : List Value) (vs : List V) (Q : VK) (E : XK), A.guards = some [] → Room k A → Env0 P w K mg base A fr s H →
    BindsTo s fd ag (ps.zip us) → Vals vs us → sp vs H Q E → codeAny (model P w) A (.call (.ref f) ag) (CR CX0 fr P w H s Q E) s
section
variable {P : Program} {w : World} {K : PySem.W.Frag} {mg : Str → Option Value} {base : Heap}
theorem FnG.of {k : Nat} {f : Addr} {fd : FuncData} {ps : List Str} {sp : Sp} (F : FnOk P w K mg base CX0 k f fd ps sp) : FnG P w K mg base k f fd ps sp :=
  ⟨F.len, fun A fr s H ag us vs Q E _ hr he hb hv hs => F.run A fr s H ag us vs Q E hr he hb hv hs⟩
theorem FnG.up {j k : Nat} {f : Addr} {fd : FuncData} {ps : List Str} {sp : Sp} (F : FnG P w K mg base j f fd ps sp) (h : j ≤ k) : FnG P w K mg base k f fd ps sp :=
  ⟨F.ar, fun A fr s H ag us vs Q E hg hr => F.go A fr s H ag us vs Q E hg (hr.mono h)⟩
/-- a def's body, where no guard stands: one fixes A first, then it is a def as any other -/
theorem okG {x qual : Str} {st : Stmt} {f : Addr} {fd : FuncData} {N ps : List Str} {k : Nat} {sp : Sp} (F : Fun K x qual st f fd) (S : FnScope N ps (defScope st)) (len : ∀ vs H Q E, sp vs H Q E → vs.length = ps.length)
    (body : ∀ (cdv : Value) (A : Around) (fr : List Env) (s : Shared) (H : Hp) (vs : List V) (Q : VK) (E : XK), A.guards = some [] → Room k (A.deeper (envOfC qual (defScope st) s.heap.objs.size f cdv)) → sp vs H Q E →
      ∃ t, PSs (cxOf CX0 P w K mg base N qual (defScope st) f cdv A fr s H E).nox (defBody st) t ∧ t { nx := fun _ H' => Q .non H', rt := Q } (start N vs) H) : FnG P w K mg base (k + 1) f fd ps sp := by
  obtain ⟨oc, od, kV, doc, pm, an, cdv, ct, osl, rfl, lk, hc⟩ := F.ex
  refine ⟨len, fun A fr s H ag us vs Q E hg hr e0 hb r hsp => ?_⟩
  have ln := len _ _ _ _ hsp
  have stand : ∀ b o, base.get? b = some o → s.heap.get? b = some o := fun b o e => (e0.bs b o e).1
  have KX := e0.mod.kin.keeps stand
  have par : ∀ y ∈ ps.zip us, (defScope st).names.lookup y.1 = some .local ∨ ((defScope st).names.lookup y.1 = some .cell ∧ ((cellsFrom (s.heap.objs.size + 1) (defScope st).names []).lookup y.1).isSome = true) := by
    rintro ⟨n, v⟩ hy
    have hn := (List.of_mem_zip hy).1
    cases S.par n hn with
    | inl q => exact Or.inl q
    | inr q => exact Or.inr ⟨q, PySem.W.cellsFrom_some _ _ _ (Or.inl q)⟩
  apply codeAny_call_function hr.depth (KX _ _ lk) rfl S.co S.gen rfl (PySem.W.codeRec_of KX hc) (hb _ _ _ _ ?_)
  apply wpAny_newFunctionEnv_cells S.kind par
  intro env he s1 x
  cases he
  refine ⟨(e0.mod.nolimit.keeps stand).keeps x.toInCall.keep, codeAny_func ?_⟩
  obtain ⟨t, ht, hq⟩ := body cdv A fr s H vs Q E hg (hr.deeper _) hsp
  have I0 := inv_start (CX := CX0) (E := E) S hr.hd e0 ln r x
  have back : ∀ {σ' : L2.St} {H' : Hp} {v : V} {u : Value} {s' : Shared}, Inv (cxOf CX0 P w K mg base N qual (defScope st) f cdv A fr s H E) [] σ' H' s' → RelV v u → Q v H' → CE fr P w H s Q u s' := by
    intro σ' H' v u s' J rv q
    exact ⟨v, H', J.os, J.bare, J.base, J.hok, rv, q⟩
  refine wpAny_mono (ht.nox.run [] s1 (start N vs) H _ I0 hq) (fun fl s' hs => ?_) (fun _ _ hs => hs)
  match fl, hs with
  | .ret u, ⟨v, σ', H', J, rv, q⟩ => exact back J rv q
  | .next, ⟨σ', H', J, q⟩ => exact back (v := V.non) (u := Value.none) J rfl q
  | .brk, ⟨_, _, _, q⟩ => exact q.elim
  | .cont, ⟨_, _, _, q⟩ => exact q.elim
end
section
variable {X : Cx} {k : Nat} {f : Addr} {fd : FuncData} {ps : List Str} {sp : Sp} {dvs : List V} {ds : List Value} {x : Str} {p pos : Pos} {e : Expr} {es : List Expr} {t : TA}
theorem runG {pins : List (Addr × Obj)} {σ : L2.St} {H : Hp} {s : Shared} {Q : VK} {us : List Value} {vs : List V} (F : FnG X.prog X.w X.K X.mg X.base k f fd ps sp) (hg : X.A.guards = some []) (hr : Room k X.A) (hb : L2.Binds X.K fd ps ds) (hd : Vals dvs ds)
    (I : Inv X pins σ H s) (r : Vals vs us) (h : sp (vs ++ dvs) H Q E0) : wpAny (model X.prog X.w) X.A (call (.ref f) us) (EP X pins σ Q) X.xe s := by
  have rr := r.append hd
  have ln : (us ++ ds).length = ps.length := by rw [← rr.length]; exact F.ar _ _ _ _ h
  apply wpAny_call
  refine codeAny_mono (F.go X.A X.stack s H ⟨us, []⟩ _ _ Q E0 hg hr I.env0 (hb s us I.kIn ln) rr h) fun res s' hq => ?_
  match res, hq with
  | .error e, hq => exact False.elim hq
  | .ok (.ret u), hq => exact I.after hq
  | .ok .next, hq => exact False.elim hq
  | .ok .brk, hq => exact False.elim hq
  | .ok .cont, hq => exact False.elim hq
theorem pe_callG (F : FnG X.prog X.w X.K X.mg X.base k f fd ps sp) (hgu : X.A.guards = some []) (hr : Room k X.A) (hg : Gl X x) (hm : X.mg x = some (.ref f)) (hk : PySem.W.keepIn X.K (.ref f) = true) (hb : L2.Binds X.K fd ps ds) (hd : Vals dvs ds)
    (ha : PA X (e :: es) t) (hdb : (x == ("__debug__" : Str)) = false := by decide) (he : starEach (e :: es) X.env = (false, eval e X.env) :: starEach es X.env := by rfl) (hpl : (backTo pos (starEach es X.env)).any (·.1) = false := by rfl) :
    PE X (.Call (.Name x p) (e :: es) [] pos) (tCall sp dvs E0 t) := ⟨fun pins s σ H Q I h => by
  apply wpAny_Call_Name_kw
  refine ld_glob I hg hm ?_ hdb
  exact PySem.W.callWith_K (h₀ := X.base) I.ok.mod.kin hk (thn (ha.run pos pins s σ H _ I h) fun us s1 hh =>
    let ⟨vs, H1, I1, r, q⟩ := hh
    ⟨I1.kIn, runG F hgu hr hb hd I1 r q⟩) he hpl⟩
end
/-! ### the law itself -/
section
variable {P : Program} {w : World} {K : PySem.W.Frag} {mg mb : Str → Option Value} {k : Nat} {fa a : Addr} {fd : FuncData} {x : Str} {sp : Sp} {s₁ : Shared} {vs : List Value} {ns : List Int}
/-- the run over any abstract heap that tracks the script at most -/
theorem lawG_at (H : Hp) (KX : K.In s₁.heap) (hns : s₁.heap.Ns mainGlobals mg) (hb : s₁.heap.Ns builtinsNs mb) (hbb : ∀ x : Str, x ≠ "__name__" → mb x = bootBuiltins x) (hlim : s₁.heap.NoLimit) (hg : s₁.gens = #[])
    (ha : s₁.heap.get? a = some { cls := .type "list", data := .seq vs.toArray }) (hr : Room k callerA) (F : ∀ base : Heap, K.In base → base.Ns mainGlobals mg → FnG P w K mg base k fa fd [x] sp)
    (hbind : ∀ (s : Shared) (u : Value), BindsTo s fd ⟨[u], []⟩ [(x, u)]) (hO : Only H) (hsp : sp [.ref a] H (fun v _ => v = .bl true) fun _ _ _ => False) (hok : HOk P w H s₁.heap) (hA : ∀ b, H b ≠ none → b = a) (hK : H a ≠ none → K.lookup a = none) :
    codeAny (model P w) callerA (.call (.ref fa) ⟨[.ref a], []⟩) (fun r s' => r = .ok (.ret (.bool true)) ∧ OldK s₁.heap s'.heap ∧ s'.os = s₁.os ∧ AllBare s'.gens) s₁ := by
  -- a dict is not the script, nor is what K knows
  have free : ∀ b o, s₁.heap.get? b = some o → (b = a → False) → H b = none := by
    intro b o _ nb
    match q : H b with
    | none => rfl
    | some u => exact (nb (hA b (by rw [q]; exact fun z => nomatch z))).elim
  have dictFree : ∀ b o es ep, s₁.heap.get? b = some o → o.data = Data.dict es ep → H b = none := by
    intro b o es ep e d
    refine free b o e fun q => ?_
    rw [q, ha] at e
    have d2 := d
    rw [← Option.some.inj e] at d2
    exact nomatch d2
  have nsB : ∀ b (m : Str → Option Value), s₁.heap.Ns b m → (hidT s₁.heap H).Ns b m := by
    intro b m hm
    obtain ⟨o, es, ep, e, d, r⟩ := hm
    exact ⟨o, es, ep, hidT_get e (dictFree b o es ep e d), d, r⟩
  have KB : K.In (hidT s₁.heap H) := by
    intro b o e
    refine hidT_get (KX b o e) ?_
    match q : H b with
    | none => rfl
    | some u =>
      have nb : H b ≠ none := by rw [q]; exact fun z => nomatch z
      have eb := hA b nb
      rw [eb] at nb e
      rw [hK nb] at e
      exact nomatch e
  obtain ⟨mc, l1, l2⟩ := hlim
  have E1 : Env0 P w K mg (hidT s₁.heap H) callerA [] s₁ H :=
    { frames := rfl, mod := ⟨KB, nsB _ _ hns, ⟨mb, nsB _ _ hb, hbb⟩, ⟨mc, nsB _ _ l1, l2⟩⟩, bs := fun b o e => of_hidT e, bsz := Nat.le_of_eq (hidT_size _ _), funs := trivial, frf := fun b hb => (nomatch hb), hok := hok, bare := .of_eq hg }
  refine codeAny_mono ((F _ KB (nsB _ _ hns)).go callerA [] s₁ H ⟨[.ref a], []⟩ [.ref a] [.ref a] _ _ rfl hr E1 (hbind s₁ (.ref a)) (.cons rfl .nil) hsp) fun r s' h => ?_
  match r, h with
  | .error e, h => exact h.elim
  | .ok .next, h => exact h.elim
  | .ok .brk, h => exact h.elim
  | .ok .cont, h => exact h.elim
  | .ok (.ret u), ⟨v, H', os, bare, un, hok', rv, q⟩ =>
    cases (show v = .bl true from q)
    cases (show u = Value.bool true from rv)
    refine ⟨rfl, OldK.of_keep fun b o e => ?_, os, bare⟩
    match q : H b with
    | none => exact un.keep b o e q (fun z => nomatch z) (fun z => nomatch z)
    | some y =>
      cases hO b with
      | inl z => rw [q] at z; exact nomatch z
      | inr z =>
        obtain ⟨ob, xs, z⟩ := z
        have old := (hok b _ z).1
        have new := (hok' b _ (un.frzs b ob _ z)).1
        rw [e] at old
        rw [Option.some.inj old]
        exact new
theorem lawG (KX : K.In s₁.heap) (hns : s₁.heap.Ns mainGlobals mg) (hb : s₁.heap.Ns builtinsNs mb) (hbb : ∀ x : Str, x ≠ "__name__" → mb x = bootBuiltins x) (hlim : s₁.heap.NoLimit) (hg : s₁.gens = #[])
    (ha : s₁.heap.get? a = some { cls := .type "list", data := .seq vs.toArray }) (hi : IntsAre vs ns) (hl : ns.length ≤ sizeLine) (hr : Room k callerA) (F : ∀ base : Heap, K.In base → base.Ns mainGlobals mg → FnG P w K mg base k fa fd [x] sp)
    (hbind : ∀ (s : Shared) (u : Value), BindsTo s fd ⟨[u], []⟩ [(x, u)]) (hsp : ∀ H : Hp, Only H → SqL K H a (ns.map V.int) → sp [.ref a] H (fun v _ => v = .bl true) fun _ _ _ => False) :
    codeAny (model P w) callerA (.call (.ref fa) ⟨[.ref a], []⟩) (fun r s' => r = .ok (.ret (.bool true)) ∧ OldK s₁.heap s'.heap ∧ s'.os = s₁.os ∧ AllBare s'.gens) s₁ := by
  have ra := vals_ints hi
  have ln := hi.length
  match hk : K.lookup a with
  | some o =>
    have e := KX a o hk
    rw [ha] at e
    have eo := Option.some.inj e
    refine lawG_at (fun _ => none) KX hns hb hbb hlim hg ha hr F hbind (fun _ => .inl rfl) (hsp _ (fun _ => .inl rfl) (Or.inr ⟨o, vs.toArray, _, hk, by rw [← eo], by rw [← eo], by rw [← eo], by rw [List.size_toArray, ln]; exact hl, by simpa using ra⟩)) (fun b u z => nomatch z) (fun b z => (z rfl).elim) (fun z => (z rfl).elim)
  | none =>
    have at1 : ∀ b, (upd (fun _ => none) a (.frz { cls := .type "list", data := .seq vs.toArray } (.lst (ns.map V.int))) : Hp) b = none ∨ b = a := fun b => by
      by_cases z : b = a
      · exact .inr z
      · exact .inl (upd_ne z)
    have only : Only (upd (fun _ => none) a (.frz { cls := .type "list", data := .seq vs.toArray } (.lst (ns.map V.int)))) := fun b => (at1 b).elim .inl fun z => .inr ⟨{ cls := .type "list", data := .seq vs.toArray }, ns.map V.int, by subst z; exact upd_same⟩
    refine lawG_at (upd (fun _ => none) a (.frz { cls := .type "list", data := .seq vs.toArray } (.lst (ns.map V.int)))) KX hns hb hbb hlim hg ha hr F hbind only (hsp _ only (Or.inl (Or.inr ⟨_, upd_same⟩))) (fun b u z => ?_) (fun b z => (at1 b).resolve_left z) (fun _ => hk)
    have hb' : b = a := (at1 b).resolve_left (by rw [z]; exact fun q => nomatch q)
    subst hb'
    rw [upd_same] at z
    rw [← Option.some.inj z]
    exact ⟨ha, by rw [List.length_map]; exact hl, vs, _, ra, ha⟩
end
theorem walkG {l : PySem.W.OpenLaw} {n k : Nat} {q : Program} {loose : List Str} {XP : (Str → Option Value) → Heap → Prop} {YP : World → Heap → Prop} {d : DefRec} {K : Params → PySem.W.Frag} {sp : World → Sp} {x : Str}
    (hn : l.most = some n) (hn2 : n ≤ sizeLine) (hdf : d.params.defaults = []) (hr : Room k callerA) (hY : ∀ (w : World) (h : Heap), YP w h → (K w.params).In h)
    (F : ∀ (w : World) (mg : Str → Option Value) (fa : Addr) (h : Heap), (K w.params).In h → h.Ns mainGlobals mg → mg d.name = some (.ref fa) →
      ∃ fd : FuncData, (∀ (s : Shared) (u : Value), BindsTo s fd ⟨[u], []⟩ [(x, u)]) ∧ ∀ base : Heap, (K w.params).In base → base.Ns mainGlobals mg → FnG l.prog w (K w.params) mg base k fa fd [x] (sp w))
    (hsp : ∀ (w : World) (H : Hp) (a : Addr) (ns : List Int), ns.length ≤ n → SqL (K w.params) H a (ns.map V.int) → sp w [.ref a] H (fun v _ => v = .bl true) fun _ _ _ => False) :
    PySem.W.WalkO q loose XP YP l.row.toRowW d [] (fun f vs => PySem.call f vs) := by
  apply Att.attach_call hn hdf
  intro w s₀ s₁ mg mb fa o pm cd doc a vs ns G Y ho hd hcd hmg hobj hints hlen hg
  obtain ⟨fd, hb, hF⟩ := F w mg fa _ (hY w _ Y) G.T.g hmg
  exact lawG (hY w _ Y) G.T.g G.T.b G.T.builtins G.T.nolimit hg hobj hints (Nat.le_trans hlen hn2) hr hF hb fun H _ hS => hsp w H a ns hlen hS
/-! ### repr -/
section
variable {X : Cx}
theorem cr_reprB : CallR X (.builtin "repr") (fun xs H Q => ∃ b : Bool, xs = [.bl b] ∧ Q (.str (if b then "True" else "False")) H) := by
  intro pins s σ H xs us Q I r h
  obtain ⟨b, rfl, q⟩ := h
  cases r with
  | cons rv rn =>
    cases rn
    cases rv
    exact PySem.P.repr_of_bool ⟨.str _, H, I.tok _, ⟨_, rfl⟩, q⟩
/-- of a list or tuple of data without dicts -/
theorem cr_reprD (hg : X.A.guards = some []) (hu : X.A.units + 70 < cLine) : CallR X (.builtin "repr") (fun xs H Q => ∃ (a : Addr) (d : PyData), xs = [.ref a] ∧ Dp X.K H (.ref a) d ∧ d.showable = true ∧ d.hasDict = false ∧ d.depth ≤ 60 ∧ d.shown.length ≤ sizeLine ∧ Q (.str d.shown) H) := by
  intro pins s σ H xs us Q I r h
  obtain ⟨a, d, rfl, hd, hs, hn, hdp, hz, q⟩ := h
  cases r with
  | cons rv rn =>
    cases rn
    cases rv
    obtain ⟨as, rd⟩ := Dp.reads I d _ _ hd rfl
    exact PySem.repr_of_reads' rd hs (PySem.PyData.noDict_hsm hn) hg (by omega) (fun _ _ e => e) (fun h' u tk k => ⟨.str d.shown, H, I.un (t' := tk) (Un.kept k) (I.hok.kept k), ⟨u, rfl⟩, q⟩) hz
end
section
variable {X : Cx}
theorem op_mulS : OpR X (binaryOp .Mult) (fun x y H Q => ∃ (z : Str) (n : Int), x = .str z ∧ y = .int n ∧ PySem.MulOk z n ∧ Q (.str (Txt.mul z n)) H) := by
  intro pins s σ H x y v u Q I rx ry h
  obtain ⟨z, n, rfl, rfl, hok, q⟩ := h
  obtain ⟨t, rfl⟩ := rx
  obtain ⟨t2, rfl⟩ := ry
  exact PySem.SB.mul hok fun t' k => ⟨.str _, H, I.tok _, ⟨_, rfl⟩, q⟩
end
theorem room70 {A : Around} {k : Nat} (hr : Room k A) : A.units + 70 < cLine := by
  have := hr.un
  omega
end LT

/-! Choosing down a row: what a step changes. -/
namespace LT
open PySem PySem.Spec PyProof.Rows L2 Evl
def fh (c : List (Str × V)) (u : Str) : V := (c.lookup u).getD .non
theorem holdL_eq (R : List (Str × List Str)) (gs ws : List Str) : holdL R gs ws = R.map fun r => (r.1, fh (cst R gs ws).1 r.1) := rfl
theorem lookup_snoc : ∀ {c : List (Str × V)} {u : Str} {b : V} {x : Str}, u ∉ c.map (·.1) → fh (c ++ [(u, b)]) x = if x = u then b else fh c x
  | [], u, b, x, _ => by
    unfold fh
    show ((List.lookup x [(u, b)]).getD .non) = _
    rw [List.lookup_cons]
    by_cases e : x = u
    · subst e; rw [beq_self_eq_true, if_pos rfl]; rfl
    · have e2 : (x == u) = false := by simpa using e
      rw [e2, if_neg e]
  | (y, v) :: c, u, b, x, h => by
    have h1 : u ≠ y ∧ u ∉ c.map (·.1) := ⟨fun e => h (e ▸ List.mem_cons_self), fun q => h (List.mem_cons_of_mem _ q)⟩
    have ih := lookup_snoc (b := b) (x := x) h1.2
    unfold fh at ih ⊢
    rw [List.cons_append, List.lookup_cons, List.lookup_cons]
    by_cases e : x = y
    · subst e
      rw [beq_self_eq_true, if_neg (fun q => h1.1 q.symm)]
    · have e2 : (x == y) = false := by simpa using e
      rw [e2]
      exact ih
theorem fh_new {c : List (Str × V)} {u : Str} (h : u ∉ c.map (·.1)) : fh c u = .non := by
  induction c with
  | nil => rfl
  | cons p c ih =>
    obtain ⟨y, v⟩ := p
    have h1 : u ≠ y ∧ u ∉ c.map (·.1) := ⟨fun e => h (e ▸ List.mem_cons_self), fun q => h (List.mem_cons_of_mem _ q)⟩
    have e2 : (u == y) = false := by simpa using h1.1
    have := ih h1.2
    unfold fh at this ⊢
    rw [List.lookup_cons, e2]
    exact this
theorem put_keyed {R : List (Str × List Str)} {f : Str → V} {u : Str} {v : V} (h : u ∈ R.map (·.1)) :
    putK (keyed (R.map fun r => (r.1, f r.1))) (.inr u) v = keyed (R.map fun r => (r.1, if r.1 = u then v else f r.1)) := by
  unfold putK
  have ha : ((keyed (R.map fun r => (r.1, f r.1))).any fun kv => decide (kv.1 = .inr u)) = true := by
    rw [List.any_eq_true]
    obtain ⟨r, hr, e⟩ := List.mem_map.mp h
    refine ⟨(.inr r.1, f r.1), ?_, decide_eq_true (by rw [← e])⟩
    unfold keyed
    rw [List.map_map]
    exact List.mem_map.mpr ⟨r, hr, rfl⟩
  rw [if_pos ha]
  unfold keyed
  rw [List.map_map, List.map_map, List.map_map]
  refine List.map_congr_left fun r _ => ?_
  show (if (Sum.inr r.1 : Key) = .inr u then ((Sum.inr r.1 : Key), v) else (.inr r.1, f r.1)) = (.inr r.1, if r.1 = u then v else f r.1)
  by_cases e : r.1 = u
  · rw [if_pos (by rw [e]), if_pos e]
  · rw [if_neg (fun q => e (Sum.inr.inj q)), if_neg e]
theorem cst_nodup {R : List (Str × List Str)} {gs : List Str} (hg : gs.Nodup) : ∀ (ws : List Str) , (cst R gs ws).2.Nodup := by
  have : ∀ (ws : List Str) (s : List (Str × V) × List Str), s.2.Nodup → (ws.foldl (stepC R) s).2.Nodup := by
    intro ws
    induction ws with
    | nil => intro s h; exact h
    | cons u r ih => intro s h; exact ih _ (h.filter _)
  exact fun ws => this ws _ hg
theorem best_mem {rk ls : List Str} {g : Str} (h : bestV rk ls = .str g) : g ∈ ls := by
  unfold bestV at h
  cases e : rk.find? (fun z => decide (z ∈ ls)) with
  | none => rw [e] at h; cases h
  | some z =>
    rw [e] at h
    cases h
    have := List.find?_some (p := fun z => decide (z ∈ ls)) e
    exact of_decide_eq_true this
theorem best_kind (rk ls : List Str) : bestV rk ls = .non ∨ ∃ g, bestV rk ls = .str g := by
  unfold bestV
  cases rk.find? (fun z => decide (z ∈ ls)) with
  | none => exact .inl rfl
  | some z => exact .inr ⟨z, rfl⟩
theorem left_none (ls : List Str) : (ls.filter fun z => !decide (V.str z = V.non)) = ls := by
  refine List.filter_eq_self.mpr fun z _ => ?_
  rw [decide_eq_false (fun q => nomatch q)]
  rfl
theorem left_str {ls : List Str} (h : ls.Nodup) (g : Str) : (ls.filter fun z => !decide (V.str z = V.str g)) = ls.erase g := by
  rw [h.erase_eq_filter]
  refine List.filter_congr fun z _ => ?_
  by_cases e : z = g
  · subst e; simp
  · rw [decide_eq_false (fun q => e (V.str.inj q))]
    simp [e]
/-- a step where nothing is left that the guest ranks -/
theorem step_none {R : List (Str × List Str)} {gs ws : List Str} {u : Str} (hn : u ∉ (cst R gs ws).1.map (·.1)) (hb : bestV (rkOf R u) (cst R gs ws).2 = .non) :
    holdL R gs (ws ++ [u]) = holdL R gs ws ∧ (cst R gs (ws ++ [u])).2 = (cst R gs ws).2 := by
  rw [holdL_eq, holdL_eq, cst_snoc]
  unfold stepC
  rw [hb, left_none]
  refine ⟨List.map_congr_left fun r _ => ?_, rfl⟩
  show (r.1, fh ((cst R gs ws).1 ++ [(u, V.non)]) r.1) = _
  rw [lookup_snoc hn]
  by_cases e : r.1 = u
  · rw [if_pos e, e, fh_new hn]
  · rw [if_neg e]
theorem step_str {R : List (Str × List Str)} {gs ws : List Str} {u g : Str} (hg : gs.Nodup) (hu : u ∈ R.map (·.1)) (hn : u ∉ (cst R gs ws).1.map (·.1)) (hb : bestV (rkOf R u) (cst R gs ws).2 = .str g) :
    putK (keyed (holdL R gs ws)) (.inr u) (.str g) = keyed (holdL R gs (ws ++ [u])) ∧ (cst R gs (ws ++ [u])).2 = (cst R gs ws).2.erase g := by
  rw [holdL_eq, holdL_eq, cst_snoc, put_keyed hu]
  unfold stepC
  rw [hb, left_str (cst_nodup hg ws)]
  refine ⟨congrArg keyed (List.map_congr_left fun r _ => ?_), rfl⟩
  show _ = (r.1, fh ((cst R gs ws).1 ++ [(u, V.str g)]) r.1)
  rw [lookup_snoc hn]
theorem holdL_nil (R : List (Str × List Str)) (gs : List Str) : holdL R gs [] = R.map fun r => (r.1, V.non) := rfl
end LT

/-! Walks over what is a list or a tuple: one derivation for both. -/
namespace LT
open PySem PySem.Spec PyProof.Rows L2 Evl
/-- a list or a tuple of xs stands at a -/
def SqLT (K : PySem.W.Frag) (H : Hp) (a : Addr) (xs : List V) : Prop := SqL K H a xs ∨ SqT K H a xs
theorem ex_lt {K : PySem.W.Frag} {H H' : Hp} {a : Addr} {xs : List V} (e : Ex H H') (h : SqLT K H a xs) : SqLT K H' a xs := h.imp (ex_l e) (ex_t e)
section
variable {X : Cx} {tg : Expr}
def iLT (K : PySem.W.Frag) (tl : TE) : TI := fun σ H R => tl σ H fun x H1 => ∃ a, x = .ref a ∧ (((∃ xs, SqL K H1 a xs) ∧ R (Itl K a) H1) ∨ ((∃ xs, SqT K H1 a xs) ∧ R (Itt K a) H1))
theorem pi_lt {l : Expr} {tl : TE} (hl : PE X l tl) : PI X tg l (iLT X.K tl) := by
  refine ⟨fun pins s σ H R I h => ?_⟩
  refine thn (hl.run pins s σ H _ I h) fun v s1 ⟨x, H1, I1, r1, q1⟩ => ?_
  obtain ⟨a, e, ⟨⟨xs, hq⟩, q⟩ | ⟨⟨xs, hq⟩, q⟩⟩ := q1
  · subst e
    cases r1
    obtain ⟨its, rv, p, hz⟩ := I1.list hq
    refine wpAny_pyIter_list p.isList ?_
    refine ⟨s1.heap.objs.size, [s1.heap.objs.size], _, _, H1, rfl, I1.kept (t' := s1.toks) fun b o e => Heap.get?_push_of_some _ e, turn_list a _, ⟨_, Heap.get?_push_size _ rfl, rfl, rfl⟩, fun b hb => ?_, q⟩
    have e : b = s1.heap.objs.size := by simpa using hb
    subst e
    exact I1.fpOk (Nat.le_refl _) (I1.hok.fresh (Nat.le_refl _))
  · subst e
    cases r1
    obtain ⟨its, rv, p, hz⟩ := I1.tuple hq
    refine wpAny_pyIter_tuple (show s1.heap.IsTuple a its.toArray from p) ?_
    refine ⟨s1.heap.objs.size, [s1.heap.objs.size], _, _, H1, rfl, I1.kept (t' := s1.toks) fun b o e => Heap.get?_push_of_some _ e, turn_tuple a _, ⟨_, Heap.get?_push_size _ rfl, rfl, rfl⟩, fun b hb => ?_, q⟩
    have e : b = s1.heap.objs.size := by simpa using hb
    subst e
    exact I1.fpOk (Nat.le_refl _) (I1.hok.fresh (Nat.le_refl _))
end
/-- a for over it; the body leaves what stood -/
theorem for_lt {K : PySem.W.Frag} {a : Addr} {xs : List V} {g : TG} {tb : TS} {D : Ends} {σ : L2.St} {H H0 : Hp} (hq : SqLT K H0 a xs) (Pv : Nat → L2.St → Hp → Prop) (h0 : Pv 0 σ H) (hl : ∀ i σ H, i ≤ xs.length → Pv i σ H → Ex H0 H)
    (hs : ∀ i x σ H, xs[i]? = some x → Pv i σ H → g x σ H fun σ2 H2 => tb { D with nx := Pv (i + 1), ct := Pv (i + 1), bk := D.nx } σ2 H2) (hd : ∀ σ H, Pv xs.length σ H → D.nx σ H) :
    ((∃ xs, SqL K H a xs) ∧ ∃ W : Nat → Nat → L2.St → Hp → Prop, (∃ m, W 0 m σ H) ∧ ∀ i m σ H, W i m σ H →
      ((Itl K a).stop i H ∧ D.nx σ H) ∨ ((Itl K a).go i H ∧ ∃ N : L2.St → Hp → Prop, (∀ σ' H', N σ' H' → ∃ m', m' < m ∧ W (i + 1) m' σ' H') ∧ ∀ x H', (Itl K a).yld i H x H' → g x σ H' fun σ2 H2 => tb { D with nx := N, ct := N, bk := D.nx } σ2 H2)) ∨
    ((∃ xs, SqT K H a xs) ∧ ∃ W : Nat → Nat → L2.St → Hp → Prop, (∃ m, W 0 m σ H) ∧ ∀ i m σ H, W i m σ H →
      ((Itt K a).stop i H ∧ D.nx σ H) ∨ ((Itt K a).go i H ∧ ∃ N : L2.St → Hp → Prop, (∀ σ' H', N σ' H' → ∃ m', m' < m ∧ W (i + 1) m' σ' H') ∧ ∀ x H', (Itt K a).yld i H x H' → g x σ H' fun σ2 H2 => tb { D with nx := N, ct := N, bk := D.nx } σ2 H2)) := by
  have e := hl 0 σ H (Nat.zero_le _) h0
  rcases hq with q | q
  · exact .inl ⟨⟨_, ex_l e q⟩, for_list Pv h0 (fun i σ H hi p => ex_l (hl i σ H hi p) q) hs hd⟩
  · exact .inr ⟨⟨_, ex_t e q⟩, for_tup Pv h0 (fun i σ H hi p => ex_t (hl i σ H hi p) q) hs hd⟩
theorem lc_lt {K : PySem.W.Frag} {a : Addr} {xs : List V} {g : TG} {tt : TT} {te : TE} {vs : List Nat} {σ : L2.St} {H1 H0 : Hp} {Q : VK} (hq : SqLT K H0 a xs) (e1 : Ex H0 H1)
    (Pv : Addr → Nat → Hp → Prop) (h0 : ∀ D, H1 D = none → Pv D 0 (upd H1 D (.lst []))) (hl : ∀ D i H, H1 D = none → i ≤ xs.length → Pv D i H → Ex H0 H)
    (hs : ∀ D i x H, H1 D = none → xs[i]? = some x → Pv D i H → g x (wipe σ vs) H fun σ2 H2 => wipe σ2 vs = wipe σ vs ∧ tt σ2 H2 fun b H3 =>
      if b = true then te σ2 H3 fun y H4 => ∃ acc, H4 D = some (.lst acc) ∧ acc.length < sizeLine ∧ Pv D (i + 1) (upd H4 D (.lst (acc ++ [y]))) else Pv D (i + 1) H3) (hd : ∀ D H, H1 D = none → Pv D xs.length H → Q (.ref D) H) :
    ((∃ xs, SqL K H1 a xs) ∧ ∀ D, H1 D = none → ∃ W : Nat → Nat → Hp → Prop, (∃ m, W 0 m (upd H1 D (.lst []))) ∧ ∀ i m H, W i m H →
      ((Itl K a).stop i H ∧ Q (.ref D) H) ∨ ((Itl K a).go i H ∧ ∃ Nx : Hp → Prop, (∀ H', Nx H' → ∃ m', m' < m ∧ W (i + 1) m' H') ∧ ∀ x H', (Itl K a).yld i H x H' → g x (wipe σ vs) H' fun σ2 H2 => wipe σ2 vs = wipe σ vs ∧ tt σ2 H2 fun b H3 =>
        if b = true then te σ2 H3 fun y H4 => ∃ acc, H4 D = some (.lst acc) ∧ acc.length < sizeLine ∧ Nx (upd H4 D (.lst (acc ++ [y]))) else Nx H3)) ∨
    ((∃ xs, SqT K H1 a xs) ∧ ∀ D, H1 D = none → ∃ W : Nat → Nat → Hp → Prop, (∃ m, W 0 m (upd H1 D (.lst []))) ∧ ∀ i m H, W i m H →
      ((Itt K a).stop i H ∧ Q (.ref D) H) ∨ ((Itt K a).go i H ∧ ∃ Nx : Hp → Prop, (∀ H', Nx H' → ∃ m', m' < m ∧ W (i + 1) m' H') ∧ ∀ x H', (Itt K a).yld i H x H' → g x (wipe σ vs) H' fun σ2 H2 => wipe σ2 vs = wipe σ vs ∧ tt σ2 H2 fun b H3 =>
        if b = true then te σ2 H3 fun y H4 => ∃ acc, H4 D = some (.lst acc) ∧ acc.length < sizeLine ∧ Nx (upd H4 D (.lst (acc ++ [y]))) else Nx H3)) := by
  rcases hq with q | q
  · exact .inl ⟨⟨_, ex_l e1 q⟩, fun D hD => lc_list (Pv D) (h0 D hD) (fun i H hi p => ex_l (hl D i H hD hi p) q) (fun i x H hx p => hs D i x H hD hx p) (fun H p => hd D H hD p)⟩
  · exact .inr ⟨⟨_, ex_t e1 q⟩, fun D hD => lc_tup (Pv D) (h0 D hD) (fun i H hi p => ex_t (hl D i H hD hi p) q) (fun i x H hx p => hs D i x H hD hx p) (fun H p => hd D H hD p)⟩
end LT

/-! repr of any datum of ours, and when two of them are alike. -/
namespace LT
open PySem PySem.Spec PyProof.Rows L2 Evl
/-! ### plain texts -/
def Plain (c : Nat) : Bool := decide (32 ≤ c) && decide (c ≤ 126) && decide (c ≠ 39) && decide (c ≠ 92)
theorem repr_ch : ∀ c, c < 127 → Plain c = true → PySem.Builtin.Str.reprChar 39 c = [c] := by decide +kernel
theorem repr_fold_plain : ∀ (l : List Nat) (acc : Array Nat), (∀ c ∈ l, Plain c = true) → (l.foldl (fun out c => out ++ (PySem.Builtin.Str.reprChar 39 c).toArray) acc).toList = acc.toList ++ l
  | [], acc, _ => by simp
  | c :: r, acc, h => by
    have hc := h c List.mem_cons_self
    have hlt : c < 127 := by
      unfold Plain at hc
      simp only [Bool.and_eq_true, decide_eq_true_eq] at hc
      omega
    rw [List.foldl_cons, repr_fold_plain r _ (fun d hd => h d (List.mem_cons_of_mem _ hd)), repr_ch c hlt hc]
    simp
theorem repr_plain {x : Str} (h : ∀ c ∈ x.cps.toList, Plain c = true) : (reprText x).cps.toList = 39 :: (x.cps.toList ++ [39]) := by
  have hq : reprQuote x = 39 := by
    unfold reprQuote
    have : x.cps.contains 39 = false := by
      rw [Bool.eq_false_iff]
      intro q
      have hm : 39 ∈ x.cps.toList := by simpa using q
      have := h 39 hm
      exact absurd this (by decide)
    rw [this]
    rfl
  unfold reprText
  rw [hq]
  show (Array.push _ _).toList = _
  rw [Array.toList_push, ← Array.foldl_toList, repr_fold_plain _ _ h]
  rfl
theorem NameOk.plain {z : Str} (h : NameOk z) : ∀ c ∈ z.cps.toList, Plain c = true := fun c hc => by
  have := h.2.2 c hc
  unfold Az at this
  unfold Plain
  simp only [Bool.and_eq_true, decide_eq_true_eq]
  omega
def plainS (z : Str) : Bool := z.cps.toList.all Plain
/-- a datum that repr shows; a text among them is plain, what is no text begins with no quote -/
def D.flat : D → Bool
  | .non => true
  | .bl _ => true
  | .int _ => true
  | .str _ => true
  | _ => false
def D.flatK : List (Key × D) → Bool
  | [] => true
  | (_, d) :: r => d.flat && D.flatK r
def D.kept : D → Bool
  | .dct kvs => D.flatK kvs
  | d => d.nd
def D.apart : D → Bool
  | .str z => plainS z
  | d => decide (d.py.shown.cps.toList.head? ≠ some 39)
def D.rp (d : D) : Bool := d.kept && d.py.showable && decide (d.py.depth ≤ 60) && decide (d.py.shown.length ≤ 10000) && d.apart
def isS (n : Str) : D → Bool
  | .str z => decide (z = n)
  | _ => false
theorem shown_isS {n : Str} (hn : NameOk n) : ∀ {d : D}, d.rp = true → decide (d.py.shown = reprText n) = isS n d := by
  intro d h
  unfold D.rp at h
  simp only [Bool.and_eq_true, decide_eq_true_eq] at h
  have ha := h.2
  have hh := repr_plain hn.plain
  have other : ∀ e : D, decide (e.py.shown.cps.toList.head? ≠ some 39) = true → decide (e.py.shown = reprText n) = false := fun e he => by
    rw [decide_eq_false_iff_not]
    intro q
    rw [q, hh] at he
    exact absurd he (by simp)
  cases d with
  | str z =>
    show decide ((PyData.str z).shown = reprText n) = decide (z = n)
    rw [PyData.shown_str]
    have hz : ∀ c ∈ z.cps.toList, Plain c = true := by
      intro c hc
      exact List.all_eq_true.mp (show z.cps.toList.all Plain = true from ha) c hc
    have h2 := repr_plain hz
    by_cases e : z = n
    · subst e; simp
    · rw [decide_eq_false e, decide_eq_false_iff_not]
      intro q
      rw [q, hh] at h2
      refine e (str_ext ?_)
      have := List.cons.inj h2
      exact (List.append_cancel_right this.2).symm
  | non => exact other _ ha
  | bl b => exact other _ ha
  | int i => exact other _ ha
  | tup ds => exact other _ ha
  | lst ds => exact other _ ha
  | dct kvs => exact other _ ha
theorem rp_name {n : Str} (hn : NameOk n) : (D.str n).rp = true := by
  unfold D.rp
  have h1 : (PyData.str n).shown.length ≤ 10000 := by
    rw [PyData.shown_str, len_tl, repr_plain hn.plain]
    have := hn.2.1
    rw [len_tl] at this
    simp only [List.length_cons, List.length_append, List.length_nil]
    omega
  have h2 : plainS n = true := List.all_eq_true.mpr hn.plain
  have h3 : decide ((D.str n).py.shown.length ≤ 10000) = true := decide_eq_true h1
  rw [h3]
  show (((true && true) && true) && true && plainS n) = true
  rw [h2]
  rfl
/-! ### the rule -/
mutual
theorem noDict_py : ∀ d : D, d.nd = true → d.py.hasDict = false
  | .non, _ => rfl
  | .bl _, _ => rfl
  | .int _, _ => rfl
  | .str _, _ => rfl
  | .tup ds, h => noDict_pyL ds h
  | .lst ds, h => noDict_pyL ds h
  | .dct _, h => by cases h
theorem noDict_pyL : ∀ ds : List D, D.ndL ds = true → PyData.hasDictAll (D.pyL ds) = false
  | [], _ => rfl
  | d :: r, h => by
    have h2 := Bool.and_eq_true_iff.mp (show (d.nd && D.ndL r) = true from h)
    show (PyData.hasDict d.py || PyData.hasDictAll (D.pyL r)) = false
    rw [noDict_py d h2.1, noDict_pyL r h2.2]
    rfl
end
theorem noDict_hsm' (d : D) (h : d.nd = true) {as : List Addr} : d.py.hasDict = true → sysModules ∉ as := PySem.PyData.noDict_hsm (noDict_py d h)
def encK : Key → PyData
  | .inl i => .int i
  | .inr x => .str x
theorem den_len {K : PySem.W.Frag} {H : Hp} : ∀ {kvs : List (Key × V)} {ds : List (Key × D)}, DenK K H kvs ds → D.pyK ds = ds.map fun p => (encK p.1, p.2.py)
  | _, _, .nil => rfl
  | _, _, .cons (k := k) h l => by
    rw [List.map_cons, ← den_len l]
    cases k <;> rfl
section
variable {X : Cx}
theorem pairs_read {K : PySem.W.Frag} {H : Hp} {h : Heap} : ∀ {kvs : List (Key × V)} {vs : List (Key × Value)} {ds : List (Key × D)}, DenK K H kvs ds → KV kvs vs → D.flatK ds = true → PyProof.V.PairsRead h encK vs (D.pyK ds) []
  | _, _, _, .nil, .nil, _ => .nil
  | _, _, _, .cons (k := k) (v := v) (d := d) hd l, .cons (b := b) r t, hf => by
    have hf2 := Bool.and_eq_true_iff.mp (show (d.flat && D.flatK _) = true from hf)
    obtain ⟨k2, u⟩ := b
    obtain ⟨e, rv⟩ := r
    have e : k = k2 := e
    subst e
    have rest := pairs_read (h := h) l t hf2.2
    have one : Reads h u d.py [] := by
      cases hd with
      | non => cases rv; exact .none
      | bl b => cases rv; exact .bool b
      | int i => obtain ⟨t, rfl⟩ := rv; exact .int i t
      | str x => obtain ⟨t, rfl⟩ := rv; exact .str x t
      | tup => exact absurd hf2.1 Bool.false_ne_true
      | lst => exact absurd hf2.1 Bool.false_ne_true
      | dct => exact absurd hf2.1 Bool.false_ne_true
    have := PyProof.V.PairsRead.cons (k := k) (enc := encK) one rest
    cases k <;> exact this
theorem den_reads {pins : List (Addr × Obj)} {σ : L2.St} {H : Hp} {s : Shared} (I : Inv X pins σ H s) {d : D} {v : V} {u : Value} (hd : Den X.K H v d) (r : RelV v u) (hk : d.kept = true) :
    ∃ as, Reads s.heap u d.py as ∧ (d.py.hasDict = true → sysModules ∉ as) := by
  have plain : d.nd = true → ∃ as, Reads s.heap u d.py as ∧ (d.py.hasDict = true → sysModules ∉ as) := fun hn => by
    obtain ⟨as, rd⟩ := Dp.reads I _ _ _ (hd.dp hn) r
    refine ⟨as, rd, noDict_hsm' d hn⟩
  cases d with
  | dct ds =>
    cases hd with
    | dct ha hl =>
      rename_i a vs
      cases r
      obtain ⟨hz, hsys, prs, kv, dof⟩ := I.hok a _ ha
      have p := pairs_read (h := s.heap) hl kv hk
      refine ⟨_, PyProof.V.reads_dictOf (enc := encK) (fun k key hkey => ?_) dof p, fun _ q => ?_⟩
      · rcases keyIs_shape (show keyIs k key = true from hkey) with ⟨i, t, rfl, rfl⟩ | ⟨x, t, rfl, rfl⟩
        · exact .int i t
        · exact .str x t
      · rw [List.mem_singleton] at q
        rw [← q] at hsys
        exact absurd hsys (by decide)
  | non => exact plain hk
  | bl b => exact plain hk
  | int i => exact plain hk
  | str x => exact plain hk
  | tup ds => exact plain hk
  | lst ds => exact plain hk
theorem cr_repr (hg : X.A.guards = some []) (hu : X.A.units + 70 < cLine) : CallR X (.builtin "repr") (fun xs H Q => ∃ (v : V) (d : D), xs = [v] ∧ Den X.K H v d ∧ d.kept = true ∧ d.py.showable = true ∧ d.py.depth ≤ 60 ∧ d.py.shown.length ≤ sizeLine ∧ Q (.str d.py.shown) H) := by
  intro pins s σ H xs us Q I r h
  obtain ⟨v, d, rfl, hd, hk, hs, hdp, hz, q⟩ := h
  obtain ⟨u, eu, rv⟩ := vals1 r
  subst eu
  obtain ⟨as, rd, hsm⟩ := den_reads I hd rv hk
  have fin : ∀ h' u tk, (∀ b o, s.heap.get? b = some o → h'.get? b = some o) → (fun u s' => ∃ y H', Inv X pins σ H' s' ∧ RelV y u ∧ Q y H') (Value.str d.py.shown u) { s with heap := h', toks := tk } :=
    fun h' u tk k => ⟨.str d.py.shown, H, I.un (t' := tk) (Un.kept k) (I.hok.kept k), ⟨u, rfl⟩, q⟩
  cases hd with
  | non => cases rv; exact PySem.P.repr_of_none (by rw [← PyData.shown_none]; exact fin _ _ _ fun _ _ e => e)
  | bl b => cases rv; exact PySem.P.repr_of_bool (by rw [← PyData.shown_bool]; exact fin _ _ _ fun _ _ e => e)
  | int i =>
    obtain ⟨t, rfl⟩ := rv
    exact PySem.P.repr_of_int (by simpa [D.py, PyData.showable] using hs) (by rw [← PyData.shown_int]; exact fin _ _ _ fun _ _ e => e)
  | str x =>
    obtain ⟨t, rfl⟩ := rv
    exact PySem.P.repr_of_str (by rw [← PyData.shown_str]; exact fin _ _ _ fun _ _ e => e) (by rw [← PyData.shown_str]; exact hz)
  | tup => cases rv; exact PySem.repr_of_reads' rd hs hsm hg (by omega) (fun _ _ e => e) fin hz
  | lst => cases rv; exact PySem.repr_of_reads' rd hs hsm hg (by omega) (fun _ _ e => e) fin hz
  | dct => cases rv; exact PySem.repr_of_reads' rd hs hsm hg (by omega) (fun _ _ e => e) fin hz
end
end LT

/-! Kinds of data; how often a text stands among data. -/
namespace LT
open PySem PySem.Spec PyProof.Rows L2 Evl
def D.tyN : D → String
  | .non => "NoneType"
  | .bl _ => "bool"
  | .int _ => "int"
  | .str _ => "str"
  | .tup _ => "tuple"
  | .lst _ => "list"
  | .dct _ => "dict"
def D.isSeq : D → Bool
  | .tup _ => true
  | .lst _ => true
  | _ => false
def D.items : D → List D
  | .tup ds => ds
  | .lst ds => ds
  | _ => []
section
variable {K : PySem.W.Frag} {G H : Hp}
theorem Den.ty {v : V} {d : D} (h : Den K G v d) (e : Ex G H) : TyX K H v (.type d.tyN) := by
  cases h with
  | non => exact .base .non
  | bl b => exact .base (.bl b)
  | int i => exact .base (.int i)
  | str x => exact .base (.str x)
  | tup h l => exact tyx_t (ex_t e h)
  | lst h l => exact tyx_l (ex_l e h)
  | dct h l => exact .base (.dK (e _ _ h))
theorem kit_lt (d : D) : PySem.W.kitAny K (.type d.tyN) [.type "list", .type "tuple"] = some d.isSeq := by
  have go : ∀ (t : String) (a b r : Bool), kitB t "list" = some a → kitB t "tuple" = some b → r = (a || b) → PySem.W.kitAny K (.type t) [.type "list", .type "tuple"] = some r := by
    intro t a b r h1 h2 e
    subst e
    refine kitAny_cons (kit_ty h1) (fun ea => kitAny_cons (kit_ty h2) (fun eb => ?_) (fun eb => ?_)) (fun ea => ?_)
    · rw [ea, eb]; exact kitAny_nil
    · rw [eb, Bool.or_true]
    · rw [ea, Bool.true_or]
  cases d with
  | non => exact go "NoneType" false false _ (by decide +kernel) (by decide +kernel) rfl
  | bl b => exact go "bool" false false _ (by decide +kernel) (by decide +kernel) rfl
  | int i => exact go "int" false false _ (by decide +kernel) (by decide +kernel) rfl
  | str x => exact go "str" false false _ (by decide +kernel) (by decide +kernel) rfl
  | tup ds => exact go "tuple" false true _ (by decide +kernel) (by decide +kernel) rfl
  | lst ds => exact go "list" true false _ (by decide +kernel) (by decide +kernel) rfl
  | dct kvs => exact go "dict" false false _ (by decide +kernel) (by decide +kernel) rfl
theorem DenL.at : ∀ {vs : List V} {ds : List D}, DenL K G vs ds → ∀ {i : Nat} {v : V}, vs[i]? = some v → ∃ d, ds[i]? = some d ∧ Den K G v d
  | _, _, .nil, _, _, h => by simp at h
  | _, _, .cons hd l, 0, v, h => by cases h; exact ⟨_, rfl, hd⟩
  | _, _, .cons hd l, i + 1, v, h => DenL.at l (i := i) h
end
/-- each of ns stands exactly once in it, and nothing else does -/
def ordD (d : D) (ns : List Str) : Bool := d.isSeq && decide (d.items.length = ns.length) && ns.all fun n => decide (d.items.countP (isS n) = 1)
theorem eqv_one (k : Nat) (n : Str) : PyData.eqv (.list ((List.replicate k n).map PyData.str)) (.list [.str n]) = decide (k = 1) := by
  match k with
  | 0 => simp [PyData.eqv, PyData.eqvAll]
  | 1 => simp [PyData.eqv, PyData.eqvAll]
  | k + 2 => simp [PyData.eqv, PyData.eqvAll, List.replicate_succ]
theorem lc_ltV {K : PySem.W.Frag} {a : Addr} {xs : List V} {g : TG} {tt : TT} {te : TE} {vs : List Nat} {σ : L2.St} {H1 H0 : Hp} {Q : VK} {i : Nat} (hv : σ[i]? = some (some (V.ref a))) (hq : SqLT K H0 a xs) (e1 : Ex H0 H1)
    (Pv : Addr → Nat → Hp → Prop) (h0 : ∀ D, H1 D = none → Pv D 0 (upd H1 D (.lst []))) (hl : ∀ D i H, H1 D = none → i ≤ xs.length → Pv D i H → Ex H0 H)
    (hs : ∀ D i x H, H1 D = none → xs[i]? = some x → Pv D i H → g x (wipe σ vs) H fun σ2 H2 => wipe σ2 vs = wipe σ vs ∧ tt σ2 H2 fun b H3 =>
      if b = true then te σ2 H3 fun y H4 => ∃ acc, H4 D = some (.lst acc) ∧ acc.length < sizeLine ∧ Pv D (i + 1) (upd H4 D (.lst (acc ++ [y]))) else Pv D (i + 1) H3) (hd : ∀ D H, H1 D = none → Pv D xs.length H → Q (.ref D) H) :
    tLc (iLT K (tVar i)) g tt te vs σ H1 Q := ⟨.ref a, hv, a, rfl, lc_lt hq e1 Pv h0 hl hs hd⟩
theorem tt_op {r : R2} {tx ty : TE} {σ : L2.St} {H : Hp} {Q : Bool → Hp → Prop} (h : tx σ H fun x H1 => ty σ H1 fun y H2 => r x y H2 fun v H' => ∃ k, v = .bl k ∧ Q k H') : tTest (tOp r tx ty) σ H Q := h
theorem tcb_one {R : List V → Hp → VK → Prop} {t : TE} {σ : L2.St} {H : Hp} {Q : VK} (h : t σ H fun x H1 => R [x] H1 Q) : tCB R (tCons t tNil) σ H Q := h
theorem tn_val {t : TE} {σ : L2.St} {H : Hp} {Q : Bool → Hp → Prop} (h : t σ H fun x H1 => ∃ k, x = .bl k ∧ Q (!k) H1) : tNot (tTest t) σ H Q := h
/-! The same rules with K told: within a comprehension's block the reading may not speak of the block. -/
section
variable {X : Cx} {K : PySem.W.Frag} {tg : Expr}
theorem pi_ltK {l : Expr} {tl : TE} (hl : PE X l tl) (hK : X.K = K := by rfl) : PI X tg l (iLT K tl) := by
  subst hK
  exact pi_lt hl
theorem op_neDK (hu : X.A.units + 64 < cLine) (hK : X.K = K := by rfl) : OpR X (compareOp .NotEq) (rNeD K) := by
  subst hK
  exact op_neD hu
def rRepr (K : PySem.W.Frag) : List V → Hp → VK → Prop := fun xs H Q => ∃ (v : V) (d : D), xs = [v] ∧ Den K H v d ∧ d.kept = true ∧ d.py.showable = true ∧ d.py.depth ≤ 60 ∧ d.py.shown.length ≤ sizeLine ∧ Q (.str d.py.shown) H
theorem cr_reprK (hg : X.A.guards = some []) (hu : X.A.units + 70 < cLine) (hK : X.K = K := by rfl) : CallR X (.builtin "repr") (rRepr K) := by
  subst hK
  exact cr_repr hg hu
end
end LT

/-! A text in a list or tuple of data of any kind. -/
namespace LT
open PySem PySem.Spec PyProof.Rows L2 Evl
open PySem.SeqAt
theorem str_eq_dict (b : Str) (u : Tok) (l : Addr) (c : Value) (es : Array DictEntry) (ep : Nat) (dd : Option Addr) (sl : Array (Option Value)) :
    Meets (Builtin.«str.__eq__» ⟨[.str b u, .ref l], []⟩) (fun _ R s => s.heap.get? l = some { cls := c, dict := dd, data := .dict es ep, slots := sl } ∧ R (.ok (.ret .notImplemented)) s) :=
  .of_wp fun prog w A R s h => by obtain ⟨hp, g, d, tk, os⟩ := s; obtain ⟨hl, h⟩ := h; wp_walk using AutoSeq1.wpAny_loadPart' hl, wpAny_load hl; exact ⟨_, rfl, h⟩
section
variable {A : Around} {s : Shared} {a : Addr} {K : Type} [DecidableEq K] 
theorem rc_dict_str {prog0 : Program} {w0 : World} {knd : KeyKind prog0 w0 K} {ka : List (K × Value)} (b : Str) (u : Tok) (da : s.heap.DictOf knd a ka) (hu : A.units < cLine) : RcAt A s (.ref a) (.str b u) false := fun prog w E Q h => by
  obtain ⟨o, es, ep, ho, hx, hdat, _⟩ := id da
  obtain ⟨oc, od, dt, sl⟩ := o
  obtain ⟨h1, h2, h3⟩ := hx
  simp only at h1 h2 h3 hdat
  subst h1 hdat
  have ty : s.TypeIs (.ref a) "dict" := ⟨_, ho, rfl⟩
  refine rc_eq_decline_or (k := false) ty (typeIs_str s b u) (by decide) F.sub_str_dict F.slot_dict_eq F.slot_str_eq_refl (fun Q' hq => ?_)
    (fun _ hq => PySem.call_meets F.slot_str_eq_refl (typeIs_str s b u) F.entry_str_eq (F.args_str_eq_2 _ _) (str_eq_dict b u a (.type "dict") es ep od sl) ⟨ho, hq⟩)
    (fun _ hq => wpAny_of_eq (rfl : isSame (.ref a) (.str b u) = pure false) hq) (.inr hu) h
  refine wpAny_call_entry PySem.F.slot_dict_eq ty PySem.F.entry_dict_eq ?_ (PySem.F.args_dict_eq_2 _ _)
  show wpAny _ _ (Builtin.Dict.dictSlotArgs "__eq__" ⟨[.ref a, .str b u], []⟩ >>= _) _ _ s
  refine wpAny_bind ?_
  unfold Builtin.Dict.dictSlotArgs
  refine wpAny_bind (wpAny_notOrdered_dict ty ?_)
  show wpAny _ _ (pure (Value.ref a, Value.str b u)) _ _ s
  refine wpAny_pure ?_
  refine wpAny_bind (wpAny_isInstance (T := "str") (typeIs_str s b u) PySem.F.sub_str_dict ?_)
  show wpAny _ _ (if (!false) = true then _ else _) _ _ _
  rw [if_pos (by decide)]
  exact wpAny_bind (wpAny_rule (wpAny_pure ⟨_, rfl, hq⟩))
theorem eq_dict_str {prog0 : Program} {w0 : World} {knd : KeyKind prog0 w0 K} {ka : List (K × Value)} (b : Str) (u : Tok) (da : s.heap.DictOf knd a ka) (hu : A.units < cLine) : EqAt A s (.ref a) (.str b u) false := fun prog w E Q h => by
  unfold eqBool
  refine wpAny_holding ?_
  refine wpAny_ite_split (fun hab => absurd (eq_of_beq hab) nofun) (fun _ => ?_)
  exact wpAny_bind (rc_dict_str b u da hu prog w E _ (wpAny_truthy_bool h))
end
def isU (n : Str) : Value → Bool
  | .str z _ => decide (z = n)
  | _ => false
section
variable {X : Cx}
theorem eq_item {pins : List (Addr × Obj)} {σ : L2.St} {H : Hp} {s : Shared} (I : Inv X pins σ H s) (n : Str) (tn : Tok) {d : D} {v : V} {u : Value} (hd : Den X.K H v d) (r : RelV v u) {A : Around} (hu : A.units < cLine) :
    EqAt A s u (.str n tn) (isU n u) ∧ isU n u = isS n d := by
  cases hd with
  | non => cases r; exact ⟨EqAt.none_str n tn, rfl⟩
  | bl b => cases r; exact ⟨EqAt.bool_str b n tn, rfl⟩
  | int i => obtain ⟨t, rfl⟩ := r; exact ⟨EqAt.int_str i t n tn, rfl⟩
  | str x =>
    obtain ⟨t, rfl⟩ := r
    refine ⟨?_, rfl⟩
    have := EqAt.str_str (A := A) (s := s) x t n tn
    rw [show isU n (.str x t) = (x == n) from (Bool.beq_eq_decide_eq x n).symm]
    exact this
  | tup h l => cases r; obtain ⟨its, _, p, _⟩ := I.tuple h; exact ⟨EqAt.tuple_str n tn p hu, rfl⟩
  | lst h l => cases r; obtain ⟨its, _, p, _⟩ := I.list h; exact ⟨EqAt.list_str n tn p.isList hu, rfl⟩
  | dct h l => cases r; obtain ⟨_, _, vs, _, dof⟩ := I.hok _ _ h; exact ⟨eq_dict_str n tn dof hu, rfl⟩
theorem eq_items {pins : List (Addr × Obj)} {σ : L2.St} {H : Hp} {s : Shared} (I : Inv X pins σ H s) (n : Str) (tn : Tok) {A : Around} (hu : A.units < cLine) : ∀ {ds : List D} {vs : List V} {us : List Value}, DenL X.K H vs ds → Vals vs us →
    (∀ y, y ∈ us → EqAt A s y (.str n tn) (isU n y)) ∧ us.any (isU n) = ds.any (isS n)
  | _, _, _, .nil, .nil => ⟨fun y hy => (by cases hy), rfl⟩
  | _, _, _, .cons hd l, .cons r t => by
    obtain ⟨h1, h2⟩ := eq_item I n tn hd r hu
    obtain ⟨h3, h4⟩ := eq_items I n tn hu l t
    refine ⟨fun y hy => ?_, by rw [List.any_cons, List.any_cons, h2, h4]⟩
    rcases List.mem_cons.mp hy with rfl | hy
    · exact h1
    · exact h3 y hy
/-- a text in data of any kind -/
def rInAny (K : PySem.W.Frag) : R2 := fun x y H Q => ∃ (n : Str) (a : Addr) (vs : List V) (ds : List D), x = .str n ∧ y = .ref a ∧ SqLT K H a vs ∧ DenL K H vs ds ∧ Q (.bl (ds.any (isS n))) H
theorem op_inAny {K : PySem.W.Frag} (hu : X.A.units + 1 < cLine) (hK : X.K = K := by rfl) : OpR X (compareOp .In) (rInAny K) := by
  subst hK
  intro pins s σ H x y v u Q I rx ry h
  obtain ⟨n, a, vs, ds, rfl, rfl, hq, hd, q⟩ := h
  obtain ⟨tn, rfl⟩ := rx
  cases ry
  have hu1 : X.A.in1.units < cLine := by show X.A.units + 1 < cLine; exact hu
  rcases hq with hq | hq
  · obtain ⟨its, r, pl, hz⟩ := I.list hq
    obtain ⟨h1, h2⟩ := eq_items I n tn (A := X.A.in1) hu1 hd r
    refine SeqAt.in_listAt (isU n) pl.isList (fun w hw => h1 w (by simpa using hw)) ⟨.bl _, H, I, rfl, ?_⟩
    rw [show its.toArray.any (isU n) = its.any (isU n) by simp, h2]
    exact q
  · obtain ⟨its, r, pl, hz⟩ := I.tuple hq
    obtain ⟨h1, h2⟩ := eq_items I n tn (A := X.A.in1) hu1 hd r
    refine SeqAt.in_tupleAt (isU n) pl (fun w hw => h1 w (by simpa using hw)) ⟨.bl _, H, I, rfl, ?_⟩
    rw [show its.toArray.any (isU n) = its.any (isU n) by simp, h2]
    exact q
end
end LT

/-! Dict comprehensions over a walk; a Wishes object as it stands. -/
namespace LT
open PySem PySem.Spec PyProof.Rows L2 Evl
theorem dc_it {J : It} {n : Nat} {Gd : Hp → Prop} {Y : Nat → Hp → V → Hp → Prop} (w : Walk J n Gd Y) {g : TG} {tt : TT} {tk tv : TE} {vs : List Nat} {σ : L2.St} {H1 : Hp} {D : Addr} {Qd : Hp → Prop} (Pv : Nat → Hp → Prop) (h0 : Pv 0 (upd H1 D (.dK []))) (hG : ∀ i H, i ≤ n → Pv i H → Gd H)
    (hs : ∀ i x H H', i < n → Pv i H → Y i H x H' → g x (wipe σ vs) H' fun σ2 H2 => wipe σ2 vs = wipe σ vs ∧ tt σ2 H2 fun b H3 =>
      if b = true then tk σ2 H3 fun y H4 => tv σ2 H4 fun z H5 => ∃ kvs k, y = kV k ∧ H5 D = some (.dK kvs) ∧ kvs.length < sizeLine ∧ Pv (i + 1) (upd H5 D (.dK (putK kvs k z))) else Pv (i + 1) H3) (hd : ∀ H, Pv n H → Qd H) :
    ∃ W : Nat → Nat → Hp → Prop, (∃ m, W 0 m (upd H1 D (.dK []))) ∧ ∀ i m H, W i m H →
      (J.stop i H ∧ Qd H) ∨ (J.go i H ∧ ∃ Nx : Hp → Prop, (∀ H', Nx H' → ∃ m', m' < m ∧ W (i + 1) m' H') ∧ ∀ x H', J.yld i H x H' → g x (wipe σ vs) H' fun σ2 H2 => wipe σ2 vs = wipe σ vs ∧ tt σ2 H2 fun b H3 =>
        if b = true then tk σ2 H3 fun y H4 => tv σ2 H4 fun z H5 => ∃ kvs k, y = kV k ∧ H5 D = some (.dK kvs) ∧ kvs.length < sizeLine ∧ Nx (upd H5 D (.dK (putK kvs k z))) else Nx H3) := by
  refine ⟨fun i m H => m = n - i ∧ i ≤ n ∧ Pv i H, ⟨n, by simp, Nat.zero_le _, h0⟩, ?_⟩
  rintro i m H ⟨rfl, hi, p⟩
  have q := hG i H hi p
  by_cases hlt : i < n
  · refine .inr ⟨w.goes i H hlt q, Pv (i + 1), fun H' p' => ⟨n - (i + 1), by omega, rfl, hlt, p'⟩, fun x H' y => hs i x H H' hlt p (w.yields i H x H' hlt q y)⟩
  · have e : i = n := by omega
    subst e
    exact .inl ⟨w.stops H q, hd H p⟩
theorem val_nodup : ∀ {kvs : List (Key × V)} {i : Nat} {k : Key} {v : V}, (kvs.map (·.1)).Nodup → kvs[i]? = some (k, v) → valV kvs k = some v
  | [], i, k, v, _, h => by simp at h
  | p :: r, 0, k, v, _, h => by cases h; exact valV_pos rfl
  | (k0, v0) :: r, i + 1, k, v, hn, h => by
    have hn2 := List.nodup_cons.mp (show (k0 :: r.map (·.1)).Nodup from hn)
    have hm : k ∈ r.map (·.1) := List.mem_map.mpr ⟨(k, v), List.mem_of_getElem? h, rfl⟩
    have ne : ¬ k0 = k := fun e => hn2.1 (by rw [e]; exact hm)
    rw [valV_neg ne]
    exact val_nodup hn2.2 h
theorem key_new {kvs : List (Key × V)} {i : Nat} {k : Key} {v : V} (hn : (kvs.map (·.1)).Nodup) (h : kvs[i]? = some (k, v)) : k ∉ (kvs.take i).map (·.1) := by
  intro hm
  rw [List.map_take] at hm
  obtain ⟨j, hj, ej⟩ := List.getElem_of_mem hm
  rw [List.length_take] at hj
  rw [List.getElem_take] at ej
  have hk : (kvs.map (·.1))[i]? = some k := by rw [List.getElem?_map, h]; rfl
  have hi := (List.getElem?_eq_some_iff.mp hk).1
  have e2 := (List.getElem?_eq_some_iff.mp hk).2
  have := (List.getElem_inj hn (i := j) (j := i)).mp (ej.trans e2.symm)
  omega
def rTupOf (K : PySem.W.Frag) : List V → Hp → VK → Prop := fun xs H Q => ∃ p ys, xs = [.ref p] ∧ ((SqL K H p ys ∧ ∀ l, H l = none → Q (.ref l) (upd H l (.tup ys))) ∨ (SqT K H p ys ∧ Q (.ref p) H))
theorem call_tuple_ofK {X : Cx} {K : PySem.W.Frag} (hK : X.K = K := by rfl) : CallR X (.type "tuple") (rTupOf K) := by
  subst hK
  exact call_tuple_of
/-! ### the attributes -/
theorem w1 : ¬ (("_gifts" : Str) = "_guests") := by decide +kernel
theorem w2 : ¬ (("_gifts" : Str) = "_rankings") := by decide +kernel
theorem w3 : ¬ (("_guests" : Str) = "_rankings") := by decide +kernel
def wf (l1 l2 d : Addr) : List (Str × V) := [("_gifts", .ref l1), ("_guests", .ref l2), ("_rankings", .ref d)]
theorem wf_1 (l1 : Addr) : putF "_gifts" (.ref l1) ([] : List (Str × V)) = [(("_gifts" : Str), V.ref l1)] := rfl
theorem wf_2 (l1 l2 : Addr) : putF "_guests" (.ref l2) [(("_gifts" : Str), V.ref l1)] = [(("_gifts" : Str), V.ref l1), (("_guests" : Str), V.ref l2)] := by
  show (if ("_gifts" : Str) = "_guests" then _ else (("_gifts" : Str), V.ref l1) :: putF "_guests" (.ref l2) []) = ([(("_gifts" : Str), V.ref l1), (("_guests" : Str), V.ref l2)] : List (Str × V))
  rw [if_neg w1]
  rfl
theorem wf_3 (l1 l2 d : Addr) : putF "_rankings" (.ref d) [(("_gifts" : Str), V.ref l1), (("_guests" : Str), V.ref l2)] = wf l1 l2 d := by
  show (if ("_gifts" : Str) = "_rankings" then _ else (("_gifts" : Str), V.ref l1) :: (if ("_guests" : Str) = "_rankings" then _ else (("_guests" : Str), V.ref l2) :: putF "_rankings" (.ref d) [])) = wf l1 l2 d
  rw [if_neg w2, if_neg w3]
  rfl
theorem wf_gifts (l1 l2 d : Addr) : (wf l1 l2 d).lookup ("_gifts" : Str) = some (.ref l1) := by
  unfold wf
  rw [List.lookup_cons, beq_self_eq_true]
theorem wf_guests (l1 l2 d : Addr) : (wf l1 l2 d).lookup ("_guests" : Str) = some (.ref l2) := by
  unfold wf
  have e : (("_guests" : Str) == ("_gifts" : Str)) = false := by decide +kernel
  rw [List.lookup_cons, e]
  show List.lookup ("_guests" : Str) ((("_guests" : Str), V.ref l2) :: _) = _
  rw [List.lookup_cons, beq_self_eq_true]
theorem wf_rankings (l1 l2 d : Addr) : (wf l1 l2 d).lookup ("_rankings" : Str) = some (.ref d) := by
  unfold wf
  have e : (("_rankings" : Str) == ("_gifts" : Str)) = false := by decide +kernel
  have e2 : (("_rankings" : Str) == ("_guests" : Str)) = false := by decide +kernel
  rw [List.lookup_cons, e]
  show List.lookup ("_rankings" : Str) ((("_guests" : Str), V.ref l2) :: _) = _
  rw [List.lookup_cons, e2]
  show List.lookup ("_rankings" : Str) ((("_rankings" : Str), V.ref d) :: _) = _
  rw [List.lookup_cons, beq_self_eq_true]
theorem wf_no (l1 l2 d : Addr) {m : Str} (h1 : (m == ("_gifts" : Str)) = false) (h2 : (m == ("_guests" : Str)) = false) (h3 : (m == ("_rankings" : Str)) = false) : (wf l1 l2 d).lookup m = none := by
  unfold wf
  rw [List.lookup_cons, h1]
  show List.lookup m ((("_guests" : Str), V.ref l2) :: _) = _
  rw [List.lookup_cons, h2]
  show List.lookup m ((("_rankings" : Str), V.ref d) :: _) = _
  rw [List.lookup_cons, h3]
  rfl
/-- the rankings as tuples -/
def tRanks (R : List (Str × List Str)) : List (Key × D) := R.map fun r => (.inr r.1, .tup (r.2.map D.str))
/-- wishes of gs and R stand at x -/
structure WAt (K : PySem.W.Frag) (C : Addr) (H : Hp) (x : Addr) (gs : List Str) (R : List (Str × List Str)) : Prop where
  ex : ∃ (dx l1 l2 d : Addr) (kvs : List (Key × V)), H x = some (.ins C dx (wf l1 l2 d)) ∧ H l1 = some (.lst (gs.map V.str)) ∧ H l2 = some (.lst ((R.map (·.1)).map V.str)) ∧ H d = some (.dK kvs) ∧ DenK K H kvs (tRanks R)
/-- new wishes: what they hold of their own did not stand in H0; the rankings stand in G -/
structure WNew (K : PySem.W.Frag) (C : Addr) (H0 G H : Hp) (x : Addr) (gs : List Str) (R : List (Str × List Str)) : Prop where
  ex : ∃ (dx l1 l2 d : Addr) (kvs : List (Key × V)), H x = some (.ins C dx (wf l1 l2 d)) ∧ H l1 = some (.lst (gs.map V.str)) ∧ H l2 = some (.lst ((R.map (·.1)).map V.str)) ∧ H d = some (.dK kvs) ∧ DenK K G kvs (tRanks R) ∧ H0 l1 = none ∧ H0 l2 = none ∧ H0 d = none
/-- the heap without what stands at p -/
def del (p : Addr) (H : Hp) : Hp := fun b => if b = p then none else H b
theorem del_self {p : Addr} {H : Hp} : del p H p = none := if_pos rfl
theorem del_ne {p b : Addr} {H : Hp} (h : b ≠ p) : del p H b = H b := if_neg h
theorem del_ex (p : Addr) (H : Hp) : Ex (del p H) H := fun b o h => by
  by_cases q : b = p
  · rw [q, del_self] at h; cases h
  · rw [del_ne q] at h; exact h
theorem ex_del {p : Addr} {G H : Hp} (e : Ex G H) (h : G p = none) : Ex G (del p H) := fun b o hb => by
  have q : b ≠ p := fun q => by rw [q, h] at hb; cases hb
  rw [del_ne q]
  exact e b o hb
theorem del_mono {p : Addr} {H H' : Hp} (e : Ex H H') : Ex (del p H) (del p H') := ex_del ((del_ex p H).trans e) del_self
theorem WNew.at {K : PySem.W.Frag} {C : Addr} {H0 G H : Hp} {x p : Addr} {gs : List Str} {R : List (Str × List Str)} (w : WNew K C H0 G H x gs R) (hx : x ≠ p) (hp : H0 p ≠ none) (e : Ex G H) (gp : G p = none) : WAt K C (del p H) x gs R := by
  obtain ⟨dx, l1, l2, d, kvs, h1, h2, h3, h4, h5, f1, f2, f3⟩ := w
  have n1 : l1 ≠ p := fun q => hp (q ▸ f1)
  have n2 : l2 ≠ p := fun q => hp (q ▸ f2)
  have n3 : d ≠ p := fun q => hp (q ▸ f3)
  exact ⟨dx, l1, l2, d, kvs, by rw [del_ne hx]; exact h1, by rw [del_ne n1]; exact h2, by rw [del_ne n2]; exact h3, by rw [del_ne n3]; exact h4, h5.mono (ex_del e gp)⟩
theorem Wd.del {K : PySem.W.Frag} {G H : Hp} {p : Addr} {B : Nat} (W : Wd K G H p B) : Wd K (LT.del p H) H p B := by
  obtain ⟨c, s, m, ns, h1, h2, h3⟩ := W.pen
  exact ⟨del_ex p H, del_self, c, s, m, ns, h1, ex_l (ex_del W.ex W.np) h2, h3⟩
theorem Tr.del {G H G' H' : Hp} {p : Addr} (T : Tr G H G' H' p) : Ex (LT.del p H) (LT.del p H') := fun b o hb => by
  have q : b ≠ p := fun q => by rw [q, del_self] at hb; cases hb
  rw [del_ne q] at hb ⊢
  exact T.k b o hb q
theorem WAt.mono {K : PySem.W.Frag} {C : Addr} {H H' : Hp} {x : Addr} {gs : List Str} {R : List (Str × List Str)} (h : WAt K C H x gs R) (e : Ex H H') : WAt K C H' x gs R := by
  obtain ⟨dx, l1, l2, d, kvs, h1, h2, h3, h4, h5⟩ := h
  exact ⟨dx, l1, l2, d, kvs, e _ _ h1, e _ _ h2, e _ _ h3, e _ _ h4, h5.mono e⟩
end LT

/-! A holding as data; orders by two words. -/
namespace LT
open PySem PySem.Spec PyProof.Rows L2 Evl
def vD : V → D
  | .str z => .str z
  | _ => .non
def holdDL (l : List (Str × V)) : List (Key × D) := l.map fun q => (.inr q.1, vD q.2)
def holdD (R : List (Str × List Str)) (gs ws : List Str) : D := .dct (holdDL (holdL R gs ws))
def VOk (q : Str × V) : Prop := NameOk q.1 ∧ (q.2 = .non ∨ ∃ z, q.2 = .str z ∧ NameOk z)
theorem best_sub {rk ls gs : List Str} (h : ∀ z ∈ ls, z ∈ gs) : bestV rk ls = .non ∨ ∃ z ∈ gs, bestV rk ls = .str z := by
  rcases best_kind rk ls with e | ⟨g, e⟩
  · exact .inl e
  · exact .inr ⟨g, h g (best_mem e), e⟩
theorem cst_vals (R : List (Str × List Str)) (gs : List Str) : ∀ (ws : List Str), (∀ q ∈ (cst R gs ws).1, q.2 = .non ∨ ∃ z ∈ gs, q.2 = .str z) := by
  have : ∀ (ws : List Str) (s : List (Str × V) × List Str), (∀ z ∈ s.2, z ∈ gs) → (∀ q ∈ s.1, q.2 = .non ∨ ∃ z ∈ gs, q.2 = .str z) → (∀ q ∈ (ws.foldl (stepC R) s).1, q.2 = .non ∨ ∃ z ∈ gs, q.2 = .str z) := by
    intro ws
    induction ws with
    | nil => intro s _ h; exact h
    | cons u r ih =>
      intro s h1 h2
      refine ih _ (fun z hz => h1 z (List.mem_filter.mp hz).1) fun q hq => ?_
      rcases List.mem_append.mp hq with h | h
      · exact h2 q h
      · rw [List.mem_singleton.mp h]
        exact best_sub h1
  exact fun ws => this ws _ (fun z hz => hz) fun q hq => by cases hq
theorem fh_vals {c : List (Str × V)} {gs : List Str} (h : ∀ q ∈ c, q.2 = .non ∨ ∃ z ∈ gs, q.2 = .str z) (u : Str) : fh c u = .non ∨ ∃ z ∈ gs, fh c u = .str z := by
  induction c with
  | nil => exact .inl rfl
  | cons p c ih =>
    obtain ⟨y, v⟩ := p
    unfold fh at ih ⊢
    rw [List.lookup_cons]
    by_cases e : u = y
    · subst e
      rw [beq_self_eq_true]
      exact h _ List.mem_cons_self
    · have e2 : (u == y) = false := by simpa using e
      rw [e2]
      exact ih fun q hq => h q (List.mem_cons_of_mem _ hq)
theorem hold_ok {R : List (Str × List Str)} {gs : List Str} (hok : RawOk gs R) (ws : List Str) : ∀ q ∈ holdL R gs ws, VOk q := by
  intro q hq
  rw [holdL_eq] at hq
  obtain ⟨r, hr, rfl⟩ := List.mem_map.mp hq
  refine ⟨hok.uo r hr, ?_⟩
  rcases fh_vals (cst_vals R gs ws) r.1 with e | ⟨z, hz, e⟩
  · exact .inl e
  · exact .inr ⟨z, e, hok.go z hz⟩
theorem hold_denK {K : PySem.W.Frag} {G : Hp} : ∀ {l : List (Str × V)}, (∀ q ∈ l, VOk q) → DenK K G (keyed l) (holdDL l)
  | [], _ => .nil
  | (u, v) :: r, h => by
    have h1 := (h _ List.mem_cons_self).2
    have ih := hold_denK (K := K) (G := G) (l := r) fun q hq => h q (List.mem_cons_of_mem _ hq)
    rcases h1 with e | ⟨z, e, _⟩
    · have e : v = .non := e
      subst e
      exact .cons .non ih
    · have e : v = .str z := e
      subst e
      exact .cons (.str z) ih
theorem hold_flat : ∀ l : List (Str × V), D.flatK (holdDL l) = true
  | [] => rfl
  | (u, v) :: r => by
    show ((vD v).flat && D.flatK (holdDL r)) = true
    rw [hold_flat r, Bool.and_true]
    cases v <;> rfl
theorem hold_show : ∀ l : List (Str × V), PyData.showableKv (D.pyK (holdDL l)) = true
  | [] => rfl
  | (u, v) :: r => by
    show (PyData.showable (.str u) && PyData.showable (vD v).py && PyData.showableKv (D.pyK (holdDL r))) = true
    rw [hold_show r, Bool.and_true]
    cases v <;> rfl
theorem hold_depth : ∀ l : List (Str × V), PyData.depthKv (D.pyK (holdDL l)) ≤ 0
  | [] => by show PyData.depthKv [] ≤ 0; simp [PyData.depthKv]
  | (u, v) :: r => by
    have ih := hold_depth r
    show PyData.depthKv ((.str u, (vD v).py) :: D.pyK (holdDL r)) ≤ 0
    have e : PyData.depth (vD v).py = 0 := by cases v <;> rfl
    simp only [PyData.depthKv, e, PyData.depth]
    omega
theorem name_shown {z : Str} (h : NameOk z) : (PyData.str z).shown.length ≤ 10 := by
  rw [PyData.shown_str, len_tl, repr_plain h.plain]
  have := h.2.1
  rw [len_tl] at this
  simp only [List.length_cons, List.length_append, List.length_nil]
  omega
theorem hold_piled : ∀ l : List (Str × V), (∀ q ∈ l, VOk q) → piled (PyData.shownKv (D.pyK (holdDL l))) ≤ 24 * l.length
  | [], _ => by show piled [] ≤ _; simp [piled]
  | (u, v) :: r, h => by
    have ih := hold_piled r fun q hq => h q (List.mem_cons_of_mem _ hq)
    obtain ⟨h1, h2⟩ := h _ List.mem_cons_self
    have hu := name_shown h1
    have hv : (vD v).py.shown.length ≤ 10 := by
      rcases h2 with e | ⟨z, e, hz⟩
      · have e : v = .non := e
        subst e
        show (PyData.none).shown.length ≤ 10
        rw [PyData.shown_none]
        decide
      · have e : v = .str z := e
        subst e
        exact name_shown hz
    show piled (PyData.shownKv ((.str u, (vD v).py) :: D.pyK (holdDL r))) ≤ _
    rw [PyData.shownKv_cons, piled_cons, strLen_append, strLen_append]
    have e2 : ((": " : String) : Str).length = 2 := rfl
    rw [e2, List.length_cons]
    have hu' : (PyData.str u).shown.length ≤ 10 := hu
    omega
theorem hold_len {l : List (Str × V)} (h : ∀ q ∈ l, VOk q) (hl : l.length ≤ 100) : (D.dct (holdDL l)).py.shown.length ≤ 10000 := by
  show (PyData.dict (D.pyK (holdDL l))).shown.length ≤ 10000
  rw [PyData.shown_dict, strLen_append, strLen_append]
  have hp := hold_piled l h
  have e1 : ((("{" : String) : Str)).length = 1 := rfl
  have e2 : ((("}" : String) : Str)).length = 1 := rfl
  rw [e1, e2]
  by_cases hn : PyData.shownKv (D.pyK (holdDL l)) = []
  · rw [hn]
    show 1 + (Str.join ", " []).length + 1 ≤ 10000
    decide
  · have := join_length_add _ hn
    omega
end LT

/-! X() of an own exception class; a dict comprehension stored in a name. -/
namespace LT
open PySem PySem.Spec PyProof.Rows L2 Evl
section
variable {X : Cx} {pos : Pos}
theorem pmk_own0 {C : Addr} {bmB : List Value} {B newId initId : String} {x : Str} {p : Pos} (F : ExcBaseFacts B newId initId bmB) (q : PySem.W.excIn X.K C bmB newId = true) (gC : X.mg x = some (.ref C))
    (kC : PySem.W.keepIn X.K (.ref C) = true) (r : Raises X (.ref C)) (hg : Gl X x) (hdb : (x == ("__debug__" : Str)) = false := by decide) :
    PMk X (.Call (.Name x p) [] [] pos) (fun _ H Q => Q (.ref C) none H) := by
  intro pins s σ H Q I h
  refine wpAny_Call_Name_kw (ld_glob I hg gC ?_ hdb)
  refine PySem.W.callWith_K0 I.kIn kC ?_
  show wpAny _ _ (call (.ref C) []) _ _ _
  obtain ⟨bm, N, nm, qn, bs, hdct, sn, sub, ab, col, dd, k0, k1, k2, k3, k5, mN, hC, hN, hni, T⟩ := exc_obj I.kIn q
  refine wpAny_call_exc_subT F T hC hN hni (fun h' e hm => ?_) (by show 0 ≤ sizeLine; decide)
  exact mk_of I hm r h (I.hok.gone hm.new)
end
section
variable {X : Cx}
theorem ps_setDc {i : Nat} {y : Str} {py : Pos} {kx vx tg iter : Expr} {ifs : List Expr} {scope : Scope} {own : List (Str × Nat)} {pos spos : Pos} {wi : TI} {g : TG} {tt : TT} {tk tv : TE} (hc : X.calm = true) (hN : X.N.Nodup) (hy : X.N[i]? = some y) (hyl : X.env.scope.names.lookup y = some .local)
    (hsw : swapsWith (.DictComp kx vx [⟨tg, iter, ifs, 0⟩] scope pos) (some (.Name y py)) spos.line X.env = pure true) (hi : PI X tg iter wi) (ok : BlkOk X.N X.env.scope scope own)
    (hg : ∀ (s : Shared) (H : Hp) (C : Addr) (cl : List (Str × Addr)) (fp : List Addr), PG (X.blk s H scope (compEnvC scope cl C X.env) fp) tg g) (ht : ∀ (s : Shared) (H : Hp) (C : Addr) (cl : List (Str × Addr)) (fp : List Addr), PTs (X.blk s H scope (compEnvC scope cl C X.env) fp) ifs tt)
    (hk : ∀ (s : Shared) (H : Hp) (C : Addr) (cl : List (Str × Addr)) (fp : List Addr), PE (X.blk s H scope (compEnvC scope cl C X.env) fp) kx tk)
    (he : ∀ (s : Shared) (H : Hp) (C : Addr) (cl : List (Str × Addr)) (fp : List Addr), PE (X.blk s H scope (compEnvC scope cl C X.env) fp) vx tv) (hs : ∀ x, foldedSetIterable iter X.env x = pure x := by intro _; rfl) :
    PS X (.Assign [.Name y py] (.DictComp kx vx [⟨tg, iter, ifs, 0⟩] scope pos) spos) (tAsg (tDc wi g tt tk tv (own.map (·.2))) (gName i)) := by
  refine ⟨fun pins s σ H D I h => ?_⟩
  rw [exec_Assign_Name_used _ _ _ _ hsw]
  refine wpAny_bind (wpAny_standAt (wpAny_bind ?_))
  show wpAny _ X.A (do let _ ← comprehension (.DictComp kx vx [⟨tg, iter, ifs, 0⟩] scope pos) scope X.env (firstIterPos [⟨tg, iter, ifs, 0⟩] pos) newDict false (eval iter X.env) (some (assign (.Name y py) X.env))) _ _ s
  have h : tDc wi g tt tk tv (own.map (·.2)) σ H (fun x H1 => gName i x σ H1 D.nx) := h
  refine wpAny_bind (thn (dc_core (Qf := fun _ s' => SP X pins D .next s') hc hN I hi ok hg ht hk he hs h fun L C s' m H' I' q hn f => ?_) fun _ s' hq => wpAny_pure (wpAny_pure hq))
  show wpAny _ _ (assign (.Name y py) X.env (.ref L)) _ _ _
  refine wpAny_assign_Name (store_ok2 (v := V.ref L) I' hN hy (.inl hyl) rfl (fun s2 I2 ⟨a, sb, ha⟩ => ?_) (.inr hyl))
  obtain ⟨f0, f1, f2, f3, f4, f5⟩ := f
  have haC : C ≠ a := by
    rcases ha with z | z
    · rw [z]; exact f1
    · exact fun e => f4 y a z e.symm
  refine ⟨m, hn.sameBut sb haC, fun h3 sb3 => ?_⟩
  exact ⟨_, H', I2.turned (t' := s2.toks) (fun b o hb e => (sb3.2 b hb).trans e) f0 f1 f3 f4 f5, q⟩
theorem sw_trueD {kx vx : Expr} {gs : List Comprehension} {scope : Scope} {pos py : Pos} {y : Str} {l : Nat} {env : Env} (hk : env.scope.kind = .function) (hy : env.scope.names.lookup y = some .local) (hl : (py.line == pos.line) = true)
    (ha : (scope.names.any fun (n, k) => n == y && (k == .local || k == .cell)) = false) : swapsWith (.DictComp kx vx gs scope pos) (some (.Name y py)) l env = pure true := by
  have ky : env.kindOf y = some .local := hy
  have hb : env.blockKind = .function := by unfold Env.blockKind; rw [hk]; rfl
  unfold swapsWith
  simp only [hb, ky, ha, Expr.pos, hl]
  rfl
/-- a text taken out of a list of texts: its first place -/
def rRemS : V → List V → Hp → VK → Prop := fun x xs H Q => ∃ (l : Addr) (ns : List Str) (k : Str), x = .ref l ∧ xs = [.str k] ∧ H l = some (.lst (ns.map V.str)) ∧ k ∈ ns ∧ Q .non (upd H l (.lst ((ns.erase k).map V.str)))
theorem mt_removeS : MtM X "list.remove" rRemS := by
  intro pins s σ H x xs v us Q I rx rxs h
  obtain ⟨l, ns, k, rfl, rfl, hH, hk, q⟩ := h
  cases rx
  obtain ⟨u, rfl, ru⟩ := rxs.one
  obtain ⟨t, rfl⟩ := ru
  obtain ⟨z, its, n, r, hl, e⟩ := I.lstM hH
  have hi := strsAre_of r
  rw [List.length_map] at hl z
  have hjn : ns.idxOf k < ns.length := List.idxOf_lt_length_of_mem hk
  have hjl : ns.idxOf k < its.toArray.size := by rw [List.size_toArray]; omega
  have at_ : ∀ (m : Nat) (hm : m < its.toArray.size) (hmn : m < ns.length), isU k its.toArray[m] = decide (ns[m] = k) := fun m hm hmn => by
    obtain ⟨tm, hmt⟩ := hi.get m _ (List.getElem?_eq_getElem hmn)
    obtain ⟨h1, h2⟩ := List.getElem?_eq_some_iff.mp hmt
    have e1 : its.toArray[m] = .str ns[m] tm := by simpa using h2
    rw [e1]
    rfl
  refine PySem.call_meets PySem.F.slot_list_remove ⟨_, e, rfl⟩ PySem.F.entry_list_remove (PySem.F.args_list_remove_2 _ _)
    (PySem.SeqAt.list_removeAt l its.toArray n none #[] (.str k t) (isU k) (ns.idxOf k) hjl ?_ ?_ (by rw [List.size_toArray]; omega)) ⟨e, fun y hy => ?_, ?_⟩
  · rw [at_ _ hjl hjn]
    exact decide_eq_true (List.getElem_idxOf hjn)
  · intro m hm hmj
    have hmn : m < ns.length := by omega
    rw [at_ _ hm hmn]
    refine decide_eq_false fun e2 => ?_
    have := List.not_of_lt_findIdx (p := (· == k)) (xs := ns) (i := m) hmj
    rw [e2] at this
    simp at this
  · have hy2 : y ∈ its := by simpa using hy
    obtain ⟨j, hj, ej⟩ := List.getElem_of_mem hy2
    have hjn2 : j < ns.length := by omega
    obtain ⟨tm, hmt⟩ := hi.get j _ (List.getElem?_eq_getElem hjn2)
    have e3 : its[j]? = some its[j] := List.getElem?_eq_getElem hj
    rw [hmt] at e3
    have e4 : y = .str ns[j] tm := by rw [← ej]; exact (Option.some.inj e3).symm
    rw [e4]
    have := PySem.SeqAt.EqAt.str_str (A := X.A.in1.in1) (s := s) ns[j] tm k t
    rw [show isU k (.str ns[j] tm) = (ns[j] == k) from (Bool.beq_eq_decide_eq _ _).symm]
    first | exact this | exact PySem.SeqAt.EqAt.str_str _ _ _ _
  · have rr := r.eraseIdx (ns.idxOf k)
    rw [LT.erase_map, ← List.erase_eq_eraseIdx_of_idxOf rfl] at rr
    refine ⟨.non, _, I.lset (its' := its.eraseIdx (ns.idxOf k)) (t' := s.toks) hH e ?_ rr ?_, rfl, q⟩
    · show its.toArray.eraseIdxIfInBounds (ns.idxOf k) = (its.eraseIdx (ns.idxOf k)).toArray
      rw [List.eraseIdxIfInBounds_toArray]
    · have := List.length_erase_le (a := k) (l := ns)
      rw [List.length_map]
      omega
end
end LT

/-! Values that a law hands in: expressions over tuples, what they give. -/
namespace LT
open PySem PySem.Spec PyProof.Rows L2 Evl
/-- items that repr shows, not many -/
def Vok (n : Nat) (d : D) : Prop := (∀ e ∈ d.items, e.rp = true) ∧ d.items.length ≤ n
def Tok (n : Nat) (d : D) : Prop := ∃ ds, d = .tup ds ∧ (∀ e ∈ ds, e.rp = true) ∧ ds.length ≤ n
theorem Tok.vok {n : Nat} {d : D} (h : Tok n d) : Vok n d := by
  obtain ⟨ds, rfl, h1, h2⟩ := h
  exact ⟨h1, h2⟩
theorem Vok.mono {n m : Nat} {d : D} (h : Vok n d) (l : n ≤ m) : Vok m d := ⟨h.1, Nat.le_trans h.2 l⟩
section
variable {K : PySem.W.Frag} {G : Hp}
theorem DenL.take : ∀ {vs : List V} {ds : List D}, DenL K G vs ds → ∀ n, DenL K G (vs.take n) (ds.take n)
  | _, _, .nil, n => by simp; exact .nil
  | _, _, .cons h l, 0 => .nil
  | _, _, .cons h l, n + 1 => .cons h (DenL.take l n)
theorem DenL.drop : ∀ {vs : List V} {ds : List D}, DenL K G vs ds → ∀ n, DenL K G (vs.drop n) (ds.drop n)
  | _, _, .nil, n => by simp; exact .nil
  | _, _, .cons h l, 0 => .cons h l
  | _, _, .cons h l, n + 1 => DenL.drop l n
theorem DenL.cut {vs : List V} {ds : List D} (h : DenL K G vs ds) (lo hi : Option Int) : ∃ es, DenL K G (cutV vs lo hi) es ∧ (∀ e ∈ es, e ∈ ds) ∧ es.length ≤ ds.length := by
  unfold cutV
  refine ⟨_, (h.drop _).take _, fun e he => List.mem_of_mem_drop (List.mem_of_mem_take he), ?_⟩
  rw [List.length_take, List.length_drop]
  omega
end
/-- an expression that gives a datum with Pd, n draws at most, whatever else stands -/
def EvP (K : PySem.W.Frag) (G0 : Hp) (te : TE) (σ : L2.St) (p : Addr) (n : Nat) (Pd : D → Prop) : Prop :=
  ∀ G H B, Ex G0 G → Wd K G H p B → B + n ≤ 500000000 → ∀ Q : VK, (∀ G' H' v d, Tr G H G' H' p → Wd K G' H' p (B + n) → Den K G' v d → Pd d → Q v H') → te σ H Q
section
variable {K : PySem.W.Frag} {G0 : Hp} {σ : L2.St} {p : Addr} {te tb : TE} {n m : Nat} {Pd Pe : D → Prop}
theorem evp_of {d : D} (h : EvD K G0 te σ p d) (hp : Pd d) : EvP K G0 te σ p 0 Pd := fun G H B e W _ Q q => h G H B e W Q fun G' H' v T W' hd => q G' H' v d T W' hd hp
theorem EvP.imp (h : EvP K G0 te σ p n Pd) (i : ∀ d, Pd d → Pe d) : EvP K G0 te σ p n Pe := fun G H B e W hB Q q => h G H B e W hB Q fun G' H' v d T W' hd hp => q G' H' v d T W' hd (i d hp)
theorem evp_slice {tl th : TO} {lo hi : Option Int} (h : EvP K G0 te σ p n (Tok m)) (hl : ∀ (H : Hp) (Q : Option Int → Hp → Prop), Q lo H → tl σ H Q) (hh : ∀ (H : Hp) (Q : Option Int → Hp → Prop), Q hi H → th σ H Q) : EvP K G0 (tSl (rSlA K) te tl th) σ p n (Tok m) := by
  intro G H B e W hB Q q
  refine h G H B e W hB _ fun G' H' v d T W' hd hp => ?_
  obtain ⟨ds, rfl, h1, h2⟩ := hp
  refine hl _ _ (hh _ _ ?_)
  cases hd with
  | tup hs l =>
    rename_i a vs
    refine ⟨a, vs, rfl, ex_t W'.ex hs, fun _ => q G' H' _ _ T W' (.tup hs l) ⟨ds, rfl, h1, h2⟩, fun _ t ht => ?_⟩
    obtain ⟨es, hes, hsub, hlen⟩ := l.cut lo hi
    have g := fresh_back W'.ex ht
    exact q _ _ _ _ (T.grow W'.ex ht) (W'.grow ht) (.tup (.inl (.inl upd_same)) (hes.mono (Ex.new g))) ⟨es, rfl, fun e he => h1 e (hsub e he), by omega⟩
theorem evp_cat {n2 m2 : Nat} (hm : m + m2 ≤ 1000) (h : EvP K G0 te σ p n (Tok m)) (hb : EvP K G0 tb σ p n2 (Tok m2)) : EvP K G0 (tOp (rCatA K) te tb) σ p (n + n2) (Tok (m + m2)) := by
  intro G H B e W hB Q q
  refine h G H B e W (by omega) _ fun G1 H1 v d T1 W1 hd hp => ?_
  refine hb G1 H1 (B + n) (e.trans T1.g) W1 (by omega) _ fun G2 H2 v2 d2 T2 W2 hd2 hp2 => ?_
  rw [Nat.add_assoc] at W2
  obtain ⟨ds, rfl, h1, h2⟩ := hp
  obtain ⟨es, rfl, k1, k2⟩ := hp2
  have hd' := hd.mono T2.g
  have T := T1.trans T2
  cases hd' with
  | tup hs l =>
    rename_i a xs
    cases hd2 with
    | tup ht l2 =>
      rename_i b ys
      have e1 := l.length
      have e2 := l2.length
      refine ⟨a, b, xs, ys, rfl, rfl, ex_t W2.ex hs, ex_t W2.ex ht, sz_of (by omega), fun _ => ?_, fun _ _ => ?_, fun _ _ t hf => ?_⟩
      · exact q _ _ _ _ T W2 (.tup ht l2) ⟨es, rfl, k1, by omega⟩
      · exact q _ _ _ _ T W2 (.tup hs l) ⟨ds, rfl, h1, by omega⟩
      · have g := fresh_back W2.ex hf
        refine q _ _ _ _ (T.grow W2.ex hf) (W2.grow hf) (.tup (.inl (.inl upd_same)) ((l.append l2).mono (Ex.new g))) ⟨ds ++ es, rfl, fun x hx => ?_, by rw [List.length_append]; omega⟩
        rcases List.mem_append.mp hx with h | h
        · exact h1 x h
        · exact k1 x h
theorem evp_one (h : EvP K G0 te σ p n (fun d => d.rp = true)) : EvP K G0 (tTup (tCons te tNil)) σ p n (Tok 1) := by
  intro G H B e W hB Q q
  refine h G H B e W hB _ fun G1 H1 v d T W1 hd hp => ⟨by show 1 ≤ sizeLine; decide, fun t ht => ?_⟩
  have g := fresh_back W1.ex ht
  exact q _ _ _ _ (T.grow W1.ex ht) (W1.grow ht) (.tup (.inl (.inl upd_same)) (.cons (hd.mono (Ex.new g)) .nil)) ⟨[d], rfl, fun x hx => by rw [List.mem_singleton.mp hx]; exact hp, Nat.le_refl _⟩
end
/-- several, from the left -/
def EvPA (K : PySem.W.Frag) (G0 : Hp) (ta : TA) (σ : L2.St) (p : Addr) (n c : Nat) (Pd : D → Prop) : Prop :=
  ∀ G H B, Ex G0 G → Wd K G H p B → B + n ≤ 500000000 → ∀ Q : List V → Hp → Prop, (∀ G' H' vs ds, Tr G H G' H' p → Wd K G' H' p (B + n) → DenL K G' vs ds → (∀ d ∈ ds, Pd d) → ds.length = c → Q vs H') → ta σ H Q
section
variable {K : PySem.W.Frag} {G0 : Hp} {σ : L2.St} {p : Addr} {te : TE} {ta : TA} {n m c : Nat} {Pd : D → Prop}
theorem evpa_nil : EvPA K G0 tNil σ p 0 0 Pd := fun G H B _ W _ Q q => q G H _ _ (Tr.refl _ _ _) W .nil (fun d hd => by cases hd) rfl
theorem evpa_cons (h : EvP K G0 te σ p n Pd) (hr : EvPA K G0 ta σ p m c Pd) : EvPA K G0 (tCons te ta) σ p (n + m) (c + 1) Pd := by
  intro G H B e W hB Q q
  refine h G H B e W (by omega) _ fun G1 H1 v d T1 W1 hd hp => ?_
  refine hr G1 H1 (B + n) (e.trans T1.g) W1 (by omega) _ fun G2 H2 vs ds T2 W2 hds hps hc => ?_
  rw [Nat.add_assoc] at W2
  refine q _ _ _ _ (T1.trans T2) W2 (.cons (hd.mono T2.g) hds) (fun x hx => ?_) (by rw [List.length_cons, hc])
  rcases List.mem_cons.mp hx with rfl | hx
  · exact hp
  · exact hps x hx
/-- a list shown: it stands outside of what is known, so it may still be changed -/
theorem evl_lst (h : EvPA K G0 ta σ p n c Pd) (hc : c ≤ 1000) {G H : Hp} {B : Nat} (e : Ex G0 G) (W : Wd K G H p B) (hB : B + n ≤ 500000000) {Q : VK}
    (q : ∀ G' H' l vs ds, Tr G H G' H' p → Wd K G' H' p (B + n) → DenL K G' vs ds → (∀ d ∈ ds, Pd d) → ds.length = c → H' l = some (.lst vs) → H l = none → G' l = none → l ≠ p → Q (.ref l) H') : tLst ta σ H Q :=
  h G H B e W hB _ fun G1 H1 vs ds T1 W1 hds hps hl => ⟨sz_of (by rw [hds.length]; omega), fun l hl1 => by
    obtain ⟨_, _, _, _, hp, _⟩ := id W1.pen
    exact q G1 (upd H1 l (.lst vs)) l vs ds (T1.new hl1) (W1.new hl1) hds hps hl upd_same (T1.old hl1) (fresh_back W1.ex hl1) (ne_of_none hp hl1).symm⟩
theorem tcons_one {te : TE} {H : Hp} {Q : List V → Hp → Prop} (h : te σ H fun v H1 => Q [v] H1) : tCons te tNil σ H Q := h
end
end LT

/-! Rules of my own: list(d.values()), .. -/
namespace LT
open PySem PySem.Spec PyProof.Rows L2 Evl
theorem paired_of {α β : Type} {F : α → β → Prop} : ∀ {l : List α} {m : List β}, l.length = m.length → (∀ (i : Nat) a b, l[i]? = some a → m[i]? = some b → F a b) → Paired F l m
  | [], [], _, _ => .nil
  | a :: l, b :: m, h, f => .cons (f 0 a b rfl rfl) (paired_of (by simpa using h) fun i x y hx hy => f (i + 1) x y hx hy)
  | [], b :: m, h, _ => by simp at h
  | a :: l, [], h, _ => by simp at h
theorem paired_at {α β : Type} {F : α → β → Prop} : ∀ {l : List α} {m : List β} {i : Nat} {a : α} {b : β}, Paired F l m → l[i]? = some a → m[i]? = some b → F a b
  | _, _, i, a, b, .nil, h, _ => by simp at h
  | _, _, 0, a, b, .cons r _, h1, h2 => by
    cases Option.some.inj h1
    cases Option.some.inj h2
    exact r
  | _, _, i + 1, a, b, .cons _ t, h1, h2 => paired_at (i := i) t h1 h2
section
variable {X : Cx} {o : Expr} {p pos apos mpos : Pos} {td : TE}
/-- list(d.values()): the values in the order of the keys, a new list -/
def tListVals (td : TE) : TE := fun σ H Q => td σ H fun x H1 => ∃ a kvs, x = V.ref a ∧ Rd H1 a (.dK kvs) ∧ ∀ l, H1 l = none → Q (.ref l) (upd H1 l (.lst (kvs.map (·.2))))
theorem pe_listVals (hc : X.calm = true) (hm : X.mg "list" = none) (hd : PE X o td) (hg : Gl X "list" := by rfl) (hbase : attributeBase o "values" X.env (eval o X.env) = eval o X.env := by rfl) (hline : (apos.endLine == mpos.line) = true := by rfl)
    (one : starEach [.Call (.Attribute o "values" apos) [] [] mpos] X.env = (false, eval (.Call (.Attribute o "values" apos) [] [] mpos) X.env) :: starEach [] X.env := by rfl) :
    PE X (.Call (.Name "list" p) [.Call (.Attribute o "values" apos) [] [] mpos] [] pos) (tListVals td) := ⟨fun pins s σ H Q I hq => by
  apply wpAny_Call_Name_kw
  refine ld_blt I hg hm (u := .type "list") (by decide +kernel) ?_ (by decide +kernel) (by decide +kernel)
  apply PyProof.Rows.callWith_type1 ?_ one rfl
  rw [one]
  change wpAny _ _ (spliced ((false, eval (.Call (.Attribute o "values" apos) [] [] mpos) X.env) :: backTo pos (starEach [] X.env))) _ _ s
  apply Calls.spliced_cons
  refine wpAny_Call_method (T := "dict") (id := "dict.values") hbase rfl hline F.plainAttrs_dict F.slot_dict_values F.type_dict_values (thn (hd.run pins s σ H _ I hq) ?_)
  rintro u s1 ⟨x, H1, I1, rx, a, kvs, rfl, ha, q⟩
  cases (show u = Value.ref a from rx)
  obtain ⟨hz, hsys, vs, kv, dof⟩ := dk_rd I1.hok ha
  have raw := dof.raw
  obtain ⟨es, ep, dr, hsz, hat⟩ := raw
  have grow : ∀ b u, s1.heap.get? b = some u → (s1.heap.push { cls := .type "dict_values", data := .fields #[.ref a] }).get? b = some u := fun b u e => Heap.get?_push_of_some _ e
  have I2 : Inv X pins σ H1 { s1 with heap := s1.heap.push { cls := .type "dict_values", data := .fields #[.ref a] } } := I1.kept (t' := s1.toks) grow
  have lenK : kvs.length = vs.length := Paired.length kv
  refine ⟨dof.typeIs, dof.mapOf.noDict, ?_⟩
  change wpAny _ _ (callWith mpos (.builtin "dict.values") [.ref a] [] []) _ X.xe s1
  refine method_meetsIn F.slot_dict_values F.entry_dict_values rfl (PySem.evalArgs_none ⟨rfl, dof.typeIs, F.args_dict_values_1 _, _, meets_dict_values (mixKind X.prog X.w) a hsys, ⟨vs, dof⟩, ?_⟩)
  apply Calls.spliced_nil
  have view : (s1.heap.push { cls := .type "dict_values", data := .fields #[.ref a] }).IsValuesView s1.heap.objs.size a := ⟨_, Heap.get?_push_size _ rfl, rfl, rfl⟩
  refine PySem.W.kdl_call (KdlSrc.rawValues (es := es) (ep := ep)) (I1.ok.hd hc) ⟨view, dr.at fun o e => grow a o e⟩ (by rw [hsz, ← lenK]; exact hz) fun h' tk acc c hk hS hacc => ?_
  have vals : Vals (kvs.map (·.2)) acc.toList := by
    have hl : acc.toList.length = kvs.length := by rw [Array.length_toList, hacc.1, hsz, lenK]
    refine paired_of (by rw [List.length_map, hl]) fun i x u hx hu => ?_
    rw [List.getElem?_map] at hx
    obtain ⟨kvp, hkv, rfl⟩ := Option.map_eq_some_iff.mp hx
    obtain ⟨k, y⟩ := kvp
    have hu' : acc[i]? = some u := by rw [← Array.getElem?_toList]; exact hu
    obtain ⟨hi, ev⟩ := hacc.2 i u hu'
    have hiv : i < vs.length := by omega
    have hvi : vs[i]? = some (vs[i].1, vs[i].2) := List.getElem?_eq_getElem hiv
    have eval' := (hat i hi vs[i].1 vs[i].2 hvi).2
    have rel := paired_at kv hkv (List.getElem?_eq_getElem hiv)
    rw [ev, eval']
    exact rel.2
  exact ⟨.ref _, _, I2.laid (o := .lst (kvs.map (·.2))) (t' := tk) hk (Nat.le_refl _) ⟨by rw [List.length_map]; exact hz, acc.toList, c, vals, hS⟩, rfl, q _ (I2.hok.fresh (Nat.le_refl _))⟩⟩
end
end LT

set_option maxHeartbeats 3200000
/-! len(set(texts)) of a list or a tuple of any length. -/
namespace LT
open PySem PySem.Spec PyProof.Rows L2 Evl
/-! ### the different ones, in the order in which they are met -/
def uq1 (acc : List Str) (x : Str) : List Str := if acc.any (· == x) = true then acc else acc ++ [x]
def uq (l : List Str) : List Str := l.foldl uq1 []
theorem uq_snoc (l : List Str) (x : Str) : uq (l ++ [x]) = uq1 (uq l) x := by
  unfold uq
  rw [List.foldl_append]
  rfl
theorem any_eq_mem {l : List Str} {x : Str} : (l.any (· == x) = true) ↔ x ∈ l := by
  rw [List.any_eq_true]
  exact ⟨fun ⟨y, h, e⟩ => (beq_iff_eq.mp e) ▸ h, fun h => ⟨x, h, beq_self_eq_true x⟩⟩
theorem uq1_any (acc : List Str) (x k : Str) : (uq1 acc x).any (· == k) = (acc.any (· == k) || decide (k = x)) := by
  rw [Bool.eq_iff_iff, Bool.or_eq_true, any_eq_mem, any_eq_mem, decide_eq_true_eq]
  unfold uq1
  by_cases h : acc.any (· == x) = true
  · rw [if_pos h]
    exact ⟨.inl, fun q => q.elim id fun e => e ▸ any_eq_mem.mp h⟩
  · rw [if_neg h, List.mem_append, List.mem_singleton]
theorem uq1_len (acc : List Str) (x : Str) : (uq1 acc x).length = if acc.any (· == x) = true then acc.length else acc.length + 1 := by
  unfold uq1
  split <;> simp
theorem uq_le (l : List Str) : ∀ n, n ≤ l.length → (uq (l.take n)).length ≤ n := by
  intro n
  induction n with
  | zero => intro _; rw [List.take_zero]; exact Nat.le_refl _
  | succ n ih =>
    intro h
    rw [List.take_add_one, List.getElem?_eq_getElem (by omega)]
    show (uq (l.take n ++ [l[n]])).length ≤ n + 1
    rw [uq_snoc, uq1_len]
    have := ih (by omega)
    split <;> omega
theorem uq_mem (l : List Str) : ∀ n, n ≤ l.length → ∀ x, x ∈ uq (l.take n) ↔ x ∈ l.take n := by
  intro n
  induction n with
  | zero => intro _ x; rw [List.take_zero]; exact Iff.rfl
  | succ n ih =>
    intro h x
    have i2 := ih (by omega) x
    rw [List.take_add_one, List.getElem?_eq_getElem (by omega)]
    show x ∈ uq (l.take n ++ [l[n]]) ↔ x ∈ l.take n ++ [l[n]]
    rw [uq_snoc, ← any_eq_mem, uq1_any, Bool.or_eq_true, any_eq_mem, decide_eq_true_eq, i2, List.mem_append, List.mem_singleton]
/-- all are different exactly if none is left out -/
theorem uq_nodup (l : List Str) : ((uq l).length = l.length) ↔ l.Nodup := by
  have core : ∀ n, n ≤ l.length → (((uq (l.take n)).length = n) ↔ (l.take n).Nodup) := by
    intro n
    induction n with
    | zero => intro _; rw [List.take_zero]; exact ⟨fun _ => List.nodup_nil, fun _ => rfl⟩
    | succ n ih =>
      intro h
      have i2 := ih (by omega)
      have le := uq_le l n (by omega)
      have hm := uq_mem l n (by omega) l[n]
      rw [List.take_add_one, List.getElem?_eq_getElem (by omega)]
      show ((uq (l.take n ++ [l[n]])).length = n + 1) ↔ (l.take n ++ [l[n]]).Nodup
      rw [uq_snoc, uq1_len, List.nodup_append]
      by_cases q : (uq (l.take n)).any (· == l[n]) = true
      · rw [if_pos q]
        have q2 := hm.mp (any_eq_mem.mp q)
        constructor
        · intro e; omega
        · intro e; exact absurd rfl (e.2.2 _ q2 _ (List.mem_singleton.mpr rfl))
      · rw [if_neg q]
        have q2 : l[n] ∉ l.take n := fun z => q (any_eq_mem.mpr (hm.mpr z))
        constructor
        · intro e
          refine ⟨i2.mp (by omega), List.pairwise_singleton _ _, fun a ha b hb e2 => ?_⟩
          rw [List.mem_singleton.mp hb] at e2
          exact q2 (e2 ▸ ha)
        · intro e
          have := i2.mpr e.1
          omega
  have := core l.length (Nat.le_refl _)
  rw [List.take_length] at this
  exact this
/-! ### the loop that puts them in -/
section
variable {prog : Program} {w : World} {A : Around} {R : Result → Shared → Prop} {I : Addr} {fp wr : List Addr} {Gm : Array GenState → Array GenState → Prop} {n : Nat} {Pt : Nat → Value → Prop} {St : Nat → Shared → Prop}
theorem putAll (Wk : WalksS prog w A.in1 I fp wr Gm n Pt St) (Z : Addr) (out : Z ∉ fp) (xs : List Str) (hn : xs.length = n) (small : n + 1 < scanBound) (each : ∀ i v, Pt i v → ∃ t, v = .str (xs.getD i Str.empty) t) :
    ∀ (k i : Nat) (s : Shared), i + k = n → St i s → s.heap.SetOf (PySem.strKind prog w) Z (fun y => (uq (xs.take i)).any (· == y)) (uq (xs.take i)).length →
      (∀ s', Moved (Z :: wr) Gm s s' → s'.heap.SetOf (PySem.strKind prog w) Z (fun y => (uq xs).any (· == y)) (uq xs).length → R (.ok (.ret .none)) s') →
      codeAny (model prog w) A (.builtin "set.update.loop" ⟨[.ref Z, .ref I], []⟩) R s := by
  have out2 : Z ∉ wr := fun q => out (Wk.sub _ q)
  have more : ∀ b ∈ wr, b ∈ Z :: wr := fun b q => List.mem_cons_of_mem _ q
  have stands : ∀ {s s' : Shared} {S : Str → Bool} {m : Nat}, s.heap.SetOf (PySem.strKind prog w) Z S m → Moved wr Gm s s' → s'.heap.SetOf (PySem.strKind prog w) Z S m := by
    rintro s s' S m ⟨ob, es, ep, tb, e, r⟩ hm
    exact ⟨ob, es, ep, tb, hm.heap Z _ out2 e, r⟩
  intro k
  induction k with
  | zero =>
    intro i s e st hZ fin
    have ei : i = n := by omega
    subst ei
    have full : xs.take i = xs := by rw [← hn, List.take_length]
    rw [full] at hZ
    apply codeAny_builtin PyProof.Rows.F.entry_set_update_loop
    rw [Around.under_plainId PyProof.Rows.F.plain_set_update_loop _]
    change wpAny _ A.in1 (pyNext (.ref I) >>= _) _ _ s
    apply wpAny_bind
    refine Wk.done s _ _ st fun s' hm => ?_
    change wpAny _ A.in1 (ret Value.none) _ _ s'
    exact wpAny_pure (fin s' (hm.mono more) (stands hZ hm))
  | succ k ih =>
    intro i s e st hZ fin
    have lt : i < n := by omega
    apply codeAny_builtin PyProof.Rows.F.entry_set_update_loop
    rw [Around.under_plainId PyProof.Rows.F.plain_set_update_loop _]
    change wpAny _ A.in1 (pyNext (.ref I) >>= _) _ _ s
    apply wpAny_bind
    refine Wk.item i s _ _ lt st fun v s' hv st' hm => ?_
    obtain ⟨t, rfl⟩ := each i v hv
    have hZ' := stands hZ hm
    have le := uq_le xs i (by omega)
    change wpAny _ A.in1 (holding [Value.str (xs.getD i Str.empty) t] (setAdd Z (.str (xs.getD i Str.empty) t)) >>= _) _ _ s'
    apply wpAny_bind
    apply wpAny_holding
    unfold setAdd
    apply wpAny_holding
    apply wpAny_bind
    apply (PySem.strKind prog w).pyHash (k := xs.getD i Str.empty) (strKind_is _ _ _ _)
    refine wpAny_setAddHashed_of (knd := PySem.strKind prog w) (s := { s' with toks := s'.toks + 1 }) (strKind_is _ _ _ _) rfl hZ' (by omega) fun h' sb hZ2 => ?_
    have tk : xs.take (i + 1) = xs.take i ++ [xs.getD i Str.empty] := by
      rw [List.take_add_one, List.getElem?_eq_getElem (by omega), List.getD_eq_getElem?_getD, List.getElem?_eq_getElem (by omega)]
      rfl
    have next : h'.SetOf (PySem.strKind prog w) Z (fun y => (uq (xs.take (i + 1))).any (· == y)) (uq (xs.take (i + 1))).length :=
      PyProof.Rows.SetOf_congr hZ2 (fun y => by rw [tk, uq_snoc, uq1_any]) (by rw [tk, uq_snoc, uq1_len])
    refine wpAny_pure ⟨plainId_quiet PyProof.Rows.F.plain_set_update_loop _, ih (i + 1) _ (by omega) (Wk.frame _ s' _ _ st' (Nat.le_succ _) fun b hb o e2 => ?_) next fun s2 hm2 hZ3 => ?_⟩
    · rw [sb.2 b fun q => out (q ▸ hb)]
      exact e2
    · refine fin s2 (Moved.trans Wk.gtrans ((hm.mono more).then_heap (Nat.le_succ _) fun b o hb e2 => ?_) hm2) hZ3
      rw [sb.2 b fun q => hb (q ▸ List.mem_cons_self)]
      exact e2
end
/-! ### set(texts) -/
abbrev setO (led : Bool) : Obj := { cls := .type "set", dict := none, data := .set #[] 0 (.fresh 0 0 led) }
section
variable {prog : Program} {w : World} {A : Around} {E : Value → Shared → Prop} {s : Shared}
set_option maxHeartbeats 3200000 in
/-- set(..) of a list of texts -/
theorem callSet_list {l : Addr} {its : Array Value} {xs : List Str} {Q : Value → Shared → Prop} (quiet : A.handled = none) (at_ : s.heap.IsList l its) (txt : PyProof.Rows.StrsAre its.toList xs) (small : xs.length + 1 < scanBound)
    (fin : ∀ (h' : Heap) (tk : Nat), h'.SetOf (PySem.strKind prog w) s.heap.objs.size (fun y => (uq xs).any (· == y)) (uq xs).length → (∀ b o, b < s.heap.objs.size → s.heap.get? b = some o → h'.get? b = some o) → Q (.ref s.heap.objs.size) { s with heap := h', toks := tk }) :
    wpAny (model prog w) A (call (.type "set") [.ref l]) Q E s := by
  obtain ⟨c0, tl0, mro0⟩ := PySem.F.called_set.mro
  have made0 := PySem.F.called_set.made
  have sub0 := PySem.F.called_set.sub
  have nty := PySem.F.called_set.notType
  have cre := PySem.F.called_set.canCreate
  have chk := PySem.F.typeCall_set_1 (.ref l)
  apply wpAny_call
  apply codeAny_of_tree
  change wpAny _ _ (callAny (.type "set") _) _ _ _
  refine wpAny_pure ⟨Code.quiet_builtin _ (by decide +kernel), codeAny_builtin PySem.F.entry_type_call ?_⟩
  rw [Around.under_plain (weight_type_call_type "set" [.ref l] []) rfl]
  repeat (any_goals (first | assumption | wp_step))
  refine codeAny_mono (code_set_new_1 (.ref l) (E := E) (Q₁ := fun ob s1 => ∃ led : Bool, ob = .ref s.heap.objs.size ∧ s1 = { s with heap := s.heap.push (setO led) }) fun led => ⟨led, rfl, rfl⟩) fun r s1 hr => ?_
  match r, hr with
  | .error e, hr => exact hr
  | .ok .next, hr => exact hr.elim
  | .ok .brk, hr => exact hr.elim
  | .ok .cont, hr => exact hr.elim
  | .ok (.ret ob), hr =>
    obtain ⟨led, rfl, rfl⟩ := hr
    have here : (s.heap.push (setO led)).get? s.heap.objs.size = some (setO led) := Heap.get?_push_size _ rfl
    have ty : Shared.TypeIs { s with heap := s.heap.push (setO led) } (.ref s.heap.objs.size) "set" := ⟨_, here, rfl⟩
    have ini := PySem.F.called_set.init.lookup
    have bnd := PySem.F.called_set.init.bind (.ref s.heap.objs.size)
    repeat (any_goals (first | assumption | wp_step))
    refine codeAny_mono (codeAny_call_builtin (R := wants (fun r s2 => r = .none ∧ ∃ h' tk, s2 = { s with heap := h', toks := tk } ∧ h'.SetOf (PySem.strKind prog w) s.heap.objs.size (fun y => (uq xs).any (· == y)) (uq xs).length ∧
      (∀ b o, b < s.heap.objs.size → s.heap.get? b = some o → h'.get? b = some o)) E) PySem.F.called_set.init.plain PySem.F.entry_set_init (check_set_init_1 ty ?_)) fun r2 s2 hr2 => ?_
    · obtain ⟨ol, hol, ec, nl, ed⟩ := at_
      obtain ⟨lc, ld, lda, lsl⟩ := ol
      cases (show lc = .type "list" from ec)
      cases (show lda = .seq its nl from ed)
      have holP : (s.heap.push (setO led)).get? l = some { cls := .type "list", dict := ld, data := .seq its nl, slots := lsl } := Heap.get?_push_of_some _ hol
      have noS := PySem.F.sub_list_set
      have noF := PySem.F.sub_list_frozenset
      have noD : (Value.type "list" == Value.type "dict") = false := by decide
      have srcP : (s.heap.push (setO led)).IsList l its := ⟨_, holP, rfl, nl, rfl⟩
      unfold Builtin.«set.__init__» noKeywords Builtin.Frozenset.updateFrom
      generalize hpi : pyIter = pi
      wp_walk
      subst hpi
      apply wpAny_pyIter_list srcP
      apply wpAny_bind
      apply wpAny_runValue
      have lt0 : l < s.heap.objs.size := Heap.lt_size hol
      have qt : A.in1.in1.in1.handled = none := by simp [quiet]
      have szP : (s.heap.push (setO led)).objs.size = s.heap.objs.size + 1 := Heap.size_push _ _
      have nI : l ≠ (s.heap.push (setO led)).objs.size := by rw [szP]; exact Nat.ne_of_lt (Nat.lt_succ_of_lt lt0)
      have outF : s.heap.objs.size ∉ [(s.heap.push (setO led)).objs.size, l] := by
        rw [szP]
        intro q
        rcases List.mem_cons.mp q with q | q
        · exact Nat.ne_of_lt (Nat.lt_succ_self _) q
        · exact Nat.ne_of_gt lt0 (List.mem_singleton.mp q)
      have lenX : xs.length = its.size := by rw [← StrsAre.len_eq txt, Array.length_toList]
      refine putAll ((Walks.list qt _ l nI its).toS) s.heap.objs.size outF xs lenX (by omega) (fun i v hv => SS.strs_at txt i v (by rw [Array.getElem?_toList]; exact hv)) its.size 0 _ (Nat.zero_add _) ⟨⟨_, Heap.get?_push_size _ rfl, rfl, rfl⟩, srcP.push _⟩ ?z0 ?z1
      case z0 =>
        have there := Heap.get?_push_of_some ({ cls := .type "list_iterator", data := .fields #[.ref l, .int 0 0] } : Obj) here
        exact PyProof.Rows.SetOf_congr ((PyProof.Rows.setObjOf_fresh (knd := PySem.strKind prog w) led).setOf there (by unfold scanBound; omega)) (fun _ => rfl) rfl
      case z1 =>
        rintro ⟨h', g', d', tk', os'⟩ hm hZ
        cases (show g' = s.gens from hm.gens)
        cases (show d' = s.drawn from hm.drawn)
        cases (show os' = s.os from hm.os)
        apply wpAny_pure
        change wpAny _ _ (ret Value.none) _ _ _
        refine wpAny_pure ⟨rfl, h', tk', rfl, hZ, fun b o lt e => hm.heap b o (fun q => ?_) (Heap.get?_push_of_some _ (Heap.get?_push_of_some _ e))⟩
        rcases List.mem_cons.mp q with q | q
        · exact Nat.ne_of_lt lt q
        · have q2 := List.mem_singleton.mp q
          rw [szP] at q2
          exact Nat.ne_of_lt (Nat.lt_succ_of_lt lt) q2
    · match r2, hr2 with
      | .error e, hr2 => exact hr2
      | .ok .next, hr2 => exact hr2.elim
      | .ok .brk, hr2 => exact hr2.elim
      | .ok .cont, hr2 => exact hr2.elim
      | .ok (.ret rv), hr2 =>
        obtain ⟨rfl, h', tk, rfl, hZ, old⟩ := hr2
        repeat (any_goals (first | assumption | wp_step))
        exact fin _ _ hZ old
set_option maxHeartbeats 3200000 in
/-- set(..) of a tuple of texts -/
theorem callSet_tuple {l : Addr} {its : Array Value} {xs : List Str} {Q : Value → Shared → Prop} (quiet : A.handled = none) (at_ : s.heap.IsTuple l its) (txt : PyProof.Rows.StrsAre its.toList xs) (small : xs.length + 1 < scanBound)
    (fin : ∀ (h' : Heap) (tk : Nat), h'.SetOf (PySem.strKind prog w) s.heap.objs.size (fun y => (uq xs).any (· == y)) (uq xs).length → (∀ b o, b < s.heap.objs.size → s.heap.get? b = some o → h'.get? b = some o) → Q (.ref s.heap.objs.size) { s with heap := h', toks := tk }) :
    wpAny (model prog w) A (call (.type "set") [.ref l]) Q E s := by
  obtain ⟨c0, tl0, mro0⟩ := PySem.F.called_set.mro
  have made0 := PySem.F.called_set.made
  have sub0 := PySem.F.called_set.sub
  have nty := PySem.F.called_set.notType
  have cre := PySem.F.called_set.canCreate
  have chk := PySem.F.typeCall_set_1 (.ref l)
  apply wpAny_call
  apply codeAny_of_tree
  change wpAny _ _ (callAny (.type "set") _) _ _ _
  refine wpAny_pure ⟨Code.quiet_builtin _ (by decide +kernel), codeAny_builtin PySem.F.entry_type_call ?_⟩
  rw [Around.under_plain (weight_type_call_type "set" [.ref l] []) rfl]
  repeat (any_goals (first | assumption | wp_step))
  refine codeAny_mono (code_set_new_1 (.ref l) (E := E) (Q₁ := fun ob s1 => ∃ led : Bool, ob = .ref s.heap.objs.size ∧ s1 = { s with heap := s.heap.push (setO led) }) fun led => ⟨led, rfl, rfl⟩) fun r s1 hr => ?_
  match r, hr with
  | .error e, hr => exact hr
  | .ok .next, hr => exact hr.elim
  | .ok .brk, hr => exact hr.elim
  | .ok .cont, hr => exact hr.elim
  | .ok (.ret ob), hr =>
    obtain ⟨led, rfl, rfl⟩ := hr
    have here : (s.heap.push (setO led)).get? s.heap.objs.size = some (setO led) := Heap.get?_push_size _ rfl
    have ty : Shared.TypeIs { s with heap := s.heap.push (setO led) } (.ref s.heap.objs.size) "set" := ⟨_, here, rfl⟩
    have ini := PySem.F.called_set.init.lookup
    have bnd := PySem.F.called_set.init.bind (.ref s.heap.objs.size)
    repeat (any_goals (first | assumption | wp_step))
    refine codeAny_mono (codeAny_call_builtin (R := wants (fun r s2 => r = .none ∧ ∃ h' tk, s2 = { s with heap := h', toks := tk } ∧ h'.SetOf (PySem.strKind prog w) s.heap.objs.size (fun y => (uq xs).any (· == y)) (uq xs).length ∧
      (∀ b o, b < s.heap.objs.size → s.heap.get? b = some o → h'.get? b = some o)) E) PySem.F.called_set.init.plain PySem.F.entry_set_init (check_set_init_1 ty ?_)) fun r2 s2 hr2 => ?_
    · obtain ⟨ol, hol, ec, nl, ed⟩ := at_
      obtain ⟨lc, ld, lda, lsl⟩ := ol
      cases (show lc = .type "tuple" from ec)
      cases (show lda = .seq its nl from ed)
      have holP : (s.heap.push (setO led)).get? l = some { cls := .type "tuple", dict := ld, data := .seq its nl, slots := lsl } := Heap.get?_push_of_some _ hol
      have noS := PySem.F.sub_tuple_set
      have noF := PySem.F.sub_tuple_frozenset
      have noD : (Value.type "tuple" == Value.type "dict") = false := by decide
      have srcP : (s.heap.push (setO led)).IsTuple l its := ⟨_, holP, rfl, nl, rfl⟩
      unfold Builtin.«set.__init__» noKeywords Builtin.Frozenset.updateFrom
      generalize hpi : pyIter = pi
      wp_walk
      subst hpi
      apply wpAny_pyIter_tuple srcP
      apply wpAny_bind
      apply wpAny_runValue
      have lt0 : l < s.heap.objs.size := Heap.lt_size hol
      have qt : A.in1.in1.in1.handled = none := by simp [quiet]
      have szP : (s.heap.push (setO led)).objs.size = s.heap.objs.size + 1 := Heap.size_push _ _
      have nI : l ≠ (s.heap.push (setO led)).objs.size := by rw [szP]; exact Nat.ne_of_lt (Nat.lt_succ_of_lt lt0)
      have outF : s.heap.objs.size ∉ [(s.heap.push (setO led)).objs.size, l] := by
        rw [szP]
        intro q
        rcases List.mem_cons.mp q with q | q
        · exact Nat.ne_of_lt (Nat.lt_succ_self _) q
        · exact Nat.ne_of_gt lt0 (List.mem_singleton.mp q)
      have lenX : xs.length = its.size := by rw [← StrsAre.len_eq txt, Array.length_toList]
      refine putAll ((Walks.tuple qt _ l nI its).toS) s.heap.objs.size outF xs lenX (by omega) (fun i v hv => SS.strs_at txt i v (by rw [Array.getElem?_toList]; exact hv)) its.size 0 _ (Nat.zero_add _) ⟨⟨_, Heap.get?_push_size _ rfl, rfl, rfl⟩, srcP.push _⟩ ?z0 ?z1
      case z0 =>
        have there := Heap.get?_push_of_some ({ cls := .type "tuple_iterator", data := .fields #[.ref l, .int 0 0] } : Obj) here
        exact PyProof.Rows.SetOf_congr ((PyProof.Rows.setObjOf_fresh (knd := PySem.strKind prog w) led).setOf there (by unfold scanBound; omega)) (fun _ => rfl) rfl
      case z1 =>
        rintro ⟨h', g', d', tk', os'⟩ hm hZ
        cases (show g' = s.gens from hm.gens)
        cases (show d' = s.drawn from hm.drawn)
        cases (show os' = s.os from hm.os)
        apply wpAny_pure
        change wpAny _ _ (ret Value.none) _ _ _
        refine wpAny_pure ⟨rfl, h', tk', rfl, hZ, fun b o lt e => hm.heap b o (fun q => ?_) (Heap.get?_push_of_some _ (Heap.get?_push_of_some _ e))⟩
        rcases List.mem_cons.mp q with q | q
        · exact Nat.ne_of_lt lt q
        · have q2 := List.mem_singleton.mp q
          rw [szP] at q2
          exact Nat.ne_of_lt (Nat.lt_succ_of_lt lt) q2
    · match r2, hr2 with
      | .error e, hr2 => exact hr2
      | .ok .next, hr2 => exact hr2.elim
      | .ok .brk, hr2 => exact hr2.elim
      | .ok .cont, hr2 => exact hr2.elim
      | .ok (.ret rv), hr2 =>
        obtain ⟨rfl, h', tk, rfl, hZ, old⟩ := hr2
        repeat (any_goals (first | assumption | wp_step))
        exact fin _ _ hZ old
end
section
variable {X : Cx} {a : Expr} {ta : TE} {p p2 q pos : Pos}
def tLenUq (K : PySem.W.Frag) (ta : TE) : TE := fun σ H Q => ta σ H fun x H1 => ∃ l, ∃ xs : List Str, x = .ref l ∧ (SqL K H1 l (xs.map V.str) ∨ SqT K H1 l (xs.map V.str)) ∧ xs.length ≤ 1000 ∧ Q (.int ((uq xs).length : Nat)) H1
theorem pe_lenUq (hc : X.calm = true) (hm : X.mg "len" = none) (hm2 : X.mg "set" = none) (ha : PE X a ta) (hg : Gl X "len" := by rfl) (hg2 : Gl X "set" := by rfl)
    (one : starEach [a] X.env = (false, eval a X.env) :: starEach [] X.env := by rfl) : PE X (.Call (.Name "len" p) [.Call (.Name "set" p2) [a] [] q] [] pos) (tLenUq X.K ta) := ⟨fun pins s σ H Q I h => by
  refine Call_ ?_
  refine ld_blt I hg hm boot_len ?_
  refine PyProof.Rows.callWith_builtin1 (PyProof.Rows.args_cons ?_ rfl) rfl rfl
  refine Call_ ?_
  refine ld_blt I hg2 hm2 boot_set ?_
  refine PyProof.Rows.callWith_type1 (PyProof.Rows.args_cons (thn (ha.run pins s σ H _ I h) ?_) one) one rfl
  rintro v s1 ⟨x, H1, I1, r1, l, xs, rfl, hq, hl, q1⟩
  apply PyProof.Rows.args_nil
  cases r1
  have back : ∀ (h' : Heap) (tk : Nat), h'.SetOf (PySem.strKind X.prog X.w) s1.heap.objs.size (fun y => (uq xs).any (· == y)) (uq xs).length → (∀ b o, b < s1.heap.objs.size → s1.heap.get? b = some o → h'.get? b = some o) →
      wpAny (model X.prog X.w) X.A (spliced (backTo pos (starEach [] X.env))) (fun vs s2 => wpAny (model X.prog X.w) X.A (call (.builtin "len") (Value.ref s1.heap.objs.size :: vs)) (EP X pins σ Q) X.xe s2) X.xe { s1 with heap := h', toks := tk } := by
    intro h' tk hZ old
    apply PyProof.Rows.args_nil
    obtain ⟨ob, es, ep, tb, e, exact_, dat, _, _, _, fits, num⟩ := hZ
    have I2 : Inv X pins σ H1 { s1 with heap := h', toks := tk } := I1.kept fun b o e2 => old b o (Heap.lt_size e2) e2
    have le := uq_le xs xs.length (Nat.le_refl _)
    rw [List.take_length] at le
    refine call_len_set e exact_ dat fits (by rw [num] <;> omega) ⟨.int ((uq xs).length : Nat), H1, I2.tok _, ⟨_, by rw [num]⟩, q1⟩
  have tiny : xs.length + 1 < scanBound := by unfold scanBound; omega
  rcases hq with hq | hq
  · obtain ⟨its, r, pl, _⟩ := I1.list hq
    exact callSet_list (I1.ok.hd hc) pl.isList (by simpa using strsAre_of r) tiny back
  · obtain ⟨its, r, pl, _⟩ := I1.tuple hq
    exact callSet_tuple (I1.ok.hd hc) pl (by simpa using strsAre_of r) tiny back⟩
end
end LT

namespace K04
open PySem PySem.Spec PyProof.Rows L2 Evl LT
def top (i : Nat) : Stmt := PySem.Challenge.pw_lastturn_k04_choosing_down_rows.main.body.getD i (.Pass ⟨0, 0, 0, 0⟩)
abbrev sLDraw : Stmt := top 25
abbrev NLDraw : List Str := ["_law_pen_here", "_law_many", "_law_digit", "_law_spot", "_law_cell", "_law_mix"]
theorem scLDraw : FnScope NLDraw ["_law_pen_here", "_law_many"] (defScope sLDraw) := ⟨rfl, rfl, rfl, by decide +kernel, rfl, by decide +kernel, by decide +kernel⟩
def spDraw (K : PySem.W.Frag) : Sp := fun vs H Q _ => ∃ (G : Hp) (p : Addr) (n : Int) (B : Nat), vs = [.ref p, .int n] ∧ 0 < n ∧ n < 1073741824 ∧ Wd K G H p B ∧ B < 1000000000 ∧
  RetW K G H p B 1 (fun _ v => ∃ i : Int, v = .int i ∧ 0 ≤ i ∧ i < n) Q
section
variable {P : Program} {w : World} {K : PySem.W.Frag} {mg : Str → Option Value} {base : Heap}
theorem ok_draw {f : Addr} {fd : FuncData} (F : Fun K "_law_draw" "_law_draw" sLDraw f fd) (ml : mg "len" = none) (ma : mg "abs" = none) : FnOk P w K mg base CX0 1 f fd ["_law_pen_here", "_law_many"] (spDraw K) := by
  refine F.ok scLDraw (fun vs H Q E h => ?_) (fun cdv A outer s H vs Q E hr h => ?_)
  · obtain ⟨G, p, n, B, rfl, _⟩ := h
    rfl
  · obtain ⟨G, p, n, B, rfl, hn, hn2, ⟨ex, np, c, sp, m, ns, hp, hc, hl, s0, sB, m0⟩, hB, k⟩ := h
    have hu := hu_of hr
    refine ⟨_, (pss_cons (ps_if (pt_cmpR op_gt (pe_dget hu (pv 0) pe_str (fun _ _ => rfl)) pe_int (nomark _)) (pss_cons (ps_set (i := 2) scLDraw.nd rfl (.inl rfl) (pe_op op_mod (pe_dget hu (pv 0) pe_str (fun _ _ => rfl)) (pv 1)))
      (pss_cons (ps_dput hu (pv 0) pe_str (pe_op op_fdiv (pe_dget hu (pv 0) pe_str (fun _ _ => rfl)) (pv 1)) rfl)
      (pss_one (ps_ret (pv 2))))) pss_nil)
      (pss_cons (ps_set (i := 3) scLDraw.nd rfl (.inl rfl) (pe_dget hu (pv 0) pe_str (fun _ _ => rfl)))
      (pss_cons (ps_dput hu (pv 0) pe_str (pe_op op_add (pv 3) pe_int) rfl)
      (Evl.pss_cut (ps_set (i := 4) scLDraw.nd rfl (.inl rfl) (pe_ifExp (pt_cmpR (op_neD hr.units) (pe_dget hu (pv 0) pe_str (fun _ _ => rfl)) (pe_lst pa_nil) (nomark _)) (pe_ix ix_list (pe_dget hu (pv 0) pe_str (fun _ _ => rfl)) (pe_op op_mod (pv 3) (pe_callB call_len_seq (by rfl) ml PySem.boot_len (pa_cons (pe_dget hu (pv 0) pe_str (fun _ _ => rfl)) pa_nil))) (fun _ _ => rfl)) (pe_op op_add (pe_op op_mul pe_int (pv 3)) pe_int)))
      (Evl.pss_cut (ps_if (PW.pt (pw_and (pt_cmpR op_lt (pv 3) (pe_callB call_len_seq (by rfl) ml PySem.boot_len (pa_cons (pe_dget hu (pv 0) pe_str (fun _ _ => rfl)) pa_nil)) (nomark _)) (pw_and1 (pt_cmpR op_ge (pe_callB call_abs (by rfl) ma (by decide +kernel) (pa_cons (pv 4) pa_nil)) (pe_op op_pow pe_int pe_int) (nomark _))))) (pss_cons (ps_dput hu (pv 0) pe_str (pe_op op_fdiv (pe_op op_sub (pe_callB call_abs (by rfl) ma (by decide +kernel) (pa_cons (pv 4) pa_nil)) (pe_op op_pow pe_int pe_int)) (pv 1)) rfl)
      (pss_one (ps_ret (pe_op op_mod (pe_op op_sub (pe_callB call_abs (by rfl) ma (by decide +kernel) (pa_cons (pv 4) pa_nil)) (pe_op op_pow pe_int pe_int)) (pv 1))))) pss_nil)
      (pss_cons (ps_set (i := 5) scLDraw.nd rfl (.inl rfl) (pe_op op_mod (pe_op op_add (pe_op op_add (pe_op op_add (pe_op op_mul (pe_op op_mod (pv 4) pe_int) pe_int) (pe_op op_mul (pe_op op_mul pe_int (pv 3)) (pv 3))) (pe_op op_mul pe_int (pv 3))) pe_int) pe_int))
      (pss_cons (ps_set (i := 5) scLDraw.nd rfl (.inl rfl) (pe_op op_mod (pe_op op_add (pe_op op_add (pe_op op_add (pe_op op_mul (pv 5) (pv 5)) (pe_op op_mul pe_int (pv 5))) (pe_op op_mul pe_int (pv 3))) pe_int) pe_int))
      (pss_one (ps_ret (pe_op op_mod (pe_op op_fdiv (pe_op op_mod (pe_op op_mul (pv 5) (pe_op op_add (pv 5) pe_int)) pe_int) pe_int) (pv 1))))))))))), ?_⟩
    -- what is left behind: the pen alone
    have done : ∀ (s' m' i : Int), 0 ≤ s' → s' ≤ (B : Int) + 1 → 0 ≤ m' → 0 ≤ i → i < n → ∀ H', (∀ b o, H b = some o → b ≠ p → H' b = some o) → (∀ b, H b ≠ none → H' b ≠ none) → H' p = some (.dK (penK c s' m')) → Q (.int i) H' := by
      intro s' m' i h1 h2 h3 h4 h5 H' hk hst hp'
      refine k G H' _ ⟨Ex.refl G, fun _ _ h => h, hk, hst⟩ ⟨fun b o e => hk b o (ex b o e) (fun z => by rw [z, np] at e; cases e), np, c, s', m', ns, hp', hc, hl, h1, by push_cast; omega, h3⟩ ⟨i, rfl, h4, h5⟩
    have stay : ∀ {H1 : Hp} (o : HO), (∀ b o, H b = some o → b ≠ p → H1 b = some o) → ∀ b o', H b = some o' → b ≠ p → (upd H1 p o) b = some o' := fun o h b o' e n => by rw [upd_ne n]; exact h b o' e n
    refine ⟨_, rfl, p, _, rfl, pen_more hp, _, _, rfl, rfl, _, rfl, ite2 (fun hm => ?_) (fun hm => ?_)⟩
    · have hm' : 0 < m := of_decide_eq_true hm
      refine ⟨_, rfl, p, _, rfl, pen_more hp, _, rfl, _, _, rfl, rfl, hn, ?_⟩
      refine ⟨_, rfl, p, _, rfl, pen_more hp, _, rfl, _, _, rfl, rfl, ⟨hn, hn2⟩, _, rfl, p, _, rfl, put_moreH hp, ?_⟩
      refine ⟨_, rfl, done sp (m / n) (m % n) s0 (by omega) (Int.ediv_nonneg m0 (by omega)) (mod_lo hn) (mod_hi hn) _ (fun b o e h => by rw [upd_ne h]; exact e) (fun b h => ?_) upd_same⟩
      by_cases z : b = p
      · rw [z, upd_same]; exact fun q => nomatch q
      · rw [upd_ne z]; exact h
    · have em : m = 0 := by have := of_decide_eq_false (by simpa using hm : decide (0 < m) = false); omega
      refine ⟨_, rfl, p, _, rfl, pen_spot hp, _, rfl, _, _, rfl, rfl, _, rfl, p, _, rfl, put_spotH hp, ?_⟩
      have hp1 : (upd H p (.dK (penK c (sp + 1) m))) p = some (.dK (penK c (sp + 1) m)) := upd_same
      have ex1 : Ex G (upd H p (.dK (penK c (sp + 1) m))) := Ex.mut ex np
      have k1 : ∀ b o, H b = some o → b ≠ p → (upd H p (.dK (penK c (sp + 1) m))) b = some o := fun b o e h => by rw [upd_ne h]; exact e
      have st1 : ∀ b, H b ≠ none → (upd H p (.dK (penK c (sp + 1) m))) b ≠ none := st_upd
      generalize hH1 : upd H p (.dK (penK c (sp + 1) m)) = H1 at hp1 ex1 k1 st1
      refine ⟨fun σ' H' => ∃ z : Int, σ' = [some (.ref p), some (.int n), none, some (.int sp), some (.int z), none] ∧ H' p = some (.dK (penK c (sp + 1) m)) ∧ SqL K H' c (ns.map V.int) ∧ (∀ b o, H b = some o → b ≠ p → H' b = some o) ∧ (∀ b, H b ≠ none → H' b ≠ none), ?_, ?_⟩
      refine ⟨_, rfl, p, _, rfl, pen_cells hp1, Nat.zero_le _, fun q hq => ?_⟩
      have npq : p ≠ q := ne_of_none hp1 hq
      have hp2 : (upd H1 q (.lst [])) p = some (.dK (penK c (sp + 1) m)) := by rw [upd_ne npq]; exact hp1
      have x2 : Ex H1 (upd H1 q (.lst [])) := Ex.new hq
      have hc2 : SqL K (upd H1 q (.lst [])) c (ns.map V.int) := ex_l (ex1.trans x2) hc
      have hn2' : Dp K (upd H1 q (.lst [])) (.ref q) (.list []) := .lst (.inl (.inl upd_same)) .nil
      have k2 : ∀ b o, H b = some o → b ≠ p → (upd H1 q (.lst [])) b = some o := fun b o e h => x2 b o (k1 b o e h)
      have st2 : ∀ b, H b ≠ none → (upd H1 q (.lst [])) b ≠ none := fun b h => st_upd b (st1 b h)
      generalize hH2 : upd H1 q (.lst []) = H2 at hp2 hc2 hn2' k2 st2
      refine ⟨_, _, .lst hc2 (dp_ints ns), hn2', shaped_ints ns, shaped_ints [], _, rfl, ?_⟩
      refine ite2 (fun hne => ?_) (fun _ => ?_)
      · have hns : 0 < ns.length := by
          rw [eqv_nil] at hne
          cases ns with
          | nil => exact absurd hne (by decide)
          | cons => exact Nat.succ_pos _
        have hz : 0 ≤ sp % ((ns.map V.int).length : Int) ∧ sp % ((ns.map V.int).length : Int) < (ns.length : Int) := by
          rw [List.length_map]; exact ⟨mod_lo (by omega), mod_hi (by omega)⟩
        obtain ⟨j, hj⟩ : ∃ j : Nat, sp % ((ns.map V.int).length : Int) = (j : Int) := ⟨_, (Int.toNat_of_nonneg hz.1).symm⟩
        have hjl : j < ns.length := by omega
        refine ⟨_, rfl, p, _, rfl, pen_cells hp2, _, rfl, _, rfl, p, _, rfl, pen_cells hp2, c, _, rfl, .inl hc2, _, _, rfl, rfl, (by rw [List.length_map]; omega), ?_⟩
        refine ⟨c, _, _, .int ns[j], rfl, rfl, hc2, at_of hj (by rw [List.getElem?_map, List.getElem?_eq_getElem hjl]; rfl), ?_⟩
        exact ⟨_, rfl, hp2, hc2, k2, st2⟩
      · refine ⟨_, rfl, _, _, rfl, rfl, .inl (by decide), _, _, rfl, rfl, ?_⟩
        exact ⟨_, rfl, hp2, hc2, k2, st2⟩
      rintro _ H2 ⟨z, rfl, hp2, hc2, k2, st2⟩
      -- if spot < len(cells) and abs(cell) >= 10 ** 18
      have ha : 0 ≤ (if z < 0 then -z else z) := by split <;> omega
      refine ⟨fun σ' H' => σ' = [some (.ref p), some (.int n), none, some (.int sp), some (.int z), none] ∧ H' = H2, ?_, ?_⟩
      · refine ⟨_, rfl, _, rfl, p, _, rfl, pen_cells hp2, c, _, rfl, .inl hc2, _, _, rfl, rfl, _, rfl, ite2 (fun _ => ?_) (fun _ => iteF ⟨rfl, rfl⟩)⟩
        refine ⟨_, rfl, z, rfl, _, _, rfl, rfl, ⟨by decide, by decide, by decide⟩, _, _, rfl, rfl, _, rfl, ite2 (fun h => ?_) (fun _ => ⟨rfl, rfl⟩)⟩
        have hz18 : 1000000000000000000 ≤ (if z < 0 then -z else z) := by
          have := of_decide_eq_true h
          rw [pow18] at this
          exact this
        refine ⟨_, rfl, z, rfl, _, _, rfl, rfl, ⟨by decide, by decide, by decide⟩, _, _, rfl, rfl, _, rfl, _, _, rfl, rfl, ⟨hn, hn2⟩, _, rfl, p, _, rfl, put_moreH hp2, ?_⟩
        refine ⟨_, rfl, z, rfl, _, _, rfl, rfl, ⟨by decide, by decide, by decide⟩, _, _, rfl, rfl, _, rfl, _, _, rfl, rfl, hn, ?_⟩
        rw [pow18]
        exact done (sp + 1) _ _ (by omega) (by omega) (Int.ediv_nonneg (by omega) (by omega)) (mod_lo hn) (mod_hi hn) _ (stay _ k2) (fun b h => st_upd b (st2 b h)) upd_same
      · rintro _ _ ⟨rfl, rfl⟩
        have b1 : 0 ≤ z % 2147483647 ∧ z % 2147483647 < 2147483647 := ⟨mod_lo (by decide), mod_hi (by decide)⟩
        refine ⟨_, rfl, _, _, rfl, rfl, (by show (0 : Int) < _; decide), _, _, rfl, rfl, .inl ⟨by omega, by omega⟩, _, rfl, _, _, rfl, rfl, .inl (by decide), _, rfl, _, _, rfl, rfl, .inr ⟨by omega, by omega⟩, _, _, rfl, rfl, _, rfl, _, _, rfl, rfl, .inl (by decide), _, _, rfl, rfl, _, _, rfl, rfl, _, _, rfl, rfl, (by show (0 : Int) < _; decide), ?_⟩
        refine ⟨_, rfl, _, rfl, _, _, rfl, rfl, .inl ⟨by omega, by omega⟩, _, rfl, _, _, rfl, rfl, .inl (by decide), _, _, rfl, rfl, _, rfl, _, _, rfl, rfl, .inl (by decide), _, _, rfl, rfl, _, _, rfl, rfl, _, _, rfl, rfl, (by show (0 : Int) < _; decide), ?_⟩
        refine ⟨_, rfl, _, rfl, _, _, rfl, rfl, _, _, rfl, rfl, .inl ⟨by omega, by omega⟩, _, _, rfl, rfl, (by show (0 : Int) < _; decide), _, _, rfl, rfl, ⟨by decide, by decide⟩, _, rfl, _, _, rfl, rfl, hn, ?_⟩
        exact done (sp + 1) m _ (by omega) (by omega) m0 (mod_lo hn) (mod_hi hn) _ k2 st2 hp2
end
end K04

namespace K04
open PySem PySem.Spec PyProof.Rows L2 Evl LT
/-! ### pick -/
abbrev sLPick : Stmt := top 26
abbrev NLPick : List Str := ["_law_pen_here", "_law_some"]
theorem scLPick : FnScope NLPick ["_law_pen_here", "_law_some"] (defScope sLPick) := ⟨rfl, rfl, rfl, by decide +kernel, rfl, by decide +kernel, by decide +kernel⟩
/-- a def of the text as it is called -/
structure Cal (P : Program) (w : World) (K : PySem.W.Frag) (mg : Str → Option Value) (base : Heap) (k : Nat) (x : Str) (ps : List Str) (sp : Sp) : Prop where
  ex : ∃ (f : Addr) (fd : FuncData), FnOk P w K mg base CX0 k f fd ps sp ∧ mg x = some (.ref f) ∧ PySem.W.keepIn K (.ref f) = true ∧ Binds K fd ps []
def spPick (K : PySem.W.Frag) : Sp := fun vs H Q _ => ∃ (G : Hp) (p : Addr) (B : Nat) (v : V), vs = [.ref p, v] ∧ Wd K G H p B ∧ B < 999999999 ∧
  ((∃ z : Str, v = .str z ∧ 0 < z.length ∧ z.length ≤ 1000 ∧ RetW K G H p B 1 (fun _ r => ∃ c, c ∈ z.cps.toList ∧ r = .str ⟨#[c]⟩) Q) ∨
   ∃ (a : Addr) (xs : List V), v = .ref a ∧ (SqL K H a xs ∨ SqT K H a xs) ∧ 0 < xs.length ∧ xs.length ≤ 100000 ∧ RetW K G H p B 1 (fun _ r => r ∈ xs) Q)
section
variable {P : Program} {w : World} {K : PySem.W.Frag} {mg : Str → Option Value} {base : Heap}
theorem rd_tr {H H' : Hp} {p a : Addr} {o u : HO} (hp : H p = some (.dK u')) (k : ∀ b o, H b = some o → b ≠ p → H' b = some o) (h : Rd H a o) (hn : ∀ kv, o ≠ .dK kv) : Rd H' a o := by
  rcases h with h | ⟨ob, h⟩
  · exact .inl (k a _ h (fun e => by rw [e, hp] at h; exact hn _ (Option.some.inj h).symm))
  · exact .inr ⟨ob, k a _ h (fun e => by rw [e, hp] at h; cases h)⟩
theorem sl_tr {H H' : Hp} {p a : Addr} {xs : List V} (hp : H p = some (.dK u')) (k : ∀ b o, H b = some o → b ≠ p → H' b = some o) (h : SqL K H a xs) : SqL K H' a xs := by
  rcases h with h | h
  · exact .inl (rd_tr (u := .lst xs) hp k h (fun _ q => nomatch q))
  · exact .inr h
theorem st_tr {H H' : Hp} {p a : Addr} {xs : List V} (hp : H p = some (.dK u')) (k : ∀ b o, H b = some o → b ≠ p → H' b = some o) (h : SqT K H a xs) : SqT K H' a xs := by
  rcases h with h | h
  · exact .inl (rd_tr (u := .lst xs) hp k h (fun _ q => nomatch q))
  · exact .inr h
theorem ok_pick {f : Addr} {fd : FuncData} (F : Fun K "_law_pick" "_law_pick" sLPick f fd) (ml : mg "len" = none) (cd : Cal P w K mg base 1 "_law_draw" ["_law_pen_here", "_law_many"] (spDraw K)) :
    FnOk P w K mg base CX0 2 f fd ["_law_pen_here", "_law_some"] (spPick K) := by
  obtain ⟨fD, fdD, GD, gD, kD, bD⟩ := cd.ex
  refine F.ok scLPick (fun vs H Q E h => ?_) (fun cdv A outer s H vs Q E hr h => ?_)
  · obtain ⟨G, p, B, v, rfl, _⟩ := h
    rfl
  · obtain ⟨G, p, B, v, rfl, W, hB, h⟩ := h
    refine ⟨_, (pss_one (ps_ret (pe_ix ix_seq (pv 1) (pe_call GD hr rfl gD kD bD .nil pass0 (pa_cons (pv 0) (pa_cons (pe_callB call_len (by rfl) ml PySem.boot_len (pa_cons (pv 1) pa_nil)) pa_nil))) (fun _ _ => rfl)))), ?_⟩
    obtain ⟨c, sp, m, ns, hp, _⟩ := id W.pen
    rcases h with ⟨z, rfl, h0, h1, k⟩ | ⟨a, xs, rfl, hs, h0, h1, k⟩
    · refine ⟨_, rfl, _, rfl, _, rfl, _, z.length, rfl, ⟨sz_of (by omega), rfl⟩, G, p, _, B, rfl, by omega, by omega, W, by omega, fun G' H' v T W' ⟨i, e, i0, i1⟩ => ?_⟩
      subst e
      obtain ⟨j, hj⟩ : ∃ j : Nat, i = (j : Int) := ⟨_, (Int.toNat_of_nonneg i0).symm⟩
      have hjl : j < z.cps.toList.length := by
        have : z.length = z.cps.toList.length := by simp [Str.length]
        omega
      exact .inr (.inr ⟨z, i, z.cps.toList[j], rfl, rfl, sz_of (by omega), atOf hj (List.getElem?_eq_getElem hjl), k G' H' _ T W' ⟨_, List.getElem_mem hjl, rfl⟩⟩)
    · refine ⟨_, rfl, _, rfl, _, rfl, _, xs.length, rfl, (by rcases hs with h | h; exact .inl ⟨xs, h, rfl⟩; exact .inr ⟨xs, h, rfl⟩), G, p, _, B, rfl, by omega, by omega, W, by omega, fun G' H' v T W' ⟨i, e, i0, i1⟩ => ?_⟩
      subst e
      obtain ⟨j, hj⟩ : ∃ j : Nat, i = (j : Int) := ⟨_, (Int.toNat_of_nonneg i0).symm⟩
      have hjl : j < xs.length := by omega
      have ha : atI xs i = some xs[j] := atOf hj (List.getElem?_eq_getElem hjl)
      have q := k G' H' _ T W' (List.getElem_mem hjl)
      rcases hs with h | h
      · exact .inl ⟨a, xs, i, _, rfl, rfl, sl_tr hp T.k h, ha, q⟩
      · exact .inr (.inl ⟨a, xs, i, _, rfl, rfl, st_tr hp T.k h, ha, q⟩)
end
end K04

namespace K04
open PySem PySem.Spec PyProof.Rows L2 Evl LT
/-! ### the pen is made -/
abbrev sLPen : Stmt := top 24
abbrev NLPen : List Str := ["_law_script"]
theorem scLPen : FnScope NLPen ["_law_script"] (defScope sLPen) := ⟨rfl, rfl, rfl, by decide +kernel, rfl, by decide +kernel, by decide +kernel⟩
def spPen (K : PySem.W.Frag) : Sp := fun vs H Q _ => ∃ (a : Addr) (ns : List Int), vs = [.ref a] ∧ SqL K H a (ns.map V.int) ∧ ns.length ≤ 63 ∧ ∀ G' H' p, Ex H G' → Wd K G' H' p 0 → Q (.ref p) H'
theorem cut_all {xs : List V} {n : Nat} (h : xs.length ≤ n) : cutV xs none (some (n : Int)) = xs := by
  unfold cutV
  rw [HT.sIx_none, show HT.sIx xs.length xs.length (some (n : Int)) = min n xs.length from HT.sIx_nat xs.length xs.length n, Nat.min_eq_right h]
  show (xs.drop 0).take (xs.length - 0) = xs
  rw [List.drop_zero, Nat.sub_zero, List.take_length]
theorem put_new {kvs : List (Key × V)} {k : Key} {v : V} (h : ∀ p ∈ kvs, ¬ p.1 = k) : putK kvs k v = kvs ++ [(k, v)] := by
  unfold putK
  rw [if_neg]
  intro q
  obtain ⟨x, hx, e⟩ := List.any_eq_true.mp q
  exact h x hx (of_decide_eq_true e)
theorem merge_pen (c : Addr) : mergeK [] (penK c 0 0) = penK c 0 0 := by
  unfold mergeK penK
  have e1 : putK ([] : List (Key × V)) (.inr "cells") (.ref c) = [(.inr "cells", .ref c)] := put_new (by simp)
  have e2 : putK [((.inr "cells", .ref c) : Key × V)] (.inr "spot") (.int 0) = [(.inr "cells", .ref c), (.inr "spot", .int 0)] := put_new (by
    intro p hp
    rw [List.mem_singleton] at hp
    rw [hp]
    exact n_cs)
  have e3 : putK [((.inr "cells", .ref c) : Key × V), (.inr "spot", .int 0)] (.inr "more") (.int 0) = [(.inr "cells", .ref c), (.inr "spot", .int 0), (.inr "more", .int 0)] := put_new (by
    intro p hp
    rcases List.mem_cons.mp hp with rfl | hp
    · exact n_cm
    · rw [List.mem_singleton] at hp
      rw [hp]
      exact n_sm)
  show putK (putK (putK ([] : List (Key × V)) (.inr "cells") (.ref c)) (.inr "spot") (.int 0)) (.inr "more") (.int 0) = _
  rw [e1, e2, e3]
section
variable {P : Program} {w : World} {K : PySem.W.Frag} {mg : Str → Option Value} {base : Heap}
theorem ok_pen {f : Addr} {fd : FuncData} (F : Fun K "_law_pen" "_law_pen" sLPen f fd) (ml : mg "list" = none) : FnOk P w K mg base CX0 1 f fd ["_law_script"] (spPen K) := by
  refine F.ok scLPen (fun vs H Q E h => ?_) (fun cdv A outer s H vs Q E hr h => ?_)
  · obtain ⟨a, ns, rfl, _⟩ := h
    rfl
  · obtain ⟨a, ns, rfl, hs, hl, k⟩ := h
    refine ⟨_, (pss_one (ps_ret (pe_disp (pps_cons pe_str (pe_callTy call_list_of (by rfl) ml (by decide +kernel) (pa_cons (pe_slice sl_list (pv 0) po_none (po_some pe_int)) pa_nil)) (pps_cons pe_str pe_int (pps_cons pe_str pe_int pps_nil))) rfl rfl (by decide) (by decide)))), ?_⟩
    intro p hp
    have x1 : Ex H (upd H p (.dK [])) := Ex.new hp
    refine ⟨_, rfl, 63, rfl, a, _, rfl, ex_l x1 hs, fun q hq => ?_⟩
    have x2 := x1.trans (Ex.new (o := .lst (cutV (ns.map V.int) none (some 63))) hq)
    have hpq : p ≠ q := fun e => by rw [← e, upd_same] at hq; cases hq
    refine ⟨q, _, rfl, .inl (.inl (.inl upd_same)), fun c hc => ?_⟩
    have hcp : p ≠ c := fun e => by rw [← e, upd_ne hpq, upd_same] at hc; cases hc
    have hcut : cutV (ns.map V.int) none (some 63) = ns.map V.int := cut_all (n := 63) (by rw [List.length_map]; exact hl)
    rw [hcut]
    have hHc : H c = none := by
      have := hc
      rw [upd_ne (fun e => by rw [e, upd_same] at hc; cases hc), upd_ne hcp.symm] at this
      exact this
    refine ⟨by rw [upd_ne hcp, upd_ne hpq, upd_same], penK c 0 0, rfl, by show 3 ≤ 15; decide, ?_⟩
    rw [merge_pen]
    refine k (upd H c (.lst (ns.map V.int))) _ p (Ex.new hHc) ⟨fun b o e => ?_, ?_, c, 0, 0, ns, upd_same, .inl (.inl upd_same), hl, Int.le_refl _, Int.le_refl _, Int.le_refl _⟩
    · by_cases z : b = c
      · subst z
        rw [upd_same] at e
        rw [upd_ne hcp.symm, upd_same]
        exact e
      · rw [upd_ne z] at e
        have nb : b ≠ p := ne_of_none e hp
        rw [upd_ne nb, upd_ne z, upd_ne (ne_of_none e (by rw [upd_ne hpq.symm] at hq; exact hq)), upd_ne nb]
        exact e
    · rw [upd_ne hcp]
      exact hp
end
end K04

namespace K04
open PySem PySem.Spec PyProof.Rows L2 Evl LT
/-! ### names -/
abbrev sLNames : Stmt := top 28
abbrev NLNames : List Str := ["_law_pen_here", "_law_many", "_law_letters", "_law_k", "_law_stem", "_law_at", "_law_begin_here", "_law_trim", "_law_step", "_law_found", "_law_tail"]
theorem scLNames : FnScope NLNames ["_law_pen_here", "_law_many"] (defScope sLNames) := ⟨rfl, rfl, rfl, by decide +kernel, rfl, by decide +kernel, by decide +kernel⟩
def steps12 : List Int := [1, 3, 5, 7, 9, 11, 15, 17, 19, 21, 23, 25]
theorem step_inj : ∀ s ∈ steps12, ∀ i ∈ List.range 26, ∀ j ∈ List.range 26, (s * (i : Int)) % 26 = (s * (j : Int)) % 26 → i = j := by decide +kernel
/-- the j-th name's signs -/
structure NameAt (S : List Nat) (a : Nat) (b s : Int) (j : Nat) (z : Str) : Prop where
  ex : ∃ t : List Nat, z.cps.toList = S.take a ++ (97 + ((b + s * (j : Int)) % 26).toNat) :: t ∧ t.length + a < 8 ∧ ∀ c ∈ t, Az c
theorem NameAt.ok {S : List Nat} {a j : Nat} {b s : Int} {z : Str} (h : NameAt S a b s j z) (hS : ∀ c ∈ S, Az c) (ha : a < S.length) : NameOk z := by
  obtain ⟨t, e, hl, ht⟩ := h.ex
  have hm : 0 ≤ (b + s * (j : Int)) % 26 ∧ (b + s * (j : Int)) % 26 < 26 := ⟨mod_lo (by decide), mod_hi (by decide)⟩
  have hz : z.length = a + 1 + t.length := by
    rw [len_tl, e, List.length_append, List.length_take, List.length_cons]
    omega
  refine ⟨by omega, by omega, fun c hc => ?_⟩
  rw [e] at hc
  rcases List.mem_append.mp hc with h | h
  · exact hS c (List.mem_of_mem_take h)
  · rcases List.mem_cons.mp h with rfl | h
    · unfold Az; omega
    · exact ht c h
theorem NameAt.ne {S : List Nat} {a i j : Nat} {b s : Int} {y z : Str} (hi : NameAt S a b s i y) (hj : NameAt S a b s j z) (ha : a < S.length) (hs : s ∈ steps12) (i26 : i < 26) (j26 : j < 26) (e : y = z) : i = j := by
  obtain ⟨t, e1, _, _⟩ := hi.ex
  obtain ⟨u, e2, _, _⟩ := hj.ex
  rw [e, e2] at e1
  have h := List.append_cancel_left e1
  have h1 := (List.cons.inj h).1
  have a1 : 0 ≤ (b + s * (i : Int)) % 26 := mod_lo (by decide)
  have a2 : 0 ≤ (b + s * (j : Int)) % 26 := mod_lo (by decide)
  have h2 : (b + s * (i : Int)) % 26 = (b + s * (j : Int)) % 26 := by omega
  refine step_inj s hs i (List.mem_range.mpr i26) j (List.mem_range.mpr j26) ?_
  generalize s * (i : Int) = x at h2 ⊢
  generalize s * (j : Int) = y at h2 ⊢
  omega
def NamesP (n : Nat) (xs : List V) : Prop := ∃ zs : List Str, xs = zs.map V.str ∧ zs.length = n ∧ zs.Nodup ∧ ∀ z ∈ zs, NameOk z
def spNames (K : PySem.W.Frag) : Sp := fun vs H Q _ => ∃ (G : Hp) (p : Addr) (n : Nat) (B : Nat), vs = [.ref p, .int (n : Int)] ∧ n ≤ 26 ∧ Wd K G H p B ∧ B < 900000000 ∧ RetN K G H p B 13 (fun _ xs => NamesP n xs) Q
section
variable {P : Program} {w : World} {K : PySem.W.Frag} {mg : Str → Option Value} {base : Heap}
theorem ok_names {f : Addr} {fd : FuncData} (F : Fun K "_law_names" "_law_names" sLNames f fd) (ml : mg "len" = none) (mr : mg "range" = none) (cd : Cal P w K mg base 1 "_law_draw" ["_law_pen_here", "_law_many"] (spDraw K))
    (cp : Cal P w K mg base 2 "_law_pick" ["_law_pen_here", "_law_some"] (spPick K)) : FnOk P w K mg base CX0 3 f fd ["_law_pen_here", "_law_many"] (spNames K) := by
  obtain ⟨fD, fdD, GD, gD, kD, bD⟩ := cd.ex
  obtain ⟨fP, fdP, GP, gP, kP, bP⟩ := cp.ex
  refine F.ok scLNames (fun vs H Q E h => ?_) (fun cdv A outer s H vs Q E hr h => ?_)
  · obtain ⟨G, p, n, B, rfl, _⟩ := h
    rfl
  · obtain ⟨G, p, n, B, rfl, hn, W, hB, k⟩ := h
    have hr1 : Room 1 _ := hr.mono (by decide)
    refine ⟨_, (pss_cons (ps_set (i := 2) scLNames.nd rfl (.inr rfl) pe_str)
      (pss_cons (ps_set (i := 4) scLNames.nd rfl (.inl rfl) (pe_join pe_str (pe_lc (own := [("_law_k", 3)]) (g := (gName 3)) (tt := tYes) rfl scLNames.nd (pi_range1 rfl mr (pa_cons (pe_op op_add pe_int (pe_call GD hr1 rfl gD kD bD .nil pass0 (pa_cons (pv 0) (pa_cons pe_int pa_nil)))) pa_nil)) (blkOk_by (N := NLNames) (sc := defScope sLNames) (by decide +kernel)) (fun _ _ _ _ _ => (pg_name (i := 3) scLNames.nd rfl (.inl rfl))) (fun _ _ _ _ _ => pts_nil) (fun _ _ _ _ _ => (pe_call GP hr rfl gP kP bP .nil pass0 (pa_cons (pv 0) (pa_cons (pv 2) pa_nil)))))))
      (pss_cons (ps_par3 (i := 5) (j := 6) (l := 7) rfl scLNames.nd rfl rfl rfl (by decide) (by decide) (by decide) rfl rfl rfl (pa_cons (pe_call GD hr1 rfl gD kD bD .nil pass0 (pa_cons (pv 0) (pa_cons (pe_callB call_len_str (by rfl) ml PySem.boot_len (pa_cons (pv 4) pa_nil)) pa_nil))) (pa_cons (pe_call GD hr1 rfl gD kD bD .nil pass0 (pa_cons (pv 0) (pa_cons pe_int pa_nil))) (pa_cons (pe_call GD hr1 rfl gD kD bD .nil pass0 (pa_cons (pv 0) (pa_cons pe_int pa_nil))) pa_nil))) (by rfl))
      (pss_cons (ps_par (i := 8) (j := 9) rfl scLNames.nd rfl rfl (by decide) rfl rfl (pa_cons (pe_call GP hr rfl gP kP bP .nil pass0 (pa_cons (pv 0) (pa_cons (pe_lst (pa_cons pe_int (pa_cons pe_int (pa_cons pe_int (pa_cons pe_int (pa_cons pe_int (pa_cons pe_int (pa_cons pe_int (pa_cons pe_int (pa_cons pe_int (pa_cons pe_int (pa_cons pe_int (pa_cons pe_int pa_nil))))))))))))) pa_nil))) (pa_cons (pe_lst pa_nil) pa_nil)) (by rfl))
      (pss_cons (ps_for PassesOwn.never rfl (pi_range1 rfl mr (pa_cons (pv 1) pa_nil)) (pg_name (i := 3) scLNames.nd rfl (.inl rfl)) (Evl.pss_cut (ps_set (i := 10) scLNames.nd rfl (.inl rfl) (pe_ifExp (pt_cmpR op_eq (pv 7) pe_int (nomark _)) (pe_slice sl_str (pv 4) (po_some (pe_op op_add (pv 5) pe_int)) po_none) (pe_slice sl_str (pe_slice sl_str (pv 4) (po_some (pe_op op_add (pv 5) pe_int)) po_none) po_none (po_some (pe_op op_mod (pv 3) pe_int)))))
      (pss_one (ps_expr (pe_bm PySem.F.plainAttrs_list PySem.F.slot_list_append PySem.F.type_list_append mt_append (pv 9) (pa_cons (pe_op op_add_str (pe_op op_add_str (pe_slice sl_str (pv 4) po_none (po_some (pv 5))) (pe_ix ix_str (pv 2) (pe_op op_mod (pe_op op_add (pv 6) (pe_op op_mul (pv 8) (pv 3))) pe_int) (fun _ _ => rfl))) (pv 10)) pa_nil))))))
      (pss_one (ps_ret (pv 9)))))))), ?_⟩
    -- the range: 1 + draw(pen, 8)
    refine ⟨⟨_, rfl⟩, _, rfl, G, p, 8, B, rfl, by decide, by decide, W, by omega, fun G1 H1 v T1 W1 ⟨d, e, d0, d8⟩ => ?_⟩
    subst e
    refine ⟨_, _, rfl, rfl, _, rfl, by omega, by omega, fun D hD => ?_⟩
    obtain ⟨nn, hnn⟩ : ∃ nn : Nat, (1 + d).toNat = nn ∧ (nn : Int) = 1 + d := ⟨_, rfl, Int.toNat_of_nonneg (by omega)⟩
    rw [hnn.1]
    have hDp : D ≠ p := (ne_of_none W1.pen.choose_spec.choose_spec.choose_spec.choose_spec.1 hD).symm
    refine lc_range (lo := 0) (n := nn) (fun i Hc => ∃ (G' : Hp) (zs : List Str), Tr G H G' Hc p ∧ Wd K G' Hc p (B + 1 + i) ∧ G' D = none ∧ Hc D = some (.lst (zs.map V.str)) ∧ zs.length = i ∧ ∀ z ∈ zs, z.length = 1 ∧ ∀ c ∈ z.cps.toList, Az c)
      ⟨G1, [], T1.new hD, W1.new hD, fresh_back W1.ex hD, upd_same, rfl, by simp⟩ ?_ ?_
    · rintro i Hc hi ⟨G', zs, T, Wc, gD', hDc, hz, hzs⟩
      refine ⟨rfl, _, rfl, _, rfl, G', p, B + 1 + i, _, rfl, Wc, by omega, .inl ⟨abc, rfl, by decide +kernel, by decide +kernel, fun G2 H2 v T2 W2 ⟨c, hc, e⟩ => ?_⟩⟩
      subst e
      have hD2 : H2 D = some (.lst (zs.map V.str)) := T2.k _ _ hDc hDp
      have gD2 : G2 D = none := T2.nw D (by rw [hDc]; exact fun q => nomatch q) gD'
      refine ⟨_, hD2, sz_lt (by rw [List.length_map]; omega), G2, zs ++ [⟨#[c]⟩], (T.trans T2).mut (T1.old hD), W2.mut gD2 hDp, gD2, by rw [upd_same, List.map_append]; rfl, by rw [List.length_append, hz]; rfl, fun z hz' => ?_⟩
      rcases List.mem_append.mp hz' with h | h
      · exact hzs z h
      · rw [List.mem_singleton.mp h]
        refine ⟨rfl, fun c' hc' => ?_⟩
        rw [List.mem_singleton.mp (show c' ∈ [c] from hc')]
        exact abc_mem.mp hc
    · rintro Hc ⟨G', zs, T, Wc, gD', hDc, hz, hzs⟩
      have hsum : (zs.map (·.length)).sum = nn := by
        have : zs.map (·.length) = List.replicate nn 1 := by
          refine List.eq_replicate_iff.mpr ⟨by rw [List.length_map]; exact hz, fun b hb => ?_⟩
          obtain ⟨z, hz1, rfl⟩ := List.mem_map.mp hb
          exact (hzs z hz1).1
        rw [this, List.sum_replicate_nat, Nat.mul_one]
      refine ⟨_, D, zs, rfl, rfl, .inl (.inl (.inl hDc)), (by rw [hsum, show (("" : Str)).length = 0 by decide +kernel]; omega), ?_⟩
      have htl := tl_join zs
      generalize Txt.join "" zs = stem at htl ⊢
      have hS : ∀ c ∈ stem.cps.toList, Az c := by
        rw [htl]
        intro c hc
        obtain ⟨l, hl, hcl⟩ := List.mem_flatten.mp hc
        obtain ⟨z, hz1, rfl⟩ := List.mem_map.mp hl
        exact (hzs z hz1).2 c hcl
      have hL : stem.cps.toList.length = nn := by
        rw [htl, List.length_flatten, List.map_map]
        rw [← hsum]
        congr 1
      have hn1 : 1 ≤ nn ∧ nn ≤ 8 := by omega
      have hlen : (stem.length : Int) = (nn : Int) := by rw [len_tl, hL]
      clear hsum htl hzs hz hDc
      -- at, begin, trim
      refine ⟨_, rfl, _, rfl, stem, rfl, sz_of (by omega), G', p, _, B + 1 + nn, rfl, by omega, by omega, Wc, by omega, fun G2 H2 v2 T2 W2 ⟨a', ea, a0, a1⟩ => ?_⟩
      subst ea
      refine ⟨_, rfl, G2, p, 26, _, rfl, by decide, by decide, W2, by omega, fun G3 H3 v3 T3 W3 ⟨b, eb, b0, b1⟩ => ?_⟩
      subst eb
      refine ⟨_, rfl, G3, p, 2, _, rfl, by decide, by decide, W3, by omega, fun G4 H4 v4 T4 W4 ⟨tr, et, t0, t1⟩ => ?_⟩
      subst et
      obtain ⟨a, rfl⟩ : ∃ a : Nat, a' = (a : Int) := ⟨_, (Int.toNat_of_nonneg a0).symm⟩
      have haS : a < stem.cps.toList.length := by omega
      have TT := ((T.trans T2).trans T3).trans T4
      clear T T2 T3 Wc W2 W3
      refine ⟨_, _, _, rfl, ?_⟩
      -- step, found
      refine ⟨_, rfl, (by show 12 ≤ sizeLine; decide), fun L hL4 => ?_⟩
      refine ⟨G4, p, _, .ref L, rfl, W4.new hL4, by omega, .inr ⟨L, steps12.map V.int, rfl, .inl (.inl (.inl upd_same)), by decide, by decide, fun G5 H5 v5 T5 W5 hv => ?_⟩⟩
      obtain ⟨st, hst, rfl⟩ := List.mem_map.mp hv
      refine ⟨Nat.zero_le _, fun Fd hF => ⟨_, _, rfl, ?_⟩⟩
      have T6 := ((TT.new hL4).trans T5).new (o := .lst []) hF
      have hF0 : H Fd = none := ((TT.new hL4).trans T5).old hF
      have W6 : Wd K G5 (upd H5 Fd (.lst [])) p (B + 13) := (W5.new hF).mono (by omega)
      have gF : G5 Fd = none := fresh_back W5.ex hF
      have hFp : Fd ≠ p := (ne_of_none W5.pen.choose_spec.choose_spec.choose_spec.choose_spec.1 hF).symm
      have hst1 : 1 ≤ st ∧ st ≤ 25 := by
        revert hst
        unfold steps12
        simp only [List.mem_cons, List.not_mem_nil, or_false]
        omega
      refine ⟨_, rfl, n, rfl, by omega, by omega, for_range (lo := 0) (n := n) (fun i σ Hc => ∃ (ko to : Option V) (zs : List Str), σ = [some (.ref p), some (.int n), some (.str abc), ko, some (.str stem), some (.int a), some (.int b), some (.int tr), some (.int st), some (.ref Fd), to] ∧
          Hc = upd H5 Fd (.lst (zs.map V.str)) ∧ zs.length = i ∧ ∀ j z, zs[j]? = some z → NameAt stem.cps.toList a b st j z)
        ⟨none, none, [], rfl, rfl, rfl, by simp⟩ ?_ ?_⟩
      · rintro i σ Hc hi ⟨ko, to, zs, rfl, rfl, hz, hzs⟩
        have hsl : stem.length ≤ sizeLine := sz_of (by omega)
        have c1 := cut_from stem (a + 1)
        refine ⟨fun σ' H' => ∃ t : Str, σ' = [some (.ref p), some (.int n), some (.str abc), some (.int (0 + (i : Int))), some (.str stem), some (.int a), some (.int b), some (.int tr), some (.int st), some (.ref Fd), some (.str t)] ∧
          H' = upd H5 Fd (.lst (zs.map V.str)) ∧ t.length + a < 8 ∧ ∀ c ∈ t.cps.toList, Az c, ?_, ?_⟩
        · refine ⟨_, rfl, rfl, _, rfl, ite2 (fun _ => ?_) (fun _ => ?_)⟩
          · refine ⟨_, rfl, _, rfl, _, _, rfl, rfl, _, rfl, stem, rfl, hsl, _, rfl, rfl, ?_, fun c hc => ?_⟩
            · show (cutS stem (some ((a + 1 : Nat) : Int)) none).length + a < 8
              rw [len_tl, c1, List.length_drop]
              omega
            · have hc : c ∈ (cutS stem (some ((a + 1 : Nat) : Int)) none).cps.toList := hc
              rw [c1] at hc
              exact hS c (List.mem_of_mem_drop hc)
          · obtain ⟨m, hm⟩ : ∃ m : Nat, (0 + (i : Int)) % 3 = (m : Int) := ⟨_, (Int.toNat_of_nonneg (mod_lo (by decide))).symm⟩
            have c2 := cut_to (cutS stem (some ((a + 1 : Nat) : Int)) none) m
            rw [c1] at c2
            refine ⟨_, rfl, _, rfl, _, _, rfl, rfl, _, rfl, stem, rfl, hsl, _, rfl, _, _, rfl, rfl, (by show (0 : Int) < _; decide), _, rfl, _, rfl, sz_of ?_, _, rfl, rfl, ?_, fun c hc => ?_⟩
            · show (cutS stem (some ((a + 1 : Nat) : Int)) none).length ≤ 100000
              rw [len_tl, c1, List.length_drop]
              omega
            · show (cutS (cutS stem (some ((a + 1 : Nat) : Int)) none) none (some ((0 + (i : Int)) % 3))).length + a < 8
              rw [hm, len_tl, c2, List.length_take, List.length_drop]
              omega
            · have hc : c ∈ (cutS (cutS stem (some ((a + 1 : Nat) : Int)) none) none (some ((0 + (i : Int)) % 3))).cps.toList := hc
              rw [hm, c2] at hc
              exact hS c (List.mem_of_mem_drop (List.mem_of_mem_take hc))
        · rintro _ _ ⟨t, rfl, rfl, htl, htz⟩
          have hm : 0 ≤ (b + st * (0 + (i : Int))) % 26 ∧ (b + st * (0 + (i : Int))) % 26 < 26 := ⟨mod_lo (by decide), mod_hi (by decide)⟩
          obtain ⟨j, hj⟩ : ∃ j : Nat, (b + st * (0 + (i : Int))) % 26 = (j : Int) := ⟨_, (Int.toNat_of_nonneg hm.1).symm⟩
          have c2 := cut_to stem a
          have l2 : (cutS stem none (some (a : Int))).length ≤ 8 := by
            rw [len_tl, c2, List.length_take]
            omega
          refine ⟨_, rfl, .inl ⟨rfl, _, .inl (.inl upd_same)⟩, _, rfl, _, rfl, _, rfl, stem, rfl, hsl, _, rfl, _, rfl, _, rfl, _, rfl, _, _, rfl, rfl, .inl ⟨by omega, by omega⟩, _, _, rfl, rfl, _, _, rfl, rfl, (by show (0 : Int) < _; decide), ?_⟩
          refine ⟨abc, _, 97 + j, rfl, rfl, (by rw [abc_len]; decide), atOf hj (abc_at (by omega)), ?_⟩
          refine ⟨_, _, rfl, rfl, sz_of (by have := l2; show _ + 1 ≤ _; omega), _, rfl, _, _, rfl, rfl, sz_of ?_, ?_⟩
          · rw [len_tl, tl_app, List.length_append, ← len_tl, ← len_tl]
            have := l2
            show _ + 1 + _ ≤ _
            omega
          refine ⟨Fd, _, _, rfl, rfl, upd_same, sz_lt (by rw [List.length_map]; omega), ?_⟩
          refine ⟨_, _, zs ++ [cutS stem none (some (a : Int)) ++ ⟨#[97 + j]⟩ ++ t], rfl, by rw [upd_upd, List.map_append]; rfl, by rw [List.length_append, hz]; rfl, fun j' z hz' => ?_⟩
          by_cases hlt : j' < zs.length
          · rw [List.getElem?_append_left hlt] at hz'
            exact hzs j' z hz'
          · rw [List.getElem?_append_right (by omega)] at hz'
            have e0 : j' = i := by
              have := (List.getElem?_eq_some_iff.mp hz').1
              simp only [List.length_singleton] at this
              omega
            subst e0
            rw [hz, Nat.sub_self] at hz'
            have e1 := Option.some.inj hz'
            subst e1
            refine ⟨t.cps.toList, ?_, by rw [← len_tl]; omega, htz⟩
            have e2 : ((b + st * (j' : Int)) % 26).toNat = j := by
              rw [Int.zero_add] at hj
              rw [hj]
              rfl
            rw [tl_app, tl_app, c2, e2]
            show (stem.cps.toList.take a ++ [97 + j]) ++ t.cps.toList = _
            rw [List.append_assoc]
            rfl
      · rintro σ Hc ⟨ko, to, zs, rfl, rfl, hz, hzs⟩
        refine ⟨_, rfl, k G5 _ Fd _ ((TT.new hL4).trans T5 |>.new hF) ((W5.new hF).mono (by omega)) hF0 gF upd_same ⟨zs, rfl, hz, ?_, ?_⟩⟩
        · refine List.pairwise_iff_getElem.mpr fun x y hx hy hxy e => ?_
          have := NameAt.ne (hzs x _ (List.getElem?_eq_getElem hx)) (hzs y _ (List.getElem?_eq_getElem hy)) haS hst (by omega) (by omega) e
          omega
        · intro z hz'
          obtain ⟨j, hj, rfl⟩ := List.getElem_of_mem hz'
          exact (hzs j _ (List.getElem?_eq_getElem hj)).ok hS haS
end
end K04

namespace K04
open PySem PySem.Spec PyProof.Rows L2 Evl LT
/-! ### odd values -/
abbrev sLOdd : Stmt := top 34
abbrev NLOdd : List Str := ["_law_pen_here", "_law_some"]
theorem scLOdd : FnScope NLOdd ["_law_pen_here"] (defScope sLOdd) := ⟨rfl, rfl, rfl, by decide +kernel, rfl, by decide +kernel, by decide +kernel⟩
def odd1 : List D := [.non, .bl true, .bl false, .int 0, .int 1, .int (-1), .int 2, .int (10 ^ (60 : Int).toNat), .str "", .str "a", .str "Ab", .str "a b", .str "abcdefgh", .str "abcdefghi", .str "a1", .tup [], .tup [.str "a"]]
def odd2 : List D := [.lst [], .lst [.str "a"], .dct [], .dct [(.inr "a", .int 1)], .tup [.tup []], .tup [.int 0], .lst [.int 0], .tup [.non], .lst [.lst []], .tup [.str "a", .str "a"]]
def oddL : List D := odd1 ++ odd2
def spOdd (K : PySem.W.Frag) : Sp := fun vs H Q _ => ∃ (G : Hp) (p : Addr) (B : Nat), vs = [.ref p] ∧ Wd K G H p B ∧ B < 900000000 ∧ RetW K G H p B 1 (fun G' v => ∃ d ∈ oddL, Den K G' v d) Q
section
variable {P : Program} {w : World} {K : PySem.W.Frag} {mg : Str → Option Value} {base : Heap}
theorem ok_odd {f : Addr} {fd : FuncData} (F : Fun K "_law_odd" "_law_odd" sLOdd f fd) (cp : Cal P w K mg base 2 "_law_pick" ["_law_pen_here", "_law_some"] (spPick K)) : FnOk P w K mg base CX0 3 f fd ["_law_pen_here"] (spOdd K) := by
  obtain ⟨fP, fdP, GP, gP, kP, bP⟩ := cp.ex
  refine F.ok scLOdd (fun vs H Q E h => ?_) (fun cdv A outer s H vs Q E hr h => ?_)
  · obtain ⟨G, p, B, rfl, _⟩ := h
    rfl
  · obtain ⟨G, p, B, rfl, W, hB, k⟩ := h
    refine ⟨_, (pss_cons (ps_set (i := 1) scLOdd.nd rfl (.inl rfl) (pe_lst (pa_cons pe_non (pa_cons pe_bl (pa_cons pe_bl (pa_cons pe_int (pa_cons pe_int (pa_cons (pe_un un_neg pe_int) (pa_cons pe_int (pa_cons (pe_op op_pow pe_int pe_int) (pa_cons pe_str (pa_cons pe_str (pa_cons pe_str (pa_cons pe_str (pa_cons pe_str (pa_cons pe_str (pa_cons pe_str (pa_cons (pe_tup pa_nil) (pa_cons (pe_tup (pa_cons pe_str pa_nil)) pa_nil)))))))))))))))))))
      (pss_one (ps_ret (pe_call GP hr rfl gP kP bP .nil pass0 (pa_cons (pv 0) (pa_cons (pe_op op_cat (pv 1) (pe_lst (pa_cons (pe_lst pa_nil) (pa_cons (pe_lst (pa_cons pe_str pa_nil)) (pa_cons pe_dnewK (pa_cons (pe_disp (pps_cons pe_str pe_int pps_nil) rfl rfl (by decide) (by decide)) (pa_cons (pe_tup (pa_cons (pe_tup pa_nil) pa_nil)) (pa_cons (pe_tup (pa_cons pe_int pa_nil)) (pa_cons (pe_lst (pa_cons pe_int pa_nil)) (pa_cons (pe_tup (pa_cons pe_non pa_nil)) (pa_cons (pe_lst (pa_cons (pe_lst pa_nil) pa_nil)) (pa_cons (pe_tup (pa_cons pe_str (pa_cons pe_str pa_nil))) pa_nil)))))))))))) pa_nil)))))), ?_⟩
    refine in_set ?_
    refine evn_lst (ds := odd1) (evda_cons evd_non (evda_cons evd_bl (evda_cons evd_bl (evda_cons evd_int (evda_cons evd_int (evda_cons evd_neg (evda_cons evd_int (evda_cons (evd_pow ⟨by decide, by decide, by decide⟩) (evda_cons evd_str (evda_cons evd_str (evda_cons evd_str (evda_cons evd_str (evda_cons evd_str (evda_cons evd_str (evda_cons evd_str (evda_cons (evd_tup evda_nil (by decide)) (evda_cons (evd_tup (evda_cons evd_str evda_nil) (by decide)) evda_nil))))))))))))))))) (by decide) G H B (Ex.refl G) W _ fun G1 H1 a vs T1 W1 ha dl => ?_
    refine ⟨_, rfl, _, rfl, ?_⟩
    show tLst _ _ _ _
    refine evn_lst (ds := odd2) (evda_cons (evd_lst evda_nil (by decide)) (evda_cons (evd_lst (evda_cons evd_str evda_nil) (by decide)) (evda_cons evd_dnew (evda_cons evd_disp1 (evda_cons (evd_tup (evda_cons (evd_tup evda_nil (by decide)) evda_nil) (by decide)) (evda_cons (evd_tup (evda_cons evd_int evda_nil) (by decide)) (evda_cons (evd_lst (evda_cons evd_int evda_nil) (by decide)) (evda_cons (evd_tup (evda_cons evd_non evda_nil) (by decide)) (evda_cons (evd_lst (evda_cons (evd_lst evda_nil (by decide)) evda_nil) (by decide)) (evda_cons (evd_tup (evda_cons evd_str (evda_cons evd_str evda_nil)) (by decide)) evda_nil)))))))))) (by decide) G1 H1 B (Ex.refl G1) W1 _ fun G2 H2 b ws T2 W2 hb dm => ?_
    have h17 : vs.length = 17 := dl.length
    have h10 : ws.length = 10 := dm.length
    refine ⟨a, b, vs, ws, rfl, rfl, W2.ex _ _ (T2.g _ _ ha), W2.ex _ _ hb, sz_of (by omega), fun c hc => ?_⟩
    refine ⟨upd G2 c (.lst (vs ++ ws)), p, B, .ref c, rfl, W2.grow hc, by omega, .inr ⟨c, vs ++ ws, rfl, .inl (.inl (.inl upd_same)), by rw [List.length_append]; omega, by rw [List.length_append]; omega, fun G3 H3 v T3 W3 hv => ?_⟩⟩
    obtain ⟨d, h1, h2⟩ := ((dl.mono T2.g).append dm).mem hv
    exact k G3 H3 v (((T1.trans T2).grow W2.ex hc).trans T3) W3 ⟨d, h1, h2.mono ((Ex.new (fresh_back W2.ex hc)).trans T3.g)⟩
end
end K04

namespace K04
open PySem PySem.Spec PyProof.Rows L2 Evl LT
/-! ### shuffled -/
abbrev sLShuffled : Stmt := top 27
abbrev NLShuffled : List Str := ["_law_pen_here", "_law_some", "_law_rest", "_law_found"]
theorem scLShuffled : FnScope NLShuffled ["_law_pen_here", "_law_some"] (defScope sLShuffled) := ⟨rfl, rfl, rfl, by decide +kernel, rfl, by decide +kernel, by decide +kernel⟩
def spShuffled (K : PySem.W.Frag) : Sp := fun vs H Q _ => ∃ (G : Hp) (p a : Addr) (zs : List Str) (B : Nat), vs = [.ref p, .ref a] ∧ (SqL K H a (zs.map V.str) ∨ SqT K H a (zs.map V.str)) ∧ zs.length ≤ 100 ∧ (∀ z ∈ zs, PyData.strOk z = true) ∧ Wd K G H p B ∧ B < 900000000 ∧
  RetN K G H p B zs.length (fun _ xs => ∃ ys : List Str, xs = ys.map V.str ∧ ys.Perm zs) Q
section
variable {P : Program} {w : World} {K : PySem.W.Frag} {mg : Str → Option Value} {base : Heap}
theorem ok_shuffled {f : Addr} {fd : FuncData} (F : Fun K "_law_shuffled" "_law_shuffled" sLShuffled f fd) (ml : mg "len" = none) (mli : mg "list" = none) (cd : Cal P w K mg base 1 "_law_draw" ["_law_pen_here", "_law_many"] (spDraw K)) :
    FnOk P w K mg base CX0 2 f fd ["_law_pen_here", "_law_some"] (spShuffled K) := by
  obtain ⟨fD, fdD, GD, gD, kD, bD⟩ := cd.ex
  refine F.ok scLShuffled (fun vs H Q E h => ?_) (fun cdv A outer s H vs Q E hr h => ?_)
  · obtain ⟨G, p, a, zs, B, rfl, _⟩ := h
    rfl
  · obtain ⟨G, p, a, zs, B, rfl, hs, hl, hok, W, hB, k⟩ := h
    refine ⟨_, (pss_cons (ps_par (i := 2) (j := 3) rfl scLShuffled.nd rfl rfl (by decide) rfl rfl (pa_cons (pe_callTy call_list_of (by rfl) mli (by decide +kernel) (pa_cons (pv 1) pa_nil)) (pa_cons (pe_lst pa_nil) pa_nil)) (by rfl))
      (pss_cons (ps_while PassesOwn.never (pt_cmpR (op_neD hr.units) (pv 2) (pe_lst pa_nil) (nomark _)) (pss_one (ps_expr (pe_bm PySem.F.plainAttrs_list PySem.F.slot_list_append PySem.F.type_list_append mt_append (pv 3) (pa_cons (pe_bm PySem.F.plainAttrs_list PySem.F.slot_list_pop PySem.F.type_list_pop mt_popAt (pv 2) (pa_cons (pe_call GD hr rfl gD kD bD .nil pass0 (pa_cons (pv 0) (pa_cons (pe_callB call_len_seq (by rfl) ml PySem.boot_len (pa_cons (pv 2) pa_nil)) pa_nil))) pa_nil)) pa_nil)))))
      (pss_one (ps_ret (pv 3))))), ?_⟩
    refine ⟨_, rfl, a, _, rfl, hs, fun R hR => ?_⟩
    refine ⟨Nat.zero_le _, fun Fd hF => ⟨_, _, rfl, ?_⟩⟩
    have hF0 : H Fd = none := by rw [upd_ne (fun e => by rw [e, upd_same] at hF; cases hF)] at hF; exact hF
    have nRF : R ≠ Fd := ne_of_none upd_same hF
    have hRp : R ≠ p := (ne_of_none W.pen.choose_spec.choose_spec.choose_spec.choose_spec.1 hR).symm
    have hFp : Fd ≠ p := (ne_of_none W.pen.choose_spec.choose_spec.choose_spec.choose_spec.1 hF0).symm
    refine ⟨fun m σ Hc => ∃ (G' : Hp) (rs fs : List Str), σ = [some (.ref p), some (.ref a), some (.ref R), some (.ref Fd)] ∧ Tr G H G' Hc p ∧ Wd K G' Hc p (B + fs.length) ∧ G' R = none ∧ G' Fd = none ∧
      Hc R = some (.lst (rs.map V.str)) ∧ Hc Fd = some (.lst (fs.map V.str)) ∧ (fs ++ rs).Perm zs ∧ m = rs.length,
      ⟨zs.length, G, zs, [], rfl, ((Tr.refl G H p).new hR).new hF, (W.new hR).new hF, fresh_back W.ex hR, fresh_back W.ex hF0, by rw [upd_ne nRF, upd_same], upd_same, List.Perm.refl _, rfl⟩, ?_⟩
    rintro m σ Hc ⟨G', rs, fs, rfl, T, Wc, gR, gF, hcR, hcF, hperm, rfl⟩
    have hlen : fs.length + rs.length = zs.length := by rw [← List.length_append]; exact hperm.length_eq
    refine ⟨_, rfl, Nat.zero_le _, fun q hq => ?_⟩
    have xq : Ex Hc (upd Hc q (.lst [])) := Ex.new hq
    refine ⟨_, _, .lst (.inl (.inl (xq _ _ hcR))) (dp_strs _), .lst (.inl (.inl upd_same)) .nil, shaped_strs _ (fun n hn => hok n (hperm.subset (List.mem_append_right _ hn))), shaped_ints [], _, rfl, ?_⟩
    have T1 := T.new (o := .lst []) hq
    have W1 : Wd K G' (upd Hc q (.lst [])) p (B + fs.length) := Wc.new hq
    have cR := xq _ _ hcR
    have cF := xq _ _ hcF
    generalize upd Hc q (.lst []) = H1 at T1 W1 cR cF ⊢
    rw [eqv_nil]
    refine ite2 (fun hne => ?_) (fun he => ?_)
    · have hpos : 0 < rs.length := by
        cases rs with
        | nil => exact absurd hne (by decide)
        | cons => exact Nat.succ_pos _
      refine ⟨fun σ' H' => ∃ (G' : Hp) (rs' fs : List Str), σ' = [some (.ref p), some (.ref a), some (.ref R), some (.ref Fd)] ∧ Tr G H G' H' p ∧ Wd K G' H' p (B + fs.length) ∧ G' R = none ∧ G' Fd = none ∧
        H' R = some (.lst (rs'.map V.str)) ∧ H' Fd = some (.lst (fs.map V.str)) ∧ (fs ++ rs').Perm zs ∧ rs'.length < rs.length, ?_, ?_⟩
      · rintro σ' H' ⟨G', rs', fs, h1, h2, h3, h4, h5, h6, h7, h8, h9⟩
        exact ⟨_, h9, G', rs', fs, h1, h2, h3, h4, h5, h6, h7, h8, rfl⟩
      · refine ⟨_, rfl, .inl ⟨rfl, _, .inl (.inl cF)⟩, _, rfl, .inl ⟨rfl, _, .inl (.inl cR)⟩, _, rfl, _, rfl, R, _, rfl, .inl (.inl (.inl cR)), ?_⟩
        refine ⟨G', p, _, _, rfl, (by rw [List.length_map]; omega), (by rw [List.length_map]; omega), W1, by omega, fun G2 H2 v T2 W2 ⟨i, e, i0, i1⟩ => ?_⟩
        subst e
        rw [List.length_map] at i1
        obtain ⟨j, rfl⟩ : ∃ j : Nat, i = (j : Int) := ⟨_, (Int.toNat_of_nonneg i0).symm⟩
        have hj : j < rs.length := by omega
        have cR2 := T2.k _ _ cR hRp
        have cF2 := T2.k _ _ cF hFp
        have gR2 := T2.nw R (by rw [cR]; exact fun z => nomatch z) gR
        have gF2 := T2.nw Fd (by rw [cF]; exact fun z => nomatch z) gF
        have hjj : (rs.map V.str)[j]? = some (.str rs[j]) := by rw [List.getElem?_map, List.getElem?_eq_getElem hj]; rfl
        refine ⟨R, _, (j : Int), j, .str rs[j], rfl, rfl, cR2, by omega, by omega, ?_, hjj, ?_⟩
        · exact (ixN_seq (show ixN (rs.map V.str).length (j : Int) = some j by
            unfold ixN
            rw [if_pos (by omega), if_pos (by rw [List.length_map]; omega)]
            simp)).1
        have cF3 : (upd H2 R (.lst ((rs.map V.str).eraseIdx j))) Fd = some (.lst (fs.map V.str)) := by rw [upd_ne nRF.symm]; exact cF2
        refine ⟨Fd, _, _, rfl, rfl, cF3, sz_lt (by rw [List.length_map]; omega), ?_⟩
        refine ⟨G2, rs.eraseIdx j, fs ++ [rs[j]], rfl, ((T1.trans T2).mut hR).mut hF0, ?_, gR2, gF2, ?_, ?_, ?_, ?_⟩
        · have := ((W2.mut (o := .lst ((rs.map V.str).eraseIdx j)) gR2 hRp).mut (o := .lst (fs.map V.str ++ [.str rs[j]])) gF2 hFp)
          rw [List.length_append, List.length_singleton, ← Nat.add_assoc]
          exact this
        · rw [upd_ne nRF, upd_same, erase_map]
        · rw [upd_same, List.map_append]
          rfl
        · rw [List.append_assoc]
          refine List.Perm.trans ?_ hperm
          exact List.Perm.append_left fs (perm_erase (List.getElem?_eq_getElem hj))
        · rw [List.length_eraseIdx, if_pos hj]
          omega
    · have hnil : rs = [] := by
        cases rs with
        | nil => rfl
        | cons => exact absurd rfl he
      subst hnil
      rw [List.append_nil] at hperm
      refine ⟨_, rfl, k G' H1 Fd _ T1 (W1.mono (by have := hperm.length_eq; omega)) hF0 gF cF ⟨fs, rfl, hperm⟩⟩
end
end K04

namespace K04
open PySem PySem.Spec PyProof.Rows L2 Evl LT
/-! ### ranking -/
abbrev sLRanking : Stmt := top 29
abbrev NLRanking : List Str := ["_law_pen_here", "_law_gifts", "_law_known", "_law_road", "_law_found", "_law_at"]
theorem scLRanking : FnScope NLRanking ["_law_pen_here", "_law_gifts", "_law_known"] (defScope sLRanking) := ⟨rfl, rfl, rfl, by decide +kernel, rfl, by decide +kernel, by decide +kernel⟩
def spRanking (K : PySem.W.Frag) : Sp := fun vs H Q _ => ∃ (G : Hp) (p a b : Addr) (gs : List Str) (kvs : List V) (rks : List (List Str)) (B : Nat), vs = [.ref p, .ref a, .ref b] ∧ (SqL K G a (gs.map V.str) ∨ SqT K G a (gs.map V.str)) ∧ gs.length ≤ 100 ∧ (∀ z ∈ gs, PyData.strOk z = true) ∧
  H b = some (.lst kvs) ∧ DenL K G kvs (rks.map dStrs) ∧ rks.length ≤ 100 ∧ (∀ r ∈ rks, r.Perm gs) ∧ Wd K G H p B ∧ B < 800000000 ∧ RetN K G H p B (gs.length + 3) (fun _ xs => ∃ ys : List Str, xs = ys.map V.str ∧ ys.Perm gs) Q
section
variable {P : Program} {w : World} {K : PySem.W.Frag} {mg : Str → Option Value} {base : Heap}
theorem ok_ranking {f : Addr} {fd : FuncData} (F : Fun K "_law_ranking" "_law_ranking" sLRanking f fd) (ml : mg "len" = none) (mli : mg "list" = none) (cd : Cal P w K mg base 1 "_law_draw" ["_law_pen_here", "_law_many"] (spDraw K))
    (cp : Cal P w K mg base 2 "_law_pick" ["_law_pen_here", "_law_some"] (spPick K)) (cs : Cal P w K mg base 2 "_law_shuffled" ["_law_pen_here", "_law_some"] (spShuffled K)) : FnOk P w K mg base CX0 3 f fd ["_law_pen_here", "_law_gifts", "_law_known"] (spRanking K) := by
  obtain ⟨fD, fdD, GD, gD, kD, bD⟩ := cd.ex
  obtain ⟨fP, fdP, GP, gP, kP, bP⟩ := cp.ex
  obtain ⟨fS, fdS, GS, gS, kS, bS⟩ := cs.ex
  refine F.ok scLRanking (fun vs H Q E h => ?_) (fun cdv A outer s H vs Q E hr h => ?_)
  · obtain ⟨G, p, a, b, gs, kvs, rks, B, rfl, _⟩ := h
    rfl
  · obtain ⟨G, p, a, b, gs, kvs, rks, B, rfl, hs, hl, hok, hb, hd, hrl, hrp, W, hB, k⟩ := h
    have hr1 : Room 1 _ := hr.mono (by decide)
    refine ⟨_, (pss_cons (ps_set (i := 3) scLRanking.nd rfl (.inl rfl) (pe_call GD hr1 rfl gD kD bD .nil pass0 (pa_cons (pv 0) (pa_cons pe_int pa_nil))))
      (pss_cons (ps_if (PW.pt (pw_or (pt_cmpR op_eq (pv 3) pe_int (nomark _)) (pw_or1 (pt_cmpR (op_eqD hr.units) (pv 2) (pe_lst pa_nil) (nomark _))))) (pss_one (ps_ret (pe_call GS hr rfl gS kS bS .nil pass0 (pa_cons (pv 0) (pa_cons (pv 1) pa_nil))))) pss_nil)
      (pss_cons (ps_set (i := 4) scLRanking.nd rfl (.inl rfl) (pe_callTy call_list_of (by rfl) mli (by decide +kernel) (pa_cons (pe_call GP hr rfl gP kP bP .nil pass0 (pa_cons (pv 0) (pa_cons (pv 2) pa_nil))) pa_nil)))
      (pss_cons (ps_if (PW.pt (pw_and (pt_cmpR op_eq (pv 3) pe_int (nomark _)) (pw_and1 (pt_cmpR op_gt (pe_callB call_len_seq (by rfl) ml PySem.boot_len (pa_cons (pv 4) pa_nil)) pe_int (nomark _))))) (pss_cons (ps_set (i := 5) scLRanking.nd rfl (.inl rfl) (pe_call GD hr1 rfl gD kD bD .nil pass0 (pa_cons (pv 0) (pa_cons (pe_op op_sub (pe_callB call_len_seq (by rfl) ml PySem.boot_len (pa_cons (pv 4) pa_nil)) pe_int) pa_nil))))
        (pss_one (ps_asg (pe_tup (pa_cons (pe_ix ix_list (pv 4) (pe_op op_add (pv 5) pe_int) (fun _ _ => rfl)) (pa_cons (pe_ix ix_list (pv 4) (pv 5) (fun _ _ => rfl)) pa_nil))) (pg_tup rfl (pgs_cons (pg_sub (pv 4) (pv 5) set_list (fun _ => rfl)) (pgs_cons (pg_sub (pv 4) (pe_op op_add (pv 5) pe_int) set_list (fun _ => rfl)) pgs_nil)))))) pss_nil)
      (pss_one (ps_ret (pv 4))))))), ?_⟩
    refine ⟨_, rfl, G, p, 3, B, rfl, by decide, by decide, W, by omega, fun G1 H1 v T1 W1 ⟨rd, e, r0, r3⟩ => ?_⟩
    subst e
    have hbp : b ≠ p := ne_of hb W.pen.choose_spec.choose_spec.choose_spec.choose_spec.1 (fun q => nomatch q)
    have hb1 := T1.k _ _ hb hbp
    have hs1 : SqL K H1 a (gs.map V.str) ∨ SqT K H1 a (gs.map V.str) := hs.imp (ex_l (T1.g.trans W1.ex)) (ex_t (T1.g.trans W1.ex))
    have hd1 := hd.mono T1.g
    have shuf : ∀ Hx, Wd K G1 Hx p (B + 1) → Tr G H G1 Hx p → Ex G1 Hx → spShuffled K [.ref p, .ref a] Hx Q E0 := fun Hx Wx Tx ex => by
      refine ⟨G1, p, a, gs, B + 1, rfl, hs.imp (ex_l (T1.g.trans ex)) (ex_t (T1.g.trans ex)), hl, hok, Wx, by omega, fun G' H' l xs T' W' h0 g0 hl' hP => ?_⟩
      exact k G' H' l xs (Tx.trans T') (W'.mono (by omega)) (Tx.old h0) g0 hl' hP
    refine ⟨_, rfl, rfl, _, rfl, ite2 (fun _ => ?_) (fun _ => ?_)⟩
    · exact ⟨_, rfl, _, rfl, shuf H1 W1 T1 W1.ex⟩
    · refine ⟨_, rfl, Nat.zero_le _, fun q hq => ?_⟩
      have T2 := T1.new (o := .lst []) hq
      have W2 : Wd K G1 (upd H1 q (.lst [])) p (B + 1) := W1.new hq
      have hb2 : (upd H1 q (.lst [])) b = some (.lst kvs) := Ex.new hq _ _ hb1
      have hq2 : (upd H1 q (.lst [])) q = some (.lst []) := upd_same
      generalize upd H1 q (.lst []) = H2 at T2 W2 hb2 hq2 ⊢
      refine ⟨.list (D.pyL (rks.map dStrs)), .list [], .lst (.inl (.inl hb2)) ((hd1.mono W2.ex).dp (nd_strss _)), .lst (.inl (.inl hq2)) .nil, shaped_strss _ (fun z hz n hn => hok n ((hrp z hz).subset hn)), shaped_ints [], _, rfl, ?_⟩
      rw [eqv_nil]
      refine ite2 (fun _ => ?_) (fun hne => ?_)
      · exact ⟨_, rfl, _, rfl, shuf H2 W2 T2 W2.ex⟩
      · have hpos : 0 < rks.length := by
          cases rks with
          | nil => exact absurd rfl hne
          | cons => exact Nat.succ_pos _
        have hkl : kvs.length = rks.length := by rw [hd.length, List.length_map]
        refine ⟨_, rfl, _, rfl, G1, p, _, .ref b, rfl, W2, by omega, .inr ⟨b, kvs, rfl, .inl (.inl (.inl hb2)), by omega, by omega, fun G3 H3 v T3 W3 hv => ?_⟩⟩
        obtain ⟨d, hdm, hden⟩ := hd1.mem hv
        obtain ⟨rk, hrk, rfl⟩ := List.mem_map.mp hdm
        obtain ⟨x, rfl⟩ : ∃ x, v = .ref x := by unfold dStrs at hden; cases hden with | lst h l => exact ⟨_, rfl⟩
        have hx := den_strs hden
        have hperm := hrp rk hrk
        have hrkl := hperm.length_eq
        refine ⟨x, _, rfl, .inl (ex_l (T3.g.trans W3.ex) hx), fun Fd hF => ?_⟩
        have hFp : Fd ≠ p := (ne_of_none W3.pen.choose_spec.choose_spec.choose_spec.choose_spec.1 hF).symm
        have T4 := (T2.trans T3).new (o := .lst (rk.map V.str)) hF
        have W4 : Wd K G3 (upd H3 Fd (.lst (rk.map V.str))) p (B + 2) := W3.new hF
        have hF4 : (upd H3 Fd (.lst (rk.map V.str))) Fd = some (.lst (rk.map V.str)) := upd_same
        have hF0 : H Fd = none := (T2.trans T3).old hF
        have gF : G3 Fd = none := fresh_back W3.ex hF
        generalize upd H3 Fd (.lst (rk.map V.str)) = H4 at T4 W4 hF4 ⊢
        refine ⟨_, rfl, rfl, _, rfl, ite2 (fun _ => ?_) (fun _ => ?_)⟩
        · refine ⟨_, rfl, Fd, _, rfl, .inl (.inl (.inl hF4)), _, _, rfl, rfl, _, rfl, ite2 (fun hlong => ?_) (fun _ => ?_)⟩
          · have hlong' : 1 < rk.length := by
              have := of_decide_eq_true hlong
              rw [List.length_map] at this
              omega
            refine ⟨_, rfl, _, rfl, Fd, _, rfl, .inl (.inl (.inl hF4)), _, _, rfl, rfl, G3, p, _, _, rfl, (by rw [List.length_map]; omega), (by rw [List.length_map]; omega), W4, by omega, fun G5 H5 v T5 W5 ⟨i, e, i0, i1⟩ => ?_⟩
            subst e
            rw [List.length_map] at i1
            obtain ⟨j, rfl⟩ : ∃ j : Nat, i = (j : Int) := ⟨_, (Int.toNat_of_nonneg i0).symm⟩
            have hj : j + 1 < rk.length := by omega
            have hF5 := T5.k _ _ hF4 hFp
            have gF5 := T5.nw Fd (by rw [hF4]; exact fun z => nomatch z) gF
            have hx1 : rk[j]? = some rk[j] := List.getElem?_eq_getElem (by omega)
            have hy1 : rk[j + 1]? = some rk[j + 1] := List.getElem?_eq_getElem hj
            have ax : (rk.map V.str)[j]? = some (.str rk[j]) := by rw [List.getElem?_map, hx1]; rfl
            have ay : (rk.map V.str)[j + 1]? = some (.str rk[j + 1]) := by rw [List.getElem?_map, hy1]; rfl
            have ix : ∀ (l : List V) (m : Nat), m < l.length → ixN l.length (m : Int) = some m := fun l m h => by
              unfold ixN
              rw [if_pos (by omega), if_pos (by omega)]
              simp
            refine ⟨_, rfl, _, rfl, _, _, rfl, rfl, Fd, _, _, _, rfl, rfl, .inl (.inl hF5), atOf (j := j + 1) (by push_cast; rfl) ay, _, rfl, _, rfl, Fd, _, _, _, rfl, rfl, .inl (.inl hF5), atOf (j := j) rfl ax, ?_⟩
            refine ⟨by show 2 ≤ sizeLine; decide, fun t ht => ?_⟩
            have nFt : Fd ≠ t := ne_of_none hF5 ht
            refine ⟨t, _, rfl, .inl (.inl upd_same), rfl, _, _, rfl, _, rfl, _, rfl, Fd, _, _, j, rfl, rfl, by rw [upd_ne nFt]; exact hF5, ix _ _ (by rw [List.length_map]; omega), _, _, rfl, _, rfl, _, rfl, _, _, rfl, rfl, Fd, _, _, j + 1, rfl, rfl, upd_same, ?_, rfl, ?_⟩
            · have := ix ((rk.map V.str).set j (.str rk[j + 1])) (j + 1) (by rw [List.length_set, List.length_map]; omega)
              exact this
            · refine ⟨_, rfl, ?_⟩
              rw [upd_upd]
              have hset : ((rk.map V.str).set j (.str rk[j + 1])).set (j + 1) (.str rk[j]) = ((rk.set j rk[j + 1]).set (j + 1) rk[j]).map V.str := by rw [List.map_set, List.map_set]
              rw [hset]
              exact k G5 _ Fd _ (((T4.trans T5).new ht).mut hF0) (((W5.new ht).mut gF5 hFp).mono (by omega)) hF0 gF5 upd_same ⟨_, rfl, (swap_perm hx1 hy1).trans hperm⟩
          · exact ⟨_, rfl, k G3 H4 Fd _ T4 (W4.mono (by omega)) hF0 gF hF4 ⟨rk, rfl, hperm⟩⟩
        · exact ⟨_, rfl, k G3 H4 Fd _ T4 (W4.mono (by omega)) hF0 gF hF4 ⟨rk, rfl, hperm⟩⟩
end
end K04

namespace K04
open PySem PySem.Spec PyProof.Rows L2 Evl LT
/-! ### raw -/
abbrev sLRaw : Stmt := top 30
abbrev NLRaw : List Str := ["_law_pen_here", "_law_guests", "_law_gifts", "_law_some", "_law_ranks", "_law_guest"]
theorem scLRaw : FnScope NLRaw ["_law_pen_here", "_law_guests", "_law_gifts"] (defScope sLRaw) := ⟨rfl, rfl, rfl, by decide +kernel, rfl, by decide +kernel, by decide +kernel⟩
def spRaw (K : PySem.W.Frag) : Sp := fun vs H Q _ => ∃ (G : Hp) (p : Addr) (nu ng B : Nat), vs = [.ref p, .int (nu : Int), .int (ng : Int)] ∧ nu ≤ 26 ∧ ng ≤ 26 ∧ Wd K G H p B ∧ B < 700000000 ∧
  RetW K G H p B 1000 (fun G' v => ∃ gs R, RawOk gs R ∧ gs.length = ng ∧ R.length = nu ∧ Den K G' v (dRaw gs R)) Q
section
variable {P : Program} {w : World} {K : PySem.W.Frag} {mg : Str → Option Value} {base : Heap}
theorem ok_raw {f : Addr} {fd : FuncData} (F : Fun K "_law_raw" "_law_raw" sLRaw f fd) (mli : mg "list" = none) (cn : Cal P w K mg base 3 "_law_names" ["_law_pen_here", "_law_many"] (spNames K))
    (cr : Cal P w K mg base 3 "_law_ranking" ["_law_pen_here", "_law_gifts", "_law_known"] (spRanking K)) : FnOk P w K mg base CX0 4 f fd ["_law_pen_here", "_law_guests", "_law_gifts"] (spRaw K) := by
  obtain ⟨fN, fdN, GN, gN, kN, bN⟩ := cn.ex
  obtain ⟨fR, fdR, GR, gR, kR, bR⟩ := cr.ex
  refine F.ok scLRaw (fun vs H Q E h => ?_) (fun cdv A outer s H vs Q E hr h => ?_)
  · obtain ⟨G, p, nu, ng, B, rfl, _⟩ := h
    rfl
  · obtain ⟨G, p, nu, ng, B, rfl, hnu, hng, W, hB, k⟩ := h
    have hu := hu_of hr
    refine ⟨_, (pss_cons (ps_par (i := 3) (j := 4) rfl scLRaw.nd rfl rfl (by decide) rfl rfl (pa_cons (pe_call GN hr rfl gN kN bN .nil pass0 (pa_cons (pv 0) (pa_cons (pv 2) pa_nil))) (pa_cons pe_dnewK pa_nil)) (by rfl))
      (pss_cons (ps_for PassesOwn.never rfl (pi_list (pe_call GN hr rfl gN kN bN .nil pass0 (pa_cons (pv 0) (pa_cons (pv 1) pa_nil)))) (pg_name (i := 5) scLRaw.nd rfl (.inl rfl)) (pss_one (ps_dput hu (pv 4) (pv 5) (pe_call GR hr rfl gR kR bR .nil pass0 (pa_cons (pv 0) (pa_cons (pv 3) (pa_cons (pe_listVals rfl mli (pv 4)) pa_nil)))) rfl)))
      (pss_one (ps_ret (pe_tup (pa_cons (pv 3) (pa_cons (pv 4) pa_nil))))))), ?_⟩
    refine ⟨_, rfl, _, rfl, G, p, ng, B, rfl, hng, W, by omega, fun G1 H1 s1 xs T1 W1 h0 g0 hs1 ⟨gs, exs, hgl, hgn, hgo⟩ => ?_⟩
    subst exs
    intro d hd
    refine ⟨_, _, rfl, ?_⟩
    have penH : ∀ {Gx Hx : Hp} {Bx : Nat}, Wd K Gx Hx p Bx → ∃ c s m, Hx p = some (.dK (penK c s m)) := fun W => let ⟨c, s, m, _, h, _⟩ := W.pen; ⟨c, s, m, h⟩
    have s1p : s1 ≠ p := by
      obtain ⟨c, s, m, hpen⟩ := penH W
      exact (ne_of_none hpen h0).symm
    have hd0 : H d = none := T1.old hd
    have dp : d ≠ p := by
      obtain ⟨c, s, m, hpen⟩ := penH W
      exact (ne_of_none hpen hd0).symm
    have ds1 : s1 ≠ d := ne_of_none hs1 hd
    -- the gifts stand for good
    have T2 := (T1.freeze (o := .lst (gs.map V.str)) h0 g0).new (o := .dK []) hd
    have W2 : Wd K (upd G1 s1 (.lst (gs.map V.str))) (upd H1 d (.dK [])) p (B + 13) := (W1.freeze g0 hs1 s1p).new hd
    have gd2 : (upd G1 s1 (.lst (gs.map V.str))) d = none := by rw [upd_ne ds1.symm]; exact fresh_back W1.ex hd
    have gs2 : (upd G1 s1 (.lst (gs.map V.str))) s1 = some (.lst (gs.map V.str)) := upd_same
    have hd2 : (upd H1 d (.dK [])) d = some (.dK []) := upd_same
    generalize upd G1 s1 (.lst (gs.map V.str)) = G2 at T2 W2 gd2 gs2
    generalize upd H1 d (.dK []) = H2 at T2 W2 hd2 ⊢
    refine ⟨_, rfl, _, rfl, G2, p, nu, _, rfl, hnu, W2, by omega, fun G3 H3 l xs T3 W3 hl0 gl0 hl3 ⟨us, exs, hul, hun, huo⟩ => ?_⟩
    subst exs
    have lp : l ≠ p := by
      obtain ⟨c, s, m, hpen⟩ := penH W2
      exact (ne_of_none hpen hl0).symm
    have ld : l ≠ d := (ne_of_none hd2 hl0).symm
    have hd3 := T3.k _ _ hd2 dp
    have gd3 := T3.nw d (by rw [hd2]; exact fun z => nomatch z) gd2
    have gs3 := T3.g _ _ gs2
    have T4 := (T2.trans T3).freeze (o := .lst (us.map V.str)) (T2.old hl0) gl0
    have W4 : Wd K (upd G3 l (.lst (us.map V.str))) H3 p (B + 26) := W3.freeze gl0 hl3 lp
    have gd4 : (upd G3 l (.lst (us.map V.str))) d = none := by rw [upd_ne ld.symm]; exact gd3
    have gs4 : (upd G3 l (.lst (us.map V.str))) s1 = some (.lst (gs.map V.str)) := by
      rw [upd_ne (fun e => by rw [e, gl0] at gs3; cases gs3)]
      exact gs3
    have gl4 : (upd G3 l (.lst (us.map V.str))) l = some (.lst (us.map V.str)) := upd_same
    generalize upd G3 l (.lst (us.map V.str)) = G4 at T4 W4 gd4 gs4 gl4
    clear T2 T3 W2 W3 T1 W1
    refine ⟨l, rfl, ⟨_, .inl (.inl hl3)⟩, for_list (K := K) (xs := us.map V.str) (fun i σ Hc => ∃ (G' : Hp) (R : List (Str × List Str)) (kvs : List (Key × V)) (o5 : Option V),
      σ = [some (.ref p), some (.int nu), some (.int ng), some (.ref s1), some (.ref d), o5] ∧ Tr G H G' Hc p ∧ Wd K G' Hc p (B + 26 + i * (ng + 3)) ∧ Ex G4 G' ∧ G' d = none ∧ Hc d = some (.dK kvs) ∧
      DenK K G' kvs (R.map fun r => (.inr r.1, dStrs r.2)) ∧ R.map (·.1) = us.take i ∧ (∀ r ∈ R, r.2.Perm gs))
      ⟨G4, [], [], none, rfl, T4, W4.mono (by omega), Ex.refl _, gd4, hd3, .nil, rfl, by simp⟩ (fun i σ Hc _ ⟨G', _, _, _, _, _, Wc, ex, _⟩ => .inl (.inl (Wc.ex _ _ (ex _ _ gl4)))) ?_ ?_⟩
    · rintro i x σ Hc hx ⟨G', R, kvs, o5, rfl, T, Wc, ex, gd', hdc, hden, hR, hRp⟩
      rw [List.getElem?_map] at hx
      obtain ⟨u, hu', rfl⟩ := Option.map_eq_some_iff.mp hx
      have hi : i < us.length := (List.getElem?_eq_some_iff.mp hu').1
      have hRl : R.length = i := by
        have := congrArg List.length hR
        rw [List.length_map, List.length_take] at this
        omega
      have hmul : i * (ng + 3) ≤ 26 * 29 := Nat.mul_le_mul (by omega) (by omega)
      have hkl := hden.length
      rw [List.length_map] at hkl
      refine ⟨_, rfl, _, rfl, _, rfl, d, kvs, rfl, (.inl hdc), fun b hb => ?_⟩
      have Tb := T.new (o := .lst (kvs.map (·.2))) hb
      have Wb : Wd K G' (upd Hc b (.lst (kvs.map (·.2)))) p (B + 26 + i * (ng + 3)) := Wc.new hb
      have db : d ≠ b := ne_of_none hdc hb
      have hdb : (upd Hc b (.lst (kvs.map (·.2)))) d = some (.dK kvs) := by rw [upd_ne db]; exact hdc
      have hbb : (upd Hc b (.lst (kvs.map (·.2)))) b = some (.lst (kvs.map (·.2))) := upd_same
      generalize upd Hc b (.lst (kvs.map (·.2))) = Hb at Tb Wb hdb hbb ⊢
      have hvals := hden.vals
      rw [List.map_map] at hvals
      have hvals2 : DenL K G' (kvs.map (·.2)) ((R.map (·.2)).map dStrs) := by rw [List.map_map]; exact hvals
      refine ⟨G', p, s1, b, gs, kvs.map (·.2), R.map (·.2), _, rfl, .inl (.inl (.inl (ex _ _ gs4))), by omega, fun z hz => (hgo z hz).good.2, hbb, hvals2, by rw [List.length_map]; omega, ?_, Wb, by omega, fun G5 H5 l3 ys T5 W5 h30 g30 hl35 ⟨rk, eys, hperm⟩ => ?_⟩
      · intro r hr'
        obtain ⟨q, hq, rfl⟩ := List.mem_map.mp hr'
        exact hRp q hq
      subst eys
      have l3p : l3 ≠ p := by
        obtain ⟨c, s, m, hpen⟩ := penH Wb
        exact (ne_of_none hpen h30).symm
      have l3d : l3 ≠ d := (ne_of_none hdb h30).symm
      have hd5 := T5.k _ _ hdb dp
      have gd5 := T5.nw d (by rw [hdb]; exact fun z => nomatch z) gd'
      have hsz : kvs.length < sizeLine := sz_lt (by omega)
      have hnew : (Sum.inr u : Key) ∉ kvs.map (·.1) := by
        rw [hden.keys, List.map_map]
        intro hm
        obtain ⟨r, hr', e⟩ := List.mem_map.mp hm
        have hru : r.1 = u := Sum.inr.inj e
        have h1 : u ∈ us.take i := by rw [← hR, ← hru]; exact List.mem_map.mpr ⟨r, hr', rfl⟩
        obtain ⟨j, hj, ej⟩ := List.getElem_of_mem h1
        rw [List.length_take] at hj
        rw [List.getElem_take] at ej
        have e2 : us[i] = u := (List.getElem?_eq_some_iff.mp hu').2
        have := (List.getElem_inj hun).mp (ej.trans e2.symm)
        omega
      refine ⟨_, rfl, _, rfl, d, _, rfl, .inl ⟨kvs, .inr u, hd5, rfl, hsz, rfl⟩, ?_⟩
      rw [put_fresh hnew]
      have Tn := ((Tb.trans T5).freeze (o := .lst (rk.map V.str)) (Tb.old h30) g30).mut (o := .dK (kvs ++ [(.inr u, .ref l3)])) hd0
      have gdn : (upd G5 l3 (.lst (rk.map V.str))) d = none := by rw [upd_ne l3d.symm]; exact gd5
      have Wn : Wd K (upd G5 l3 (.lst (rk.map V.str))) (upd H5 d (.dK (kvs ++ [(.inr u, .ref l3)]))) p (B + 26 + (i + 1) * (ng + 3)) :=
        ((W5.freeze g30 hl35 l3p).mut gdn dp).mono (by rw [Nat.add_mul]; omega)
      have exn : Ex G5 (upd G5 l3 (.lst (rk.map V.str))) := Ex.new g30
      refine ⟨upd G5 l3 (.lst (rk.map V.str)), R ++ [(u, rk)], _, _, rfl, Tn, Wn, (ex.trans T5.g).trans exn, gdn, upd_same, ?_, ?_, ?_⟩
      · rw [List.map_append]
        exact (hden.mono (T5.g.trans exn)).append (.cons (den_of_strs (.inl (.inl upd_same))) .nil)
      · rw [List.map_append, hR, List.take_add_one, hu']
        rfl
      · intro r hr'
        rcases List.mem_append.mp hr' with h | h
        · exact hRp r h
        · rw [List.mem_singleton.mp h]
          exact hperm
    · rintro σ Hc ⟨G', R, kvs, o5, rfl, T, Wc, ex, gd', hdc, hden, hR, hRp⟩
      rw [List.length_map] at Wc hR
      rw [List.take_length] at hR
      refine ⟨_, rfl, _, rfl, by show 2 ≤ sizeLine; decide, fun t ht => ?_⟩
      have dt : d ≠ t := ne_of_none hdc ht
      have T5 := (T.freeze (o := .dK kvs) hd0 gd').grow (o := .tup [.ref s1, .ref d]) ((Wc.freeze gd' hdc dp).ex) ht
      have W5 := (Wc.freeze gd' hdc dp).grow (o := .tup [.ref s1, .ref d]) ht
      have gt : (upd G' d (.dK kvs)) t = none := fresh_back (Wc.freeze gd' hdc dp).ex ht
      have e1 : Ex G' (upd (upd G' d (.dK kvs)) t (.tup [.ref s1, .ref d])) := (Ex.new gd').trans (Ex.new gt)
      have hmul : us.length * (ng + 3) ≤ 26 * 29 := Nat.mul_le_mul (by omega) (by omega)
      refine k _ _ _ T5 (W5.mono (by omega)) ⟨gs, R, ⟨hgn, hgo, by rw [hR]; exact hun, fun r hr' => huo _ (by rw [← hR]; exact List.mem_map.mpr ⟨r, hr', rfl⟩), hRp⟩, hgl, ?_, ?_⟩
      · rw [← List.length_map (f := (·.1)), hR]; exact hul
      · refine .tup (.inl (.inl upd_same)) (.cons (den_of_strs (.inl (.inl (e1 _ _ (ex _ _ gs4))))) (.cons (.dct ?_ (hden.mono e1)) .nil))
        rw [upd_ne dt, upd_same]
end
end K04

namespace K04
open PySem PySem.Spec PyProof.Rows L2 Evl LT
/-! ### is_name -/
abbrev sIsName : Stmt := top 12
abbrev NIsName : List Str := ["value", "letter"]
theorem scIsName : FnScope NIsName ["value"] (defScope sIsName) := ⟨rfl, rfl, rfl, by decide +kernel, rfl, by decide +kernel, by decide +kernel⟩
def spIsName (K : PySem.W.Frag) : Sp := fun vs H Q _ => ∃ v, vs = [v] ∧ AnyV K H v ∧ ∀ H', Ex H H' → Q (.bl (isN v)) H'
theorem take_suc {α : Type} {l : List α} {i : Nat} {x : α} (h : l[i]? = some x) : l.take (i + 1) = l.take i ++ [x] := by
  rw [List.take_add_one, h]
  rfl
section
variable {P : Program} {w : World} {K : PySem.W.Frag} {mg : Str → Option Value} {base : Heap}
theorem ok_isname {f : Addr} {fd : FuncData} (F : Fun K "is_name" "is_name" sIsName f fd) (mi : mg "isinstance" = none) (ms : mg "str" = none) (ml : mg "len" = none) (ma : mg "all" = none) (mL : ∃ t, mg "LETTERS" = some (.str abc t)) :
    FnOk P w K mg base CX0 1 f fd ["value"] (spIsName K) := by
  obtain ⟨tk, mL⟩ := mL
  refine F.ok scIsName (fun vs H Q E h => ?_) (fun cdv A outer s H vs Q E hr h => ?_)
  · obtain ⟨v, rfl, _⟩ := h
    rfl
  · obtain ⟨v, rfl, hv, k⟩ := h
    refine ⟨_, (pss_one (ps_ret (pe_and (pe_callB call_isi (by rfl) mi (by decide +kernel) (pa_cons (pv 0) (pa_cons (pe_bltn (v := .ty "str") (by rfl) ms (by decide +kernel) rfl) pa_nil))) (pe_and (pe_chain op_le op_le pe_int (pe_callB call_len (by rfl) ml PySem.boot_len (pa_cons (pv 0) pa_nil)) pe_int) (pe_one (pe_callB (cr_all rfl) (by rfl) ma (by decide +kernel) (pa_cons (pe_lc (own := [("letter", 1)]) (g := (gName 1)) (tt := tYes) rfl scIsName.nd (pi_str (pv 0)) (blkOk_by (N := NIsName) (sc := defScope sIsName) (by decide +kernel)) (fun _ _ _ _ _ => (pg_name (i := 1) scIsName.nd rfl (.inl rfl))) (fun _ _ _ _ _ => pts_nil) (fun _ _ _ _ _ => (pe_cmpR op_in_sign (pv 1) (pe_glob (v := .str abc) rfl mL ⟨_, rfl⟩) (by rfl)))) pa_nil))))))), ?_⟩
    rcases hv with ⟨z, rfl, hz, _⟩ | ⟨hn, t, ht, hk⟩
    · refine ⟨_, rfl, .str z, .ty "str", _, _, true, rfl, .ty "str", .base (.str z), kit_ty (by decide +kernel), true, rfl, ?_⟩
      refine ⟨_, rfl, .str z, z.length, rfl, ⟨sz_of (by omega), rfl⟩, _, _, rfl, rfl, _, rfl, ?_⟩
      have e : isN (.str z) = (decide (1 ≤ z.length) && (decide (z.length ≤ 8) && z.cps.toList.all fun c => decide (c ∈ abc.cps.toList))) := rfl
      refine ite2 (fun h1 => ?_) (fun h1 => ?_)
      · have h1' : 1 ≤ z.length := by have := of_decide_eq_true h1; omega
        rw [decide_eq_true h1', Bool.true_and] at e
        refine ⟨_, _, rfl, rfl, _, rfl, ite2 (fun h2 => ?_) (fun h2 => ?_)⟩
        · have h2' : z.length ≤ 8 := by have := of_decide_eq_true h2; omega
          rw [decide_eq_true h2', Bool.true_and] at e
          refine ⟨_, rfl, z, rfl, fun Dl hD => ?_⟩
          refine lc_it walk_str (fun i Hc => Ex H Hc ∧ Hc Dl = some (.lst (((z.cps.toList.take i).map fun c => decide (c ∈ abc.cps.toList)).map V.bl))) ⟨Ex.new hD, upd_same⟩ (fun _ _ _ _ => trivial) ?_ ?_
          · rintro i x Hc H' hi ⟨ex, hDl⟩ ⟨rfl, c, hc, rfl⟩
            have hc' : z.cps.toList[i]? = some c := by rw [Array.getElem?_toList]; exact hc
            refine ⟨rfl, _, rfl, c, abc, rfl, rfl, _, hDl, sz_lt (by
              rw [List.length_map, List.length_map, List.length_take]
              rw [len_tl] at h2'
              omega), Ex.mut ex hD, ?_⟩
            rw [upd_same, take_suc hc', List.map_append, List.map_append]
            rfl
          · rintro Hc ⟨ex, hDl⟩
            have et : z.cps.toList.take z.cps.size = z.cps.toList := List.take_of_length_le (by simp)
            rw [et] at hDl
            refine ⟨Dl, _, rfl, .inl (.inl hDl), ?_⟩
            have q := k Hc ex
            rw [e] at q
            rw [List.all_map]
            exact q
        · have h2' : ¬ z.length ≤ 8 := fun q => h2 (decide_eq_true (by omega))
          rw [decide_eq_false h2', Bool.false_and] at e
          have q := k H (Ex.refl H)
          rw [e] at q
          exact q
      · have h1' : ¬ 1 ≤ z.length := fun q => h1 (decide_eq_true (by omega))
        rw [decide_eq_false h1', Bool.false_and] at e
        have q := k H (Ex.refl H)
        rw [e] at q
        exact ⟨_, rfl, iteF q⟩
    · refine ⟨_, rfl, v, .ty "str", _, _, false, rfl, .ty "str", ht, kit_ty hk, false, rfl, iteF ?_⟩
      have q := k H (Ex.refl H)
      rw [isN_not hn] at q
      exact q
end
end K04

namespace K04
open PySem PySem.Spec PyProof.Rows L2 Evl LT
/-! ### the law's best -/
abbrev sLBest : Stmt := top 32
abbrev NLBest : List Str := ["_law_raw_here", "_law_guest", "_law_gifts", "_law_gift"]
theorem scLBest : FnScope NLBest ["_law_raw_here", "_law_guest", "_law_gifts"] (defScope sLBest) := ⟨rfl, rfl, rfl, by decide +kernel, rfl, by decide +kernel, by decide +kernel⟩
def spLBest (K : PySem.W.Frag) : Sp := fun vs H Q _ => ∃ (G : Hp) (rv : V) (gs : List Str) (R : List (Str × List Str)) (u : Str) (rk : List Str) (g : Addr) (ls : List Str), vs = [rv, .str u, .ref g] ∧ Ex G H ∧ RawAt K G rv gs R ∧ (R.map (·.1)).Nodup ∧ (u, rk) ∈ R ∧
  (SqL K H g (ls.map V.str) ∨ SqT K H g (ls.map V.str)) ∧ rk.length ≤ 100 ∧ ∀ H', Ex H H' → Q (bestV rk ls) H'
section
variable {P : Program} {w : World} {K : PySem.W.Frag} {mg : Str → Option Value} {base : Heap}
theorem ok_lbest {f : Addr} {fd : FuncData} (F : Fun K "_law_best" "_law_best" sLBest f fd) : FnOk P w K mg base CX0 1 f fd ["_law_raw_here", "_law_guest", "_law_gifts"] (spLBest K) := by
  refine F.ok scLBest (fun vs H Q E h => ?_) (fun cdv A outer s H vs Q E hr h => ?_)
  · obtain ⟨G, rv, gs, R, u, rk, g, ls, rfl, _⟩ := h
    rfl
  · obtain ⟨G, rv, gs, R, u, rk, g, ls, rfl, ex, ⟨r, gv, rd, kvs, rfl, hr', hgv, hrd, hden⟩, hnd, hm, hls, hl, k⟩ := h
    have hu := hu_of hr
    refine ⟨_, (pss_one (ps_ret (pe_ix ix_list (pe_op op_cat (pe_lc (own := [("_law_gift", 3)]) (g := (gName 3)) (tt := tTest (tOp (rIn K false) (tVar 3) (tVar 2))) rfl scLBest.nd (pi_list (pe_dget hu (pe_ix ix_tup (pv 0) pe_int (fun _ _ => rfl)) (pv 1) (fun _ _ => rfl))) (blkOk_by (N := NLBest) (sc := defScope sLBest) (by decide +kernel)) (fun _ _ _ _ _ => (pg_name (i := 3) scLBest.nd rfl (.inl rfl))) (fun _ _ _ _ _ => (pts_one (pt_cmpR op_in_seq (pv 3) (pv 2) (by rfl)))) (fun _ _ _ _ _ => (pv 3))) (pe_lst (pa_cons pe_non pa_nil))) pe_int (fun _ _ => rfl)))), ?_⟩
    obtain ⟨v, hv, hden2⟩ := hden.get hnd hm
    obtain ⟨x, rfl⟩ : ∃ x, v = .ref x := by unfold dStrs at hden2; cases hden2 with | lst h l => exact ⟨_, rfl⟩
    have hx := ex_l ex (den_strs hden2)
    refine ⟨_, rfl, r, _, 1, .ref rd, rfl, rfl, ex_t ex hr', atOf (j := 1) rfl rfl, _, rfl, rd, .ref x, rfl, .inl ⟨kvs, .inr u, .inl (ex _ _ hrd), rfl, hv.symm⟩, x, rfl, ⟨_, hx⟩, fun Dl hD => ?_⟩
    refine lc_list (K := K) (a := x) (xs := rk.map V.str) (fun i Hc => Ex H Hc ∧ Hc Dl = some (.lst (((rk.take i).filter fun z => decide (z ∈ ls)).map V.str))) ⟨Ex.new hD, upd_same⟩ (fun i Hc _ ⟨e, _⟩ => ex_l e hx) ?_ ?_
    · rintro i y Hc hy ⟨e, hc⟩
      rw [List.getElem?_map] at hy
      obtain ⟨z, hz, rfl⟩ := Option.map_eq_some_iff.mp hy
      have hi : i < rk.length := (List.getElem?_eq_some_iff.mp hz).1
      have htk : rk.take (i + 1) = rk.take i ++ [z] := by rw [List.take_add_one, hz]; rfl
      refine ⟨rfl, _, rfl, _, rfl, g, _, rfl, hls.imp (ex_l e) (ex_t e), rfl, LT.flat_strs ls, _, rfl, ?_⟩
      show (if (if false = true then !inV (.str z) (ls.map V.str) else inV (.str z) (ls.map V.str)) = true then _ else _)
      rw [if_neg Bool.false_ne_true, in_strs]
      refine ite2 (fun hin => ?_) (fun hout => ?_)
      · refine ⟨_, rfl, _, hc, sz_lt ?_, e.mut hD, ?_⟩
        · rw [List.length_map]
          have := List.length_filter_le (fun z => decide (z ∈ ls)) (rk.take i)
          rw [List.length_take] at this
          omega
        · rw [upd_same, htk, List.filter_append, List.filter_cons, if_pos hin, List.map_append]
          rfl
      · refine ⟨e, ?_⟩
        rw [htk, List.filter_append, List.filter_cons, if_neg hout, List.filter_nil, List.append_nil]
        exact hc
    · rintro Hc ⟨e, hc⟩
      rw [List.length_map, List.take_length] at hc
      refine ⟨by show 1 ≤ sizeLine; decide, fun b hb => ?_⟩
      have hDb : Dl ≠ b := ne_of_none hc hb
      refine ⟨Dl, b, _, _, rfl, rfl, by rw [upd_ne hDb]; exact hc, upd_same, sz_of ?_, fun c hcn => ?_⟩
      · rw [List.length_map]
        have := List.length_filter_le (fun z => decide (z ∈ ls)) rk
        show _ + 1 ≤ _
        omega
      · refine ⟨c, _, 0, bestV rk ls, rfl, rfl, .inl (.inl upd_same), atOf (j := 0) rfl (best_head rk ls), ?_⟩
        exact k _ ((e.trans (Ex.new hb)).trans (Ex.new hcn))
end
end K04

namespace K04
open PySem PySem.Spec PyProof.Rows L2 Evl LT
/-! ### the law's choosing -/
abbrev sLChoose : Stmt := top 33
abbrev NLChoose : List Str := ["_law_raw_here", "_law_row", "_law_left_now", "_law_found", "_law_guest", "_law_gift"]
theorem scLChoose : FnScope NLChoose ["_law_raw_here", "_law_row"] (defScope sLChoose) := ⟨rfl, rfl, rfl, by decide +kernel, rfl, by decide +kernel, by decide +kernel⟩
def spLChoose (K : PySem.W.Frag) : Sp := fun vs H Q _ => ∃ (G : Hp) (rv : V) (gs : List Str) (R : List (Str × List Str)) (w : Addr) (ws : List Str), vs = [rv, .ref w] ∧ Ex G H ∧ RawAt K G rv gs R ∧ (R.map (·.1)).Nodup ∧ (∀ r ∈ R, r.2.length ≤ 100) ∧ R.length ≤ 100 ∧ gs.length ≤ 100 ∧
  SqLT K H w (ws.map V.str) ∧ ws.Perm (R.map (·.1)) ∧ ∀ d H', H d = none → H' d = some (.dK (keyed (holdL R gs ws))) → Ex H H' → Q (.ref d) H'
theorem scal_best (z : Str) (rk ls : List Str) : scal (.str z) (bestV rk ls) = true := by
  unfold bestV
  cases rk.find? (fun z => decide (z ∈ ls)) <;> rfl
def Tups (H : Hp) (ps : List Addr) (kvs : List (Key × V)) : Prop := Paired (fun p kv => H p = some (.tup [kV kv.1, kv.2])) ps kvs
theorem Tups.upd {H : Hp} {t : Addr} {o : HO} (hn : ∀ xs, H t ≠ some (.tup xs)) : ∀ {ps : List Addr} {kvs : List (Key × V)}, Tups H ps kvs → Tups (upd H t o) ps kvs
  | _, _, .nil => .nil
  | _, _, .cons (a := p) h l => .cons (by rw [upd_ne (fun e => hn _ (e ▸ h))]; exact h) (Tups.upd hn l)
theorem Tups.sq {K : PySem.W.Frag} {H : Hp} : ∀ {ps : List Addr} {kvs : List (Key × V)}, Tups H ps kvs → Paired (fun p kv => SqT K H p [kV kv.1, kv.2]) ps kvs
  | _, _, .nil => .nil
  | _, _, .cons h l => .cons (.inl (.inl h)) (Tups.sq l)
theorem Tups.len {H : Hp} : ∀ {ps : List Addr} {kvs : List (Key × V)}, Tups H ps kvs → ps.length = kvs.length
  | _, _, .nil => rfl
  | _, _, .cons h l => by rw [List.length_cons, List.length_cons, Tups.len l]
section
variable {P : Program} {w : World} {K : PySem.W.Frag} {mg : Str → Option Value} {base : Heap}
theorem ok_lchoose {f : Addr} {fd : FuncData} (F : Fun K "_law_choose" "_law_choose" sLChoose f fd) (mli : mg "list" = none) (mdi : mg "dict" = none)
    (cb : Cal P w K mg base 1 "_law_best" ["_law_raw_here", "_law_guest", "_law_gifts"] (spLBest K)) : FnOk P w K mg base CX0 2 f fd ["_law_raw_here", "_law_row"] (spLChoose K) := by
  obtain ⟨fB, fdB, GB, gB, kB, bB⟩ := cb.ex
  refine F.ok scLChoose (fun vs H Q E h => ?_) (fun cdv A outer s H vs Q E hr h => ?_)
  · obtain ⟨G, rv, gs, R, w, ws, rfl, _⟩ := h
    rfl
  · obtain ⟨G, rv, gs, R, w, ws, rfl, ex, ⟨r, gv, rd, kvs, rfl, hr', hgv, hrd, hden⟩, hnd, hrl, hRl, hgl, hws, hperm, k⟩ := h
    have hu := hu_of hr
    refine ⟨_, (pss_cons (ps_asg (pe_tup (pa_cons (pe_callTy call_list_of (by rfl) mli (by decide +kernel) (pa_cons (pe_ix ix_tup (pv 0) pe_int (fun _ _ => rfl)) pa_nil)) (pa_cons pe_dnewK pa_nil))) (pg_tup (by rfl) (pgs_cons (pg_name (i := 2) scLChoose.nd rfl (.inl rfl)) (pgs_cons (pg_name (i := 3) scLChoose.nd rfl (.inr rfl)) pgs_nil))))
      (pss_cons (ps_for PassesOwn.never rfl (pi_lt (pv 1)) (pg_name (i := 4) scLChoose.nd rfl (.inr rfl)) (pss_cons (ps_dput hu (pv 3) (pv 4) (pe_call GB hr rfl gB kB bB .nil pass0 (pa_cons (pv 0) (pa_cons (pv 4) (pa_cons (pv 2) pa_nil)))) rfl)
        (pss_one (ps_setLc (i := 2) (own := [("_law_gift", 5)]) (g := (gName 5)) (tt := tTest (tOp rNe (tVar 5) (tDGet (tVar 3) (tVar 4)))) rfl scLChoose.nd rfl rfl (sw_true rfl rfl rfl (by decide +kernel)) (pi_list (pv 2)) (blkOk_by (N := NLChoose) (sc := defScope sLChoose) (by decide +kernel)) (fun _ _ _ _ _ => (pg_name (i := 5) scLChoose.nd rfl (.inl rfl))) (fun _ _ _ _ _ => (pts_one (pt_cmpR op_ne (pv 5) (pe_dget hu (pv 3) (pv 4) (fun _ _ => rfl)) (nomark _)))) (fun _ _ _ _ _ => (pv 5))))))
      (pss_one (ps_ret (pe_callTy (call_dictP rfl) (by rfl) mdi (by decide +kernel) (pa_cons (pe_lock (pe_lc (own := [("_law_guest", 4)]) (g := (gName 4)) (te := tTup (tCons (tVar 4) (tCons (tDGet (tVar 3) (tVar 4)) tNil))) rfl scLChoose.nd (pi_keys (pe_ix ix_tup (pv 0) pe_int (fun _ _ => rfl))) (blkOk_by (N := NLChoose) (sc := defScope sLChoose) (by decide +kernel)) (fun _ _ _ _ _ => (pg_name (i := 4) scLChoose.nd rfl (.inl rfl))) (fun _ _ _ _ _ => pts_nil) (fun _ _ _ _ _ => (pe_tup (pa_cons (pv 4) (pa_cons (pe_dget hu (pv 3) (pv 4) (fun _ _ => rfl)) pa_nil)))))) pa_nil)))))), ?_⟩
    have hgvH := ex_l ex hgv
    have hrH := ex_t ex hr'
    refine ⟨_, rfl, r, _, 0, .ref gv, rfl, rfl, hrH, atOf (j := 0) rfl rfl, gv, _, rfl, .inl hgvH, fun L hL => ?_⟩
    intro d hd
    refine ⟨by show 2 ≤ sizeLine; decide, fun t ht => ⟨t, _, rfl, .inl (.inl upd_same), rfl, _, _, rfl, _, _, rfl, rfl, ?_⟩⟩
    have hd0 : H d = none := by rw [upd_ne (fun e => by rw [e, upd_same] at hd; cases hd)] at hd; exact hd
    have dL : d ≠ L := fun e => by rw [e, upd_same] at hd; cases hd
    refine ⟨_, rfl, w, rfl, for_lt (K := K) (xs := ws.map V.str) (H0 := H) hws (fun i σ Hc => ∃ (l : Addr) (o4 o5 : Option V), σ = [some (.ref r), some (.ref w), some (.ref l), some (.ref d), o4, o5] ∧ Ex H Hc ∧
      Hc d = some (.dK (keyed (cst R gs (ws.take i)).1)) ∧ Hc l = some (.lst ((cst R gs (ws.take i)).2.map V.str))) ⟨L, none, none, rfl, ((Ex.new hL).trans (Ex.new hd)).trans (Ex.new ht), (Ex.new ht) _ _ upd_same, ((Ex.new hd).trans (Ex.new ht)) _ _ upd_same⟩ (fun i σ Hc _ ⟨_, _, _, _, e, _⟩ => e) ?_ ?_⟩
    · rintro i x σ Hc hx ⟨l, o4, o5, rfl, e, hcd, hcl⟩
      rw [List.getElem?_map] at hx
      obtain ⟨u, hu', rfl⟩ := Option.map_eq_some_iff.mp hx
      have hi : i < ws.length := (List.getElem?_eq_some_iff.mp hu').1
      have hum : u ∈ R.map (·.1) := hperm.subset (List.mem_of_getElem? hu')
      have hrk := rkOf_mem hum
      have hnew : u ∉ (cst R gs (ws.take i)).1.map (·.1) := by
        rw [cst_keys _ _ _ _ (by omega)]
        intro h1
        obtain ⟨j, hj, ej⟩ := List.getElem_of_mem h1
        rw [List.length_take] at hj
        rw [List.getElem_take] at ej
        have e2 : ws[i] = u := (List.getElem?_eq_some_iff.mp hu').2
        have := (List.getElem_inj (hperm.nodup_iff.mpr hnd)).mp (ej.trans e2.symm)
        omega
      have hkl : (keyed (cst R gs (ws.take i)).1).length = i := by
        unfold keyed
        rw [List.length_map, ← List.length_map (f := (·.1)), cst_keys _ _ _ _ (by omega), List.length_take]
        omega
      have hwl : ws.length = R.length := by rw [hperm.length_eq, List.length_map]
      have hnk : (Sum.inr u : Key) ∉ (keyed (cst R gs (ws.take i)).1).map (·.1) := by
        unfold keyed
        rw [List.map_map]
        intro hm
        obtain ⟨q, hq, eq⟩ := List.mem_map.mp hm
        exact hnew (List.mem_map.mpr ⟨q, hq, Sum.inr.inj eq⟩)
      have hstep : cst R gs (ws.take (i + 1)) = stepC R (cst R gs (ws.take i)) u := by rw [List.take_add_one, hu']; exact cst_snoc _ _ _ _
      refine ⟨_, rfl, _, rfl, _, rfl, G, .ref r, gs, R, u, rkOf R u, l, (cst R gs (ws.take i)).2, rfl, ex.trans e, ⟨r, gv, rd, kvs, rfl, hr', hgv, hrd, hden⟩, hnd, hrk, .inl (.inl (.inl hcl)), hrl _ hrk, fun H2 e2 => ?_⟩
      have hcd2 := e2 _ _ hcd
      have hcl2 := e2 _ _ hcl
      refine ⟨_, rfl, _, rfl, d, _, rfl, .inl ⟨_, .inr u, hcd2, rfl, sz_lt (by omega), rfl⟩, ?_⟩
      rw [put_fresh hnk]
      have e3 : Ex H (L2.upd H2 d (.dK (keyed (cst R gs (ws.take i)).1 ++ [(.inr u, bestV (rkOf R u) (cst R gs (ws.take i)).2)]))) := (e.trans e2).mut hd0
      have ld : l ≠ d := fun q => by rw [q, hcd] at hcl; cases hcl
      have hcl3 : (L2.upd H2 d (.dK (keyed (cst R gs (ws.take i)).1 ++ [(.inr u, bestV (rkOf R u) (cst R gs (ws.take i)).2)]))) l = some (.lst ((cst R gs (ws.take i)).2.map V.str)) := by rw [upd_ne ld]; exact hcl2
      have hcd3 : (L2.upd H2 d (.dK (keyed (cst R gs (ws.take i)).1 ++ [(.inr u, bestV (rkOf R u) (cst R gs (ws.take i)).2)]))) d = some (.dK (keyed (cst R gs (ws.take (i + 1))).1)) := by
        rw [upd_same, hstep]
        unfold stepC keyed
        rw [List.map_append]
        rfl
      generalize L2.upd H2 d (.dK (keyed (cst R gs (ws.take i)).1 ++ [(.inr u, bestV (rkOf R u) (cst R gs (ws.take i)).2)])) = H3 at e3 hcl3 hcd3 ⊢
      refine ⟨_, rfl, l, rfl, ⟨_, .inl (.inl hcl3)⟩, fun Dl hDl => ?_⟩
      refine lc_list (K := K) (a := l) (xs := (cst R gs (ws.take i)).2.map V.str) (fun j Hj => Ex H3 Hj ∧ Hj Dl = some (.lst ((((cst R gs (ws.take i)).2.take j).filter fun z => !decide (V.str z = bestV (rkOf R u) (cst R gs (ws.take i)).2)).map V.str))) ⟨Ex.new hDl, upd_same⟩ (fun j Hj _ ⟨ej, _⟩ => .inl (.inl (ej _ _ hcl3))) ?_ ?_
      · rintro j y Hj hy ⟨ej, hj⟩
        rw [List.getElem?_map] at hy
        obtain ⟨z, hz, rfl⟩ := Option.map_eq_some_iff.mp hy
        have htk : (cst R gs (ws.take i)).2.take (j + 1) = (cst R gs (ws.take i)).2.take j ++ [z] := by rw [List.take_add_one, hz]; rfl
        have hval : valV (keyed (cst R gs (ws.take (i + 1))).1) (.inr u) = some (bestV (rkOf R u) (cst R gs (ws.take i)).2) := by
          rw [hstep]
          exact keyed_last hnew
        refine ⟨rfl, _, rfl, _, rfl, _, rfl, d, _, rfl, .inl ⟨_, .inr u, .inl (ej _ _ hcd3), rfl, hval.symm⟩, scal_best _ _ _, _, rfl, ?_⟩
        show (if (!decide (V.str z = bestV (rkOf R u) (cst R gs (ws.take i)).2)) = true then _ else _)
        refine ite2 (fun hin => ?_) (fun hout => ?_)
        · refine ⟨_, rfl, _, hj, sz_lt ?_, ej.mut hDl, ?_⟩
          · rw [List.length_map]
            have h1 := List.length_filter_le (fun z => !decide (V.str z = bestV (rkOf R u) (cst R gs (ws.take i)).2)) ((cst R gs (ws.take i)).2.take j)
            rw [List.length_take] at h1
            have h2 := cst_left R gs (ws.take i)
            omega
          · rw [upd_same, htk, List.filter_append, List.filter_cons, if_pos hin, List.map_append]
            rfl
        · refine ⟨ej, ?_⟩
          rw [htk, List.filter_append, List.filter_cons, if_neg hout, List.filter_nil, List.append_nil]
          exact hj
      · rintro Hj ⟨ej, hj⟩
        rw [List.length_map, List.take_length] at hj
        refine ⟨Dl, _, _, rfl, e3.trans ej, ej _ _ hcd3, ?_⟩
        rw [hj, hstep]
        rfl
    · rintro σ Hc ⟨l, o4, o5, rfl, e, hcd, hcl⟩
      rw [List.length_map, List.take_length] at hcd hcl
      have hrdc : Hc rd = some (.dK kvs) := (ex.trans e) _ _ hrd
      have hrc := ex_t e hrH
      have hkeys := hden.keys
      have hkl : kvs.length = R.length := by
        have := congrArg List.length hkeys
        simpa using this
      refine ⟨rd, _, hrdc, trivial, fun od => ?_⟩
      have st2 : SqT K (L2.upd Hc rd (.frz od (.dK kvs))) r [.ref gv, .ref rd] := st_tr hrdc (fun b o hb ne => by rw [upd_ne ne]; exact hb) hrc
      have drd : d ≠ rd := fun q => by rw [q] at hd0; rw [ex _ _ hrd] at hd0; cases hd0
      refine ⟨_, rfl, r, _, 1, .ref rd, rfl, rfl, st2, atOf (j := 1) rfl rfl, rd, od, rfl, .inl ⟨kvs, upd_same, fun Dl hDl => ?_⟩⟩
      have Drd : Dl ≠ rd := fun q => by rw [q, upd_same] at hDl; cases hDl
      have hDl0 : Hc Dl = none := by rw [upd_ne Drd] at hDl; exact hDl
      have dDl : d ≠ Dl := ne_of_none hcd hDl0
      refine lc_it walk_keys (fun i Hj => (∀ b o, Hc b = some o → b ≠ rd → Hj b = some o) ∧ Hj rd = some (.frz od (.dK kvs)) ∧ ∃ ps, Hj Dl = some (.lst (ps.map V.ref)) ∧ Tups Hj ps ((keyed (holdL R gs ws)).take i)) ?_ (fun i Hj _ ⟨_, h, _⟩ => h) ?_ ?_
      · refine ⟨fun b o hb ne => ?_, ?_, [], upd_same, .nil⟩
        · rw [upd_ne (fun q => by rw [q, hDl0] at hb; cases hb), upd_ne ne]
          exact hb
        · rw [upd_ne Drd.symm, upd_same]
      · rintro i x Hj H2 hi ⟨ej, hjr, ps, hjD, tps⟩ ⟨rfl, ky, v, hkv, rfl⟩
        have hRi : i < R.length := by omega
        have hky : ky = .inr (R[i]).1 := by
          have h1 : (kvs.map (·.1))[i]? = some ky := by rw [List.getElem?_map, hkv]; rfl
          rw [hkeys, List.map_map, List.getElem?_map, List.getElem?_eq_getElem hRi] at h1
          exact (Option.some.inj h1).symm
        subst hky
        have hmem : (R[i]).1 ∈ (cst R gs ws).1.map (·.1) := by
          have := cst_keys R gs ws.length ws (Nat.le_refl _)
          rw [List.take_length] at this
          rw [this]
          exact hperm.symm.subset (List.mem_map.mpr ⟨_, List.getElem_mem hRi, rfl⟩)
        have htk : (keyed (holdL R gs ws)).take (i + 1) = (keyed (holdL R gs ws)).take i ++ [(.inr (R[i]).1, ((cst R gs ws).1.lookup (R[i]).1).getD .non)] := by
          rw [List.take_add_one]
          congr 1
          unfold keyed holdL
          rw [List.getElem?_map, List.getElem?_map, List.getElem?_eq_getElem hRi]
          rfl
        refine ⟨rfl, _, rfl, _, rfl, _, rfl, d, _, rfl, .inl ⟨_, .inr (R[i]).1, .inl (ej _ _ hcd drd), rfl, (keyed_get hmem).symm⟩, by show 2 ≤ sizeLine; decide, fun t ht => ?_⟩
        have tD : Dl ≠ t := ne_of_none hjD ht
        have trd : rd ≠ t := ne_of_none hjr ht
        have tl := tps.len
        have hps : ps.length = i := by
          rw [tl, List.length_take]
          unfold keyed holdL
          rw [List.length_map, List.length_map]
          omega
        refine ⟨ps.map V.ref, by rw [upd_ne tD]; exact hjD, sz_lt (by rw [List.length_map]; omega), fun b o hb ne => ?_, ?_, ps ++ [t], ?_, ?_⟩
        · rw [upd_ne (fun q => by rw [q, hDl0] at hb; cases hb), upd_ne (fun q => by have := ej b o hb ne; rw [q, ht] at this; cases this)]
          exact ej b o hb ne
        · rw [upd_ne Drd.symm, upd_ne trd]
          exact hjr
        · rw [upd_same, List.map_append]
          rfl
        · rw [htk]
          refine Paired.snoc (Tups.upd (fun xs q => ?_) (Tups.upd (fun xs q => by rw [ht] at q; cases q) tps)) ?_
          · rw [upd_ne tD, hjD] at q
            cases q
          · rw [upd_ne tD.symm, upd_same]
      · rintro Hj ⟨ej, hjr, ps, hjD, tps⟩
        have hfull : (keyed (holdL R gs ws)).take kvs.length = keyed (holdL R gs ws) := by
          refine List.take_of_length_le ?_
          unfold keyed holdL
          rw [List.length_map, List.length_map]
          omega
        rw [hfull] at tps
        have tps2 : Tups (L2.upd Hj rd (.dK kvs)) ps (keyed (holdL R gs ws)) := Tups.upd (fun xs q => by rw [hjr] at q; cases q) tps
        have eF : Ex Hc (L2.upd Hj rd (.dK kvs)) := fun b o hb => by
          by_cases q : b = rd
          · subst q
            rw [upd_same, ← hrdc, hb]
          · rw [upd_ne q]
            exact ej b o hb q
        have hDF : (L2.upd Hj rd (.dK kvs)) Dl = some (.lst (ps.map V.ref)) := by rw [upd_ne Drd]; exact hjD
        refine ⟨hjr, Dl, ps, _, rfl, .inl (.inl hDF), tps2.sq, fun q hq => ?_⟩
        have hnd2 : ((keyed (holdL R gs ws)).map (·.1)).Nodup := by
          have : (keyed (holdL R gs ws)).map (·.1) = (R.map (·.1)).map Sum.inr := by
            unfold keyed holdL
            rw [List.map_map, List.map_map, List.map_map]
            rfl
          rw [this]
          exact List.Pairwise.map _ (fun _ _ h e => h (Sum.inr.inj e)) hnd
        have h0 : H q = none := by
          cases hh : H q with
          | none => rfl
          | some o =>
            have := eF _ _ (e _ _ hh)
            rw [hq] at this
            cases this
        refine k q _ h0 ?_ ((e.trans eF).trans (Ex.new hq))
        rw [upd_same, merge_nodup _ hnd2]
end
end K04

namespace K04
open PySem PySem.Spec PyProof.Rows L2 Evl LT
/-! ### a party drawn, and a row of it -/
abbrev sLBegin : Stmt := top 36
abbrev NLBegin : List Str := ["_law_pen_here", "_law_guests", "_law_gifts", "_law_raw_here"]
theorem scLBegin : FnScope NLBegin ["_law_pen_here", "_law_guests", "_law_gifts"] (defScope sLBegin) := ⟨rfl, rfl, rfl, by decide +kernel, rfl, by decide +kernel, by decide +kernel⟩
def spBegin (K : PySem.W.Frag) : Sp := fun vs H Q _ => ∃ (G : Hp) (p : Addr) (nu ng B : Nat), vs = [.ref p, .int (nu : Int), .int (ng : Int)] ∧ nu ≤ 26 ∧ ng ≤ 26 ∧ Wd K G H p B ∧ B < 600000000 ∧
  RetW K G H p B 1026 (fun G' v => ∃ (gs : List Str) (R : List (Str × List Str)) (us : List Str), RawOk gs R ∧ gs.length = ng ∧ R.length = nu ∧ us.Perm (R.map (·.1)) ∧ Den K G' v (.tup [dRaw gs R, .tup (us.map D.str)])) Q
section
variable {P : Program} {w : World} {K : PySem.W.Frag} {mg : Str → Option Value} {base : Heap}
theorem ok_begin {f : Addr} {fd : FuncData} (F : Fun K "_law_begin" "_law_begin" sLBegin f fd) (mli : mg "list" = none) (mtu : mg "tuple" = none) (cr : Cal P w K mg base 4 "_law_raw" ["_law_pen_here", "_law_guests", "_law_gifts"] (spRaw K))
    (cs : Cal P w K mg base 2 "_law_shuffled" ["_law_pen_here", "_law_some"] (spShuffled K)) : FnOk P w K mg base CX0 5 f fd ["_law_pen_here", "_law_guests", "_law_gifts"] (spBegin K) := by
  obtain ⟨fR, fdR, GR, gR, kR, bR⟩ := cr.ex
  obtain ⟨fS, fdS, GS, gS, kS, bS⟩ := cs.ex
  refine F.ok scLBegin (fun vs H Q E h => ?_) (fun cdv A outer s H vs Q E hr h => ?_)
  · obtain ⟨G, p, nu, ng, B, rfl, _⟩ := h
    rfl
  · obtain ⟨G, p, nu, ng, B, rfl, hnu, hng, W, hB, k⟩ := h
    have hr2 : Room 2 _ := hr.mono (by decide)
    refine ⟨_, (pss_cons (ps_set (i := 3) scLBegin.nd rfl (.inl rfl) (pe_call GR hr rfl gR kR bR .nil pass0 (pa_cons (pv 0) (pa_cons (pv 1) (pa_cons (pv 2) pa_nil)))))
      (pss_one (ps_ret (pe_tup (pa_cons (pv 3) (pa_cons (pe_callTy call_tuple_of (by rfl) mtu (by decide +kernel) (pa_cons (pe_call GS hr2 rfl gS kS bS .nil pass0 (pa_cons (pv 0) (pa_cons (pe_callTy (call_listD rfl) (by rfl) mli (by decide +kernel) (pa_cons (pe_ix ix_tup (pv 3) pe_int (fun _ _ => rfl)) pa_nil)) pa_nil))) pa_nil)) pa_nil)))))), ?_⟩
    refine ⟨_, rfl, _, rfl, _, rfl, G, p, nu, ng, B, rfl, hnu, hng, W, by omega, fun G1 H1 v T1 W1 ⟨gs, R, hok, hgl, hRl, hden⟩ => ?_⟩
    obtain ⟨r, gv, rd, kvs, rfl, hr', hgv, hrd, hd⟩ := (rawAt hden).ex
    refine ⟨_, rfl, _, rfl, _, rfl, r, _, 1, .ref rd, rfl, rfl, ex_t W1.ex hr', atOf (j := 1) rfl rfl, rd, kvs, rfl, .inl (W1.ex _ _ hrd), fun l hl => ?_⟩
    have hkeys : kvs.map (fun kv => kV kv.1) = (R.map (·.1)).map V.str := by
      have := congrArg (List.map kV) hd.keys
      rw [List.map_map, List.map_map, List.map_map] at this
      rw [List.map_map]
      exact this
    rw [hkeys]
    refine ⟨G1, p, l, R.map (·.1), B + 1000, rfl, .inl (.inl (.inl upd_same)), by rw [List.length_map]; omega, fun z hz => ?_, W1.new hl, by omega, fun G3 H3 l2 xs T3 W3 h0 g0 hl3 ⟨us, e, hperm⟩ => ?_⟩
    · obtain ⟨q, hq, rfl⟩ := List.mem_map.mp hz
      exact (hok.uo q hq).good.2
    subst e
    refine ⟨l2, _, rfl, .inl ⟨.inl (.inl hl3), fun t ht => ⟨by show 2 ≤ sizeLine; decide, fun t2 ht2 => ?_⟩⟩⟩
    have T4 := ((T1.new (o := .lst ((R.map (·.1)).map V.str)) hl).trans T3).grow (o := .tup (us.map V.str)) W3.ex ht
    have W4 := W3.grow (o := .tup (us.map V.str)) ht
    have g2 := fresh_back W3.ex ht
    have e4 : Ex G3 (upd G3 t (.tup (us.map V.str))) := Ex.new g2
    have T5 := T4.grow (o := .tup [.ref r, .ref t]) W4.ex ht2
    have g3 := fresh_back W4.ex ht2
    refine k _ _ _ T5 ((W4.grow ht2).mono ?_) ⟨gs, R, us, hok, hgl, hRl, hperm, ?_⟩
    · rw [List.length_map]; omega
    · refine .tup (.inl (.inl upd_same)) (.cons ((hden.mono (T3.g.trans e4)).mono (Ex.new g3)) (.cons (.tup (.inl (.inl ?_)) (DenL.strs us)) .nil))
      rw [upd_ne (ne_of_none (o := .tup (us.map V.str)) upd_same g3)]
      exact upd_same
end
end K04

namespace K04
open PySem PySem.Spec PyProof.Rows L2 Evl LT
/-! ### the law's word for: each of the names once -/
abbrev sLIsOrder : Stmt := top 35
abbrev NLIsOrder : List Str := ["_law_value", "_law_names_here", "_law_name", "_law_other"]
theorem scLIsOrder : FnScope NLIsOrder ["_law_value", "_law_names_here"] (defScope sLIsOrder) := ⟨rfl, rfl, rfl, by decide +kernel, rfl, by decide +kernel, by decide +kernel⟩
abbrev scOut : Scope := { kind := .function, names := [(".0", .local), ("_law_name", .cell), ("_law_value", .cell)], isGenerator := false, isCoroutine := false }
def spLIsOrder (K : PySem.W.Frag) : Sp := fun vs H Q _ => ∃ (G : Hp) (v : V) (d : D) (nl : Addr) (ns : List Str), vs = [v, .ref nl] ∧ Ex G H ∧ Den K G v d ∧ SqL K H nl (ns.map V.str) ∧ (∀ n ∈ ns, NameOk n) ∧ ns.length ≤ 100 ∧
  (∀ e ∈ d.items, e.rp = true) ∧ d.items.length ≤ 100 ∧ ∀ H', Ex H H' → Q (.bl (ordD d ns)) H'
section
variable {P : Program} {w : World} {K : PySem.W.Frag} {mg : Str → Option Value} {base : Heap}
theorem ok_lisorder {f : Addr} {fd : FuncData} (F : Fun K "_law_is_order" "_law_is_order" sLIsOrder f fd) (mi : mg "isinstance" = none) (mli : mg "list" = none) (mtu : mg "tuple" = none) (ml : mg "len" = none) (mrepr : mg "repr" = none) :
    FnG P w K mg base 1 f fd ["_law_value", "_law_names_here"] (spLIsOrder K) := by
  refine okG F scLIsOrder (fun vs H Q E h => ?_) (fun cdv A outer s H vs Q E hgd hr h => ?_)
  · obtain ⟨G, v, d, nl, ns, rfl, _⟩ := h
    rfl
  · obtain ⟨G, v, d, nl, ns, rfl, ex, hd, hnl, hns, hnsl, hrp, hil, k⟩ := h
    refine ⟨_, (pss_cons (ps_if (PW.pt (pw_or (pt_not (pt_val (pe_callB call_isiT (by rfl) mi (by decide +kernel) (pa_cons (pv 0) (pa_cons (pe_tup (pa_cons (pe_bltn (v := .ty "list") (by rfl) mli (by decide +kernel) rfl) (pa_cons (pe_bltn (v := .ty "tuple") (by rfl) mtu (by decide +kernel) rfl) pa_nil))) pa_nil))))) (pw_or1 (pt_cmpR op_ne (pe_callB call_len (by rfl) ml PySem.boot_len (pa_cons (pv 0) pa_nil)) (pe_callB call_len (by rfl) ml PySem.boot_len (pa_cons (pv 1) pa_nil)) (nomark _))))) (pss_one (ps_ret pe_bl)) pss_nil)
      (pss_one (ps_ret (pe_cmpR (op_eqD hr.units) (pe_lc (own := [("_law_name", 2)]) (g := (gName 2)) rfl scLIsOrder.nd (pi_list (pv 1)) (blkOk_by (N := NLIsOrder) (sc := defScope sLIsOrder) (by decide +kernel)) (fun _ _ _ _ _ => (pg_name (i := 2) scLIsOrder.nd rfl (.inr rfl)))
        (fun _ _ _ _ _ => (pts_one (pt_cmpR (op_neDK (K := K) hr.units) (pe_lc (own := [("_law_other", 3)]) (g := (gName 3)) rfl scLIsOrder.nd (pi_ltK (K := K) (pv 0)) (blkOk_by (N := NLIsOrder) (sc := scOut) (by decide +kernel)) (fun _ _ _ _ _ => (pg_name (i := 3) scLIsOrder.nd rfl (.inl rfl)))
          (fun _ _ _ _ _ => (pts_one (pt_cmpR op_eq (pe_callB (cr_reprK (K := K) hgd (room70 hr)) (by rfl) mrepr (by decide +kernel) (pa_cons (pv 3) pa_nil)) (pe_callB (cr_reprK (K := K) hgd (room70 hr)) (by rfl) mrepr (by decide +kernel) (pa_cons (pv 2) pa_nil)) (nomark _)))) (fun _ _ _ _ _ => (pv 3))) (pe_lst (pa_cons (pv 2) pa_nil)) (nomark _)))) (fun _ _ _ _ _ => (pv 2))) (pe_lst pa_nil) (nomark _))))), ?_⟩
    refine ⟨_, rfl, by show 2 ≤ sizeLine; decide, fun tp htp => ⟨v, tp, _, _, [.type "list", .type "tuple"], d.isSeq, rfl, upd_same, .cons (.ty _) (.cons (.ty _) .nil), hd.ty (ex.trans (Ex.new htp)), kit_lt d, ?_⟩⟩
    have e1 : Ex H (upd H tp (.tup [.ty "list", .ty "tuple"])) := Ex.new htp
    generalize upd H tp (.tup [.ty "list", .ty "tuple"]) = H1 at e1 ⊢
    by_cases hseq : d.isSeq = true
    · obtain ⟨a, xs, ds, rfl, hsq, hden, hit⟩ : ∃ (a : Addr) (xs : List V) (ds : List D), v = .ref a ∧ SqLT K G a xs ∧ DenL K G xs ds ∧ d.items = ds := by
        cases hd with
        | tup h l => exact ⟨_, _, _, rfl, .inr h, l, rfl⟩
        | lst h l => exact ⟨_, _, _, rfl, .inl h, l, rfl⟩
        | non => cases hseq
        | bl => cases hseq
        | int => cases hseq
        | str => cases hseq
        | dct => cases hseq
      have hxl : xs.length = ds.length := hden.length
      have hsq1 := ex_lt (ex.trans e1) hsq
      have hnl1 := ex_l e1 hnl
      have hord : ordD d ns = (decide (ds.length = ns.length) && ns.all fun n => decide (ds.countP (isS n) = 1)) := by
        unfold ordD
        rw [hseq, hit, Bool.true_and]
      rw [hit] at hrp hil
      rw [hseq]
      refine ⟨_, rfl, ?_⟩
      show (if (!true) = true then _ else _)
      rw [if_neg (by decide)]
      refine ⟨_, rfl, .ref a, xs.length, rfl, hsq1.imp (fun h => ⟨_, h, rfl⟩) (fun h => ⟨_, h, rfl⟩), _, rfl, .ref nl, ns.length, rfl, .inl ⟨_, hnl1, by rw [List.length_map]⟩, rfl, _, rfl, ?_⟩
      show (if (!decide (V.int (xs.length : Int) = V.int (ns.length : Int))) = true then _ else _)
      refine ite2 (fun hne => ?_) (fun he => ?_)
      · have : ¬ ds.length = ns.length := by
          intro q
          rw [hxl, q] at hne
          simp at hne
        rw [decide_eq_false this, Bool.false_and] at hord
        have q := k H1 e1
        rw [hord] at q
        exact q
      · have hlen : ds.length = ns.length := by
          rw [hxl] at he
          simp only [Bool.not_eq_true', Bool.not_eq_false, decide_eq_true_eq, V.int.injEq] at he
          omega
        rw [decide_eq_true hlen, Bool.true_and] at hord
        refine ⟨_, rfl, nl, rfl, ⟨_, hnl1⟩, fun Do hDo => ?_⟩
        refine lc_list (K := K) (a := nl) (xs := ns.map V.str) (fun i Hc => Ex H1 Hc ∧ Hc Do = some (.lst (((ns.take i).filter fun n => !decide (ds.countP (isS n) = 1)).map V.str))) ⟨Ex.new hDo, upd_same⟩ (fun i Hc _ ⟨e, _⟩ => ex_l e hnl1) ?_ ?_
        · rintro i y Hc hy ⟨e, hc⟩
          rw [List.getElem?_map] at hy
          obtain ⟨n, hn, rfl⟩ := Option.map_eq_some_iff.mp hy
          have hno : NameOk n := hns n (List.mem_of_getElem? hn)
          have htk : ns.take (i + 1) = ns.take i ++ [n] := by rw [List.take_add_one, hn]; rfl
          refine ⟨rfl, ?_⟩
          refine tt_op ?_
          refine lc_ltV (K := K) (H0 := G) (i := 0) rfl hsq ((ex.trans e1).trans e) (fun Di j Hj => Ex Hc Hj ∧ Hj Di = some (.lst ((List.replicate ((ds.take j).countP (isS n)) n).map V.str))) (fun Di hDi => ⟨Ex.new hDi, upd_same⟩) (fun Di j Hj _ _ ⟨ej, _⟩ => ((ex.trans e1).trans e).trans ej) ?_ ?_
          · rintro Di j x Hj hDi hx ⟨ej, hj⟩
            obtain ⟨dx, hdx, hdn⟩ := hden.at hx
            have hrx := hrp dx (List.mem_of_getElem? hdx)
            have htd : ds.take (j + 1) = ds.take j ++ [dx] := by rw [List.take_add_one, hdx]; rfl
            have hrx2 := hrx
            unfold D.rp at hrx2
            simp only [Bool.and_eq_true, decide_eq_true_eq] at hrx2
            obtain ⟨⟨⟨⟨r1, r2⟩, r3⟩, r4⟩, _⟩ := hrx2
            have hrn := rp_name hno
            unfold D.rp at hrn
            simp only [Bool.and_eq_true, decide_eq_true_eq] at hrn
            obtain ⟨⟨⟨⟨n1, n2⟩, n3⟩, n4⟩, _⟩ := hrn
            have hcnt : (ds.take (j + 1)).countP (isS n) = (ds.take j).countP (isS n) + (if isS n dx = true then 1 else 0) := by
              rw [htd, List.countP_append, List.countP_singleton]
            refine ⟨rfl, _, rfl, x, dx, rfl, hdn.mono (((ex.trans e1).trans e).trans ej), r1, r2, r3, sz_of (by omega), _, rfl, .str n, .str n, rfl, .str n, n1, n2, n3, sz_of (by omega), rfl, _, rfl, ?_⟩
            have hdec : decide (V.str dx.py.shown = V.str (D.str n).py.shown) = isS n dx := by
              rw [← shown_isS hno hrx]
              show decide (V.str dx.py.shown = V.str (PyData.str n).shown) = _
              rw [PyData.shown_str]
              by_cases q : dx.py.shown = reprText n
              · rw [q, decide_eq_true rfl, decide_eq_true rfl]
              · rw [decide_eq_false q, decide_eq_false (fun z => q (V.str.inj z))]
            show (if decide (V.str dx.py.shown = V.str (D.str n).py.shown) = true then _ else _)
            rw [hdec]
            refine ite2 (fun hin => ?_) (fun hout => ?_)
            · have hxs : x = .str n := by
                cases hdn with
                | str z => 
                  have : z = n := of_decide_eq_true hin
                  rw [this]
                | non => cases hin
                | bl => cases hin
                | int => cases hin
                | tup => cases hin
                | lst => cases hin
                | dct => cases hin
              refine ⟨_, rfl, _, hj, sz_lt ?_, ej.mut hDi, ?_⟩
              · rw [List.length_map, List.length_replicate]
                have h1 := List.countP_le_length (p := isS n) (l := ds.take j)
                rw [List.length_take] at h1
                omega
              · rw [upd_same, hcnt, if_pos hin, hxs, List.replicate_succ', List.map_append]
                rfl
            · refine ⟨ej, ?_⟩
              rw [hcnt, if_neg hout, Nat.add_zero]
              exact hj
          · rintro Di Hj hDi ⟨ej, hj⟩
            rw [hxl, List.take_length] at hj
            refine ⟨_, rfl, by show 1 ≤ sizeLine; decide, fun q hq => ?_⟩
            have xq : Ex Hj (upd Hj q (.lst [.str n])) := Ex.new hq
            refine ⟨.list ((List.replicate (ds.countP (isS n)) n).map PyData.str), .list [.str n], .lst (.inl (.inl (xq _ _ hj))) (dp_strs _), .lst (.inl (.inl upd_same)) (dp_strs [n]), shaped_strs _ (fun z hz => by rw [List.eq_of_mem_replicate hz]; exact hno.good.2), shaped_strs [n] (fun z hz => by rw [List.mem_singleton.mp hz]; exact hno.good.2), _, rfl, ?_⟩
            have eB : Ex Hc (upd Hj q (.lst [.str n])) := ej.trans xq
            have cB := eB _ _ hc
            generalize upd Hj q (.lst [.str n]) = HB at eB cB ⊢
            rw [eqv_one]
            refine ite2 (fun hin => ?_) (fun hout => ?_)
            · refine ⟨_, rfl, _, cB, sz_lt ?_, (e.trans eB).mut hDo, ?_⟩
              · rw [List.length_map]
                have h1 := List.length_filter_le (fun n => !decide (ds.countP (isS n) = 1)) (ns.take i)
                rw [List.length_take] at h1
                omega
              · rw [upd_same, htk, List.filter_append, List.filter_cons, if_pos hin, List.map_append]
                rfl
            · refine ⟨e.trans eB, ?_⟩
              rw [htk, List.filter_append, List.filter_cons, if_neg hout, List.filter_nil, List.append_nil]
              exact cB
        · rintro Hc ⟨e, hc⟩
          rw [List.length_map, List.take_length] at hc
          refine ⟨Nat.zero_le _, fun q hq => ?_⟩
          have xq : Ex Hc (upd Hc q (.lst [])) := Ex.new hq
          refine ⟨_, .list [], .lst (.inl (.inl (xq _ _ hc))) (dp_strs _), .lst (.inl (.inl upd_same)) .nil, shaped_strs _ (fun z hz => (hns z (List.mem_filter.mp hz).1).good.2), shaped_ints [], ?_⟩
          rw [eqv_nil]
          have hres : ((ns.filter fun n => !decide (ds.countP (isS n) = 1)).map PyData.str).isEmpty = ordD d ns := by
            rw [hord, List.isEmpty_map]
            rw [Bool.eq_iff_iff, List.isEmpty_iff, List.filter_eq_nil_iff, List.all_eq_true]
            simp
          rw [hres]
          exact k _ ((e1.trans e).trans xq)
    · have hs0 : d.isSeq = false := by simpa using hseq
      rw [hs0]
      refine ⟨_, rfl, ?_⟩
      show (if (!false) = true then _ else _)
      rw [if_pos (show (!false) = true from rfl)]
      have hord : ordD d ns = false := by
        unfold ordD
        rw [hs0]
        rfl
      have q := k H1 e1
      rw [hord] at q
      exact q
end
end K04

namespace K04
open PySem PySem.Spec PyProof.Rows L2 Evl LT
/-! ### the program's is_order -/
abbrev sIsOrder : Stmt := top 14
abbrev NIsOrder : List Str := ["value", "names", "name"]
theorem scIsOrder : FnScope NIsOrder ["value", "names"] (defScope sIsOrder) := ⟨rfl, rfl, rfl, by decide +kernel, rfl, by decide +kernel, by decide +kernel⟩
def isOrd (d : D) (ns : List Str) : Bool := d.isSeq && (decide (d.items.length = ns.length) && ns.all fun n => d.items.any (isS n))
def spIsOrder (K : PySem.W.Frag) : Sp := fun vs H Q _ => ∃ (G : Hp) (v : V) (d : D) (nl : Addr) (ns : List Str), vs = [v, .ref nl] ∧ Ex G H ∧ Den K G v d ∧ SqLT K H nl (ns.map V.str) ∧ ns.length ≤ 1000 ∧ d.items.length ≤ 1000 ∧ ∀ H', Ex H H' → Q (.bl (isOrd d ns)) H'
section
variable {P : Program} {w : World} {K : PySem.W.Frag} {mg : Str → Option Value} {base : Heap}
theorem den_seq {G : Hp} {v : V} {d : D} (hd : Den K G v d) (hseq : d.isSeq = true) : ∃ (a : Addr) (xs : List V), v = .ref a ∧ SqLT K G a xs ∧ DenL K G xs d.items := by
  cases hd with
  | tup h l => exact ⟨_, _, rfl, .inr h, l⟩
  | lst h l => exact ⟨_, _, rfl, .inl h, l⟩
  | non => cases hseq
  | bl => cases hseq
  | int => cases hseq
  | str => cases hseq
  | dct => cases hseq
theorem ok_isorder {f : Addr} {fd : FuncData} (F : Fun K "is_order" "is_order" sIsOrder f fd) (mi : mg "isinstance" = none) (mli : mg "list" = none) (mtu : mg "tuple" = none) (ml : mg "len" = none) (ma : mg "all" = none) :
    FnOk P w K mg base CX0 1 f fd ["value", "names"] (spIsOrder K) := by
  refine F.ok scIsOrder (fun vs H Q E h => ?_) (fun cdv A outer s H vs Q E hr h => ?_)
  · obtain ⟨G, v, d, nl, ns, rfl, _⟩ := h
    rfl
  · obtain ⟨G, v, d, nl, ns, rfl, ex, hd, hnl, hnsl, hil, k⟩ := h
    have hu := hu_of hr
    refine ⟨_, (pss_one (ps_ret (pe_and (pe_callB call_isiT (by rfl) mi (by decide +kernel) (pa_cons (pv 0) (pa_cons (pe_tup (pa_cons (pe_bltn (v := .ty "list") (by rfl) mli (by decide +kernel) rfl) (pa_cons (pe_bltn (v := .ty "tuple") (by rfl) mtu (by decide +kernel) rfl) pa_nil))) pa_nil)))
      (pe_and (pe_cmpR op_eq (pe_callB call_len (by rfl) ml PySem.boot_len (pa_cons (pv 0) pa_nil)) (pe_callB call_len (by rfl) ml PySem.boot_len (pa_cons (pv 1) pa_nil)) (nomark _))
        (pe_one (pe_callB (cr_all rfl) (by rfl) ma (by decide +kernel) (pa_cons (pe_lc (own := [("name", 2)]) (g := (gName 2)) (tt := tYes) (te := tOp (rInAny K) (tVar 2) (tVar 0)) rfl scIsOrder.nd (pi_lt (pv 1)) (blkOk_by (N := NIsOrder) (sc := defScope sIsOrder) (by decide +kernel)) (fun _ _ _ _ _ => (pg_name (i := 2) scIsOrder.nd rfl (.inl rfl))) (fun _ _ _ _ _ => pts_nil) (fun _ _ _ _ _ => (pe_cmpR (op_inAny (K := K) hu) (pv 2) (pv 0) (by rfl)))) pa_nil))))))), ?_⟩
    refine ⟨_, rfl, by show 2 ≤ sizeLine; decide, fun tp htp => ⟨v, tp, _, _, [.type "list", .type "tuple"], d.isSeq, rfl, upd_same, .cons (.ty _) (.cons (.ty _) .nil), hd.ty (ex.trans (Ex.new htp)), kit_lt d, _, rfl, ?_⟩⟩
    have e1 : Ex H (upd H tp (.tup [.ty "list", .ty "tuple"])) := Ex.new htp
    generalize upd H tp (.tup [.ty "list", .ty "tuple"]) = H1 at e1 ⊢
    refine ite2 (fun hseq => ?_) (fun hseq => ?_)
    · obtain ⟨a, xs, rfl, hsq, hden⟩ := den_seq hd hseq
      have hxl : xs.length = d.items.length := hden.length
      have hsq1 := ex_lt (ex.trans e1) hsq
      have hnl1 := ex_lt e1 hnl
      have hord : isOrd d ns = (decide (d.items.length = ns.length) && ns.all fun n => d.items.any (isS n)) := by
        unfold isOrd
        rw [hseq, Bool.true_and]
      refine ⟨_, rfl, .ref a, xs.length, rfl, hsq1.imp (fun h => ⟨_, h, rfl⟩) (fun h => ⟨_, h, rfl⟩), _, rfl, .ref nl, ns.length, rfl, hnl1.imp (fun h => ⟨_, h, by rw [List.length_map]⟩) (fun h => ⟨_, h, by rw [List.length_map]⟩), rfl, _, rfl, ?_⟩
      refine ite2 (fun he => ?_) (fun hne => ?_)
      · have hlen : d.items.length = ns.length := by
          rw [hxl] at he
          simp only [decide_eq_true_eq, V.int.injEq] at he
          omega
        rw [decide_eq_true hlen, Bool.true_and] at hord
        refine tcb_one ?_
        refine lc_ltV (K := K) (H0 := H) (i := 1) rfl hnl e1 (fun Dl i Hc => Ex H1 Hc ∧ Hc Dl = some (.lst (((ns.take i).map fun n => d.items.any (isS n)).map V.bl))) (fun Dl hD => ⟨Ex.new hD, upd_same⟩) (fun Dl i Hc _ _ ⟨e, _⟩ => e1.trans e) ?_ ?_
        · rintro Dl i x Hc hD hx ⟨e, hc⟩
          rw [List.getElem?_map] at hx
          obtain ⟨n, hn, rfl⟩ := Option.map_eq_some_iff.mp hx
          have htk : ns.take (i + 1) = ns.take i ++ [n] := by rw [List.take_add_one, hn]; rfl
          have eG := (ex.trans e1).trans e
          refine ⟨rfl, _, rfl, _, rfl, n, a, xs, d.items, rfl, rfl, ex_lt eG hsq, hden.mono eG, _, hc, sz_lt ?_, e.mut hD, ?_⟩
          · rw [List.length_map, List.length_map, List.length_take]
            omega
          · rw [upd_same, htk, List.map_append, List.map_append]
            rfl
        · rintro Dl Hc hD ⟨e, hc⟩
          rw [List.length_map, List.take_length] at hc
          refine ⟨Dl, _, rfl, .inl (.inl hc), ?_⟩
          have q := k Hc (e1.trans e)
          rw [hord] at q
          rw [List.all_map]
          exact q
      · have hlen : ¬ d.items.length = ns.length := by
          intro q
          refine hne (decide_eq_true ?_)
          rw [hxl, q]
        rw [decide_eq_false hlen, Bool.false_and] at hord
        have q := k H1 e1
        rw [hord] at q
        refine ?_
        first | exact q | exact iteF q | exact ⟨_, rfl, iteF q⟩
    · have hs0 : d.isSeq = false := by simpa using hseq
      have hord : isOrd d ns = false := by
        unfold isOrd
        rw [hs0]
        rfl
      have q := k H1 e1
      rw [hord] at q
      exact q
end
end K04

namespace K04
open PySem PySem.Spec PyProof.Rows L2 Evl LT
/-! ### are_names, best_of -/
abbrev sAreNames : Stmt := top 13
abbrev NAreNames : List Str := ["value", "item"]
theorem scAreNames : FnScope NAreNames ["value"] (defScope sAreNames) := ⟨rfl, rfl, rfl, by decide +kernel, rfl, by decide +kernel, by decide +kernel⟩
abbrev sBestLeft : Stmt := top 18
abbrev NBestLeft : List Str := ["ranking", "gone", "gift"]
theorem scBestLeft : FnScope NBestLeft ["ranking", "gone"] (defScope sBestLeft) := ⟨rfl, rfl, rfl, by decide +kernel, rfl, by decide +kernel, by decide +kernel⟩
def isND : D → Bool
  | .str z => isN (.str z)
  | _ => false
def strsD : List D → List Str
  | [] => []
  | .str z :: r => z :: strsD r
  | _ :: r => strsD r
/-- a list or tuple of names, no two alike -/
def namesD (d : D) : Bool := d.isSeq && (d.items.all isND && decide ((strsD d.items).Nodup))
theorem isND_of {K : PySem.W.Frag} {G : Hp} {v : V} {d : D} (h : Den K G v d) : isN v = isND d := by
  cases h with
  | str z => rfl
  | non => exact isN_not fun _ q => nomatch q
  | bl => exact isN_not fun _ q => nomatch q
  | int => exact isN_not fun _ q => nomatch q
  | tup => exact isN_not fun _ q => nomatch q
  | lst => exact isN_not fun _ q => nomatch q
  | dct => exact isN_not fun _ q => nomatch q
theorem all_names {K : PySem.W.Frag} {G : Hp} : ∀ {vs : List V} {ds : List D}, DenL K G vs ds → ds.all isND = true → vs = (strsD ds).map V.str ∧ ds = (strsD ds).map D.str ∧ ∀ z ∈ strsD ds, NameOk z
  | _, _, .nil, _ => ⟨rfl, rfl, fun z hz => by cases hz⟩
  | _, _, .cons (d := d) hd l, h => by
    rw [List.all_cons, Bool.and_eq_true] at h
    obtain ⟨h1, h2, h3⟩ := all_names l h.2
    cases hd with
    | str z =>
      refine ⟨?_, ?_, fun y hy => ?_⟩
      · show _ = V.str z :: _
        rw [← h1]
      · show _ = D.str z :: _
        rw [← h2]
      · rcases List.mem_cons.mp (show y ∈ z :: strsD _ from hy) with rfl | hy
        · exact isN_ok.mp h.1
        · exact h3 y hy
    | non => exact absurd h.1 Bool.false_ne_true
    | bl => exact absurd h.1 Bool.false_ne_true
    | int => exact absurd h.1 Bool.false_ne_true
    | tup => exact absurd h.1 Bool.false_ne_true
    | lst => exact absurd h.1 Bool.false_ne_true
    | dct => exact absurd h.1 Bool.false_ne_true
def spAreNames (K : PySem.W.Frag) : Sp := fun vs H Q _ => ∃ (G : Hp) (v : V) (d : D), vs = [v] ∧ Ex G H ∧ Den K G v d ∧ (∀ e ∈ d.items, e.short = true) ∧ d.items.length ≤ 1000 ∧ ∀ H', Ex H H' → Q (.bl (namesD d)) H'
/-- the first of rk that is not gone -/
def leftV (rk : List Str) (ls : List V) : V := match rk.find? (fun z => !inV (.str z) ls) with
  | some z => .str z
  | none => .non
def spBestLeft (K : PySem.W.Frag) : Sp := fun vs H Q _ => ∃ (r g : Addr) (rk : List Str) (ls : List V), vs = [.ref r, .ref g] ∧ SqLT K H r (rk.map V.str) ∧ SqLT K H g ls ∧ ls.all flatV = true ∧ rk.length ≤ 1000 ∧ ls.length ≤ 1000 ∧ Q (leftV rk ls) H
section
variable {P : Program} {w : World} {K : PySem.W.Frag} {mg : Str → Option Value} {base : Heap}
theorem ok_arenames {f : Addr} {fd : FuncData} (F : Fun K "are_names" "are_names" sAreNames f fd) (mi : mg "isinstance" = none) (mli : mg "list" = none) (mtu : mg "tuple" = none) (ml : mg "len" = none) (ma : mg "all" = none) (ms : mg "set" = none)
    (ci : Cal P w K mg base 1 "is_name" ["value"] (spIsName K)) : FnOk P w K mg base CX0 2 f fd ["value"] (spAreNames K) := by
  obtain ⟨fI, fdI, GI, gI, kI, bI⟩ := ci.ex
  refine F.ok scAreNames (fun vs H Q E h => ?_) (fun cdv A outer s H vs Q E hr h => ?_)
  · obtain ⟨G, v, d, rfl, _⟩ := h
    rfl
  · obtain ⟨G, v, d, rfl, ex, hd, hsh, hil, k⟩ := h
    refine ⟨_, (pss_cons (ps_if (PW.pt (pw_or (pt_not (pt_val (pe_callB call_isiT (by rfl) mi (by decide +kernel) (pa_cons (pv 0) (pa_cons (pe_tup (pa_cons (pe_bltn (v := .ty "list") (by rfl) mli (by decide +kernel) rfl) (pa_cons (pe_bltn (v := .ty "tuple") (by rfl) mtu (by decide +kernel) rfl) pa_nil))) pa_nil))))) (pw_or1 (pt_not (pt_val (pe_callB (cr_all rfl) (by rfl) ma (by decide +kernel) (pa_cons (pe_lc (own := [("item", 1)]) (g := (gName 1)) (tt := tYes) rfl scAreNames.nd (pi_lt (pv 0)) (blkOk_by (N := NAreNames) (sc := defScope sAreNames) (by decide +kernel)) (fun _ _ _ _ _ => (pg_name (i := 1) scAreNames.nd rfl (.inl rfl))) (fun _ _ _ _ _ => pts_nil) (fun _ _ _ _ _ => (pe_call GI hr rfl gI kI bI .nil pass0 (pa_cons (pv 1) pa_nil)))) pa_nil))))))) (pss_one (ps_ret pe_bl)) pss_nil)
      (pss_one (ps_ret (pe_cmpR op_eq (pe_lenUq rfl ml ms (pv 0)) (pe_callB call_len (by rfl) ml PySem.boot_len (pa_cons (pv 0) pa_nil)) (nomark _))))), ?_⟩
    refine ⟨_, rfl, by show 2 ≤ sizeLine; decide, fun tp htp => ⟨v, tp, _, _, [.type "list", .type "tuple"], d.isSeq, rfl, upd_same, .cons (.ty _) (.cons (.ty _) .nil), hd.ty (ex.trans (Ex.new htp)), kit_lt d, _, rfl, ?_⟩⟩
    have e1 : Ex H (upd H tp (.tup [.ty "list", .ty "tuple"])) := Ex.new htp
    generalize upd H tp (.tup [.ty "list", .ty "tuple"]) = H1 at e1 ⊢
    by_cases hseq : d.isSeq = true
    · obtain ⟨a, xs, rfl, hsq, hden⟩ := den_seq hd hseq
      have hxl : xs.length = d.items.length := hden.length
      rw [hseq]
      show (if (!true) = true then _ else _)
      rw [if_neg (by decide)]
      have hnm : namesD d = (d.items.all isND && decide ((strsD d.items).Nodup)) := by
        unfold namesD
        rw [hseq, Bool.true_and]
      refine tn_val (tcb_one ?_)
      have e1G := ex.trans e1
      refine lc_ltV (K := K) (H0 := G) (i := 0) rfl hsq e1G (fun Dl i Hc => Ex H1 Hc ∧ Hc Dl = some (.lst (((d.items.take i).map isND).map V.bl))) (fun Dl hD => ⟨Ex.new hD, upd_same⟩) (fun Dl i Hc _ _ ⟨e, _⟩ => e1G.trans e) ?_ ?_
      · rintro Dl i x Hc hD hx ⟨e, hc⟩
        obtain ⟨dx, hdx, hdn⟩ := hden.at hx
        have htk : d.items.take (i + 1) = d.items.take i ++ [dx] := by rw [List.take_add_one, hdx]; rfl
        have eG := e1G.trans e
        refine ⟨rfl, _, rfl, x, rfl, hdn.any (hsh dx (List.mem_of_getElem? hdx)) eG, fun H2 e2 => ?_⟩
        refine ⟨_, e2 _ _ hc, sz_lt ?_, (e.trans e2).mut hD, ?_⟩
        · rw [List.length_map, List.length_map, List.length_take]
          omega
        · rw [upd_same, htk, List.map_append, List.map_append, isND_of hdn]
          rfl
      · rintro Dl Hc hD ⟨e, hc⟩
        rw [hxl, List.take_length] at hc
        refine ⟨Dl, _, rfl, .inl (.inl hc), _, rfl, ?_⟩
        rw [List.all_map]
        have eG := e1G.trans e
        refine ite2 (fun hn => ?_) (fun hy => ?_)
        · have hf : d.items.all isND = false := by
            have : (!(d.items.all isND)) = true := hn
            simpa using this
          rw [hf, Bool.false_and] at hnm
          have q := k Hc (e1.trans e)
          rw [hnm] at q
          exact q
        · have hf : d.items.all isND = true := by
            have : ¬ (!(d.items.all isND)) = true := hy
            simpa using this
          rw [hf, Bool.true_and] at hnm
          obtain ⟨n1, n2, n3⟩ := all_names hden hf
          have hl : (strsD d.items).length = d.items.length := by
            have := congrArg List.length n2
            rw [List.length_map] at this
            exact this.symm
          refine ⟨_, rfl, a, strsD d.items, rfl, by rw [← n1]; exact ex_lt eG hsq, by omega, _, rfl, .ref a, xs.length, rfl, (ex_lt eG hsq).imp (fun h => ⟨_, h, rfl⟩) (fun h => ⟨_, h, rfl⟩), rfl, ?_⟩
          have q := k Hc (e1.trans e)
          rw [hnm] at q
          have : decide (V.int ((uq (strsD d.items)).length : Nat) = V.int (xs.length : Nat)) = decide ((strsD d.items).Nodup) := by
            rw [hxl, ← hl]
            have u := uq_nodup (strsD d.items)
            by_cases hu : (strsD d.items).Nodup
            · rw [decide_eq_true hu, u.mpr hu, decide_eq_true rfl]
            · rw [decide_eq_false hu, decide_eq_false]
              intro z
              refine hu (u.mp ?_)
              have := V.int.inj z
              omega
          rw [this]
          exact q
    · have hs0 : d.isSeq = false := by simpa using hseq
      rw [hs0]
      show (if (!false) = true then _ else _)
      rw [if_pos (show (!false) = true from rfl)]
      have hnm : namesD d = false := by
        unfold namesD
        rw [hs0]
        rfl
      have q := k H1 e1
      rw [hnm] at q
      exact q
theorem ok_bestleft {f : Addr} {fd : FuncData} (F : Fun K "best_left" "best_left" sBestLeft f fd) : FnOk P w K mg base CX0 1 f fd ["ranking", "gone"] (spBestLeft K) := by
  refine F.ok scBestLeft (fun vs H Q E h => ?_) (fun cdv A outer s H vs Q E hr h => ?_)
  · obtain ⟨r, g, rk, ls, rfl, _⟩ := h
    rfl
  · obtain ⟨r, g, rk, ls, rfl, hrk, hls, hfl, hl1, hl2, k⟩ := h
    refine ⟨_, (pss_cons (ps_for PassesOwn.never rfl (pi_lt (pv 0)) (pg_name (i := 2) scBestLeft.nd rfl (.inl rfl)) (pss_one (ps_if (pt_cmpR op_notIn_seq (pv 2) (pv 1) (by rfl)) (pss_one (ps_ret (pv 2))) pss_nil)))
      (pss_one (ps_ret pe_non))), ?_⟩
    refine ⟨_, rfl, r, rfl, for_lt (K := K) (H0 := H) hrk (fun i σ Hc => Hc = H ∧ (∀ z ∈ rk.take i, inV (.str z) ls = true) ∧ ∃ o, σ = [some (.ref r), some (.ref g), o]) ⟨rfl, fun z hz => (by cases hz), none, rfl⟩ (fun i σ Hc _ ⟨e, _⟩ => by rw [e]; exact Ex.refl H) ?_ ?_⟩
    · rintro i x σ Hc hx ⟨rfl, hno, o, rfl⟩
      rw [List.getElem?_map] at hx
      obtain ⟨z, hz, rfl⟩ := Option.map_eq_some_iff.mp hx
      refine ⟨_, rfl, _, rfl, g, _, rfl, hls, rfl, hfl, _, rfl, ?_⟩
      show (if (if true = true then !inV (.str z) ls else inV (.str z) ls) = true then _ else _)
      rw [if_pos rfl]
      refine ite2 (fun hin => ?_) (fun hout => ?_)
      · refine ⟨_, rfl, ?_⟩
        have hb : leftV rk ls = .str z := by
          unfold leftV
          have hi : i < rk.length := (List.getElem?_eq_some_iff.mp hz).1
          have : rk = rk.take i ++ z :: rk.drop (i + 1) := by
            have e2 : rk[i] = z := (List.getElem?_eq_some_iff.mp hz).2
            rw [← e2, List.getElem_cons_drop, List.take_append_drop]
          rw [this, List.find?_append]
          have hn : (rk.take i).find? (fun z => !inV (.str z) ls) = none := List.find?_eq_none.mpr fun y hy => by simpa using hno y hy
          rw [hn, Option.none_or, List.find?_cons, hin]
        rw [hb] at k
        exact k
      · refine ⟨rfl, fun y hy => ?_, _, rfl⟩
        rw [List.take_add_one, hz] at hy
        rcases List.mem_append.mp hy with h | h
        · exact hno y h
        · rw [Option.toList_some, List.mem_singleton] at h
          rw [h]
          simpa using hout
    · rintro σ Hc ⟨rfl, hno, o, rfl⟩
      rw [List.length_map, List.take_length] at hno
      have hb : leftV rk ls = .non := by
        unfold leftV
        rw [List.find?_eq_none.mpr fun y hy => by simpa using hno y hy]
      rw [hb] at k
      exact k
end
end K04

namespace K04
open PySem PySem.Spec PyProof.Rows L2 Evl LT
/-! ### check_gifts, check_rankings, where they find nothing wrong -/
abbrev sCheckGifts : Stmt := top 16
abbrev NCheckGifts : List Str := ["gifts"]
theorem scCheckGifts : FnScope NCheckGifts ["gifts"] (defScope sCheckGifts) := ⟨rfl, rfl, rfl, by decide +kernel, rfl, by decide +kernel, by decide +kernel⟩
abbrev sCheckRankings : Stmt := top 17
abbrev NCheckRankings : List Str := ["gifts", "rankings", "guest", "ranking"]
theorem scCheckRankings : FnScope NCheckRankings ["gifts", "rankings"] (defScope sCheckRankings) := ⟨rfl, rfl, rfl, by decide +kernel, rfl, by decide +kernel, by decide +kernel⟩
def spCheckGifts (K : PySem.W.Frag) : Sp := fun vs H Q _ => ∃ (G : Hp) (v : V) (d : D), vs = [v] ∧ Ex G H ∧ Den K G v d ∧ (∀ e ∈ d.items, e.short = true) ∧ d.items.length ≤ 16 ∧ namesD d = true ∧ ∀ H', Ex H H' → Q .non H'
/-- G: the heap without the dict itself -/
def spCheckRankings (K : PySem.W.Frag) : Sp := fun vs H Q _ => ∃ (G : Hp) (ga rd : Addr) (gs : List Str) (kvs : List (Key × V)) (ds : List (Str × D)), vs = [.ref ga, .ref rd] ∧ Ex G H ∧ G rd = none ∧ H rd = some (.dK kvs) ∧
  SqLT K G ga (gs.map V.str) ∧ gs.length ≤ 1000 ∧ DenK K G kvs (ds.map fun p => (.inr p.1, p.2)) ∧ ds.length ≤ 16 ∧ (∀ p ∈ ds, NameOk p.1 ∧ p.2.items.length ≤ 1000 ∧ isOrd p.2 gs = true) ∧ ∀ H', Ex H H' → Q .non H'
section
variable {P : Program} {w : World} {K : PySem.W.Frag} {mg : Str → Option Value} {base : Heap}
theorem ok_checkgifts {f : Addr} {fd : FuncData} (F : Fun K "check_gifts" "check_gifts" sCheckGifts f fd) (ml : mg "len" = none) (mG : ∃ t, mg "GIFTS" = some (.int 16 t)) (ca : Cal P w K mg base 2 "are_names" ["value"] (spAreNames K)) :
    FnOk P w K mg base CX0 3 f fd ["gifts"] (spCheckGifts K) := by
  obtain ⟨fA, fdA, GA, gA, kA, bA⟩ := ca.ex
  obtain ⟨tg, mG⟩ := mG
  refine F.ok scCheckGifts (fun vs H Q E h => ?_) (fun cdv A outer s H vs Q E hr h => ?_)
  · obtain ⟨G, v, d, rfl, _⟩ := h
    rfl
  · obtain ⟨G, v, d, rfl, ex, hd, hsh, hil, hnm, k⟩ := h
    refine ⟨_, (pss_cons (ps_if (pt_not (pt_val (pe_call GA hr rfl gA kA bA .nil pass0 (pa_cons (pv 0) pa_nil)))) (pss_one ps_never) pss_nil)
      (pss_one (ps_if (pt_cmpR op_gt (pe_callB call_len (by rfl) ml PySem.boot_len (pa_cons (pv 0) pa_nil)) (pe_glob (v := .int 16) rfl mG ⟨_, rfl⟩) (nomark _)) (pss_one ps_never) pss_nil))), ?_⟩
    refine ⟨_, rfl, G, v, d, rfl, ex, hd, hsh, by omega, fun H2 e2 => ?_⟩
    rw [hnm]
    refine ⟨_, rfl, ?_⟩
    show (if (!true) = true then _ else _)
    rw [if_neg (by decide)]
    have hseq : d.isSeq = true := by
      unfold namesD at hnm
      rw [Bool.and_eq_true] at hnm
      exact hnm.1
    obtain ⟨a, xs, rfl, hsq, hden⟩ := den_seq hd hseq
    have hsq2 := ex_lt (ex.trans e2) hsq
    have hxl := hden.length
    refine ⟨_, rfl, .ref a, xs.length, rfl, hsq2.imp (fun h => ⟨_, h, rfl⟩) (fun h => ⟨_, h, rfl⟩), _, _, rfl, rfl, _, rfl, ?_⟩
    refine ite2 (fun hgt => ?_) (fun _ => k H2 e2)
    have := of_decide_eq_true hgt
    omega
theorem ok_checkrankings {f : Addr} {fd : FuncData} (F : Fun K "check_rankings" "check_rankings" sCheckRankings f fd) (mi : mg "isinstance" = none) (mdi : mg "dict" = none) (ml : mg "len" = none) (mG : ∃ t, mg "GUESTS" = some (.int 16 t))
    (ci : Cal P w K mg base 1 "is_name" ["value"] (spIsName K)) (co : Cal P w K mg base 1 "is_order" ["value", "names"] (spIsOrder K)) :
    FnOk P w K mg base CX0 2 f fd ["gifts", "rankings"] (spCheckRankings K) := by
  obtain ⟨fI, fdI, GI, gI, kI, bI⟩ := ci.ex
  obtain ⟨fO, fdO, GO, gO, kO, bO⟩ := co.ex
  obtain ⟨tg, mG⟩ := mG
  refine F.ok scCheckRankings (fun vs H Q E h => ?_) (fun cdv A outer s H vs Q E hr h => ?_)
  · obtain ⟨G, ga, rd, gs, kvs, ds, rfl, _⟩ := h
    rfl
  · obtain ⟨G, ga, rd, gs, kvs, ds, rfl, ex, hG, hrd, hga, hgl, hden, hdl, hok, k⟩ := h
    have hkl : kvs.length = ds.length := by rw [hden.length, List.length_map]
    have hkeys : ∀ (i : Nat) (ky : Key) (v : V), kvs[i]? = some (ky, v) → ∃ (z : Str) (d : D), ds[i]? = some (z, d) ∧ ky = .inr z ∧ Den K G v d := by
      have go : ∀ {kvs : List (Key × V)} {ds : List (Str × D)}, DenK K G kvs (ds.map fun p => ((.inr p.1 : Key), p.2)) → ∀ (i : Nat) (ky : Key) (v : V), kvs[i]? = some (ky, v) → ∃ (z : Str) (d : D), ds[i]? = some (z, d) ∧ ky = .inr z ∧ Den K G v d := by
        intro kvs
        induction kvs with
        | nil => intro ds _ i ky v h; simp at h
        | cons p r ih =>
          intro ds hd i ky v h
          cases ds with
          | nil => cases hd
          | cons q t =>
            obtain ⟨z, dz⟩ := q
            cases hd with
            | cons h1 l =>
              cases i with
              | zero => cases h; exact ⟨z, dz, rfl, rfl, h1⟩
              | succ i => exact ih l i ky v h
      exact go hden
    have nrd : ∀ {Hx : Hp}, (∀ b o, H b = some o → b ≠ rd → Hx b = some o) → Ex G Hx := fun {Hx} hx b o hb => hx b o (ex b o hb) (fun q => by rw [q, hG] at hb; cases hb)
    refine ⟨_, (pss_cons (ps_if (pt_not (pt_val (pe_callB call_isi (by rfl) mi (by decide +kernel) (pa_cons (pv 1) (pa_cons (pe_bltn (v := .ty "dict") (by rfl) mdi (by decide +kernel) rfl) pa_nil))))) (pss_one ps_never) pss_nil)
      (pss_cons (ps_lock (ps_for PassesOwn.never rfl (pi_keys (pv 1)) (pg_name (i := 2) scCheckRankings.nd rfl (.inl rfl)) (pss_one (ps_if (pt_not (pt_val (pe_call GI hr rfl gI kI bI .nil pass0 (pa_cons (pv 2) pa_nil)))) (pss_one ps_never) pss_nil))))
      (pss_cons (ps_if (pt_cmpR op_gt (pe_callB call_lenD (by rfl) ml PySem.boot_len (pa_cons (pv 1) pa_nil)) (pe_glob (v := .int 16) rfl mG ⟨_, rfl⟩) (nomark _)) (pss_one ps_never) pss_nil)
      (pss_one (ps_lock (ps_for PassesOwn.never rfl (pi_items (pv 1)) (pg_tup (by rfl) (pgs_cons (pg_name (i := 2) scCheckRankings.nd rfl (.inl rfl)) (pgs_cons (pg_name (i := 3) scCheckRankings.nd rfl (.inl rfl)) pgs_nil))) (pss_one (ps_if (pt_not (pt_val (pe_call GO hr rfl gO kO bO .nil pass0 (pa_cons (pv 3) (pa_cons (pv 0) pa_nil))))) (pss_one ps_never) pss_nil)))))))), ?_⟩
    refine ⟨_, rfl, .ref rd, .ty "dict", _, _, true, rfl, .ty "dict", .base (.dK hrd), kit_ty (by decide +kernel), _, rfl, ?_⟩
    show (if (!true) = true then _ else _)
    rw [if_neg (by decide)]
    refine ⟨rd, _, hrd, trivial, fun od => ?_⟩
    refine ⟨_, rfl, rd, od, rfl, .inl ⟨kvs, upd_same, ?_⟩⟩
    refine for_it walk_keys (fun i σ Hc => (∀ b o, H b = some o → b ≠ rd → Hc b = some o) ∧ Hc rd = some (.frz od (.dK kvs)) ∧ ∃ o, σ = [some (.ref ga), some (.ref rd), o, none]) ⟨fun b o hb ne => by rw [upd_ne ne]; exact hb, upd_same, none, rfl⟩ (fun i σ Hc _ ⟨_, h, _⟩ => h) ?_ ?_
    · rintro i x σ Hc H' hi ⟨e, hc, o, rfl⟩ ⟨rfl, ky, v, hkv, rfl⟩
      obtain ⟨z, d, hz, rfl, hdn⟩ := hkeys i ky v hkv
      have hn := (hok _ (List.mem_of_getElem? hz)).1
      refine ⟨_, rfl, .str z, rfl, .inl ⟨z, rfl, hn.good.1, hn.good.2⟩, fun H2 e2 => ?_⟩
      have : isN (.str z) = true := isN_ok.mpr hn
      rw [this]
      refine ⟨_, rfl, ?_⟩
      show (if (!true) = true then _ else _)
      rw [if_neg (by decide)]
      exact ⟨fun b ob hb ne => e2 _ _ (e b ob hb ne), e2 _ _ hc, _, rfl⟩
    · rintro σ Hc ⟨e, hc, o, rfl⟩
      refine ⟨hc, ?_⟩
      have e1 : Ex H (upd Hc rd (.dK kvs)) := fun b ob hb => by
        by_cases q : b = rd
        · subst q; rw [upd_same, ← hrd, hb]
        · rw [upd_ne q]; exact e b ob hb q
      have hrd1 : (upd Hc rd (.dK kvs)) rd = some (.dK kvs) := upd_same
      generalize upd Hc rd (.dK kvs) = H1 at e1 hrd1 ⊢
      refine ⟨_, rfl, rd, kvs, rfl, hrd1, _, _, rfl, rfl, _, rfl, ?_⟩
      refine ite2 (fun hgt => ?_) (fun _ => ?_)
      · have := of_decide_eq_true hgt
        omega
      · refine ⟨rd, _, hrd1, trivial, fun od2 => ?_⟩
        refine ⟨_, rfl, rd, od2, kvs, rfl, upd_same, ?_⟩
        refine for_it walk_items (fun i σ Hc => (∀ b o, H1 b = some o → b ≠ rd → Hc b = some o) ∧ Hc rd = some (.frz od2 (.dK kvs)) ∧ ∃ o o3, σ = [some (.ref ga), some (.ref rd), o, o3]) ⟨fun b o hb ne => by rw [upd_ne ne]; exact hb, upd_same, _, _, rfl⟩ (fun i σ Hc _ ⟨_, h, _⟩ => h) ?_ ?_
        · rintro i x σ Hc H' hi ⟨e, hc, o, o3, rfl⟩ ⟨T, x1, x2, rfl, hT, rfl, h1, h2⟩
          obtain ⟨⟨ky, v⟩, hkv⟩ : ∃ p, kvs[i]? = some p := ⟨_, List.getElem?_eq_getElem hi⟩
          simp only [hkv] at h1 h2
          cases h1
          cases h2
          obtain ⟨z, d, hz, rfl, hdn⟩ := hkeys i ky v hkv
          obtain ⟨_, hil, hord⟩ := hok _ (List.mem_of_getElem? hz)
          have eT : Ex Hc (upd Hc T (.tup [kV (.inr z), v])) := Ex.new hT
          have eG : Ex G Hc := nrd fun b ob hb ne => e b ob (e1 _ _ hb) ne
          refine ⟨T, _, rfl, .inl (.inl upd_same), rfl, _, _, rfl, _, _, rfl, rfl, ?_⟩
          refine ⟨_, rfl, _, rfl, G, v, d, ga, gs, rfl, eG.trans eT, hdn, ex_lt (eG.trans eT) hga, hgl, hil, fun H2 e2 => ?_⟩
          rw [hord]
          refine ⟨_, rfl, ?_⟩
          show (if (!true) = true then _ else _)
          rw [if_neg (by decide)]
          exact ⟨fun b ob hb ne => e2 _ _ (eT _ _ (e b ob hb ne)), e2 _ _ (eT _ _ hc), _, _, rfl⟩
        · rintro σ Hc ⟨e, hc, o, o3, rfl⟩
          refine ⟨hc, ?_⟩
          refine k _ (fun b ob hb => ?_)
          by_cases q : b = rd
          · subst q; rw [upd_same, ← hrd, hb]
          · rw [upd_ne q]; exact e b ob (e1 _ _ hb) q
end
end K04

namespace K04
open PySem PySem.Spec PyProof.Rows L2 Evl LT
/-! ### Wishes -/
abbrev sWInit : Stmt := inClass (top 19) 0
abbrev NWInit : List Str := ["self", "gifts", "rankings", "guest"]
theorem scWInit : FnScope NWInit ["self", "gifts", "rankings"] (defScope sWInit) := ⟨rfl, rfl, rfl, by decide +kernel, rfl, by decide +kernel, by decide +kernel⟩
abbrev sWGifts : Stmt := inClass (top 19) 2
abbrev NWGifts : List Str := ["self"]
theorem scWGifts : FnScope NWGifts ["self"] (defScope sWGifts) := ⟨rfl, rfl, rfl, by decide +kernel, rfl, by decide +kernel, by decide +kernel⟩
abbrev sWGuests : Stmt := inClass (top 19) 3
abbrev NWGuests : List Str := ["self"]
theorem scWGuests : FnScope NWGuests ["self"] (defScope sWGuests) := ⟨rfl, rfl, rfl, by decide +kernel, rfl, by decide +kernel, by decide +kernel⟩
abbrev sWRanking : Stmt := inClass (top 19) 4
abbrev NWRanking : List Str := ["self", "guest"]
theorem scWRanking : FnScope NWRanking ["self", "guest"] (defScope sWRanking) := ⟨rfl, rfl, rfl, by decide +kernel, rfl, by decide +kernel, by decide +kernel⟩
structure TxtW (K : PySem.W.Frag) (mg : Str → Option Value) (C : Addr) : Prop where
  cl : Cls K C
  n1 : NoAttr K C "_gifts"
  n2 : NoAttr K C "_guests"
  n3 : NoAttr K C "_rankings"
  mgC : mg "Wishes" = some (.ref C)
  li : mg "list" = none
  tu : mg "tuple" = none
theorem any_isS {l : List Str} {n : Str} : (l.map D.str).any (isS n) = decide (n ∈ l) := by
  induction l with
  | nil => rfl
  | cons z l ih =>
    rw [List.map_cons, List.any_cons, ih]
    show (decide (z = n) || decide (n ∈ l)) = decide (n ∈ z :: l)
    rw [Bool.eq_iff_iff]
    simp only [Bool.or_eq_true, decide_eq_true_eq, List.mem_cons]
    exact or_congr ⟨Eq.symm, Eq.symm⟩ Iff.rfl
theorem isOrd_perm {l gs : List Str} (h : l.Perm gs) : isOrd (.tup (l.map D.str)) gs = true := by
  unfold isOrd
  show (true && (decide ((l.map D.str).length = gs.length) && gs.all fun n => (l.map D.str).any (isS n))) = true
  rw [Bool.true_and, Bool.and_eq_true, List.length_map]
  refine ⟨decide_eq_true h.length_eq, List.all_eq_true.mpr fun n hn => ?_⟩
  rw [any_isS]
  exact decide_eq_true (h.symm.subset hn)
theorem strsD_strs : ∀ gs : List Str, strsD (gs.map D.str) = gs
  | [] => rfl
  | z :: r => by
    show z :: strsD (r.map D.str) = _
    rw [strsD_strs r]
theorem namesD_ok {gs : List Str} (hn : gs.Nodup) (ho : ∀ z ∈ gs, NameOk z) : namesD (dStrs gs) = true := by
  unfold namesD
  show (true && ((gs.map D.str).all isND && decide ((strsD (gs.map D.str)).Nodup))) = true
  rw [strsD_strs, decide_eq_true hn, Bool.and_true, Bool.true_and]
  refine List.all_eq_true.mpr fun d hd => ?_
  obtain ⟨z, hz, rfl⟩ := List.mem_map.mp hd
  exact isN_ok.mpr (ho z hz)
def spWInit (K : PySem.W.Frag) (C : Addr) : Sp := fun vs H Q _ => ∃ (x ga rd : Addr) (G : Hp) (dx : Addr) (gs : List Str) (R : List (Str × List Str)) (kvs : List (Key × V)), vs = [.ref x, .ref ga, .ref rd] ∧ H x = some (.ins C dx []) ∧ Ex G H ∧ G x = none ∧ G rd = none ∧ H rd = some (.dK kvs) ∧
  SqL K G ga (gs.map V.str) ∧ RawOk gs R ∧ gs.length ≤ 16 ∧ R.length ≤ 16 ∧ DenK K G kvs (tRanks R) ∧ ∀ H', WNew K C H G H' x gs R → (∀ b o, H b = some o → b ≠ x → H' b = some o) → Ex G H' → Q .non H'
def spWGifts (K : PySem.W.Frag) (C : Addr) : Sp := fun vs H Q _ => ∃ (x : Addr) (gs : List Str) (R : List (Str × List Str)), vs = [.ref x] ∧ WAt K C H x gs R ∧ ∀ l, H l = none → Q (.ref l) (upd H l (.lst (gs.map V.str)))
def spWGuests (K : PySem.W.Frag) (C : Addr) : Sp := fun vs H Q _ => ∃ (x : Addr) (gs : List Str) (R : List (Str × List Str)), vs = [.ref x] ∧ WAt K C H x gs R ∧ ∀ l, H l = none → Q (.ref l) (upd H l (.lst ((R.map (·.1)).map V.str)))
section
variable {P : Program} {w : World} {K : PySem.W.Frag} {mg : Str → Option Value} {base : Heap}
theorem ok_wgifts {f C : Addr} {fd : FuncData} (F : Fun K "gifts" "Wishes.gifts" sWGifts f fd) (T : TxtW K mg C) : FnOk P w K mg base CX0 1 f fd ["self"] (spWGifts K C) := by
  refine F.ok scWGifts (fun vs H Q E h => ?_) (fun cdv A outer s H vs Q E hr h => ?_)
  · obtain ⟨x, gs, R, rfl, _⟩ := h
    rfl
  · obtain ⟨x, gs, R, rfl, ⟨dx, l1, l2, d, kvs, h1, h2, h3, h4, h5⟩, k⟩ := h
    refine ⟨_, (pss_one (ps_ret (pe_callTy call_list_of (by rfl) T.li (by decide +kernel) (pa_cons (pe_fld (pv 0) rfl) pa_nil)))), ?_⟩
    exact ⟨_, rfl, x, C, dx, _, _, rfl, h1, T.cl, T.n1, wf_gifts _ _ _, l1, _, rfl, .inl (.inl (.inl h2)), k⟩
theorem ok_wguests {f C : Addr} {fd : FuncData} (F : Fun K "guests" "Wishes.guests" sWGuests f fd) (T : TxtW K mg C) : FnOk P w K mg base CX0 1 f fd ["self"] (spWGuests K C) := by
  refine F.ok scWGuests (fun vs H Q E h => ?_) (fun cdv A outer s H vs Q E hr h => ?_)
  · obtain ⟨x, gs, R, rfl, _⟩ := h
    rfl
  · obtain ⟨x, gs, R, rfl, ⟨dx, l1, l2, d, kvs, h1, h2, h3, h4, h5⟩, k⟩ := h
    refine ⟨_, (pss_one (ps_ret (pe_callTy call_list_of (by rfl) T.li (by decide +kernel) (pa_cons (pe_fld (pv 0) rfl) pa_nil)))), ?_⟩
    exact ⟨_, rfl, x, C, dx, _, _, rfl, h1, T.cl, T.n2, wf_guests _ _ _, l2, _, rfl, .inl (.inl (.inl h3)), k⟩
theorem ok_winit {f C : Addr} {fd : FuncData} (F : Fun K "__init__" "Wishes.__init__" sWInit f fd) (T : TxtW K mg C) (cg : Cal P w K mg base 3 "check_gifts" ["gifts"] (spCheckGifts K))
    (cr : Cal P w K mg base 2 "check_rankings" ["gifts", "rankings"] (spCheckRankings K)) : FnOk P w K mg base CX0 4 f fd ["self", "gifts", "rankings"] (spWInit K C) := by
  obtain ⟨fG, fdG, GG, gG, kG, bG⟩ := cg.ex
  obtain ⟨fR, fdR, GR, gR, kR, bR⟩ := cr.ex
  refine F.ok scWInit (fun vs H Q E h => ?_) (fun cdv A outer s H vs Q E hr h => ?_)
  · obtain ⟨x, ga, rd, G, dx, gs, R, kvs, rfl, _⟩ := h
    rfl
  · obtain ⟨x, ga, rd, G, dx, gs, R, kvs, rfl, hx, ex, gx, grd, hrd, hga, hok, hgl, hRl, hden, k⟩ := h
    have hu := hu_of hr
    have hr2 : Room 2 _ := hr.mono (by decide)
    refine ⟨_, (pss_cons (ps_expr (pe_call GG hr rfl gG kG bG .nil pass0 (pa_cons (pv 1) pa_nil)))
      (pss_cons (ps_expr (pe_call GR hr2 rfl gR kR bR .nil pass0 (pa_cons (pv 1) (pa_cons (pv 2) pa_nil))))
      (pss_cons (ps_fld (pv 0) (pe_callTy call_list_of (by rfl) T.li (by decide +kernel) (pa_cons (pv 1) pa_nil)) rfl)
      (pss_cons (ps_fld (pv 0) (pe_callTy (call_listD rfl) (by rfl) T.li (by decide +kernel) (pa_cons (pv 2) pa_nil)) rfl)
      (pss_one (ps_fld (pv 0) (pe_lock (pe_dc (own := [("guest", 3)]) (g := (gName 3)) (tt := tYes) (tk := tVar 3) rfl scWInit.nd (pi_keys (pv 2)) (blkOk_by (N := NWInit) (sc := defScope sWInit) (by decide +kernel)) (fun _ _ _ _ _ => (pg_name (i := 3) scWInit.nd rfl (.inl rfl))) (fun _ _ _ _ _ => pts_nil) (fun _ _ _ _ _ => (pv 3)) (fun _ _ _ _ _ => (pe_callTy (call_tuple_ofK (K := K)) (by rfl) T.tu (by decide +kernel) (pa_cons (pe_dget hu (pv 2) (pv 3) (fun _ _ => rfl)) pa_nil))))) rfl)))))), ?_⟩
    have hdl : ∀ b o, H b = some o → b ≠ x → b ≠ rd ∨ o = .dK kvs := fun b o hb _ => by
      by_cases q : b = rd
      · right; rw [q, hrd] at hb; exact (Option.some.inj hb).symm
      · exact .inl q
    have xrd : x ≠ rd := ne_of hx hrd (fun q => nomatch q)
    refine ⟨_, rfl, G, .ref ga, dStrs gs, rfl, ex, den_of_strs hga, fun e he => ?_, by show (gs.map D.str).length ≤ 16; rw [List.length_map]; exact hgl, namesD_ok hok.gn hok.go, fun H1 e1 => ?_⟩
    · obtain ⟨z, hz, rfl⟩ := List.mem_map.mp (show e ∈ gs.map D.str from he)
      have g := (hok.go z hz).good
      show (decide (z.length ≤ 1000) && PyData.strOk z) = true
      rw [decide_eq_true g.1, g.2]
      rfl
    refine ⟨_, rfl, _, rfl, G, ga, rd, gs, kvs, R.map fun r => (r.1, .tup (r.2.map D.str)), rfl, ex.trans e1, grd, e1 _ _ hrd, .inl hga, by omega, ?_, by rw [List.length_map]; exact hRl, fun p hp => ?_, fun H2 e2 => ?_⟩
    · rw [List.map_map]
      exact hden
    · obtain ⟨r, hr', rfl⟩ := List.mem_map.mp hp
      have hpm := hok.rk r hr'
      exact ⟨hok.uo r hr', by show (r.2.map D.str).length ≤ 1000; rw [List.length_map, hpm.length_eq]; omega, isOrd_perm hpm⟩
    have e12 := e1.trans e2
    have hx2 := e12 _ _ hx
    have hrd2 := e12 _ _ hrd
    have hga2 := ex_l (ex.trans e12) hga
    clear e1 e2
    -- the gifts
    refine ⟨_, rfl, ga, _, rfl, .inl hga2, fun l1 hl1 => ?_⟩
    have x1 : x ≠ l1 := ne_of_none hx2 hl1
    have r1 : rd ≠ l1 := ne_of_none hrd2 hl1
    refine ⟨_, rfl, x, C, dx, [], rfl, by rw [upd_ne x1]; exact hx2, T.cl, T.n1, (by show 0 < 1000; decide), ?_⟩
    rw [wf_1]
    -- the guests
    refine ⟨_, rfl, rd, kvs, rfl, .inl (by rw [upd_ne xrd.symm, upd_ne r1]; exact hrd2), fun l2 hl2 => ?_⟩
    have x2 : x ≠ l2 := fun q => by rw [← q, upd_same] at hl2; cases hl2
    have hl2a : (upd H2 l1 (.lst (gs.map V.str))) l2 = none := by rw [upd_ne x2.symm] at hl2; exact hl2
    have l12 : l1 ≠ l2 := fun q => by rw [← q, upd_same] at hl2a; cases hl2a
    have hl2b : H2 l2 = none := by rw [upd_ne l12.symm] at hl2a; exact hl2a
    have r2 : rd ≠ l2 := ne_of_none hrd2 hl2b
    refine ⟨_, rfl, x, C, dx, _, rfl, by rw [upd_ne x2, upd_same], T.cl, T.n2, (by show 1 < 1000; decide), ?_⟩
    rw [wf_2]
    have hkeys : kvs.map (fun kv => kV kv.1) = (R.map (·.1)).map V.str := by
      have := congrArg (List.map kV) hden.keys
      unfold tRanks at this
      rw [List.map_map, List.map_map, List.map_map] at this
      rw [List.map_map]
      exact this
    rw [hkeys]
    have hnd : (kvs.map (·.1)).Nodup := by
      rw [hden.keys]
      unfold tRanks
      rw [List.map_map]
      have : (R.map ((fun x => x.1) ∘ fun r => ((.inr r.1 : Key), D.tup (r.2.map D.str)))) = (R.map (·.1)).map Sum.inr := by
        rw [List.map_map]
        rfl
      rw [this]
      exact List.Pairwise.map _ (fun _ _ h e => h (Sum.inr.inj e)) hok.un
    have hkl : kvs.length ≤ 16 := by
      rw [hden.length]
      unfold tRanks
      rw [List.length_map]
      exact hRl
    -- the heap now
    obtain ⟨H3, hH3⟩ : ∃ H3, H3 = upd (upd (upd (upd H2 l1 (.lst (gs.map V.str))) x (.ins C dx [(("_gifts" : Str), V.ref l1)])) l2 (.lst ((R.map (·.1)).map V.str))) x (.ins C dx [(("_gifts" : Str), V.ref l1), (("_guests" : Str), V.ref l2)]) := ⟨_, rfl⟩
    rw [← hH3]
    have a1 : H3 l1 = some (.lst (gs.map V.str)) := by rw [hH3, upd_ne x1.symm, upd_ne l12, upd_ne x1.symm, upd_same]
    have a2 : H3 l2 = some (.lst ((R.map (·.1)).map V.str)) := by rw [hH3, upd_ne x2.symm, upd_same]
    have a3 : H3 rd = some (.dK kvs) := by rw [hH3, upd_ne xrd.symm, upd_ne r2, upd_ne xrd.symm, upd_ne r1]; exact hrd2
    have a4 : H3 x = some (.ins C dx [(("_gifts" : Str), V.ref l1), (("_guests" : Str), V.ref l2)]) := by rw [hH3, upd_same]
    have a5 : ∀ b o, H2 b = some o → b ≠ x → H3 b = some o := fun b o hb ne => by
      rw [hH3, upd_ne ne, upd_ne (ne_of_none hb hl2b), upd_ne ne, upd_ne (ne_of_none hb hl1)]
      exact hb
    clear hH3
    refine ⟨rd, _, a3, trivial, fun od => ?_⟩
    refine ⟨_, rfl, rd, od, rfl, .inl ⟨kvs, upd_same, fun Dd hDd => ?_⟩⟩
    have drd : Dd ≠ rd := fun q => by rw [q, upd_same] at hDd; cases hDd
    have hDd0 : H3 Dd = none := by rw [upd_ne drd] at hDd; exact hDd
    have exG3 : ∀ {Hx : Hp}, (∀ b o, H3 b = some o → b ≠ rd → Hx b = some o) → Ex G Hx := fun {Hx} hh b o hb => hh b o (a5 b o ((ex.trans e12) _ _ hb) (fun q => by rw [q, gx] at hb; cases hb)) (fun q => by rw [q, grd] at hb; cases hb)
    refine dc_it walk_keys (fun i Hc => (∀ b o, H3 b = some o → b ≠ rd → Hc b = some o) ∧ Hc rd = some (.frz od (.dK kvs)) ∧ Hc Dd = some (.dK (kvs.take i))) ?_ (fun i Hc _ ⟨_, h, _⟩ => h) ?_ ?_
    · refine ⟨fun b o hb ne => ?_, ?_, upd_same⟩
      · rw [upd_ne (ne_of_none hb hDd0), upd_ne ne]
        exact hb
      · rw [upd_ne drd.symm, upd_same]
    · rintro i y Hc H' hi ⟨e, hc, hd⟩ ⟨rfl, ky, v, hkv, rfl⟩
      have hval := val_nodup hnd hkv
      obtain ⟨rk, hv⟩ : ∃ rk : List Str, Den K G v (.tup (rk.map D.str)) := by
        have go : ∀ {kvs : List (Key × V)} {R : List (Str × List Str)}, DenK K G kvs (tRanks R) → ∀ (i : Nat) (ky : Key) (v : V), kvs[i]? = some (ky, v) → ∃ rk : List Str, Den K G v (.tup (rk.map D.str)) := by
          intro kvs
          induction kvs with
          | nil => intro R _ i ky v h; simp at h
          | cons p r ih =>
            intro R hd i ky v h
            cases R with
            | nil => cases hd
            | cons q t =>
              cases hd with
              | cons h1 l =>
                cases i with
                | zero => cases h; exact ⟨_, h1⟩
                | succ i => exact ih l i ky v h
        exact go hden i ky v hkv
      obtain ⟨p, vs', rfl, hsq⟩ : ∃ (p : Addr) (vs' : List V), v = .ref p ∧ SqT K G p vs' := by
        cases hv with
        | tup h l => exact ⟨_, _, rfl, h⟩
      have htk : kvs.take (i + 1) = kvs.take i ++ [(ky, .ref p)] := by rw [List.take_add_one, hkv]; rfl
      refine ⟨rfl, _, rfl, _, rfl, _, rfl, rd, _, rfl, .inl ⟨kvs, ky, .inr ⟨od, hc⟩, rfl, hval.symm⟩, p, _, rfl, .inr ⟨ex_t (exG3 e) hsq, _, ky, rfl, hd, sz_lt ?_, fun b o hb ne => ?_, ?_, ?_⟩⟩
      · rw [List.length_take]; omega
      · rw [upd_ne (ne_of_none hb hDd0)]
        exact e b o hb ne
      · rw [upd_ne drd.symm]
        exact hc
      · rw [upd_same, put_fresh (key_new hnd hkv), htk]
    · rintro Hc ⟨e, hc, hd⟩
      rw [List.take_length] at hd
      refine ⟨hc, _, rfl, x, C, dx, [(("_gifts" : Str), V.ref l1), (("_guests" : Str), V.ref l2)], rfl, ?_, T.cl, T.n3, (by show 2 < 1000; decide), ?_⟩
      · rw [upd_ne xrd]
        exact e _ _ a4 xrd
      · rw [wf_3]
        have dx2 : Dd ≠ x := (ne_of_none a4 hDd0).symm
        have eF : ∀ b o, H3 b = some o → b ≠ x → (upd (upd Hc rd (.dK kvs)) x (.ins C dx (wf l1 l2 Dd))) b = some o := fun b o hb ne => by
          rw [upd_ne ne]
          by_cases q : b = rd
          · subst q; rw [upd_same, ← a3, hb]
          · rw [upd_ne q]; exact e b o hb q
        have eG : Ex G (upd (upd Hc rd (.dK kvs)) x (.ins C dx (wf l1 l2 Dd))) := fun b o hb => by
          have nx : b ≠ x := fun q => by rw [q, gx] at hb; cases hb
          exact eF b o (a5 b o ((ex.trans e12) _ _ hb) nx) nx
        have back : ∀ b, H2 b = none → H b = none := fun b hb => by
          cases hh : H b with
          | none => rfl
          | some o => rw [e12 _ _ hh] at hb; cases hb
        have hD2 : H2 Dd = none := by
          cases hh : H2 Dd with
          | none => rfl
          | some o => rw [a5 _ _ hh dx2] at hDd0; cases hDd0
        refine k _ ⟨dx, l1, l2, Dd, kvs, upd_same, eF _ _ a1 x1.symm, eF _ _ a2 x2.symm, ?_, hden, back _ hl1, back _ hl2b, back _ hD2⟩ (fun b o hb ne => eF b o (a5 b o (e12 _ _ hb) ne) ne) eG
        rw [upd_ne dx2, upd_ne drd]
        exact hd
end
end K04

namespace K04
open PySem PySem.Spec PyProof.Rows L2 Evl LT
/-! ### ranking, check_row, choose -/
abbrev sCheckRow : Stmt := top 21
abbrev NCheckRow : List Str := ["wishes", "row"]
theorem scCheckRow : FnScope NCheckRow ["wishes", "row"] (defScope sCheckRow) := ⟨rfl, rfl, rfl, by decide +kernel, rfl, by decide +kernel, by decide +kernel⟩
abbrev sChoose : Stmt := top 22
abbrev NChoose : List Str := ["wishes", "row", "guest", "holding", "gone"]
theorem scChoose : FnScope NChoose ["wishes", "row"] (defScope sChoose) := ⟨rfl, rfl, rfl, by decide +kernel, rfl, by decide +kernel, by decide +kernel⟩
structure TxtR (K : PySem.W.Frag) (mg : Str → Option Value) (CR : Addr) : Prop where
  g : mg "InvalidRow" = some (.ref CR)
  x : PySem.W.excIn K CR [.type "ValueError", .type "Exception", .type "BaseException", .type "object"] "ValueError.__new__" = true
  k : PySem.W.keepIn K (.ref CR) = true
  b : PySem.W.subIn K (.ref CR) (.type "BaseException") = some true
  t : PySem.W.typeIn K (.ref CR) = some (.type "type")
theorem den_getD {K : PySem.W.Frag} {G : Hp} : ∀ {kvs : List (Key × V)} {ds : List (Key × D)} {k : Key} {d : D}, DenK K G kvs ds → (ds.map (·.1)).Nodup → (k, d) ∈ ds → ∃ v, valV kvs k = some v ∧ Den K G v d
  | _, _, k, d, .nil, _, h => by cases h
  | _, _, k, d, .cons (k := k0) (v := v0) (d := d0) (ds := ds) h0 l, hn, h => by
    have hn2 := List.nodup_cons.mp (show (k0 :: ds.map (·.1)).Nodup from hn)
    rcases List.mem_cons.mp h with e | h
    · cases e
      exact ⟨v0, valV_pos rfl, h0⟩
    · have ne : ¬ k0 = k := fun e => hn2.1 (List.mem_map.mpr ⟨(k, d), h, e.symm⟩)
      obtain ⟨v, h1, h2⟩ := den_getD l hn2.2 h
      exact ⟨v, by rw [valV_neg ne]; exact h1, h2⟩
theorem tRanks_nodup {R : List (Str × List Str)} (h : (R.map (·.1)).Nodup) : ((tRanks R).map (·.1)).Nodup := by
  unfold tRanks
  rw [List.map_map]
  have : (R.map ((fun x => x.1) ∘ fun r => ((.inr r.1 : Key), D.tup (r.2.map D.str)))) = (R.map (·.1)).map Sum.inr := by
    rw [List.map_map]
    rfl
  rw [this]
  exact List.Pairwise.map _ (fun _ _ h e => h (Sum.inr.inj e)) h
def spWRanking (K : PySem.W.Frag) (C : Addr) : Sp := fun vs H Q _ => ∃ (x : Addr) (u : Str) (gs : List Str) (R : List (Str × List Str)) (rk : List Str), vs = [.ref x, .str u] ∧ WAt K C H x gs R ∧ (R.map (·.1)).Nodup ∧ (u, rk) ∈ R ∧ ∀ p, SqT K H p (rk.map V.str) → Q (.ref p) H
def spCheckRow (K : PySem.W.Frag) (C CR : Addr) : Sp := fun vs H Q E => ∃ (x : Addr) (v : V) (d : D) (gs : List Str) (R : List (Str × List Str)) (G : Hp), vs = [.ref x, v] ∧ WAt K C H x gs R ∧ Ex G H ∧ Den K G v d ∧ d.items.length ≤ 1000 ∧ R.length ≤ 1000 ∧
  (isOrd d (R.map (·.1)) = true → ∀ H', Ex H H' → Q .non H') ∧ (isOrd d (R.map (·.1)) = false → ∀ H', Ex H H' → E (.ref CR) none H')
theorem den_tstrs {K : PySem.W.Frag} {G : Hp} {v : V} {rk : List Str} (h : Den K G v (.tup (rk.map D.str))) : ∃ p, v = .ref p ∧ SqT K G p (rk.map V.str) := by
  cases h with
  | tup h l =>
    rename_i a vs
    refine ⟨a, rfl, ?_⟩
    have : vs = rk.map V.str := by
      have go : ∀ {vs : List V} {rk : List Str}, DenL K G vs (rk.map D.str) → vs = rk.map V.str := by
        intro vs
        induction vs with
        | nil => intro rk h; cases rk with
          | nil => rfl
          | cons => cases h
        | cons y r ih => intro rk h; cases rk with
          | nil => cases h
          | cons z t => cases h with
            | cons h1 l => cases h1; rw [List.map_cons, ih l]
      exact go l
    rw [← this]
    exact h
section
variable {P : Program} {w : World} {K : PySem.W.Frag} {mg : Str → Option Value} {base : Heap}
theorem ok_wranking {f C : Addr} {fd : FuncData} (F : Fun K "ranking" "Wishes.ranking" sWRanking f fd) (T : TxtW K mg C) : FnOk P w K mg base CX0 1 f fd ["self", "guest"] (spWRanking K C) := by
  refine F.ok scWRanking (fun vs H Q E h => ?_) (fun cdv A outer s H vs Q E hr h => ?_)
  · obtain ⟨x, u, gs, R, rk, rfl, _⟩ := h
    rfl
  · obtain ⟨x, u, gs, R, rk, rfl, ⟨dx, l1, l2, d, kvs, h1, h2, h3, h4, h5⟩, hnd, hm, k⟩ := h
    have hu := hu_of hr
    refine ⟨_, (pss_cons (ps_if (pt_cmpR op_notIn_seq (pv 1) (pe_fld (pv 0) rfl) (by rfl)) (pss_one ps_never) pss_nil)
      (pss_one (ps_ret (pe_dget hu (pe_fld (pv 0) rfl) (pv 1) (fun _ _ => rfl))))), ?_⟩
    refine ⟨_, rfl, _, rfl, x, C, dx, _, _, rfl, h1, T.cl, T.n2, wf_guests _ _ _, l2, _, rfl, .inl (.inl (.inl h3)), rfl, LT.flat_strs _, _, rfl, ?_⟩
    show (if (if true = true then !inV (.str u) ((R.map (·.1)).map V.str) else inV (.str u) ((R.map (·.1)).map V.str)) = true then _ else _)
    rw [if_pos rfl, in_strs, decide_eq_true (List.mem_map.mpr ⟨(u, rk), hm, rfl⟩)]
    show (if (!true) = true then _ else _)
    rw [if_neg (by decide)]
    obtain ⟨v, hv, hdv⟩ := den_getD h5 (tRanks_nodup hnd) (k := .inr u) (d := .tup (rk.map D.str)) (by
      unfold tRanks
      exact List.mem_map.mpr ⟨(u, rk), hm, rfl⟩)
    obtain ⟨p, rfl, hp⟩ := den_tstrs hdv
    exact ⟨_, rfl, x, C, dx, _, _, rfl, h1, T.cl, T.n3, wf_rankings _ _ _, _, rfl, d, _, rfl, .inl ⟨kvs, .inr u, .inl h4, rfl, hv.symm⟩, k p hp⟩
theorem ok_checkrow {f C CR fU : Addr} {fd fdU : FuncData} (F : Fun K "check_row" "check_row" sCheckRow f fd) (T : TxtW K mg C) (TR : TxtR K mg CR) (co : Cal P w K mg base 1 "is_order" ["value", "names"] (spIsOrder K))
    (GU : FnOk P w K mg base CX0 1 fU fdU ["self"] (spWGuests K C)) (bU : L2.Binds K fdU ["self"] []) (mU : Meth K C "guests" fU) : FnOk P w K mg base (L2.CX P w) 2 f fd ["wishes", "row"] (spCheckRow K C CR) := by
  obtain ⟨fO, fdO, GO, gO, kO, bO⟩ := co.ex
  refine F.okX scCheckRow (fun vs H Q E h => ?_) (fun cdv A outer s H vs Q E hr h => ?_)
  · obtain ⟨x, v, d, gs, R, G, rfl, _⟩ := h
    rfl
  · obtain ⟨x, v, d, gs, R, G, rfl, W, ex, hd, hil, hRl, k1, k2⟩ := h
    refine ⟨_, (pss_one (ps_if (pt_not (pt_val (pe_call GO hr rfl gO kO bO .nil pass0 (pa_cons (pv 1) (pa_cons (pe_meth0 (pv 0) T.cl mU GU hr bU .nil pass0) pa_nil)))))
      (pss_one (ps_raise rfl (takes_of rfl rfl rfl rfl) (pmk_own0 PySem.F.excBase_ValueError TR.x TR.g TR.k (raises_own TR.b TR.t) (by exact rfl)))) pss_nil)), ?_⟩
    have W0 := W
    obtain ⟨dx, l1, l2, dd, kvs, h1, h2, h3, h4, h5⟩ := W
    refine ⟨_, rfl, _, rfl, x, dx, _, rfl, h1, wf_no _ _ _ (by decide +kernel) (by decide +kernel) (by decide +kernel), x, gs, R, rfl, W0, fun l hl => ?_⟩
    have el : Ex H (upd H l (.lst ((R.map (·.1)).map V.str))) := Ex.new hl
    refine ⟨G, v, d, l, R.map (·.1), rfl, ex.trans el, hd, .inl (.inl (.inl upd_same)), by rw [List.length_map]; exact hRl, hil, fun H2 e2 => ⟨_, rfl, ?_⟩⟩
    cases ho : isOrd d (R.map (·.1)) with
    | true =>
      show (if (!true) = true then _ else _)
      rw [if_neg (by decide)]
      exact k1 ho _ (el.trans e2)
    | false =>
      show (if (!false) = true then _ else _)
      rw [if_pos (show (!false) = true from rfl)]
      exact k2 ho _ (el.trans e2)
end
end K04

namespace K04
open PySem PySem.Spec PyProof.Rows L2 Evl LT
/-! ### choose -/
theorem isS_of {n : Str} {e : D} (h : isS n e = true) : e = .str n := by
  cases e with
  | str z => rw [of_decide_eq_true (show decide (z = n) = true from h)]
  | non => cases h
  | bl => cases h
  | int => cases h
  | tup => cases h
  | lst => cases h
  | dct => cases h
theorem perm_of_any : ∀ (us : List Str) (items : List D), us.Nodup → items.length = us.length → (∀ n ∈ us, items.any (isS n) = true) → ∃ ws : List Str, items = ws.map D.str ∧ ws.Perm us
  | [], items, _, hl, _ => ⟨[], by rw [List.length_eq_zero_iff.mp hl]; rfl, .refl _⟩
  | n :: r, items, hn, hl, ha => by
    have hn2 := List.nodup_cons.mp hn
    obtain ⟨e, he, hs⟩ := List.any_eq_true.mp (ha n List.mem_cons_self)
    rw [isS_of hs] at he
    obtain ⟨s, t, rfl⟩ := List.append_of_mem he
    obtain ⟨ws, h1, h2⟩ := perm_of_any r (s ++ t) hn2.2 (by simp only [List.length_append, List.length_cons] at hl ⊢; omega) (fun m hm => by
      have h := ha m (List.mem_cons_of_mem _ hm)
      have ne : isS m (.str n) = false := decide_eq_false fun e => hn2.1 (e ▸ hm)
      rw [List.any_append, List.any_cons, ne, Bool.false_or] at h
      rw [List.any_append]
      exact h)
    refine ⟨ws.take s.length ++ n :: ws.drop s.length, ?_, ?_⟩
    · have e1 : s = (ws.take s.length).map D.str := by
        rw [List.map_take, ← h1, List.take_left]
      have e2 : t = (ws.drop s.length).map D.str := by
        rw [List.map_drop, ← h1, List.drop_left]
      rw [List.map_append, List.map_cons, ← e1, ← e2]
    · refine List.perm_middle.trans ?_
      rw [List.take_append_drop]
      exact h2.cons n
theorem row_of {d : D} {us : List Str} (hn : us.Nodup) (h : isOrd d us = true) : d.isSeq = true ∧ ∃ ws : List Str, d.items = ws.map D.str ∧ ws.Perm us := by
  unfold isOrd at h
  rw [Bool.and_eq_true, Bool.and_eq_true] at h
  exact ⟨h.1, perm_of_any us d.items hn (of_decide_eq_true h.2.1) (List.all_eq_true.mp h.2.2)⟩
theorem den_strsL {K : PySem.W.Frag} {G : Hp} : ∀ {vs : List V} {rk : List Str}, DenL K G vs (rk.map D.str) → vs = rk.map V.str
  | [], [], _ => rfl
  | [], _ :: _, h => by cases h
  | _ :: _, [], h => by cases h
  | y :: r, z :: t, h => by
    cases h with
    | cons h1 l => cases h1; rw [List.map_cons, den_strsL l]
def spChoose (K : PySem.W.Frag) (C CR : Addr) : Sp := fun vs H Q E => ∃ (x : Addr) (v : V) (d : D) (gs : List Str) (R : List (Str × List Str)) (G : Hp), vs = [.ref x, v] ∧ WAt K C H x gs R ∧ RawOk gs R ∧ Ex G H ∧ Den K G v d ∧ d.items.length ≤ 1000 ∧ gs.length ≤ 100 ∧ R.length ≤ 100 ∧
  (∀ ws : List Str, d.items = ws.map D.str → d.isSeq = true → ws.Perm (R.map (·.1)) → ∀ a H', H a = none → H' a = some (.dK (keyed (holdL R gs ws))) → Ex H H' → Q (.ref a) H') ∧ (isOrd d (R.map (·.1)) = false → ∀ H', Ex H H' → E (.ref CR) none H')
theorem inV_snoc (x : V) (ls : List V) (v : V) : inV x (ls ++ [v]) = (inV x ls || inV x [v]) := by
  unfold inV
  rw [List.any_append]
theorem inV_one_non (z : Str) : inV (.str z) [.non] = false := rfl
theorem inV_one_str (z g : Str) : inV (.str z) [.str g] = decide (z ∈ [g]) := in_strs z [g]
theorem find_congr2 {p q : Str → Bool} : ∀ {l : List Str}, (∀ z ∈ l, p z = q z) → l.find? p = l.find? q
  | [], _ => rfl
  | z :: r, h => by
    rw [List.find?_cons, List.find?_cons, h z List.mem_cons_self, find_congr2 fun y hy => h y (List.mem_cons_of_mem _ hy)]
theorem left_best {rk left : List Str} {ls : List V} (h : ∀ z ∈ rk, inV (.str z) ls = !decide (z ∈ left)) : leftV rk ls = bestV rk left := by
  unfold leftV bestV
  rw [find_congr2 (q := fun z => decide (z ∈ left)) fun z hz => by rw [h z hz, Bool.not_not]]
  try (cases rk.find? (fun z => decide (z ∈ left)) <;> rfl)
theorem step_put {R : List (Str × List Str)} {gs ws : List Str} {u : Str} (hu : u ∈ R.map (·.1)) (hn : u ∉ (cst R gs ws).1.map (·.1)) :
    putK (keyed (holdL R gs ws)) (.inr u) (bestV (rkOf R u) (cst R gs ws).2) = keyed (holdL R gs (ws ++ [u])) := by
  rw [holdL_eq, holdL_eq, cst_snoc, put_keyed hu]
  refine congrArg keyed (List.map_congr_left fun r _ => ?_)
  show _ = (r.1, fh ((cst R gs ws).1 ++ [(u, bestV (rkOf R u) (cst R gs ws).2)]) r.1)
  rw [lookup_snoc hn]
/-- what is gone, and what is left, after one more step -/
theorem gone_snoc {R : List (Str × List Str)} {gs ws : List Str} {u : Str} {ls : List V} (hg : gs.Nodup) (h : ∀ z ∈ gs, inV (.str z) ls = !decide (z ∈ (cst R gs ws).2)) :
    ∀ z ∈ gs, inV (.str z) (ls ++ [bestV (rkOf R u) (cst R gs ws).2]) = !decide (z ∈ (cst R gs (ws ++ [u])).2) := by
  intro z hz
  rw [inV_snoc, h z hz, cst_snoc]
  show _ = !decide (z ∈ (cst R gs ws).2.filter fun z => !decide (V.str z = bestV (rkOf R u) (cst R gs ws).2))
  rcases best_kind (rkOf R u) (cst R gs ws).2 with hb | ⟨g, hb⟩
  · rw [hb, left_none, inV_one_non, Bool.or_false]
  · rw [hb, left_str (cst_nodup hg ws), inV_one_str, show decide (z ∈ (cst R gs ws).2.erase g) = decide (z ≠ g ∧ z ∈ (cst R gs ws).2) from decide_eq_decide.mpr (cst_nodup hg ws).mem_erase_iff]
    by_cases e : z = g <;> by_cases m : z ∈ (cst R gs ws).2 <;> simp [e, m]
section
variable {P : Program} {w : World} {K : PySem.W.Frag} {mg : Str → Option Value} {base : Heap}
theorem ok_choose {f C CR fC fU fR : Addr} {fd fdC fdU fdR : FuncData} (F : Fun K "choose" "choose" sChoose f fd) (T : TxtW K mg C) (cb : Cal P w K mg base 1 "best_left" ["ranking", "gone"] (spBestLeft K))
    (GC : FnOk P w K mg base (L2.CX P w) 2 fC fdC ["wishes", "row"] (spCheckRow K C CR)) (gC : mg "check_row" = some (.ref fC)) (kC : PySem.W.keepIn K (.ref fC) = true) (bC : L2.Binds K fdC ["wishes", "row"] [])
    (GU : FnOk P w K mg base CX0 1 fU fdU ["self"] (spWGuests K C)) (bU : L2.Binds K fdU ["self"] []) (mU : Meth K C "guests" fU)
    (GR : FnOk P w K mg base CX0 1 fR fdR ["self", "guest"] (spWRanking K C)) (bR : L2.Binds K fdR ["self", "guest"] []) (mR : Meth K C "ranking" fR) : FnOk P w K mg base (L2.CX P w) 3 f fd ["wishes", "row"] (spChoose K C CR) := by
  obtain ⟨fB, fdB, GB, gB, kB, bB⟩ := cb.ex
  refine F.okX scChoose (fun vs H Q E h => ?_) (fun cdv A outer s H vs Q E hr h => ?_)
  · obtain ⟨x, v, d, gs, R, G, rfl, _⟩ := h
    rfl
  · obtain ⟨x, v, d, gs, R, G, rfl, W, hok, ex, hd, hil, hgl, hRl, k1, k2⟩ := h
    have hu := hu_of hr
    have hr1 : Room 1 _ := hr.mono (by decide)
    refine ⟨_, (pss_cons (ps_expr (pe_call GC hr rfl gC kC bC .nil (passes_call (takes_of rfl rfl rfl rfl) (fun _ _ _ _ h => h)) (pa_cons (pv 0) (pa_cons (pv 1) pa_nil))))
      (PSs.nox (pss_cons (ps_setDc (i := 3) (own := [("guest", 2)]) (g := (gName 2)) (tt := tYes) (tk := tVar 2) (tv := tC .non) rfl scChoose.nd rfl rfl (sw_trueD rfl rfl rfl (by decide +kernel)) (pi_list (pe_meth0 (pv 0) T.cl mU GU hr1 bU .nil pass0)) (blkOk_by (N := NChoose) (sc := defScope sChoose) (by decide +kernel)) (fun _ _ _ _ _ => (pg_name (i := 2) scChoose.nd rfl (.inl rfl))) (fun _ _ _ _ _ => pts_nil) (fun _ _ _ _ _ => (pv 2)) (fun _ _ _ _ _ => pe_non))
      (pss_cons (ps_set (i := 4) scChoose.nd rfl (.inl rfl) (pe_lst pa_nil))
      (pss_cons (ps_for PassesOwn.never rfl (pi_lt (pv 1)) (pg_name (i := 2) scChoose.nd rfl (.inl rfl)) (pss_cons (ps_dput hu (pv 3) (pv 2) (pe_call GB hr1 rfl gB kB bB .nil pass0 (pa_cons (pe_meth (pv 0) T.cl mR GR hr1 bR .nil pass0 (pa_cons (pv 2) pa_nil)) (pa_cons (pv 4) pa_nil))) rfl)
        (pss_one (ps_expr (pe_bm PySem.F.plainAttrs_list PySem.F.slot_list_append PySem.F.type_list_append mt_append (pv 4) (pa_cons (pe_dget hu (pv 3) (pv 2) (fun _ _ => rfl)) pa_nil))))))
      (pss_one (ps_ret (pv 3)))))))), ?_⟩
    have W0 := W
    refine ⟨_, rfl, _, rfl, x, v, d, gs, R, G, rfl, W, ex, hd, hil, by omega, fun ho H1 e1 => ?_, fun ho H1 e1 => k2 ho H1 e1⟩
    obtain ⟨hseq, ws, hit, hperm⟩ := row_of hok.un ho
    obtain ⟨a, xs, rfl, hsq, hden⟩ := den_seq hd hseq
    rw [hit] at hden
    have exs := den_strsL hden
    subst exs
    have hwl : ws.length = R.length := by rw [hperm.length_eq, List.length_map]
    have W1 := W.mono e1
    obtain ⟨dx, l1, l2, dd, kvs, h1, h2, h3, h4, h5⟩ := id W1
    -- the holding, empty
    refine ⟨_, rfl, x, dx, _, rfl, h1, wf_no _ _ _ (by decide +kernel) (by decide +kernel) (by decide +kernel), x, gs, R, rfl, W1, fun U hU => ⟨U, rfl, ⟨_, .inl (.inl upd_same)⟩, fun Dd hDd => ?_⟩⟩
    have eU : Ex H1 (upd H1 U (.lst ((R.map (·.1)).map V.str))) := Ex.new hU
    have hUU : (upd H1 U (.lst ((R.map (·.1)).map V.str))) U = some (.lst ((R.map (·.1)).map V.str)) := upd_same
    generalize upd H1 U (.lst ((R.map (·.1)).map V.str)) = H3 at eU hUU hDd ⊢
    have e03 := e1.trans eU
    have hDd0 : H Dd = none := by
      cases hh : H Dd with
      | none => rfl
      | some o => rw [e03 _ _ hh] at hDd; cases hDd
    refine dc_it (walk_list (K := K) (a := U) (xs := (R.map (·.1)).map V.str)) (fun i Hc => Ex H3 Hc ∧ Hc Dd = some (.dK ((keyed (R.map fun r => (r.1, V.non))).take i))) ⟨Ex.new hDd, upd_same⟩ (fun i Hc _ ⟨e, _⟩ => .inl (.inl (e _ _ hUU))) ?_ ?_
    · rintro i y Hc H' hi ⟨e, hc⟩ ⟨rfl, hy⟩
      rw [List.length_map, List.length_map] at hi
      rw [List.getElem?_map, List.getElem?_map, List.getElem?_eq_getElem hi] at hy
      cases hy
      have hat : (keyed (R.map fun r => (r.1, V.non)))[i]? = some (.inr (R[i]).1, .non) := by
        unfold keyed
        rw [List.getElem?_map, List.getElem?_map, List.getElem?_eq_getElem hi]
        rfl
      have hnd : ((keyed (R.map fun r => (r.1, V.non))).map (·.1)).Nodup := by
        have : (keyed (R.map fun r => (r.1, V.non))).map (·.1) = (R.map (·.1)).map Sum.inr := by
          unfold keyed
          rw [List.map_map, List.map_map, List.map_map]
          rfl
        rw [this]
        exact List.Pairwise.map _ (fun _ _ h e => h (Sum.inr.inj e)) hok.un
      refine ⟨rfl, _, rfl, _, .inr (R[i]).1, rfl, hc, sz_lt ?_, e.mut hDd, ?_⟩
      · rw [List.length_take]; omega
      · rw [upd_same, put_fresh (key_new hnd hat), List.take_add_one, hat]
        rfl
    · rintro Hc ⟨e, hc⟩
      have hfull : (keyed (R.map fun r => (r.1, V.non))).take ((R.map (·.1)).map V.str).length = keyed (holdL R gs []) := by
        rw [holdL_nil]
        refine List.take_of_length_le ?_
        unfold keyed
        simp
      rw [hfull] at hc
      have e0c := e03.trans e
      clear hDd hfull
      refine ⟨Nat.zero_le _, fun L hL => ?_⟩
      have LD : Dd ≠ L := ne_of_none hc hL
      have hL0 : H L = none := by
        cases hh : H L with
        | none => rfl
        | some o => rw [e0c _ _ hh] at hL; cases hL
      have eL : Ex Hc (upd Hc L (.lst [])) := Ex.new hL
      refine ⟨_, rfl, a, rfl, for_lt (K := K) (H0 := H) (ex_lt ex hsq) (fun i σ Hc => ∃ (o2 : Option V) (ls : List V), σ = [some (.ref x), some (.ref a), o2, some (.ref Dd), some (.ref L)] ∧ Ex H Hc ∧ Hc Dd = some (.dK (keyed (holdL R gs (ws.take i)))) ∧ Hc L = some (.lst ls) ∧ ls.length = i ∧ ls.all flatV = true ∧ ∀ z ∈ gs, inV (.str z) ls = !decide (z ∈ (cst R gs (ws.take i)).2))
        ⟨_, [], rfl, e0c.trans eL, eL _ _ hc, upd_same, rfl, rfl, fun z hz => by
          show false = _
          rw [List.take_zero, decide_eq_true (show z ∈ (cst R gs []).2 from hz)]
          rfl⟩ (fun i σ Hc _ ⟨_, _, _, e, _⟩ => e) ?_ ?_⟩
      · rintro i y σ Hc hy ⟨o2, ls, rfl, e, hcD, hcL, hll, hfl, hgone⟩
        rw [List.getElem?_map] at hy
        obtain ⟨u, hu', rfl⟩ := Option.map_eq_some_iff.mp hy
        have hi : i < ws.length := (List.getElem?_eq_some_iff.mp hu').1
        have hum : u ∈ R.map (·.1) := hperm.subset (List.mem_of_getElem? hu')
        have hrk := rkOf_mem hum
        have hrp := hok.rk _ hrk
        have hrl : (rkOf R u).length = gs.length := hrp.length_eq
        have htk : ws.take (i + 1) = ws.take i ++ [u] := by rw [List.take_add_one, hu']; rfl
        have hnew : u ∉ (cst R gs (ws.take i)).1.map (·.1) := by
          rw [cst_keys _ _ _ _ (by omega)]
          intro hm
          obtain ⟨j, hj, ej⟩ := List.getElem_of_mem hm
          rw [List.length_take] at hj
          rw [List.getElem_take] at ej
          have e2 : ws[i] = u := (List.getElem?_eq_some_iff.mp hu').2
          have := (List.getElem_inj (hperm.nodup_iff.mpr hok.un)).mp (ej.trans e2.symm)
          omega
        have Wc := W.mono e
        obtain ⟨dx3, m1, m2, dd3, kvs3, n1, n2, n3, n4, n5⟩ := id Wc
        have hbest : leftV (rkOf R u) ls = bestV (rkOf R u) (cst R gs (ws.take i)).2 := left_best fun z hz => hgone z (hrp.subset hz)
        have hklen : (keyed (holdL R gs (ws.take i))).length = R.length := by
          unfold keyed holdL
          rw [List.length_map, List.length_map]
        refine ⟨_, rfl, x, dx3, _, rfl, n1, wf_no _ _ _ (by decide +kernel) (by decide +kernel) (by decide +kernel), _, rfl, x, u, gs, R, rkOf R u, rfl, Wc, hok.un, hrk, fun p hp => ⟨_, rfl, p, L, rkOf R u, ls, rfl, .inr hp, .inl (.inl (.inl hcL)), hfl, by omega, by omega, ?_⟩⟩
        rw [hbest]
        refine ⟨_, rfl, _, rfl, Dd, _, rfl, .inl ⟨_, .inr u, hcD, rfl, sz_lt (by omega), rfl⟩, ?_⟩
        rw [step_put hum hnew]
        have hL4 : (upd Hc Dd (.dK (keyed (holdL R gs (ws.take i ++ [u]))))) L = some (.lst ls) := by rw [upd_ne LD.symm]; exact hcL
        have hv : valV (keyed (holdL R gs (ws.take i ++ [u]))) (.inr u) = some (bestV (rkOf R u) (cst R gs (ws.take i)).2) := by
          rw [← step_put hum hnew, valV_put, if_pos rfl]
        refine ⟨_, rfl, .inl ⟨rfl, _, .inl (.inl hL4)⟩, _, rfl, _, rfl, Dd, _, rfl, .inl ⟨_, .inr u, .inl upd_same, rfl, hv.symm⟩, ?_⟩
        refine ⟨L, _, _, rfl, rfl, hL4, sz_lt (by omega), ?_⟩
        refine ⟨_, ls ++ [bestV (rkOf R u) (cst R gs (ws.take i)).2], rfl, (e.mut hDd0).mut hL0, ?_, upd_same, ?_, ?_, ?_⟩
        · rw [upd_ne LD, upd_same, htk]
        · rw [List.length_append, List.length_singleton, hll]
        · rw [List.all_append, hfl, Bool.true_and]
          rcases best_kind (rkOf R u) (cst R gs (ws.take i)).2 with hb | ⟨g, hb⟩
          · rw [hb]; rfl
          · rw [hb]; rfl
        · rw [htk]
          exact gone_snoc hok.gn hgone
      · rintro σ Hc ⟨o2, ls, rfl, e, hcD, _⟩
        rw [List.length_map, List.take_length] at hcD
        exact ⟨_, rfl, k1 ws hit hseq hperm Dd Hc hDd0 hcD e⟩
end
end K04

namespace K04
open PySem PySem.Spec PyProof.Rows L2 Evl LT
/-! ### the law's wishes -/
abbrev sLWishes : Stmt := top 31
abbrev NLWishes : List Str := ["_law_raw_here", "_law_guest"]
theorem scLWishes : FnScope NLWishes ["_law_raw_here"] (defScope sLWishes) := ⟨rfl, rfl, rfl, by decide +kernel, rfl, by decide +kernel, by decide +kernel⟩
def spLWishes (K : PySem.W.Frag) (C : Addr) : Sp := fun vs H Q _ => ∃ (p : Addr) (kp : List (Key × V)) (G : Hp) (rv : V) (gs : List Str) (R : List (Str × List Str)), vs = [rv] ∧ H p = some (.dK kp) ∧ Ex G H ∧ RawAt K G rv gs R ∧ RawOk gs R ∧ gs.length ≤ 16 ∧ R.length ≤ 16 ∧ ∀ x H', H x = none → WAt K C (LT.del p H') x gs R → Ex H H' → Q (.ref x) H'
def TupV (H : Hp) (kvs : List (Key × V)) (R : List (Str × List Str)) : Prop := Paired (fun kv r => kv.1 = .inr r.1 ∧ ∃ t, kv.2 = V.ref t ∧ H t = some (.tup (r.2.map V.str))) kvs R
theorem TupV.upd {H : Hp} {t : Addr} {o : HO} (hn : ∀ xs, H t ≠ some (.tup xs)) : ∀ {kvs : List (Key × V)} {R : List (Str × List Str)}, TupV H kvs R → TupV (upd H t o) kvs R
  | _, _, .nil => .nil
  | _, _, .cons h l => .cons ⟨h.1, let ⟨p, e, hp⟩ := h.2; ⟨p, e, by rw [upd_ne (fun q => hn _ (q ▸ hp))]; exact hp⟩⟩ (TupV.upd hn l)
theorem TupV.den {K : PySem.W.Frag} {H : Hp} : ∀ {kvs : List (Key × V)} {R : List (Str × List Str)}, TupV H kvs R → DenK K H kvs (tRanks R)
  | _, _, .nil => .nil
  | _, _, .cons (a := a) (b := b) h l => by
    obtain ⟨k, v⟩ := a
    obtain ⟨e, t, e2, ht⟩ := h
    cases (show k = .inr b.1 from e)
    cases (show v = .ref t from e2)
    exact .cons (.tup (.inl (.inl ht)) (DenL.strs _)) (TupV.den l)
theorem TupV.del {H : Hp} {p : Addr} (hn : ∀ xs, H p ≠ some (.tup xs)) : ∀ {kvs : List (Key × V)} {R : List (Str × List Str)}, TupV H kvs R → TupV (LT.del p H) kvs R
  | _, _, .nil => .nil
  | _, _, .cons h l => .cons ⟨h.1, let ⟨t, e, ht⟩ := h.2; ⟨t, e, by rw [del_ne (fun q => hn _ (q ▸ ht))]; exact ht⟩⟩ (TupV.del hn l)
theorem TupV.len {H : Hp} : ∀ {kvs : List (Key × V)} {R : List (Str × List Str)}, TupV H kvs R → kvs.length = R.length
  | _, _, .nil => rfl
  | _, _, .cons h l => by rw [List.length_cons, List.length_cons, TupV.len l]
section
variable {P : Program} {w : World} {K : PySem.W.Frag} {mg : Str → Option Value} {base : Heap}
theorem ok_lwishes {f C fI : Addr} {fd fdI : FuncData} (F : Fun K "_law_wishes" "_law_wishes" sLWishes f fd) (T : TxtW K mg C) (mdi : mg "dict" = none) (M : Mk K C fI) (GI : FnOk P w K mg base CX0 4 fI fdI ["self", "gifts", "rankings"] (spWInit K C)) (bI : L2.Binds K fdI ["self", "gifts", "rankings"] []) :
    FnOk P w K mg base CX0 6 f fd ["_law_raw_here"] (spLWishes K C) := by
  refine F.ok scLWishes (fun vs H Q E h => ?_) (fun cdv A outer s H vs Q E hr h => ?_)
  · obtain ⟨p, kp, G, rv, gs, R, rfl, _⟩ := h
    rfl
  · obtain ⟨p, kp, G, rv, gs, R, rfl, hpH, ex, ⟨r, gv, rd, kvs, rfl, hr', hgv, hrd, hden⟩, hok, hgl, hRl, k⟩ := h
    have hu := hu_of hr
    refine ⟨_, (pss_one (ps_ret (pe_make M GI hr rfl T.mgC bI .nil pass0 (pa_cons (pe_callTy call_list_of (by rfl) T.li (by decide +kernel) (pa_cons (pe_ix ix_tup (pv 0) pe_int (fun _ _ => rfl)) pa_nil))
      (pa_cons (pe_callTy (call_dictP rfl) (by rfl) mdi (by decide +kernel) (pa_cons (pe_lock (pe_lc (own := [("_law_guest", 1)]) (g := (gName 1)) (te := tTup (tCons (tVar 1) (tCons (tCB (rTupOf K) (tCons (tDGet (tOp (rIxT K) (tVar 0) (tC (.int 1))) (tVar 1)) tNil)) tNil))) rfl scLWishes.nd (pi_keys (pe_ix ix_tup (pv 0) pe_int (fun _ _ => rfl))) (blkOk_by (N := NLWishes) (sc := defScope sLWishes) (by decide +kernel)) (fun _ _ _ _ _ => (pg_name (i := 1) scLWishes.nd rfl (.inl rfl))) (fun _ _ _ _ _ => pts_nil)
        (fun _ _ _ _ _ => (pe_tup (pa_cons (pv 1) (pa_cons (pe_callTy (call_tuple_ofK (K := K)) (by rfl) T.tu (by decide +kernel) (pa_cons (pe_dget hu (pe_ix ix_tup (pv 0) pe_int (fun _ _ => rfl)) (pv 1) (fun _ _ => rfl)) pa_nil)) pa_nil)))))) pa_nil)) pa_nil))))), ?_⟩
    have hrH := ex_t ex hr'
    have hrdH := ex _ _ hrd
    refine ⟨_, rfl, r, _, 0, .ref gv, rfl, rfl, hrH, atOf (j := 0) rfl rfl, gv, _, rfl, .inl (ex_l ex hgv), fun L hL => ?_⟩
    have eL : Ex H (upd H L (.lst (gs.map V.str))) := Ex.new hL
    have hLL : (upd H L (.lst (gs.map V.str))) L = some (.lst (gs.map V.str)) := upd_same
    generalize upd H L (.lst (gs.map V.str)) = H1 at eL hLL ⊢
    have hrd1 := eL _ _ hrdH
    have hkeys : kvs.map (·.1) = (R.map (·.1)).map Sum.inr := by
      have := hden.keys
      rw [List.map_map] at this
      rw [List.map_map]
      exact this
    have hnd : (kvs.map (·.1)).Nodup := by
      rw [hkeys]
      exact List.Pairwise.map _ (fun _ _ h e => h (Sum.inr.inj e)) hok.un
    have hkl : kvs.length = R.length := by rw [hden.length, List.length_map]
    have hat : ∀ (i : Nat) (ky : Key) (v : V), kvs[i]? = some (ky, v) → ∃ r' : Str × List Str, R[i]? = some r' ∧ ky = .inr r'.1 ∧ Den K G v (dStrs r'.2) := by
      have go : ∀ {kvs : List (Key × V)} {R : List (Str × List Str)}, DenK K G kvs (R.map fun r => (.inr r.1, dStrs r.2)) → ∀ (i : Nat) (ky : Key) (v : V), kvs[i]? = some (ky, v) → ∃ r' : Str × List Str, R[i]? = some r' ∧ ky = .inr r'.1 ∧ Den K G v (dStrs r'.2) := by
        intro kvs
        induction kvs with
        | nil => intro R _ i ky v h; simp at h
        | cons p t ih =>
          intro R hd i ky v h
          cases R with
          | nil => cases hd
          | cons q t2 =>
            cases hd with
            | cons h1 l =>
              cases i with
              | zero => cases h; exact ⟨q, rfl, rfl, h1⟩
              | succ i => exact ih l i ky v h
      exact go hden
    refine ⟨rd, _, hrd1, trivial, fun od => ?_⟩
    have st2 : SqT K (upd H1 rd (.frz od (.dK kvs))) r [.ref gv, .ref rd] := st_tr hrd1 (fun b o hb ne => by rw [upd_ne ne]; exact hb) (ex_t eL hrH)
    refine ⟨_, rfl, r, _, 1, .ref rd, rfl, rfl, st2, atOf (j := 1) rfl rfl, rd, od, rfl, .inl ⟨kvs, upd_same, fun Dl hDl => ?_⟩⟩
    have Drd : Dl ≠ rd := fun q => by rw [q, upd_same] at hDl; cases hDl
    have hDl0 : H1 Dl = none := by rw [upd_ne Drd] at hDl; exact hDl
    refine lc_it walk_keys (fun i Hj => (∀ b o, H1 b = some o → b ≠ rd → Hj b = some o) ∧ Hj rd = some (.frz od (.dK kvs)) ∧ ∃ ps pairs, Hj Dl = some (.lst (ps.map V.ref)) ∧ Tups Hj ps pairs ∧ TupV Hj pairs (R.take i)) ?_ (fun i Hj _ ⟨_, h, _⟩ => h) ?_ ?_
    · refine ⟨fun b o hb ne => ?_, ?_, [], [], upd_same, .nil, .nil⟩
      · rw [upd_ne (ne_of_none hb hDl0), upd_ne ne]
        exact hb
      · rw [upd_ne Drd.symm, upd_same]
    · rintro i y Hq Hj hi ⟨ej, hjr, ps, pairs, hjD, tps, tvs⟩ ⟨rfl, ky, v, hkv, rfl⟩
      obtain ⟨q, hq, rfl, hdv⟩ := hat i ky v hkv
      obtain ⟨l, rfl⟩ : ∃ l, v = .ref l := by unfold dStrs at hdv; cases hdv with | lst h l => exact ⟨_, rfl⟩
      have hsl : SqL K Hj l (q.2.map V.str) := sl_tr hrd1 ej (ex_l (ex.trans eL) (den_strs hdv))
      have hst : SqT K Hj r [.ref gv, .ref rd] := st_tr hrd1 ej (ex_t eL hrH)
      have hval := val_nodup hnd hkv
      have htk : R.take (i + 1) = R.take i ++ [q] := by rw [List.take_add_one, hq]; rfl
      refine ⟨rfl, _, rfl, _, rfl, r, _, 1, .ref rd, rfl, rfl, hst, atOf (j := 1) rfl rfl, _, rfl, rd, _, rfl, .inl ⟨kvs, .inr q.1, .inr ⟨od, hjr⟩, rfl, hval.symm⟩, l, _, rfl, .inl ⟨hsl, fun t ht => ⟨by show 2 ≤ sizeLine; decide, fun t2 ht2 => ?_⟩⟩⟩
      have tD : Dl ≠ t := ne_of_none hjD ht
      have trd : rd ≠ t := ne_of_none hjr ht
      have tt2 : t ≠ t2 := fun e => by rw [← e, upd_same] at ht2; cases ht2
      have ht2j : Hj t2 = none := by rw [upd_ne tt2.symm] at ht2; exact ht2
      have t2D : Dl ≠ t2 := ne_of_none hjD ht2j
      have t2rd : rd ≠ t2 := ne_of_none hjr ht2j
      have hlp : ps.length = i := by
        have h1 := tps.len
        have h2 := tvs.len
        rw [List.length_take] at h2
        omega
      have nt : ∀ (Hx : Hp) (b : Addr), Hx b = none → ∀ xs, Hx b ≠ some (.tup xs) := fun Hx b hb xs e => by rw [hb] at e; cases e
      have nD : ∀ xs, (upd (upd Hj t (.tup (q.2.map V.str))) t2 (.tup [kV (.inr q.1), .ref t])) Dl ≠ some (.tup xs) := fun xs e => by
        rw [upd_ne t2D, upd_ne tD, hjD] at e
        cases e
      refine ⟨ps.map V.ref, by rw [upd_ne t2D, upd_ne tD]; exact hjD, sz_lt (by rw [List.length_map]; omega), fun b o hb ne => ?_, ?_, ps ++ [t2], pairs ++ [(.inr q.1, .ref t)], ?_, ?_, ?_⟩
      · have hbj := ej b o hb ne
        rw [upd_ne (ne_of_none hb hDl0), upd_ne (ne_of_none hbj ht2j), upd_ne (ne_of_none hbj ht)]
        exact hbj
      · rw [upd_ne Drd.symm, upd_ne t2rd, upd_ne trd]
        exact hjr
      · rw [upd_same, List.map_append]
        rfl
      · refine Paired.snoc (Tups.upd nD (Tups.upd (nt _ _ ht2) (Tups.upd (nt _ _ ht) tps))) ?_
        rw [upd_ne t2D.symm, upd_same]
      · rw [htk]
        refine Paired.snoc (TupV.upd nD (TupV.upd (nt _ _ ht2) (TupV.upd (nt _ _ ht) tvs))) ⟨rfl, t, rfl, ?_⟩
        rw [upd_ne tD.symm, upd_ne tt2, upd_same]
    · rintro Hj ⟨ej, hjr, ps, pairs, hjD, tps, tvs⟩
      have hfull : R.take kvs.length = R := List.take_of_length_le (by omega)
      rw [hfull] at tvs
      have nrd : ∀ xs, Hj rd ≠ some (.tup xs) := fun xs e => by rw [hjr] at e; cases e
      have tps2 : Tups (upd Hj rd (.dK kvs)) ps pairs := Tups.upd nrd tps
      have tvs2 : TupV (upd Hj rd (.dK kvs)) pairs R := TupV.upd nrd tvs
      have eF : Ex H1 (upd Hj rd (.dK kvs)) := fun b o hb => by
        by_cases q : b = rd
        · subst q; rw [upd_same, ← hrd1, hb]
        · rw [upd_ne q]; exact ej b o hb q
      have hDF : (upd Hj rd (.dK kvs)) Dl = some (.lst (ps.map V.ref)) := by rw [upd_ne Drd]; exact hjD
      refine ⟨hjr, Dl, ps, pairs, rfl, .inl (.inl hDF), tps2.sq, fun dd hdd => ?_⟩
      have hHF := eL.trans eF
      have hpF : (upd Hj rd (.dK kvs)) p = some (.dK kp) := hHF _ _ hpH
      have hdn := (tvs2.del (p := p) (fun xs e => by rw [hpF] at e; cases e)).den (K := K)
      have hnd2 : (pairs.map (·.1)).Nodup := by
        rw [hdn.keys]
        exact tRanks_nodup hok.un
      rw [merge_nodup _ hnd2]
      intro x dx hx hdx hne
      have eD : Ex (upd Hj rd (.dK kvs)) (upd (upd Hj rd (.dK kvs)) dd (.dK pairs)) := Ex.new hdd
      have eX : Ex (upd (upd Hj rd (.dK kvs)) dd (.dK pairs)) (upd (upd (upd (upd Hj rd (.dK kvs)) dd (.dK pairs)) dx (.own x)) x (.ins C dx [])) := (Ex.new hdx).trans (Ex.new (by rw [upd_ne hne.symm]; exact hx))
      have xdd : x ≠ dd := fun q => by rw [q, upd_same] at hx; cases hx
      have gx : (upd Hj rd (.dK kvs)) x = none := by rw [upd_ne xdd] at hx; exact hx
      have hx0 : H x = none := by
        cases hh : H x with
        | none => rfl
        | some o => rw [hHF _ _ hh] at gx; cases gx
      have Lp : L ≠ p := (ne_of_none hpH hL).symm
      have xp : x ≠ p := (ne_of_none hpH hx0).symm
      have exG : Ex (LT.del p (upd Hj rd (.dK kvs))) (upd (upd (upd (upd Hj rd (.dK kvs)) dd (.dK pairs)) dx (.own x)) x (.ins C dx [])) := ((del_ex p _).trans eD).trans eX
      have gn : ∀ b, (upd Hj rd (.dK kvs)) b = none → LT.del p (upd Hj rd (.dK kvs)) b = none := fun b hb => by
        by_cases q : b = p
        · rw [q]; exact del_self
        · rw [del_ne q]; exact hb
      refine ⟨x, L, dd, LT.del p (upd Hj rd (.dK kvs)), dx, gs, R, pairs, rfl, upd_same, exG, gn _ gx, gn _ hdd, eX _ _ upd_same, .inl (.inl (by rw [del_ne Lp]; exact eF _ _ hLL)), hok, hgl, hRl, hdn, fun H' W kp2 eG => ⟨rfl, k x H' hx0 (W.at xp (fun e => by rw [eX _ _ (eD _ _ hpF)] at e; cases e) eG del_self) ?_⟩⟩
      exact fun b o hb => kp2 b o (eX _ _ (eD _ _ (hHF b o hb))) (ne_of_none hb hx0)
end
end K04

namespace K04
open PySem PySem.Spec PyProof.Rows L2 Evl LT
/-! ### caught -/
abbrev sLCaught : Stmt := top 37
abbrev NLCaught : List Str := ["_law_wishes_here", "_law_row", "_law_heard", "e"]
theorem scLCaught : FnScope NLCaught ["_law_wishes_here", "_law_row"] (defScope sLCaught) := ⟨rfl, rfl, rfl, by decide +kernel, rfl, by decide +kernel, by decide +kernel⟩
def rIsAny (K : PySem.W.Frag) (cls : Value) (d : Option Addr) (a : Addr) : List V → Hp → VK → Prop := fun xs H Q => ∃ D : Addr, cls = .ref D ∧ d = none ∧ ExcC K D ∧ rIsE K D a xs H Q
theorem call_isAny {X : Cx} {a : Addr} {cls : Value} {d : Option Addr} {oe : Obj} {pn : List (Addr × Obj)} {K : PySem.W.Frag} (hz : Zc cls d oe) (hf : ∃ vs, oe.data = .fields vs) (hK : X.K = K := by rfl) : CallR (X.suite a ((a, oe) :: pn)) (.builtin "isinstance") (rIsAny K cls d a) := by
  subst hK
  intro pins s σ H xs us Q I r h
  obtain ⟨D, rfl, rfl, C, h⟩ := h
  exact call_isE C hz hf pins s σ H xs us Q I r h
structure TxtC (K : PySem.W.Frag) (mg : Str → Option Value) (CR : Addr) : Prop where
  ec : ExcC K CR
  ki : PySem.W.kitOne K (.ref CR) (.type "ValueError") = some true
  xm : PySem.W.exmOne K (.ref CR) (.ref CR) = some true
  is : mg "isinstance" = none
  ve : mg "ValueError" = none
def spCaught (K : PySem.W.Frag) (C CR : Addr) : Sp := fun vs H Q _ => ∃ (x : Addr) (v : V) (d : D) (gs : List Str) (R : List (Str × List Str)) (G : Hp), vs = [.ref x, v] ∧ WAt K C H x gs R ∧ RawOk gs R ∧ Ex G H ∧ Den K G v d ∧ d.items.length ≤ 1000 ∧ gs.length ≤ 100 ∧ R.length ≤ 100 ∧
  (∀ ws : List Str, d.items = ws.map D.str → d.isSeq = true → ws.Perm (R.map (·.1)) → ∀ a H', H a = none → H' a = some (.dK (keyed (holdL R gs ws))) → Ex H H' → Q (.ref a) H') ∧ (isOrd d (R.map (·.1)) = false → ∀ H', Ex H H' → Q (.str "row") H')
section
variable {P : Program} {w : World} {K : PySem.W.Frag} {mg : Str → Option Value} {base : Heap}
theorem ok_caught {f C CR fH : Addr} {fd fdH : FuncData} (F : Fun K "_law_caught" "_law_caught" sLCaught f fd) (TR : TxtR K mg CR) (TC : TxtC K mg CR)
    (GH : FnOk P w K mg base (L2.CX P w) 3 fH fdH ["wishes", "row"] (spChoose K C CR)) (gH : mg "choose" = some (.ref fH)) (kH : PySem.W.keepIn K (.ref fH) = true) (bH : L2.Binds K fdH ["wishes", "row"] []) :
    FnOk P w K mg base CX0 4 f fd ["_law_wishes_here", "_law_row"] (spCaught K C CR) := by
  refine F.ok scLCaught (fun vs H Q E h => ?_) (fun cdv A outer s H vs Q E hr h => ?_)
  · obtain ⟨x, v, d, gs, R, G, rfl, _⟩ := h
    rfl
  · obtain ⟨x, v, d, gs, R, G, rfl, W, hok, ex, hd, hil, hgl, hRl, k1, k2⟩ := h
    refine ⟨_, (pss_cons (ps_set (i := 2) scLCaught.nd rfl (.inl rfl) pe_non)
      (pss_cons (ps_try_as (i := 3) rfl rfl scLCaught.nd rfl rfl ⟨rfl, by decide, .inl TR.g⟩ takes0 (fun W pn xe tk _ => (pss_one (ps_set (i := 2) scLCaught.nd rfl (.inl rfl) (pe_callS GH hr rfl gH kH bH (fun σ => passAt tk σ) (pa_cons (pv 0) (pa_cons (pv 1) pa_nil))))))
        (fun a oe cls dd pn hz hf => (pss_one (ps_set (i := 2) scLCaught.nd rfl (.inl rfl) (pe_ifExp (pt_val (pe_callB (call_isAny (K := K) hz hf) (by rfl) TC.is (by decide +kernel) (pa_cons (pv 3) (pa_cons (pe_bltn (v := .ty "ValueError") (by rfl) TC.ve (by decide +kernel) rfl) pa_nil)))) pe_str pe_str)))))
      (pss_one (ps_ret (pv 2))))), ?_⟩
    refine ⟨_, rfl, _, rfl, x, v, d, gs, R, G, rfl, W, hok, ex, hd, hil, hgl, hRl, fun ws h1 h2 h3 a H' ha hH e => ⟨_, rfl, k1 ws h1 h2 h3 a H' ha hH e⟩, fun ho H' e => ?_⟩
    refine ⟨true, TC.xm, fun _ a ha => ?_, fun q => Bool.noConfusion q⟩
    refine ⟨_, rfl, CR, rfl, rfl, TC.ec, .ty "ValueError", _, true, rfl, fun u h => h, TC.ki, _, rfl, ?_⟩
    show (if true = true then _ else _)
    rw [if_pos rfl]
    exact ⟨_, rfl, k2 ho H' e⟩
end
end K04

set_option maxHeartbeats 4000000
namespace K04
open PySem PySem.Spec PyProof.Rows L2 Evl LT
/-! ### the law -/
theorem count_strs (n : Str) : ∀ ws : List Str, (ws.map D.str).countP (isS n) = ws.count n
  | [] => rfl
  | z :: r => by
    rw [List.map_cons, List.countP_cons, List.count_cons, count_strs n r]
    have : isS n (.str z) = (z == n) := (Bool.beq_eq_decide_eq z n).symm
    rw [this]
theorem ord_eq {d : D} {us : List Str} (hn : us.Nodup) : ordD d us = isOrd d us := by
  rw [Bool.eq_iff_iff]
  constructor
  · intro h
    unfold ordD at h
    simp only [Bool.and_eq_true, List.all_eq_true, decide_eq_true_eq] at h
    unfold isOrd
    simp only [Bool.and_eq_true, List.all_eq_true, decide_eq_true_eq]
    refine ⟨h.1.1, h.1.2, fun n hm => ?_⟩
    have := h.2 n hm
    rw [List.any_eq_true]
    have hp : 0 < d.items.countP (isS n) := by omega
    exact List.countP_pos_iff.mp hp
  · intro h
    obtain ⟨hs, ws, hit, hp⟩ := row_of hn h
    unfold ordD
    simp only [Bool.and_eq_true, List.all_eq_true, decide_eq_true_eq]
    refine ⟨⟨hs, by rw [hit, List.length_map, hp.length_eq]⟩, fun n hm => ?_⟩
    rw [hit, count_strs, hp.count_eq]
    rw [List.Nodup.count hn, if_pos hm]
/-- dicts that are alike, or plain values -/
def rNeU : R2 := fun x y H Q => rNe x y H Q ∨ rNeDA x y H Q
theorem op_neU {X : Cx} (hu : X.A.units < cLine) : OpR X (compareOp .NotEq) rNeU := by
  intro pins s σ H x y v u Q I rx ry h
  rcases h with h | h
  · exact op_ne pins s σ H x y v u Q I rx ry h
  · exact op_ne_dictA hu pins s σ H x y v u Q I rx ry h
theorem eqv_selfL : ∀ zs : List Str, PyData.eqvAll (zs.map PyData.str) (zs.map PyData.str) = true
  | [] => by simp [PyData.eqvAll]
  | z :: r => by
    have ih := eqv_selfL r
    simp [PyData.eqvAll, PyData.eqv, ih]
theorem eqv_self (zs : List Str) : PyData.eqv (.tuple (zs.map PyData.str)) (.tuple (zs.map PyData.str)) = true := by
  have := eqv_selfL zs
  simp [PyData.eqv, this]
theorem shaped_tstrs (ns : List Str) (h : ∀ n ∈ ns, PyData.strOk n = true) : SeqAt.shaped (.tuple (ns.map PyData.str)) = true := by
  have h1 := depth_strs ns
  have h2 : PyData.depth (.tuple (ns.map PyData.str)) ≤ 64 := by
    simp only [PyData.depth]
    omega
  show (PyData.canLay0 (.tuple (ns.map PyData.str)) && decide (PyData.depth (.tuple (ns.map PyData.str)) ≤ 64)) = true
  rw [Bool.and_eq_true]
  exact ⟨by simp only [PyData.canLay0]; exact lay_strs ns h, decide_eq_true h2⟩
theorem odd_rp : ∀ d ∈ oddL, d.rp = true := by
  intro d hd
  unfold oddL odd1 odd2 at hd
  simp only [List.cons_append, List.nil_append, List.mem_cons, List.not_mem_nil, or_false] at hd
  rcases hd with rfl | rfl | rfl | rfl | rfl | rfl | rfl | rfl | rfl | rfl | rfl | rfl | rfl | rfl | rfl | rfl | rfl | rfl | rfl | rfl | rfl | rfl | rfl | rfl | rfl | rfl | rfl <;> decide +kernel
theorem odd_vok : ∀ d ∈ oddL, Vok 100 d := by
  intro d hd
  unfold oddL odd1 odd2 at hd
  simp only [List.cons_append, List.nil_append, List.mem_cons, List.not_mem_nil, or_false] at hd
  rcases hd with rfl | rfl | rfl | rfl | rfl | rfl | rfl | rfl | rfl | rfl | rfl | rfl | rfl | rfl | rfl | rfl | rfl | rfl | rfl | rfl | rfl | rfl | rfl | rfl | rfl | rfl | rfl <;> exact ⟨by decide +kernel, by decide +kernel⟩
theorem hold_flatB {R : List (Str × List Str)} {gs : List Str} (hok : RawOk gs R) (ws : List Str) : ∀ p ∈ keyed (holdL R gs ws), flatB p.2 = true := by
  intro p hp
  unfold keyed at hp
  obtain ⟨q, hq, rfl⟩ := List.mem_map.mp hp
  rcases (hold_ok hok ws q hq).2 with e | ⟨z, e, _⟩
  · show flatB q.2 = true
    rw [e]; rfl
  · show flatB q.2 = true
    rw [e]; rfl
theorem hold_val {R : List (Str × List Str)} {gs : List Str} (hok : RawOk gs R) (ws : List Str) : ∀ p ∈ keyed (holdL R gs ws), valV (keyed (holdL R gs ws)) p.1 = some p.2 := by
  intro p hp
  obtain ⟨i, hi, e⟩ := List.getElem_of_mem hp
  have hnd : ((keyed (holdL R gs ws)).map (·.1)).Nodup := by
    have : (keyed (holdL R gs ws)).map (·.1) = (R.map (·.1)).map Sum.inr := by
      unfold keyed holdL
      rw [List.map_map, List.map_map, List.map_map]
      rfl
    rw [this]
    exact List.Pairwise.map _ (fun _ _ h e => h (Sum.inr.inj e)) hok.un
  refine val_nodup (i := i) hnd ?_
  rw [List.getElem?_eq_getElem hi, e]
end K04

set_option maxHeartbeats 4000000
namespace K04
open PySem PySem.Spec PyProof.Rows L2 Evl LT
abbrev sLaw : Stmt := top 38
abbrev NLaw : List Str := ["_law_script", "_law_pen_here", "_law_bout", "_law_limit", "_law_raw_here", "_law_row", "_law_wishes_here", "_law_due", "_law_handed", "_law_told", "_law_at", "_law_some", "_law_value", "_law_due_now", "_law_guest"]
theorem scLaw : FnScope NLaw ["_law_script"] (defScope sLaw) := ⟨rfl, rfl, rfl, by decide +kernel, rfl, by decide +kernel, by decide +kernel⟩
def spLaw (K : PySem.W.Frag) : Sp := fun vs H Q _ => ∃ (a : Addr) (ns : List Int), vs = [.ref a] ∧ SqL K H a (ns.map V.int) ∧ ns.length ≤ 63 ∧ ∀ H', Q (.bl true) H'
theorem passX {P : Program} {w : World} {X : Cx} : Passes (L2.CX P w) X E0 := fun _ _ _ _ _ _ _ h => by
  obtain ⟨_, _, _, _, _, _, _, _, _, _, _, _, z⟩ := h
  exact z.elim
theorem in_name {i : Nat} {v : V} {σ : L2.St} {H : Hp} {Q : L2.St → Hp → Prop} (h : Q (σ.set i (some v)) H) : gName i v σ H Q := h
structure TxtL (mg : Str → Option Value) : Prop where
  ra : mg "range" = none
  it : mg "int" = none
  is : mg "isinstance" = none
  di : mg "dict" = none
  re : mg "repr" = none
  tu : mg "tuple" = none
  li : mg "list" = none
  le : mg "len" = none
section
variable {P : Program} {w : World} {K : PySem.W.Frag} {mg : Str → Option Value} {base : Heap}
theorem ok_law {f C CR fH fW : Addr} {fd fdH fdW : FuncData} (F : Fun K "law" "law" sLaw f fd) (T : TxtL mg) (cpen : Cal P w K mg base 1 "_law_pen" ["_law_script"] (spPen K)) (cd : Cal P w K mg base 1 "_law_draw" ["_law_pen_here", "_law_many"] (spDraw K))
    (cbg : Cal P w K mg base 5 "_law_begin" ["_law_pen_here", "_law_guests", "_law_gifts"] (spBegin K)) (cw : Cal P w K mg base 6 "_law_wishes" ["_law_raw_here"] (spLWishes K C)) (cc : Cal P w K mg base 2 "_law_choose" ["_law_raw_here", "_law_row"] (spLChoose K))
    (co : Cal P w K mg base 3 "_law_odd" ["_law_pen_here"] (spOdd K)) (ct : Cal P w K mg base 4 "_law_caught" ["_law_wishes_here", "_law_row"] (spCaught K C CR))
    (GH : FnOk P w K mg base (L2.CX P w) 3 fH fdH ["wishes", "row"] (spChoose K C CR)) (gH : mg "choose" = some (.ref fH)) (kH : PySem.W.keepIn K (.ref fH) = true) (bH : L2.Binds K fdH ["wishes", "row"] [])
    (GO : FnG P w K mg base 1 fW fdW ["_law_value", "_law_names_here"] (spLIsOrder K)) (gO : mg "_law_is_order" = some (.ref fW)) (kO : PySem.W.keepIn K (.ref fW) = true) (bO : L2.Binds K fdW ["_law_value", "_law_names_here"] []) :
    FnG P w K mg base 7 f fd ["_law_script"] (spLaw K) := by
  obtain ⟨fE, fdE, GE, gE, kE, bE⟩ := cpen.ex
  obtain ⟨fD, fdD, GD, gD, kD, bD⟩ := cd.ex
  obtain ⟨fB, fdB, GB, gB, kB, bB⟩ := cbg.ex
  obtain ⟨fWi, fdWi, GWi, gWi, kWi, bWi⟩ := cw.ex
  obtain ⟨fC, fdC, GC, gC, kC, bC⟩ := cc.ex
  obtain ⟨fOd, fdOd, GOd, gOd, kOd, bOd⟩ := co.ex
  obtain ⟨fT, fdT, GT, gT, kT, bT⟩ := ct.ex
  refine okG F scLaw (fun vs H Q E h => ?_) (fun cdv A outer s H vs Q E hgd hr h => ?_)
  · obtain ⟨a, ns, rfl, _⟩ := h
    rfl
  · obtain ⟨a, ns, rfl, hs, hl, k⟩ := h
    have hu := hu_of hr
    have hr1 : Room 1 _ := hr.mono (by decide)
    have hr2 : Room 2 _ := hr.mono (by decide)
    have hr3 : Room 3 _ := hr.mono (by decide)
    have hr4 : Room 4 _ := hr.mono (by decide)
    have hr5 : Room 5 _ := hr.mono (by decide)
    refine ⟨_, (pss_cons (ps_set (i := 1) scLaw.nd rfl (.inl rfl) (pe_call GE hr1 rfl gE kE bE .nil pass0 (pa_cons (pv 0) pa_nil)))
      (pss_cons (ps_for PassesOwn.never rfl (pi_range1 rfl T.ra (pa_cons pe_int pa_nil)) (pg_name (i := 2) scLaw.nd rfl (.inl rfl))
        (pss_cons (ps_set (i := 3) scLaw.nd rfl (.inl rfl) (pe_ix ix_list (pe_lst (pa_cons pe_int (pa_cons pe_int pa_nil))) (pe_callTy call_int1 (by rfl) T.it (by decide +kernel) (pa_cons (pe_cmpR op_eq (pv 2) pe_int (nomark _)) pa_nil)) (fun _ _ => rfl)))
        (pss_cons (ps_asg (pe_call GB hr5 rfl gB kB bB .nil pass0 (pa_cons (pv 1) (pa_cons (pe_call GD hr1 rfl gD kD bD .nil pass0 (pa_cons (pv 1) (pa_cons (pv 3) pa_nil))) (pa_cons (pe_call GD hr1 rfl gD kD bD .nil pass0 (pa_cons (pv 1) (pa_cons (pv 3) pa_nil))) pa_nil)))) (pg_tup rfl (pgs_cons (pg_name (i := 4) scLaw.nd rfl (.inl rfl)) (pgs_cons (pg_name (i := 5) scLaw.nd rfl (.inl rfl)) pgs_nil))))
        (pss_cons (ps_par (i := 6) (j := 7) rfl scLaw.nd rfl rfl (by decide) rfl rfl (pa_cons (pe_call GWi hr rfl gWi kWi bWi .nil pass0 (pa_cons (pv 4) pa_nil)) (pa_cons (pe_call GC hr2 rfl gC kC bC .nil pass0 (pa_cons (pv 4) (pa_cons (pv 5) pa_nil))) pa_nil)) (by rfl))
        (pss_cons (ps_for PassesOwn.never rfl (pi_tup (pe_tup (pa_cons (pv 5) (pa_cons (pe_callTy call_list_of (by rfl) T.li (by decide +kernel) (pa_cons (pv 5) pa_nil)) pa_nil)))) (pg_name (i := 8) scLaw.nd rfl (.inl rfl))
          (pss_cons (ps_set (i := 9) scLaw.nd rfl (.inl rfl) (pe_call GH hr3 rfl gH kH bH .nil passX (pa_cons (pv 6) (pa_cons (pv 8) pa_nil))))
          (pss_cons (ps_if (PW.pt (pw_or (pt_not (pt_val (pe_callB call_isi (by rfl) T.is (by decide +kernel) (pa_cons (pv 9) (pa_cons (pe_bltn (v := .ty "dict") (by rfl) T.di (by decide +kernel) rfl) pa_nil)))))
            (pw_or (pt_cmpR op_ne (pe_callB (cr_repr hgd (room70 hr)) (by rfl) T.re (by decide +kernel) (pa_cons (pv 9) pa_nil)) (pe_callB (cr_repr hgd (room70 hr)) (by rfl) T.re (by decide +kernel) (pa_cons (pv 7) pa_nil)) (nomark _))
            (pw_or1 (pt_cmpR (op_neD hr.units) (pe_callTy call_tuple_of (by rfl) T.tu (by decide +kernel) (pa_cons (pv 8) pa_nil)) (pv 5) (nomark _)))))) (pss_one (ps_ret pe_bl)) pss_nil)
          (pss_one (ps_expr (pe_dclear (pv 9)))))))
        (pss_cons (ps_set (i := 10) scLaw.nd rfl (.inl rfl) (pe_call GD hr1 rfl gD kD bD .nil pass0 (pa_cons (pv 1) (pa_cons (pe_op op_add (pe_callB call_len_seq (by rfl) T.le PySem.boot_len (pa_cons (pv 5) pa_nil)) pe_int) pa_nil))))
        (pss_cons (ps_set (i := 11) scLaw.nd rfl (.inl rfl) (pe_lst (pa_cons (pe_op op_catA (pe_slice sl_tupA (pv 5) po_none (po_some (pv 10))) (pe_slice sl_tupA (pv 5) (po_some (pe_op op_add (pv 10) pe_int)) po_none))
          (pa_cons (pe_op op_catA (pv 5) (pe_slice sl_tupA (pv 5) po_none (po_some pe_int)))
          (pa_cons (pe_op op_catA (pe_op op_catA (pe_slice sl_tupA (pv 5) po_none (po_some (pv 10))) (pe_tup (pa_cons (pe_call GOd hr3 rfl gOd kOd bOd .nil pass0 (pa_cons (pv 1) pa_nil)) pa_nil))) (pe_slice sl_tupA (pv 5) (po_some (pe_op op_add (pv 10) pe_int)) po_none))
          (pa_cons (pe_call GOd hr3 rfl gOd kOd bOd .nil pass0 (pa_cons (pv 1) pa_nil)) pa_nil))))))
        (pss_cons (ps_expr (pe_bm PySem.F.plainAttrs_list PySem.F.slot_list_append PySem.F.type_list_append mt_append (pv 11) (pa_cons (pe_op op_catA (pe_slice sl_tupA (pv 5) po_none (po_some (pe_un un_neg pe_int))) (pe_slice sl_tupA (pv 5) po_none (po_some pe_int))) pa_nil)))
        (pss_one (ps_for PassesOwn.never rfl (pi_list (pe_op op_cat (pv 11) (pe_lst (pa_cons (pe_callTy (call_dictP rfl) (by rfl) T.di (by decide +kernel) (pa_cons (pe_lc (own := [("_law_guest", 14)]) (g := (gName 14)) (tt := tYes) rfl scLaw.nd (pi_tup (pv 5)) (blkOk_by (N := NLaw) (sc := defScope sLaw) (by decide +kernel)) (fun _ _ _ _ _ => (pg_name (i := 14) scLaw.nd rfl (.inl rfl))) (fun _ _ _ _ _ => pts_nil) (fun _ _ _ _ _ => (pe_tup (pa_cons (pv 14) (pa_cons pe_int pa_nil))))) pa_nil)) pa_nil)))) (pg_name (i := 12) scLaw.nd rfl (.inl rfl))
          (pss_cons (ps_set (i := 13) scLaw.nd rfl (.inl rfl) (pe_ifExp (pt_val (pe_callG GO hgd hr1 rfl gO kO bO .nil (pa_cons (pv 12) (pa_cons (pe_callTy (call_listD rfl) (by rfl) T.li (by decide +kernel) (pa_cons (pe_ix ix_tup (pv 4) pe_int (fun _ _ => rfl)) pa_nil)) pa_nil)))) (pe_call GC hr2 rfl gC kC bC .nil pass0 (pa_cons (pv 4) (pa_cons (pv 12) pa_nil))) pe_str))
          (pss_one (ps_if (pt_cmpR (op_neU (Nat.lt_of_succ_lt hu)) (pe_call GT hr4 rfl gT kT bT .nil pass0 (pa_cons (pv 6) (pa_cons (pv 12) pa_nil))) (pv 13) (by rfl)) (pss_one (ps_ret pe_bl)) pss_nil)))))))))))))
      (pss_one (ps_ret pe_bl)))), ?_⟩
    refine ⟨_, rfl, a, ns, rfl, hs, hl, fun G H1 p ex W => ?_⟩
    refine ⟨6, rfl, by decide, by decide, for_range (lo := 0) (n := 6) (fun i σ Hc => ∃ (o2 o3 o4 o5 o6 o7 o8 o9 o10 o11 o12 o13 o14 : Option V), σ = [some (.ref a), some (.ref p), o2, o3, o4, o5, o6, o7, o8, o9, o10, o11, o12, o13, o14] ∧ Wd K (LT.del p Hc) Hc p (i * 2000)) ⟨_, _, _, _, _, _, _, _, _, _, _, _, _, rfl, W.del.mono (by omega)⟩ ?_ ?_⟩
    · rintro i σ Hc hi ⟨o2, o3, o4, o5, o6, o7, o8, o9, o10, o11, o12, o13, o14, rfl, Wc⟩
      -- the limit
      refine ⟨by show 2 ≤ sizeLine; decide, fun L0 hL0 => ?_⟩
      have W1 : Wd K (LT.del p Hc) (upd Hc L0 (.lst [.int 6, .int 17])) p (i * 2000) := Wc.new hL0
      have hLL : (upd Hc L0 (.lst [.int 6, .int 17])) L0 = some (.lst [.int 6, .int 17]) := upd_same
      generalize upd Hc L0 (.lst [.int 6, .int 17]) = Hd at W1 hLL ⊢
      obtain ⟨m, hm, hat⟩ : ∃ m : Nat, (m = 6 ∨ m = 17) ∧ atI [V.int 6, V.int 17] (if decide (V.int (0 + (i : Int)) = V.int 0) = true then 1 else 0) = some (.int (m : Int)) := by
        cases decide (V.int (0 + (i : Int)) = V.int 0) with
        | true => exact ⟨17, .inr rfl, rfl⟩
        | false => exact ⟨6, .inl rfl, rfl⟩
      refine ⟨_, rfl, rfl, .inr ⟨_, rfl, L0, _, _, _, rfl, rfl, .inl (.inl hLL), hat, ?_⟩⟩
      -- the party
      refine ⟨_, rfl, _, rfl, _, rfl, LT.del p Hc, p, m, _, rfl, by omega, by omega, W1, by omega, fun G1 H1 v T1 W1 ⟨n1, e, n10, n1m⟩ => ?_⟩
      subst e
      obtain ⟨nu, rfl⟩ : ∃ nu : Nat, n1 = nu := ⟨n1.toNat, by omega⟩
      refine ⟨_, rfl, _, rfl, G1, p, m, _, rfl, by omega, by omega, W1, by omega, fun G2 H2 v T2 W2 ⟨n2, e, n20, n2m⟩ => ?_⟩
      subst e
      obtain ⟨ng, rfl⟩ : ∃ ng : Nat, n2 = ng := ⟨n2.toNat, by omega⟩
      refine ⟨G2, p, nu, ng, _, rfl, by omega, by omega, W2, by omega, fun G3 H3 v T3 W3 ⟨gs, R, us, hok, hgl, hRl, hperm, hden⟩ => ?_⟩
      obtain ⟨t, rv, w, rfl, ht, hraw, hw⟩ : ∃ (t : Addr) (rv : V) (w : Addr), v = .ref t ∧ SqT K G3 t [rv, .ref w] ∧ Den K G3 rv (dRaw gs R) ∧ SqT K G3 w (us.map V.str) := by
        cases hden with
        | tup hs l =>
          cases l with
          | cons h1 l =>
            cases l with
            | cons h2 l =>
              cases l
              obtain ⟨w, rfl, hw⟩ := den_tstrs h2
              exact ⟨_, _, w, rfl, hs, h1, hw⟩
      refine ⟨t, _, rfl, ex_t W3.ex ht, rfl, _, _, rfl, _, _, rfl, rfl, ?_⟩
      have hul : us.length = R.length := by rw [hperm.length_eq, List.length_map]
      have hrk : ∀ r ∈ R, r.2.length ≤ 100 := fun r hr' => by rw [(hok.rk r hr').length_eq]; omega
      obtain ⟨pc, ps, pm, pns, hp3, _⟩ := id W3.pen
      -- the wishes, what is due
      refine ⟨_, rfl, p, _, G3, rv, gs, R, rfl, hp3, W3.ex, rawAt hraw, hok, by omega, by omega, fun x H4 hx W4 e4 => ?_⟩
      refine ⟨_, rfl, _, rfl, G3, rv, gs, R, w, us, rfl, W3.ex.trans e4, rawAt hraw, hok.un, hrk, by omega, by omega, .inr (ex_t (W3.ex.trans e4) hw), hperm, fun dd H5 hdd hdue e5 => ?_⟩
      refine ⟨_, _, rfl, ?_⟩
      have e35 := e4.trans e5
      have hp5 := e35 _ _ hp3
      have W5 : WAt K C (LT.del p H5) x gs R := W4.mono (del_mono e5)
      have W5p : Wd K (LT.del p H5) H5 p (i * 2000 + 1 + 1 + 1026) := (W3.ext e35).del
      have eG5 : Ex G3 (LT.del p H5) := ex_del (W3.ex.trans e35) W3.np
      clear W4 W1 W2 T1 T2 T3
      have hw5 : SqT K H5 w (us.map V.str) := ex_t ((del_ex p H5).trans (Ex.refl _)) (ex_t eG5 hw)
      have hwl : (us.map V.str).length ≤ 100 := by rw [List.length_map]; omega
      have husn : us.Nodup := hperm.nodup_iff.mpr hok.un
      have huso : ∀ z ∈ us, NameOk z := fun z hz => by
        obtain ⟨r, hr', rfl⟩ := List.mem_map.mp (hperm.subset hz)
        exact hok.uo r hr'
      have hdl : (holdL R gs us).length ≤ 100 := by unfold holdL; rw [List.length_map]; omega
      have hvok := hold_ok hok us
      have hdK : ∀ {Gx : Hp}, DenK K Gx (keyed (holdL R gs us)) (holdDL (holdL R gs us)) := fun {Gx} => hold_denK hvok
      have hdep : (D.dct (holdDL (holdL R gs us))).py.depth ≤ 60 := by
        have := hold_depth (holdL R gs us)
        show PyData.depth (.dict (D.pyK (holdDL (holdL R gs us)))) ≤ 60
        simp only [PyData.depth]
        omega
      have hlen := hold_len hvok hdl
      have hshow : (D.dct (holdDL (holdL R gs us))).py.showable = true := hold_show _
      -- the row handed in as a tuple and as a list
      refine ⟨_, rfl, _, rfl, w, _, rfl, .inr hw5, fun l hl5 => ⟨by show 2 ≤ sizeLine; decide, fun t2 ht2 => ?_⟩⟩
      have e57 : Ex H5 (upd (upd H5 l (.lst (us.map V.str))) t2 (.tup [.ref w, .ref l])) := (Ex.new hl5).trans (Ex.new ht2)
      have ht7 : (upd (upd H5 l (.lst (us.map V.str))) t2 (.tup [.ref w, .ref l])) t2 = some (.tup [.ref w, .ref l]) := upd_same
      have hl7 : (upd (upd H5 l (.lst (us.map V.str))) t2 (.tup [.ref w, .ref l])) l = some (.lst (us.map V.str)) := (Ex.new ht2) _ _ upd_same
      generalize upd (upd H5 l (.lst (us.map V.str))) t2 (.tup [.ref w, .ref l]) = H7 at e57 ht7 hl7 ⊢
      refine ⟨t2, rfl, ⟨_, .inl (.inl ht7)⟩, for_tup (K := K) (xs := [.ref w, .ref l]) (fun j σ Hx => ∃ (o8 o9 : Option V), σ = [some (.ref a), some (.ref p), some (.int (0 + (i : Int))), some (.int (m : Int)), some rv, some (.ref w), some (.ref x), some (.ref dd), o8, o9, o10, o11, o12, o13, o14] ∧ Ex H7 Hx)
        ⟨_, _, rfl, Ex.refl _⟩ (fun j σ Hx _ ⟨_, _, _, e⟩ => .inl (.inl (e _ _ ht7))) ?_ ?_⟩
      · rintro j y σ Hx hj ⟨o8, o9, rfl, e⟩
        obtain ⟨hnd, d, rfl, hit, hseq, hdn⟩ : ∃ (hnd : Addr) (d : D), y = .ref hnd ∧ d.items = us.map D.str ∧ d.isSeq = true ∧ Den K Hx (.ref hnd) d ∧ SqLT K Hx hnd (us.map V.str) := by
          have hmem := List.mem_of_getElem? hj
          simp only [List.mem_cons, List.not_mem_nil, or_false] at hmem
          rcases hmem with rfl | rfl
          · have hx := ex_t (e57.trans e) hw5
            exact ⟨w, .tup (us.map D.str), rfl, rfl, rfl, .tup hx (DenL.strs us), .inr hx⟩
          · have hx : SqL K Hx l (us.map V.str) := .inl (.inl (e _ _ hl7))
            exact ⟨l, .lst (us.map D.str), rfl, rfl, rfl, .lst hx (DenL.strs us), .inl hx⟩
        obtain ⟨hdn, hsq⟩ := hdn
        have hord : isOrd d (R.map (·.1)) = true := by
          unfold isOrd
          rw [hseq, hit, Bool.true_and, Bool.and_eq_true]
          refine ⟨decide_eq_true (by rw [List.length_map, hperm.length_eq]), List.all_eq_true.mpr fun n hn => ?_⟩
          rw [any_isS]
          exact decide_eq_true (hperm.symm.subset hn)
        have Wx := (W5.mono (ex_del ((del_ex p H5).trans (e57.trans e)) del_self)).mono (del_ex p Hx)
        refine ⟨_, rfl, _, rfl, x, .ref hnd, d, gs, R, Hx, rfl, Wx, hok, Ex.refl _, hdn, by rw [hit, List.length_map]; omega, by omega, by omega, fun ws hws _ hwp told H8 htn ht8 e8 => ?_, fun ho => by rw [hord] at ho; cases ho⟩
        have ews : ws = us := by
          have := congrArg strsD (hws.symm.trans hit)
          rw [strsD_strs, strsD_strs] at this
          exact this
        subst ews
        have hd8 : H8 dd = some (.dK (keyed (holdL R gs ws))) := e8 _ _ (e _ _ (e57 _ _ hdue))
        refine ⟨_, rfl, .ref told, .ty "dict", _, _, true, rfl, .ty "dict", .base (.dK ht8), kit_ty (by decide +kernel), _, rfl, ?_⟩
        show (if (!true) = true then _ else _)
        rw [if_neg (by decide)]
        refine ⟨_, rfl, .ref told, .dct (holdDL (holdL R gs ws)), rfl, .dct ht8 hdK, hold_flat _, hshow, hdep, sz_of (by omega), _, rfl, .ref dd, .dct (holdDL (holdL R gs ws)), rfl, .dct hd8 hdK, hold_flat _, hshow, hdep, sz_of (by omega), rfl, _, rfl, ?_⟩
        show (if (!decide ((V.str _ : V) = V.str _)) = true then _ else _)
        rw [decide_eq_true rfl, if_neg (by decide)]
        have ht7n : H7 told = none := by
          cases hh : H7 told with
          | none => rfl
          | some o => rw [e _ _ hh] at htn; cases htn
        refine ⟨_, rfl, hnd, ws.map V.str, rfl, ?_⟩
        rcases ex_lt e8 hsq with h8 | h8
        · refine .inl ⟨h8, fun tl htl => ?_⟩
          have e9 : Ex H8 (upd H8 tl (.tup (ws.map V.str))) := Ex.new htl
          refine ⟨_, rfl, .tuple (ws.map PyData.str), .tuple (ws.map PyData.str), .tup (.inl (.inl upd_same)) (dp_strs ws), .tup (ex_t ((((e57.trans e).trans e8)).trans e9) hw5) (dp_strs ws), shaped_tstrs ws (fun z hz => (huso z hz).good.2), shaped_tstrs ws (fun z hz => (huso z hz).good.2), _, rfl, ?_⟩
          rw [eqv_self]
          show (if (!true) = true then _ else _)
          rw [if_neg (by decide)]
          exact ⟨_, rfl, .inr (.inr (.inl ⟨rfl, .inl ⟨_, e9 _ _ ht8⟩⟩)), told, _, rfl, rfl, e9 _ _ ht8, _, _, rfl, ((e.trans e8).trans e9).mut ht7n⟩
        · refine .inr ⟨h8, ?_⟩
          refine ⟨_, rfl, .tuple (ws.map PyData.str), .tuple (ws.map PyData.str), .tup h8 (dp_strs ws), .tup (ex_t (((e57.trans e).trans e8)) hw5) (dp_strs ws), shaped_tstrs ws (fun z hz => (huso z hz).good.2), shaped_tstrs ws (fun z hz => (huso z hz).good.2), _, rfl, ?_⟩
          rw [eqv_self]
          show (if (!true) = true then _ else _)
          rw [if_neg (by decide)]
          exact ⟨_, rfl, .inr (.inr (.inl ⟨rfl, .inl ⟨_, ht8⟩⟩)), told, _, rfl, rfl, ht8, _, _, rfl, (e.trans e8).mut ht7n⟩
      · rintro σ Hx ⟨o8, o9, rfl, e⟩
        have e5x := e57.trans e
        have Wx : Wd K (LT.del p H5) Hx p (i * 2000 + 1 + 1 + 1026) := W5p.ext e5x
        have hwx : SqT K (LT.del p H5) w (us.map V.str) := ex_t eG5 hw
        -- the place
        refine ⟨_, rfl, _, rfl, w, _, rfl, .inr (ex_t e5x hw5), _, _, rfl, rfl, LT.del p H5, p, ((us.map V.str).length : Int) + 1, _, rfl, by omega, by omega, Wx, by omega, fun G6 H6 v T6 W6 ⟨at_, e0, a0, a1⟩ => ?_⟩
        subst e0
        have hw6 : SqT K G6 w (us.map V.str) := ex_t T6.g hwx
        have hrow : ∀ e ∈ us.map D.str, e.rp = true := fun e he => by
          obtain ⟨z, hz, rfl⟩ := List.mem_map.mp he
          exact rp_name (huso z hz)
        have hrl : (us.map D.str).length ≤ 16 := by rw [List.length_map]; omega
        have vrow : ∀ {σ' : L2.St}, σ'[5]? = some (some (.ref w)) → EvP K G6 (tVar 5) σ' p 0 (Tok 16) := fun {σ'} h => evp_of (d := .tup (us.map D.str)) (evd_var h (.tup hw6 (DenL.strs us))) ⟨_, rfl, hrow, hrl⟩
        have vodd : ∀ {σ' : L2.St} {Pd : D → Prop}, σ'[1]? = some (some (.ref p)) → (∀ d ∈ oddL, Pd d) → EvP K G6 (tCall (spOdd K) [] E0 (tCons (tVar 1) tNil)) σ' p 1 Pd := fun {σ'} {Pd} h hP G H B e W hB Q q =>
          ⟨_, h, G, p, B, rfl, W, by omega, fun G' H' v T W' ⟨d, hd, hden⟩ => q G' H' v d T W' hden (hP d hd)⟩
        have part : ∀ {te : TE} {z : Int} {σ' : L2.St}, (∀ (H : Hp) (Q : VK), Q (.int z) H → te σ' H Q) → ∀ (H : Hp) (Q : Option Int → Hp → Prop), Q (some z) H → tPart te σ' H Q := fun {te} {z} {σ'} h H Q q => h H _ ⟨z, rfl, q⟩
        have npart : ∀ {σ' : L2.St} (H : Hp) (Q : Option Int → Hp → Prop), Q none H → tNoPart σ' H Q := fun {σ'} H Q q => q
        refine in_name ?_
        dsimp only
        refine in_set ?_
        refine evl_lst (K := K) (G0 := G6) (p := p) (Pd := Vok 100) (n := 2) (c := 4) ?_ (by omega) (Ex.refl G6) W6 (by omega) fun G8 H8 L vs ds T8 W8 hds hvs hdsl hL8 hLn gL8 Lp => ?_
        · have i10 : ∀ (H : Hp) (Q : VK), Q (.int at_) H → tVar 10 [some (.ref a), some (.ref p), some (.int (0 + (i : Int))), some (.int (m : Int)), some rv, some (.ref w), some (.ref x), some (.ref dd), o8, o9, some (.int at_), o11, o12, o13, o14] H Q := fun H Q q => ⟨_, rfl, q⟩
          have i11 : ∀ (H : Hp) (Q : VK), Q (.int (at_ + 1)) H → tOp (rI0 fun i j => V.int (i + j)) (tVar 10) (tC (V.int 1)) [some (.ref a), some (.ref p), some (.int (0 + (i : Int))), some (.int (m : Int)), some rv, some (.ref w), some (.ref x), some (.ref dd), o8, o9, some (.int at_), o11, o12, o13, o14] H Q := fun H Q q => ⟨_, rfl, _, _, rfl, rfl, q⟩
          have up : ∀ {n : Nat} {te : TE} {k : Nat}, k ≤ 100 → EvP K G6 te [some (.ref a), some (.ref p), some (.int (0 + (i : Int))), some (.int (m : Int)), some rv, some (.ref w), some (.ref x), some (.ref dd), o8, o9, some (.int at_), o11, o12, o13, o14] p n (Tok k) → EvP K G6 te [some (.ref a), some (.ref p), some (.int (0 + (i : Int))), some (.int (m : Int)), some rv, some (.ref w), some (.ref x), some (.ref dd), o8, o9, some (.int at_), o11, o12, o13, o14] p n (Vok 100) := fun hk h => h.imp fun d hd => hd.vok.mono hk
          exact evpa_cons (n := 0) (m := 2) (up (by decide) (evp_cat (by decide) (evp_slice (vrow rfl) npart (part i10)) (evp_slice (vrow rfl) (part i11) npart)))
            (evpa_cons (n := 0) (m := 2) (up (by decide) (evp_cat (by decide) (vrow rfl) (evp_slice (hi := some 1) (vrow rfl) npart (part fun H Q q => q))))
            (evpa_cons (n := 1) (m := 1) (up (by decide) (evp_cat (n2 := 0) (by decide) (evp_cat (n := 0) (n2 := 1) (by decide) (evp_slice (vrow rfl) npart (part i10)) (evp_one (vodd rfl odd_rp))) (evp_slice (vrow rfl) (part i11) npart)))
            (evpa_cons (n := 1) (m := 0) (vodd rfl odd_vok) evpa_nil)))
        · obtain ⟨r, gv, rd, kvs, rfl, hr3, hgv3, hrd3, hden3⟩ := (rawAt hraw).ex
          have hvl : vs.length = 4 := by rw [hds.length, hdsl]
          refine ⟨_, rfl, .inl ⟨rfl, _, .inl (.inl hL8)⟩, ?_⟩
          refine tcons_one ?_
          refine evp_cat (K := K) (G0 := G6) (p := p) (n := 0) (n2 := 0) (m := 16) (m2 := 16) (by decide) (evp_slice (hi := some (-1)) (vrow rfl) npart (part fun H Q q => ⟨_, rfl, q⟩)) (evp_slice (hi := some 1) (vrow rfl) npart (part fun H Q q => q)) G8 H8 _ T8.g W8 (by omega) _ fun G9 H9 v9 d9 T9 W9 hd9 hp9 => ?_
          have hL9 := T9.k _ _ hL8 Lp
          have gL9 : G9 L = none := T9.nw L (by rw [hL8]; exact fun z => nomatch z) gL8
          refine ⟨L, vs, v9, rfl, rfl, hL9, sz_lt (by omega), ?_⟩
          have W10 : Wd K G9 (upd H9 L (.lst (vs ++ [v9]))) p (i * 2000 + 1 + 1 + 1026 + 1 + 2 + (0 + 0)) := W9.mut gL9 Lp
          have hL10 : (upd H9 L (.lst (vs ++ [v9]))) L = some (.lst (vs ++ [v9])) := upd_same
          generalize upd H9 L (.lst (vs ++ [v9])) = H10 at W10 hL10 ⊢
          have e510 : Ex (LT.del p H5) H10 := ((T6.g.trans T8.g).trans T9.g).trans W10.ex
          have hw10 : SqT K H10 w (us.map V.str) := ex_t (eG5.trans e510) hw
          -- the values, one by one
          refine ⟨_, rfl, ?_⟩
          refine ⟨_, rfl, w, rfl, ⟨_, hw10⟩, fun Dl hDl => ?_⟩
          refine lc_tup (K := K) (a := w) (xs := us.map V.str) (fun j Hj => Ex H10 Hj ∧ ∃ pr, Hj Dl = some (.lst (pr.map V.ref)) ∧ Tups Hj pr ((us.take j).map fun u => ((.inr u : Key), V.int 1))) ⟨Ex.new hDl, [], upd_same, .nil⟩ (fun j Hj _ ⟨e, _⟩ => ex_t e hw10) ?_ ?_
          · rintro j y Hj hy ⟨ej, pr, hjD, tps⟩
            rw [List.getElem?_map] at hy
            obtain ⟨u, hu', rfl⟩ := Option.map_eq_some_iff.mp hy
            have htk : us.take (j + 1) = us.take j ++ [u] := by rw [List.take_add_one, hu']; rfl
            refine ⟨rfl, _, rfl, by show 2 ≤ sizeLine; decide, fun tt htt => ?_⟩
            have tD : Dl ≠ tt := ne_of_none hjD htt
            have hpl := tps.len
            rw [List.length_map, List.length_take] at hpl
            refine ⟨pr.map V.ref, by rw [upd_ne tD]; exact hjD, sz_lt (by rw [List.length_map]; omega), (ej.trans (Ex.new htt)).mut hDl, pr ++ [tt], ?_, ?_⟩
            · rw [upd_same, List.map_append]
              rfl
            · rw [htk, List.map_append]
              refine Paired.snoc (Tups.upd (fun xs q => ?_) (Tups.upd (fun xs q => by rw [htt] at q; cases q) tps)) ?_
              · rw [upd_ne tD, hjD] at q
                cases q
              · rw [upd_ne tD.symm, upd_same]
                rfl
          · rintro Hj ⟨ej, pr, hjD, tps⟩
            rw [List.length_map, List.take_length] at tps
            refine ⟨Dl, pr, _, rfl, .inl (.inl hjD), tps.sq, fun dq hdq => ⟨by show 1 ≤ sizeLine; decide, fun lq hlq => ?_⟩⟩
            have hndk : (((us.map fun u => ((.inr u : Key), V.int 1)) : List (Key × V)).map (·.1)).Nodup := by
              rw [List.map_map]
              exact List.Pairwise.map _ (fun _ _ h e => h (Sum.inr.inj e)) husn
            rw [merge_nodup _ hndk] at hlq ⊢
            have eq1 : Ex H10 (upd (upd Hj dq (.dK (us.map fun u => ((.inr u : Key), V.int 1)))) lq (.lst [.ref dq])) := (ej.trans (Ex.new hdq)).trans (Ex.new hlq)
            have hdq1 : (upd (upd Hj dq (.dK (us.map fun u => ((.inr u : Key), V.int 1)))) lq (.lst [.ref dq])) dq = some (.dK (us.map fun u => ((.inr u : Key), V.int 1))) := (Ex.new hlq) _ _ upd_same
            have hlq1 : (upd (upd Hj dq (.dK (us.map fun u => ((.inr u : Key), V.int 1)))) lq (.lst [.ref dq])) lq = some (.lst [.ref dq]) := upd_same
            generalize upd (upd Hj dq (.dK (us.map fun u => ((.inr u : Key), V.int 1)))) lq (.lst [.ref dq]) = H11 at eq1 hdq1 hlq1 ⊢
            refine ⟨L, lq, vs ++ [v9], [.ref dq], rfl, rfl, eq1 _ _ hL10, hlq1, sz_of (by simp only [List.length_append, List.length_cons, List.length_nil]; omega), fun lc hlc => ?_⟩
            have e12 : Ex H11 (upd H11 lc (.lst (vs ++ [v9] ++ [.ref dq]))) := Ex.new hlc
            have hlc1 : (upd H11 lc (.lst (vs ++ [v9] ++ [.ref dq]))) lc = some (.lst (vs ++ [v9] ++ [.ref dq])) := upd_same
            generalize upd H11 lc (.lst (vs ++ [v9] ++ [.ref dq])) = H12 at e12 hlc1 ⊢
            have e1012 := eq1.trans e12
            have all : ∀ y ∈ vs ++ [v9] ++ [V.ref dq], ∃ d, Den K H12 y d ∧ Vok 100 d := fun y hy => by
              rcases List.mem_append.mp hy with hy | hy
              · rcases List.mem_append.mp hy with hy | hy
                · obtain ⟨d, hd, hdn⟩ := hds.mem hy
                  exact ⟨d, hdn.mono ((T9.g.trans W10.ex).trans e1012), hvs d hd⟩
                · rw [List.mem_singleton.mp hy]
                  exact ⟨d9, hd9.mono (W10.ex.trans e1012), hp9.vok.mono (by decide)⟩
              · rw [List.mem_singleton.mp hy]
                refine ⟨.dct (us.map fun u => ((.inr u : Key), D.int 1)), .dct (e12 _ _ hdq1) ?_, ⟨fun e he => absurd he (List.not_mem_nil), by show 0 ≤ 100; decide⟩⟩
                have go : ∀ l : List Str, DenK K H12 (l.map fun u => ((.inr u : Key), V.int 1)) (l.map fun u => ((.inr u : Key), D.int 1)) := fun l => by
                  induction l with
                  | nil => exact .nil
                  | cons z l ih => exact .cons (.int 1) ih
                exact go us
            have e512 := e510.trans e1012
            refine ⟨lc, rfl, ⟨_, .inl (.inl hlc1)⟩, for_list (K := K) (xs := vs ++ [v9] ++ [V.ref dq]) (fun j σ Hx => ∃ (o12 o13 : Option V), σ = [some (.ref a), some (.ref p), some (.int (0 + (i : Int))), some (.int (m : Int)), some (.ref r), some (.ref w), some (.ref x), some (.ref dd), o8, o9, some (.int at_), some (.ref L), o12, o13, o14] ∧ Ex H12 Hx)
              ⟨_, _, rfl, Ex.refl _⟩ (fun j σ Hx _ ⟨_, _, _, e⟩ => .inl (.inl (e _ _ hlc1))) ?_ ?_⟩
            · rintro j y σ Hx hy ⟨o12', o13', rfl, e⟩
              obtain ⟨d, hdy, hdv⟩ := all y (List.mem_of_getElem? hy)
              have e5x2 := e512.trans e
              have eG := eG5.trans e5x2
              have hkeys : kvs.map (fun kv => kV kv.1) = (R.map (·.1)).map V.str := by
                have := congrArg (List.map kV) hden3.keys
                rw [List.map_map, List.map_map, List.map_map] at this
                rw [List.map_map]
                exact this
              refine ⟨_, rfl, _, rfl, r, _, 1, .ref rd, rfl, rfl, ex_t eG hr3, atOf (j := 1) rfl rfl, rd, kvs, rfl, .inl (eG _ _ hrd3), fun l2 hl2 => ?_⟩
              rw [hkeys]
              have el2 : Ex Hx (upd Hx l2 (.lst ((R.map (·.1)).map V.str))) := Ex.new hl2
              have hl21 : (upd Hx l2 (.lst ((R.map (·.1)).map V.str))) l2 = some (.lst ((R.map (·.1)).map V.str)) := upd_same
              generalize upd Hx l2 (.lst ((R.map (·.1)).map V.str)) = H13 at el2 hl21 ⊢
              refine ⟨H13, y, d, l2, R.map (·.1), rfl, Ex.refl _, hdy.mono (e.trans el2), .inl (.inl hl21), fun n hn => ?_, by rw [List.length_map]; omega, hdv.1, hdv.2, fun H14 e14 => ⟨_, rfl, ?_⟩⟩
              · obtain ⟨q, hq, rfl⟩ := List.mem_map.mp hn
                exact hok.uo q hq
              have e1214 := (e.trans el2).trans e14
              have e514 := e512.trans e1214
              have eG14 := eG5.trans e514
              have W14 := W5.mono e514
              have hdy14 := hdy.mono e1214
              have hraw14 : RawAt K G3 (.ref r) gs R := ⟨r, gv, rd, kvs, rfl, hr3, hgv3, hrd3, hden3⟩
              have hil := hdv.2
              rw [ord_eq hok.un]
              refine ite2 (fun ho => ?_) (fun ho => ?_)
              · obtain ⟨hseq, ws, hit, hwp⟩ := row_of hok.un ho
                obtain ⟨ya, yxs, rfl, hysq, hyden⟩ := den_seq hdy14 hseq
                rw [hit] at hyden
                have eys := den_strsL hyden
                subst eys
                refine ⟨_, rfl, _, rfl, G3, .ref r, gs, R, ya, ws, rfl, eG14, hraw14, hok.un, hrk, by omega, by omega, hysq, hwp, fun d2 H15 hd2 hd2v e15 => ?_⟩
                refine ⟨_, rfl, _, rfl, x, .ref ya, d, gs, R, H15, rfl, W14.mono e15, hok, Ex.refl _, hdy14.mono e15, by omega, by omega, by omega, fun ws2 hit2 _ _ a2 H16 ha2 hH16 e16 => ?_, fun ho2 => by rw [ho] at ho2; cases ho2⟩
                have ews : ws2 = ws := by
                  have := congrArg strsD (hit2.symm.trans hit)
                  rw [strsD_strs, strsD_strs] at this
                  exact this
                subst ews
                refine ⟨_, rfl, .inr ⟨a2, d2, _, _, rfl, rfl, hH16, e16 _ _ hd2v, rfl, fun q hq => ⟨hold_val hok _ q hq, hold_flatB hok _ q hq⟩, _, rfl, ?_⟩⟩
                show (if false = true then _ else _)
                rw [if_neg (by decide)]
                exact ⟨_, _, rfl, (e1214.trans e15).trans e16⟩
              · have ho0 : isOrd d (R.map (·.1)) = false := by simpa using ho
                refine ⟨_, rfl, _, rfl, x, y, d, gs, R, H14, rfl, W14, hok, Ex.refl _, hdy14, by omega, by omega, by omega, fun ws2 hit2 hs2 hp2 => ?_, fun _ H16 e16 => ?_⟩
                · exfalso
                  have : isOrd d (R.map (·.1)) = true := by
                    unfold isOrd
                    rw [hs2, hit2, Bool.true_and, Bool.and_eq_true]
                    refine ⟨decide_eq_true (by rw [List.length_map, hp2.length_eq]), List.all_eq_true.mpr fun n hn => ?_⟩
                    rw [any_isS]
                    exact decide_eq_true (hp2.symm.subset hn)
                  rw [ho0] at this
                  cases this
                · refine ⟨_, rfl, .inl ⟨rfl, _, rfl, ?_⟩⟩
                  show (if (!decide ((V.str _ : V) = V.str _)) = true then _ else _)
                  rw [decide_eq_true rfl, if_neg (by decide)]
                  exact ⟨_, _, rfl, e1214.trans e16⟩
            · rintro σ Hx ⟨o12', o13', rfl, e⟩
              have W12 : Wd K G9 Hx p (i * 2000 + 1 + 1 + 1026 + 1 + 2 + (0 + 0)) := W10.ext (e1012.trans e)
              exact ⟨_, _, _, _, _, _, _, _, _, _, _, _, _, rfl, W12.del.mono (by omega)⟩
    · rintro σ Hc ⟨o2, o3, o4, o5, o6, o7, o8, o9, o10, o11, o12, o13, o14, rfl, Wc⟩
      exact k Hc
end
end K04

namespace K04
open PySem PySem.Spec PyProof.Rows L2 Evl LT
theorem exm_self {K : PySem.W.Frag} {S : Addr} (b : PySem.W.subIn K (.ref S) (.type "BaseException") = some true) (i : PySem.W.isClsIn K S = true) (t : PySem.W.typeIn K (.ref S) = some (.type "type")) (s : PySem.W.subIn K (.ref S) (.ref S) = some true) :
    PySem.W.exmOne K (.ref S) (.ref S) = some true := by
  have i2 : (PySem.W.clsIn K S).isSome = true := i
  have q1 : (some true == (some true : Option Bool)) = true := by decide
  have q2 : (true && (some (Value.type "type") == some (Value.type "type"))) = true := by decide +kernel
  unfold PySem.W.exmOne
  rw [b, if_pos q1]
  unfold PySem.W.kitCls
  dsimp only
  rw [i2, t, if_pos q2]
  exact s
theorem kit_sub {K : PySem.W.Frag} {S : Addr} {T : String} (h : PySem.W.subIn K (.ref S) (.type T) = some true) (m : PySem.W.kitMeta T = true) : PySem.W.kitOne K (.ref S) (.type T) = some true := by
  unfold PySem.W.kitOne
  rw [if_neg (show ¬ (Value.ref S == Value.type T) = true from fun q => by have := eq_of_beq q; cases this)]
  unfold PySem.W.kitCls
  dsimp only
  rw [if_pos m]
  exact h
theorem all_mk {l : PySem.W.OpenLaw} {w : World} {K : PySem.W.Frag} {h : Heap} {mg : Str → Option Value} {fa C CR : Addr} (X : K.In h) (G : h.Ns mainGlobals mg) (hfa : mg "law" = some (.ref fa))
    {f0 f1 f2 f3 f4 f5 f6 f7 f8 f9 f10 f11 f12 f13 f14 f15 f16 f17 f18 f19 f20 f21 f22 f23 f24 f25 f26 : Addr} {od0 an0 od1 an1 od2 an2 od3 an3 od4 an4 od5 an5 od6 an6 od7 an7 od8 an8 od9 an9 od10 an10 od11 an11 od12 an12 od13 an13 od14 an14 od15 an15 od16 an16 od17 an17 od18 an18 od19 an19 od20 an20 od21 an21 od22 an22 od23 an23 od24 an24 od25 an25 od26 an26 : Option Addr} {sl0 sl1 sl2 sl3 sl4 sl5 sl6 sl7 sl8 sl9 sl10 sl11 sl12 sl13 sl14 sl15 sl16 sl17 sl18 sl19 sl20 sl21 sl22 sl23 sl24 sl25 sl26 : Array (Option Value)} {oc0 kV0 dc0 pm0 cd0 ct0 oc1 kV1 dc1 pm1 cd1 ct1 oc2 kV2 dc2 pm2 cd2 ct2 oc3 kV3 dc3 pm3 cd3 ct3 oc4 kV4 dc4 pm4 cd4 ct4 oc5 kV5 dc5 pm5 cd5 ct5 oc6 kV6 dc6 pm6 cd6 ct6 oc7 kV7 dc7 pm7 cd7 ct7 oc8 kV8 dc8 pm8 cd8 ct8 oc9 kV9 dc9 pm9 cd9 ct9 oc10 kV10 dc10 pm10 cd10 ct10 oc11 kV11 dc11 pm11 cd11 ct11 oc12 kV12 dc12 pm12 cd12 ct12 oc13 kV13 dc13 pm13 cd13 ct13 oc14 kV14 dc14 pm14 cd14 ct14 oc15 kV15 dc15 pm15 cd15 ct15 oc16 kV16 dc16 pm16 cd16 ct16 oc17 kV17 dc17 pm17 cd17 ct17 oc18 kV18 dc18 pm18 cd18 ct18 oc19 kV19 dc19 pm19 cd19 ct19 oc20 kV20 dc20 pm20 cd20 ct20 oc21 kV21 dc21 pm21 cd21 ct21 oc22 kV22 dc22 pm22 cd22 ct22 oc23 kV23 dc23 pm23 cd23 ct23 oc24 kV24 dc24 pm24 cd24 ct24 oc25 kV25 dc25 pm25 cd25 ct25 oc26 kV26 dc26 pm26 cd26 ct26 : Value}
    {tk0 tk1 tk2 : Tok}
    (aC : PySem.W.nsIn K mainGlobals "Wishes" = some (some (.ref C)))
    (aR : PySem.W.nsIn K mainGlobals "InvalidRow" = some (some (.ref CR)))
    (a0 : PySem.W.nsIn K mainGlobals "_law_pen" = some (some (.ref f0)))
    (l0 : K.lookup f0 = some ⟨oc0, od0, .func (PySem.W.fnOf "_law_pen" "_law_pen" (defArgs sLPen) (defBody sLPen) (defScope sLPen) .none kV0 dc0 pm0 an0 cd0 ct0), sl0⟩)
    (c0 : PySem.W.codeIn K cd0 "_law_pen" = true)
    (k0 : PySem.W.keepIn K (.ref f0) = true)
    (a1 : PySem.W.nsIn K mainGlobals "_law_draw" = some (some (.ref f1)))
    (l1 : K.lookup f1 = some ⟨oc1, od1, .func (PySem.W.fnOf "_law_draw" "_law_draw" (defArgs sLDraw) (defBody sLDraw) (defScope sLDraw) .none kV1 dc1 pm1 an1 cd1 ct1), sl1⟩)
    (c1 : PySem.W.codeIn K cd1 "_law_draw" = true)
    (k1 : PySem.W.keepIn K (.ref f1) = true)
    (a2 : PySem.W.nsIn K mainGlobals "_law_pick" = some (some (.ref f2)))
    (l2 : K.lookup f2 = some ⟨oc2, od2, .func (PySem.W.fnOf "_law_pick" "_law_pick" (defArgs sLPick) (defBody sLPick) (defScope sLPick) .none kV2 dc2 pm2 an2 cd2 ct2), sl2⟩)
    (c2 : PySem.W.codeIn K cd2 "_law_pick" = true)
    (k2 : PySem.W.keepIn K (.ref f2) = true)
    (a3 : PySem.W.nsIn K mainGlobals "_law_shuffled" = some (some (.ref f3)))
    (l3 : K.lookup f3 = some ⟨oc3, od3, .func (PySem.W.fnOf "_law_shuffled" "_law_shuffled" (defArgs sLShuffled) (defBody sLShuffled) (defScope sLShuffled) .none kV3 dc3 pm3 an3 cd3 ct3), sl3⟩)
    (c3 : PySem.W.codeIn K cd3 "_law_shuffled" = true)
    (k3 : PySem.W.keepIn K (.ref f3) = true)
    (a4 : PySem.W.nsIn K mainGlobals "_law_names" = some (some (.ref f4)))
    (l4 : K.lookup f4 = some ⟨oc4, od4, .func (PySem.W.fnOf "_law_names" "_law_names" (defArgs sLNames) (defBody sLNames) (defScope sLNames) .none kV4 dc4 pm4 an4 cd4 ct4), sl4⟩)
    (c4 : PySem.W.codeIn K cd4 "_law_names" = true)
    (k4 : PySem.W.keepIn K (.ref f4) = true)
    (a5 : PySem.W.nsIn K mainGlobals "_law_ranking" = some (some (.ref f5)))
    (l5 : K.lookup f5 = some ⟨oc5, od5, .func (PySem.W.fnOf "_law_ranking" "_law_ranking" (defArgs sLRanking) (defBody sLRanking) (defScope sLRanking) .none kV5 dc5 pm5 an5 cd5 ct5), sl5⟩)
    (c5 : PySem.W.codeIn K cd5 "_law_ranking" = true)
    (k5 : PySem.W.keepIn K (.ref f5) = true)
    (a6 : PySem.W.nsIn K mainGlobals "_law_raw" = some (some (.ref f6)))
    (l6 : K.lookup f6 = some ⟨oc6, od6, .func (PySem.W.fnOf "_law_raw" "_law_raw" (defArgs sLRaw) (defBody sLRaw) (defScope sLRaw) .none kV6 dc6 pm6 an6 cd6 ct6), sl6⟩)
    (c6 : PySem.W.codeIn K cd6 "_law_raw" = true)
    (k6 : PySem.W.keepIn K (.ref f6) = true)
    (a7 : PySem.W.nsIn K mainGlobals "_law_wishes" = some (some (.ref f7)))
    (l7 : K.lookup f7 = some ⟨oc7, od7, .func (PySem.W.fnOf "_law_wishes" "_law_wishes" (defArgs sLWishes) (defBody sLWishes) (defScope sLWishes) .none kV7 dc7 pm7 an7 cd7 ct7), sl7⟩)
    (c7 : PySem.W.codeIn K cd7 "_law_wishes" = true)
    (k7 : PySem.W.keepIn K (.ref f7) = true)
    (a8 : PySem.W.nsIn K mainGlobals "_law_best" = some (some (.ref f8)))
    (l8 : K.lookup f8 = some ⟨oc8, od8, .func (PySem.W.fnOf "_law_best" "_law_best" (defArgs sLBest) (defBody sLBest) (defScope sLBest) .none kV8 dc8 pm8 an8 cd8 ct8), sl8⟩)
    (c8 : PySem.W.codeIn K cd8 "_law_best" = true)
    (k8 : PySem.W.keepIn K (.ref f8) = true)
    (a9 : PySem.W.nsIn K mainGlobals "_law_choose" = some (some (.ref f9)))
    (l9 : K.lookup f9 = some ⟨oc9, od9, .func (PySem.W.fnOf "_law_choose" "_law_choose" (defArgs sLChoose) (defBody sLChoose) (defScope sLChoose) .none kV9 dc9 pm9 an9 cd9 ct9), sl9⟩)
    (c9 : PySem.W.codeIn K cd9 "_law_choose" = true)
    (k9 : PySem.W.keepIn K (.ref f9) = true)
    (a10 : PySem.W.nsIn K mainGlobals "_law_odd" = some (some (.ref f10)))
    (l10 : K.lookup f10 = some ⟨oc10, od10, .func (PySem.W.fnOf "_law_odd" "_law_odd" (defArgs sLOdd) (defBody sLOdd) (defScope sLOdd) .none kV10 dc10 pm10 an10 cd10 ct10), sl10⟩)
    (c10 : PySem.W.codeIn K cd10 "_law_odd" = true)
    (k10 : PySem.W.keepIn K (.ref f10) = true)
    (a11 : PySem.W.nsIn K mainGlobals "_law_is_order" = some (some (.ref f11)))
    (l11 : K.lookup f11 = some ⟨oc11, od11, .func (PySem.W.fnOf "_law_is_order" "_law_is_order" (defArgs sLIsOrder) (defBody sLIsOrder) (defScope sLIsOrder) .none kV11 dc11 pm11 an11 cd11 ct11), sl11⟩)
    (c11 : PySem.W.codeIn K cd11 "_law_is_order" = true)
    (k11 : PySem.W.keepIn K (.ref f11) = true)
    (a12 : PySem.W.nsIn K mainGlobals "_law_begin" = some (some (.ref f12)))
    (l12 : K.lookup f12 = some ⟨oc12, od12, .func (PySem.W.fnOf "_law_begin" "_law_begin" (defArgs sLBegin) (defBody sLBegin) (defScope sLBegin) .none kV12 dc12 pm12 an12 cd12 ct12), sl12⟩)
    (c12 : PySem.W.codeIn K cd12 "_law_begin" = true)
    (k12 : PySem.W.keepIn K (.ref f12) = true)
    (a13 : PySem.W.nsIn K mainGlobals "_law_caught" = some (some (.ref f13)))
    (l13 : K.lookup f13 = some ⟨oc13, od13, .func (PySem.W.fnOf "_law_caught" "_law_caught" (defArgs sLCaught) (defBody sLCaught) (defScope sLCaught) .none kV13 dc13 pm13 an13 cd13 ct13), sl13⟩)
    (c13 : PySem.W.codeIn K cd13 "_law_caught" = true)
    (k13 : PySem.W.keepIn K (.ref f13) = true)
    (a14 : PySem.W.nsIn K mainGlobals "is_name" = some (some (.ref f14)))
    (l14 : K.lookup f14 = some ⟨oc14, od14, .func (PySem.W.fnOf "is_name" "is_name" (defArgs sIsName) (defBody sIsName) (defScope sIsName) .none kV14 dc14 pm14 an14 cd14 ct14), sl14⟩)
    (c14 : PySem.W.codeIn K cd14 "is_name" = true)
    (k14 : PySem.W.keepIn K (.ref f14) = true)
    (a15 : PySem.W.nsIn K mainGlobals "are_names" = some (some (.ref f15)))
    (l15 : K.lookup f15 = some ⟨oc15, od15, .func (PySem.W.fnOf "are_names" "are_names" (defArgs sAreNames) (defBody sAreNames) (defScope sAreNames) .none kV15 dc15 pm15 an15 cd15 ct15), sl15⟩)
    (c15 : PySem.W.codeIn K cd15 "are_names" = true)
    (k15 : PySem.W.keepIn K (.ref f15) = true)
    (a16 : PySem.W.nsIn K mainGlobals "is_order" = some (some (.ref f16)))
    (l16 : K.lookup f16 = some ⟨oc16, od16, .func (PySem.W.fnOf "is_order" "is_order" (defArgs sIsOrder) (defBody sIsOrder) (defScope sIsOrder) .none kV16 dc16 pm16 an16 cd16 ct16), sl16⟩)
    (c16 : PySem.W.codeIn K cd16 "is_order" = true)
    (k16 : PySem.W.keepIn K (.ref f16) = true)
    (a17 : PySem.W.nsIn K mainGlobals "check_gifts" = some (some (.ref f17)))
    (l17 : K.lookup f17 = some ⟨oc17, od17, .func (PySem.W.fnOf "check_gifts" "check_gifts" (defArgs sCheckGifts) (defBody sCheckGifts) (defScope sCheckGifts) .none kV17 dc17 pm17 an17 cd17 ct17), sl17⟩)
    (c17 : PySem.W.codeIn K cd17 "check_gifts" = true)
    (k17 : PySem.W.keepIn K (.ref f17) = true)
    (a18 : PySem.W.nsIn K mainGlobals "check_rankings" = some (some (.ref f18)))
    (l18 : K.lookup f18 = some ⟨oc18, od18, .func (PySem.W.fnOf "check_rankings" "check_rankings" (defArgs sCheckRankings) (defBody sCheckRankings) (defScope sCheckRankings) .none kV18 dc18 pm18 an18 cd18 ct18), sl18⟩)
    (c18 : PySem.W.codeIn K cd18 "check_rankings" = true)
    (k18 : PySem.W.keepIn K (.ref f18) = true)
    (a19 : PySem.W.nsIn K mainGlobals "best_left" = some (some (.ref f19)))
    (l19 : K.lookup f19 = some ⟨oc19, od19, .func (PySem.W.fnOf "best_left" "best_left" (defArgs sBestLeft) (defBody sBestLeft) (defScope sBestLeft) .none kV19 dc19 pm19 an19 cd19 ct19), sl19⟩)
    (c19 : PySem.W.codeIn K cd19 "best_left" = true)
    (k19 : PySem.W.keepIn K (.ref f19) = true)
    (a20 : PySem.W.nsIn K mainGlobals "check_row" = some (some (.ref f20)))
    (l20 : K.lookup f20 = some ⟨oc20, od20, .func (PySem.W.fnOf "check_row" "check_row" (defArgs sCheckRow) (defBody sCheckRow) (defScope sCheckRow) .none kV20 dc20 pm20 an20 cd20 ct20), sl20⟩)
    (c20 : PySem.W.codeIn K cd20 "check_row" = true)
    (k20 : PySem.W.keepIn K (.ref f20) = true)
    (a21 : PySem.W.nsIn K mainGlobals "choose" = some (some (.ref f21)))
    (l21 : K.lookup f21 = some ⟨oc21, od21, .func (PySem.W.fnOf "choose" "choose" (defArgs sChoose) (defBody sChoose) (defScope sChoose) .none kV21 dc21 pm21 an21 cd21 ct21), sl21⟩)
    (c21 : PySem.W.codeIn K cd21 "choose" = true)
    (k21 : PySem.W.keepIn K (.ref f21) = true)
    (a22 : PySem.W.nsIn K mainGlobals "law" = some (some (.ref f22)))
    (l22 : K.lookup f22 = some ⟨oc22, od22, .func (PySem.W.fnOf "law" "law" (defArgs sLaw) (defBody sLaw) (defScope sLaw) .none kV22 dc22 pm22 an22 cd22 ct22), sl22⟩)
    (c22 : PySem.W.codeIn K cd22 "law" = true)
    (k22 : PySem.W.keepIn K (.ref f22) = true)
    (a23 : PySem.W.findIn K (.ref C) "__init__" = some (some (.ref f23)))
    (i23 : PySem.W.isFn K (.ref f23) = true)
    (l23 : K.lookup f23 = some ⟨oc23, od23, .func (PySem.W.fnOf "__init__" "Wishes.__init__" (defArgs sWInit) (defBody sWInit) (defScope sWInit) .none kV23 dc23 pm23 an23 cd23 ct23), sl23⟩)
    (c23 : PySem.W.codeIn K cd23 "Wishes.__init__" = true)
    (k23 : PySem.W.keepIn K (.ref f23) = true)
    (a24 : PySem.W.findIn K (.ref C) "gifts" = some (some (.ref f24)))
    (i24 : PySem.W.isFn K (.ref f24) = true)
    (l24 : K.lookup f24 = some ⟨oc24, od24, .func (PySem.W.fnOf "gifts" "Wishes.gifts" (defArgs sWGifts) (defBody sWGifts) (defScope sWGifts) .none kV24 dc24 pm24 an24 cd24 ct24), sl24⟩)
    (c24 : PySem.W.codeIn K cd24 "Wishes.gifts" = true)
    (k24 : PySem.W.keepIn K (.ref f24) = true)
    (a25 : PySem.W.findIn K (.ref C) "guests" = some (some (.ref f25)))
    (i25 : PySem.W.isFn K (.ref f25) = true)
    (l25 : K.lookup f25 = some ⟨oc25, od25, .func (PySem.W.fnOf "guests" "Wishes.guests" (defArgs sWGuests) (defBody sWGuests) (defScope sWGuests) .none kV25 dc25 pm25 an25 cd25 ct25), sl25⟩)
    (c25 : PySem.W.codeIn K cd25 "Wishes.guests" = true)
    (k25 : PySem.W.keepIn K (.ref f25) = true)
    (a26 : PySem.W.findIn K (.ref C) "ranking" = some (some (.ref f26)))
    (i26 : PySem.W.isFn K (.ref f26) = true)
    (l26 : K.lookup f26 = some ⟨oc26, od26, .func (PySem.W.fnOf "ranking" "Wishes.ranking" (defArgs sWRanking) (defBody sWRanking) (defScope sWRanking) .none kV26 dc26 pm26 an26 cd26 ct26), sl26⟩)
    (c26 : PySem.W.codeIn K cd26 "Wishes.ranking" = true)
    (k26 : PySem.W.keepIn K (.ref f26) = true)
    (pg : PySem.W.plainGet K C Str.empty = true)
    (hd : PySem.W.hasDictIn K C = true)
    (po : PySem.W.plainOver K C = true)
    (sa : PySem.W.findIn K (.ref C) "__setattr__" = some (some (.builtin "object.__setattr__")))
    (mk : PySem.W.makesIn K C = true)
    (kc : PySem.W.keepIn K (.ref C) = true)
    (n_gifts : PySem.W.findIn K (.ref C) "_gifts" = some none)
    (n_guests : PySem.W.findIn K (.ref C) "_guests" = some none)
    (n_rankings : PySem.W.findIn K (.ref C) "_rankings" = some none)
    (xR : PySem.W.excIn K CR [.type "ValueError", .type "Exception", .type "BaseException", .type "object"] "ValueError.__new__" = true)
    (kR : PySem.W.keepIn K (.ref CR) = true)
    (bR : PySem.W.subIn K (.ref CR) (.type "BaseException") = some true)
    (tR : PySem.W.typeIn K (.ref CR) = some (.type "type"))
    (e1 : PySem.W.findIn K (.ref CR) "__getattribute__" = some (some (.builtin "BaseException.__getattribute__")))
    (e2 : PySem.W.findIn K (.ref CR) "__getattr__" = some none)
    (e4 : PySem.W.hasDictIn K CR = true)
    (e5 : PySem.W.findIn K (.ref CR) "__class__" = some (some (.builtin "object.__class__")))
    (e6 : PySem.W.specialIn K (.builtin "object.__class__") "__get__" = some (some (.builtin "getset_descriptor.__get__")))
    (e7 : PySem.W.takesIn K (.builtin "object.__class__") = some true)
    (e8 : PySem.W.mroIn K CR (.type "object") = some true)
    (vF : PySem.W.subIn K (.ref CR) (.type "ValueError") = some true)
    (iF : PySem.W.isClsIn K CR = true)
    (sF : PySem.W.subIn K (.ref CR) (.ref CR) = some true)
    (z_list : PySem.W.nsIn K mainGlobals "list" = some none)
    (z_len : PySem.W.nsIn K mainGlobals "len" = some none)
    (z_abs : PySem.W.nsIn K mainGlobals "abs" = some none)
    (z_range : PySem.W.nsIn K mainGlobals "range" = some none)
    (z_isinstance : PySem.W.nsIn K mainGlobals "isinstance" = some none)
    (z_str : PySem.W.nsIn K mainGlobals "str" = some none)
    (z_all : PySem.W.nsIn K mainGlobals "all" = some none)
    (z_repr : PySem.W.nsIn K mainGlobals "repr" = some none)
    (z_dict : PySem.W.nsIn K mainGlobals "dict" = some none)
    (z_tuple : PySem.W.nsIn K mainGlobals "tuple" = some none)
    (z_set : PySem.W.nsIn K mainGlobals "set" = some none)
    (z_int : PySem.W.nsIn K mainGlobals "int" = some none)
    (z_ValueError : PySem.W.nsIn K mainGlobals "ValueError" = some none)
    (q0 : PySem.W.nsIn K mainGlobals "LETTERS" = some (some (.str abc tk0)))
    (q1 : PySem.W.nsIn K mainGlobals "GIFTS" = some (some (.int 16 tk1)))
    (q2 : PySem.W.nsIn K mainGlobals "GUESTS" = some (some (.int 16 tk2)))
    : ∃ fd : FuncData, (∀ (s : Shared) (v : Value), BindsTo s fd ⟨[v], []⟩ [("_law_script", v)]) ∧ ∀ base : Heap, K.In base → base.Ns mainGlobals mg → FnG l.prog w K mg base 7 fa fd ["_law_script"] (spLaw K) := by
  have e := hfa.symm.trans (PySem.W.mg_of X G a22)
  cases e
  have F0 := fun_mk (st := sLPen) l0 c0 k0
  have b0 := F0.binds (ps := ["_law_script"]) fun _ _ _ _ _ _ us hl => match us, hl with | [_], _ => rfl
  have g0 := PySem.W.mg_of X G a0
  have F1 := fun_mk (st := sLDraw) l1 c1 k1
  have b1 := F1.binds (ps := ["_law_pen_here", "_law_many"]) fun _ _ _ _ _ _ us hl => match us, hl with | [_, _], _ => rfl
  have g1 := PySem.W.mg_of X G a1
  have F2 := fun_mk (st := sLPick) l2 c2 k2
  have b2 := F2.binds (ps := ["_law_pen_here", "_law_some"]) fun _ _ _ _ _ _ us hl => match us, hl with | [_, _], _ => rfl
  have g2 := PySem.W.mg_of X G a2
  have F3 := fun_mk (st := sLShuffled) l3 c3 k3
  have b3 := F3.binds (ps := ["_law_pen_here", "_law_some"]) fun _ _ _ _ _ _ us hl => match us, hl with | [_, _], _ => rfl
  have g3 := PySem.W.mg_of X G a3
  have F4 := fun_mk (st := sLNames) l4 c4 k4
  have b4 := F4.binds (ps := ["_law_pen_here", "_law_many"]) fun _ _ _ _ _ _ us hl => match us, hl with | [_, _], _ => rfl
  have g4 := PySem.W.mg_of X G a4
  have F5 := fun_mk (st := sLRanking) l5 c5 k5
  have b5 := F5.binds (ps := ["_law_pen_here", "_law_gifts", "_law_known"]) fun _ _ _ _ _ _ us hl => match us, hl with | [_, _, _], _ => rfl
  have g5 := PySem.W.mg_of X G a5
  have F6 := fun_mk (st := sLRaw) l6 c6 k6
  have b6 := F6.binds (ps := ["_law_pen_here", "_law_guests", "_law_gifts"]) fun _ _ _ _ _ _ us hl => match us, hl with | [_, _, _], _ => rfl
  have g6 := PySem.W.mg_of X G a6
  have F7 := fun_mk (st := sLWishes) l7 c7 k7
  have b7 := F7.binds (ps := ["_law_raw_here"]) fun _ _ _ _ _ _ us hl => match us, hl with | [_], _ => rfl
  have g7 := PySem.W.mg_of X G a7
  have F8 := fun_mk (st := sLBest) l8 c8 k8
  have b8 := F8.binds (ps := ["_law_raw_here", "_law_guest", "_law_gifts"]) fun _ _ _ _ _ _ us hl => match us, hl with | [_, _, _], _ => rfl
  have g8 := PySem.W.mg_of X G a8
  have F9 := fun_mk (st := sLChoose) l9 c9 k9
  have b9 := F9.binds (ps := ["_law_raw_here", "_law_row"]) fun _ _ _ _ _ _ us hl => match us, hl with | [_, _], _ => rfl
  have g9 := PySem.W.mg_of X G a9
  have F10 := fun_mk (st := sLOdd) l10 c10 k10
  have b10 := F10.binds (ps := ["_law_pen_here"]) fun _ _ _ _ _ _ us hl => match us, hl with | [_], _ => rfl
  have g10 := PySem.W.mg_of X G a10
  have F11 := fun_mk (st := sLIsOrder) l11 c11 k11
  have b11 := F11.binds (ps := ["_law_value", "_law_names_here"]) fun _ _ _ _ _ _ us hl => match us, hl with | [_, _], _ => rfl
  have g11 := PySem.W.mg_of X G a11
  have F12 := fun_mk (st := sLBegin) l12 c12 k12
  have b12 := F12.binds (ps := ["_law_pen_here", "_law_guests", "_law_gifts"]) fun _ _ _ _ _ _ us hl => match us, hl with | [_, _, _], _ => rfl
  have g12 := PySem.W.mg_of X G a12
  have F13 := fun_mk (st := sLCaught) l13 c13 k13
  have b13 := F13.binds (ps := ["_law_wishes_here", "_law_row"]) fun _ _ _ _ _ _ us hl => match us, hl with | [_, _], _ => rfl
  have g13 := PySem.W.mg_of X G a13
  have F14 := fun_mk (st := sIsName) l14 c14 k14
  have b14 := F14.binds (ps := ["value"]) fun _ _ _ _ _ _ us hl => match us, hl with | [_], _ => rfl
  have g14 := PySem.W.mg_of X G a14
  have F15 := fun_mk (st := sAreNames) l15 c15 k15
  have b15 := F15.binds (ps := ["value"]) fun _ _ _ _ _ _ us hl => match us, hl with | [_], _ => rfl
  have g15 := PySem.W.mg_of X G a15
  have F16 := fun_mk (st := sIsOrder) l16 c16 k16
  have b16 := F16.binds (ps := ["value", "names"]) fun _ _ _ _ _ _ us hl => match us, hl with | [_, _], _ => rfl
  have g16 := PySem.W.mg_of X G a16
  have F17 := fun_mk (st := sCheckGifts) l17 c17 k17
  have b17 := F17.binds (ps := ["gifts"]) fun _ _ _ _ _ _ us hl => match us, hl with | [_], _ => rfl
  have g17 := PySem.W.mg_of X G a17
  have F18 := fun_mk (st := sCheckRankings) l18 c18 k18
  have b18 := F18.binds (ps := ["gifts", "rankings"]) fun _ _ _ _ _ _ us hl => match us, hl with | [_, _], _ => rfl
  have g18 := PySem.W.mg_of X G a18
  have F19 := fun_mk (st := sBestLeft) l19 c19 k19
  have b19 := F19.binds (ps := ["ranking", "gone"]) fun _ _ _ _ _ _ us hl => match us, hl with | [_, _], _ => rfl
  have g19 := PySem.W.mg_of X G a19
  have F20 := fun_mk (st := sCheckRow) l20 c20 k20
  have b20 := F20.binds (ps := ["wishes", "row"]) fun _ _ _ _ _ _ us hl => match us, hl with | [_, _], _ => rfl
  have g20 := PySem.W.mg_of X G a20
  have F21 := fun_mk (st := sChoose) l21 c21 k21
  have b21 := F21.binds (ps := ["wishes", "row"]) fun _ _ _ _ _ _ us hl => match us, hl with | [_, _], _ => rfl
  have g21 := PySem.W.mg_of X G a21
  have F22 := fun_mk (st := sLaw) l22 c22 k22
  have F23 := fun_mk (st := sWInit) l23 c23 k23
  have b23 := F23.binds (ps := ["self", "gifts", "rankings"]) fun _ _ _ _ _ _ us hl => match us, hl with | [_, _, _], _ => rfl
  have F24 := fun_mk (st := sWGifts) l24 c24 k24
  have b24 := F24.binds (ps := ["self"]) fun _ _ _ _ _ _ us hl => match us, hl with | [_], _ => rfl
  have F25 := fun_mk (st := sWGuests) l25 c25 k25
  have b25 := F25.binds (ps := ["self"]) fun _ _ _ _ _ _ us hl => match us, hl with | [_], _ => rfl
  have F26 := fun_mk (st := sWRanking) l26 c26 k26
  have b26 := F26.binds (ps := ["self", "guest"]) fun _ _ _ _ _ _ us hl => match us, hl with | [_, _], _ => rfl
  have n_list := PySem.W.mg_none_of X G z_list
  have n_len := PySem.W.mg_none_of X G z_len
  have n_abs := PySem.W.mg_none_of X G z_abs
  have n_range := PySem.W.mg_none_of X G z_range
  have n_isinstance := PySem.W.mg_none_of X G z_isinstance
  have n_str := PySem.W.mg_none_of X G z_str
  have n_all := PySem.W.mg_none_of X G z_all
  have n_repr := PySem.W.mg_none_of X G z_repr
  have n_dict := PySem.W.mg_none_of X G z_dict
  have n_tuple := PySem.W.mg_none_of X G z_tuple
  have n_set := PySem.W.mg_none_of X G z_set
  have n_int := PySem.W.mg_none_of X G z_int
  have n_ValueError := PySem.W.mg_none_of X G z_ValueError
  have v0 := PySem.W.mg_of X G q0
  have v1 := PySem.W.mg_of X G q1
  have v2 := PySem.W.mg_of X G q2
  refine ⟨PySem.W.fnOf "law" "law" (defArgs sLaw) (defBody sLaw) (defScope sLaw) .none kV22 dc22 pm22 an22 cd22 ct22, fun s v => .of_eq rfl, fun base _ _ => ?_⟩
  have T : TxtW K mg C := ⟨⟨pg, hd, po, sa⟩, n_gifts, n_guests, n_rankings, PySem.W.mg_of X G aC, n_list, n_tuple⟩
  have TR : TxtR K mg CR := ⟨PySem.W.mg_of X G aR, xR, kR, bR, tR⟩
  have TC : TxtC K mg CR := ⟨⟨e1, e2, bR, e4, e5, e6, e7, e8⟩, kit_sub vF (by decide +kernel), exm_self bR iF tR sF, n_isinstance, n_ValueError⟩
  have GG := ok_wgifts (P := l.prog) (w := w) (mg := mg) (base := base) F24 T
  have GU := ok_wguests (P := l.prog) (w := w) (mg := mg) (base := base) F25 T
  have GR := ok_wranking (P := l.prog) (w := w) (mg := mg) (base := base) F26 T
  have mG : Meth K C "gifts" f24 := ⟨a24, i24, k24⟩
  have mU : Meth K C "guests" f25 := ⟨a25, i25, k25⟩
  have mR : Meth K C "ranking" f26 := ⟨a26, i26, k26⟩
  have cpen : Cal l.prog w K mg base 1 "_law_pen" ["_law_script"] (spPen K) := ⟨_, _, ok_pen F0 n_list, g0, k0, b0⟩
  have cd : Cal l.prog w K mg base 1 "_law_draw" ["_law_pen_here", "_law_many"] (spDraw K) := ⟨_, _, ok_draw F1 n_len n_abs, g1, k1, b1⟩
  have cp : Cal l.prog w K mg base 2 "_law_pick" ["_law_pen_here", "_law_some"] (spPick K) := ⟨_, _, ok_pick F2 n_len cd, g2, k2, b2⟩
  have cs : Cal l.prog w K mg base 2 "_law_shuffled" ["_law_pen_here", "_law_some"] (spShuffled K) := ⟨_, _, ok_shuffled F3 n_len n_list cd, g3, k3, b3⟩
  have cn : Cal l.prog w K mg base 3 "_law_names" ["_law_pen_here", "_law_many"] (spNames K) := ⟨_, _, ok_names F4 n_len n_range cd cp, g4, k4, b4⟩
  have crk : Cal l.prog w K mg base 3 "_law_ranking" ["_law_pen_here", "_law_gifts", "_law_known"] (spRanking K) := ⟨_, _, ok_ranking F5 n_len n_list cd cp cs, g5, k5, b5⟩
  have craw : Cal l.prog w K mg base 4 "_law_raw" ["_law_pen_here", "_law_guests", "_law_gifts"] (spRaw K) := ⟨_, _, ok_raw F6 n_list cn crk, g6, k6, b6⟩
  have clb : Cal l.prog w K mg base 1 "_law_best" ["_law_raw_here", "_law_guest", "_law_gifts"] (spLBest K) := ⟨_, _, ok_lbest F8, g8, k8, b8⟩
  have clc : Cal l.prog w K mg base 2 "_law_choose" ["_law_raw_here", "_law_row"] (spLChoose K) := ⟨_, _, ok_lchoose F9 n_list n_dict clb, g9, k9, b9⟩
  have codd : Cal l.prog w K mg base 3 "_law_odd" ["_law_pen_here"] (spOdd K) := ⟨_, _, ok_odd F10 cp, g10, k10, b10⟩
  have cbeg : Cal l.prog w K mg base 5 "_law_begin" ["_law_pen_here", "_law_guests", "_law_gifts"] (spBegin K) := ⟨_, _, ok_begin F12 n_list n_tuple craw cs, g12, k12, b12⟩
  have ci : Cal l.prog w K mg base 1 "is_name" ["value"] (spIsName K) := ⟨_, _, ok_isname F14 n_isinstance n_str n_len n_all ⟨_, v0⟩, g14, k14, b14⟩
  have can : Cal l.prog w K mg base 2 "are_names" ["value"] (spAreNames K) := ⟨_, _, ok_arenames F15 n_isinstance n_list n_tuple n_len n_all n_set ci, g15, k15, b15⟩
  have co : Cal l.prog w K mg base 1 "is_order" ["value", "names"] (spIsOrder K) := ⟨_, _, ok_isorder F16 n_isinstance n_list n_tuple n_len n_all, g16, k16, b16⟩
  have ccg : Cal l.prog w K mg base 3 "check_gifts" ["gifts"] (spCheckGifts K) := ⟨_, _, ok_checkgifts F17 n_len ⟨_, v1⟩ can, g17, k17, b17⟩
  have ccr : Cal l.prog w K mg base 2 "check_rankings" ["gifts", "rankings"] (spCheckRankings K) := ⟨_, _, ok_checkrankings F18 n_isinstance n_dict n_len ⟨_, v2⟩ ci co, g18, k18, b18⟩
  have cbo : Cal l.prog w K mg base 1 "best_left" ["ranking", "gone"] (spBestLeft K) := ⟨_, _, ok_bestleft F19, g19, k19, b19⟩
  have GI := ok_winit F23 T ccg ccr
  have clw : Cal l.prog w K mg base 6 "_law_wishes" ["_law_raw_here"] (spLWishes K C) := ⟨_, _, ok_lwishes F7 T n_dict ⟨mk, a23, i23, kc⟩ GI b23, g7, k7, b7⟩
  have GC := ok_checkrow F20 T TR co GU b25 mU
  have GH := ok_choose F21 T cbo GC g20 k20 b20 GU b25 mU GR b26 mR
  have cct : Cal l.prog w K mg base 4 "_law_caught" ["_law_wishes_here", "_law_row"] (spCaught K C CR) := ⟨_, _, ok_caught F13 TR TC GH g21 k21 b21, g13, k13, b13⟩
  have GO := ok_lisorder (P := l.prog) (w := w) (mg := mg) (base := base) F11 n_isinstance n_list n_tuple n_len n_repr
  exact ok_law F22 ⟨n_range, n_int, n_isinstance, n_dict, n_repr, n_tuple, n_list, n_len⟩ cpen cd cbeg clw clc codd cct GH g21 k21 b21 GO g11 k11 b11
end K04

open PySem PySem.W PyProof.Rows in
set_option maxRecDepth 100000 in
set_option maxHeartbeats 0 in
theorem PySem.Challenge.cw_lastturn_k04_choosing_down_rows_holds : PySem.Challenge.rw_lastturn_k04_choosing_down_rows.Holds := by
  w_on; o_law; k_head; (case hw => w_witness2)
  k_fill
  refine LT.walkG (l := PySem.Challenge.rw_lastturn_k04_choosing_down_rows) (n := 63) (k := 7) (x := "_law_script") (sp := fun w => K04.spLaw _) rfl (by decide) rfl ⟨rfl, by decide, by decide⟩ (fun w h Y => PySem.W.kIn_of Y) ?F (fun w H a ns hl hS => ⟨a, ns, rfl, hS, hl, fun _ => rfl⟩)
  case F =>
    intro w mg fa h KX G hmg
    refine' K04.all_mk KX G hmg ?aC ?aR ?a0 ?l0 ?c0 ?k0 ?a1 ?l1 ?c1 ?k1 ?a2 ?l2 ?c2 ?k2 ?a3 ?l3 ?c3 ?k3 ?a4 ?l4 ?c4 ?k4 ?a5 ?l5 ?c5 ?k5 ?a6 ?l6 ?c6 ?k6 ?a7 ?l7 ?c7 ?k7 ?a8 ?l8 ?c8 ?k8 ?a9 ?l9 ?c9 ?k9 ?a10 ?l10 ?c10 ?k10 ?a11 ?l11 ?c11 ?k11 ?a12 ?l12 ?c12 ?k12 ?a13 ?l13 ?c13 ?k13 ?a14 ?l14 ?c14 ?k14 ?a15 ?l15 ?c15 ?k15 ?a16 ?l16 ?c16 ?k16 ?a17 ?l17 ?c17 ?k17 ?a18 ?l18 ?c18 ?k18 ?a19 ?l19 ?c19 ?k19 ?a20 ?l20 ?c20 ?k20 ?a21 ?l21 ?c21 ?k21 ?a22 ?l22 ?c22 ?k22 ?a23 ?i23 ?l23 ?c23 ?k23 ?a24 ?i24 ?l24 ?c24 ?k24 ?a25 ?i25 ?l25 ?c25 ?k25 ?a26 ?i26 ?l26 ?c26 ?k26 ?pg ?hd ?po ?sa ?mk ?kc ?n_gifts ?n_guests ?n_rankings ?xR ?kR ?bR ?tR ?e1 ?e2 ?e4 ?e5 ?e6 ?e7 ?e8 ?vF ?iF ?sF ?z_list ?z_len ?z_abs ?z_range ?z_isinstance ?z_str ?z_all ?z_repr ?z_dict ?z_tuple ?z_set ?z_int ?z_ValueError ?q0 ?q1 ?q2
    (case aC => k_is)
    (case aR => k_is)
    (case a0 => k_is)
    (case l0 => k_is)
    (case c0 => k_is)
    (case k0 => k_is)
    (case a1 => k_is)
    (case l1 => k_is)
    (case c1 => k_is)
    (case k1 => k_is)
    (case a2 => k_is)
    (case l2 => k_is)
    (case c2 => k_is)
    (case k2 => k_is)
    (case a3 => k_is)
    (case l3 => k_is)
    (case c3 => k_is)
    (case k3 => k_is)
    (case a4 => k_is)
    (case l4 => k_is)
    (case c4 => k_is)
    (case k4 => k_is)
    (case a5 => k_is)
    (case l5 => k_is)
    (case c5 => k_is)
    (case k5 => k_is)
    (case a6 => k_is)
    (case l6 => k_is)
    (case c6 => k_is)
    (case k6 => k_is)
    (case a7 => k_is)
    (case l7 => k_is)
    (case c7 => k_is)
    (case k7 => k_is)
    (case a8 => k_is)
    (case l8 => k_is)
    (case c8 => k_is)
    (case k8 => k_is)
    (case a9 => k_is)
    (case l9 => k_is)
    (case c9 => k_is)
    (case k9 => k_is)
    (case a10 => k_is)
    (case l10 => k_is)
    (case c10 => k_is)
    (case k10 => k_is)
    (case a11 => k_is)
    (case l11 => k_is)
    (case c11 => k_is)
    (case k11 => k_is)
    (case a12 => k_is)
    (case l12 => k_is)
    (case c12 => k_is)
    (case k12 => k_is)
    (case a13 => k_is)
    (case l13 => k_is)
    (case c13 => k_is)
    (case k13 => k_is)
    (case a14 => k_is)
    (case l14 => k_is)
    (case c14 => k_is)
    (case k14 => k_is)
    (case a15 => k_is)
    (case l15 => k_is)
    (case c15 => k_is)
    (case k15 => k_is)
    (case a16 => k_is)
    (case l16 => k_is)
    (case c16 => k_is)
    (case k16 => k_is)
    (case a17 => k_is)
    (case l17 => k_is)
    (case c17 => k_is)
    (case k17 => k_is)
    (case a18 => k_is)
    (case l18 => k_is)
    (case c18 => k_is)
    (case k18 => k_is)
    (case a19 => k_is)
    (case l19 => k_is)
    (case c19 => k_is)
    (case k19 => k_is)
    (case a20 => k_is)
    (case l20 => k_is)
    (case c20 => k_is)
    (case k20 => k_is)
    (case a21 => k_is)
    (case l21 => k_is)
    (case c21 => k_is)
    (case k21 => k_is)
    (case a22 => k_is)
    (case l22 => k_is)
    (case c22 => k_is)
    (case k22 => k_is)
    (case a23 => k_is)
    (case i23 => k_is)
    (case l23 => k_is)
    (case c23 => k_is)
    (case k23 => k_is)
    (case a24 => k_is)
    (case i24 => k_is)
    (case l24 => k_is)
    (case c24 => k_is)
    (case k24 => k_is)
    (case a25 => k_is)
    (case i25 => k_is)
    (case l25 => k_is)
    (case c25 => k_is)
    (case k25 => k_is)
    (case a26 => k_is)
    (case i26 => k_is)
    (case l26 => k_is)
    (case c26 => k_is)
    (case k26 => k_is)
    (case pg => k_is)
    (case hd => k_is)
    (case po => k_is)
    (case sa => k_is)
    (case mk => k_is)
    (case kc => k_is)
    (case n_gifts => k_is)
    (case n_guests => k_is)
    (case n_rankings => k_is)
    (case xR => k_exc)
    (case kR => k_is)
    (case bR => k_is)
    (case tR => k_is)
    (case e1 => k_is)
    (case e2 => k_is)
    (case e4 => k_is)
    (case e5 => k_is)
    (case e6 => k_is)
    (case e7 => k_is)
    (case e8 => k_is)
    (case vF => k_is)
    (case iF => k_is)
    (case sF => first | rfl | k_is)
    (case z_list => k_is)
    (case z_len => k_is)
    (case z_abs => k_is)
    (case z_range => k_is)
    (case z_isinstance => k_is)
    (case z_str => k_is)
    (case z_all => k_is)
    (case z_repr => k_is)
    (case z_dict => k_is)
    (case z_tuple => k_is)
    (case z_set => k_is)
    (case z_int => k_is)
    (case z_ValueError => k_is)
    (case q0 => k_is)
    (case q1 => k_is)
    (case q2 => k_is)

