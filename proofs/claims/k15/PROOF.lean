import PyProof.Rows.All
import Wide.All
import OpenK.AllK
import Wide.FinOn
import HandS.ForMost
import HandS.IsInst
import HandS.Conv
import HandS.Wide
import HandS.SortInts
import HandS.TupAny
import HandS.Evl
import KE.GoesEnum
import HandS.Walk
import HandS.Codes
import HandS.Style
import HandS.Star
import HandS.Small
import HandS.TryMany
import HandS.TryOnly
import HandS.WordsExc
import HandS.SetKeys
import HandS.More
import HandS.Zip
import KE.KDictZip
import HandS.SetFor
import HandS.RaiseMore
import HandS.CallSlots
import HandS.Deep
import HandS.Nested
import HandS.Lambda
import PySem.Challenge.RW_untriedways_k15_whole_parties_back_and_c
set_option Elab.async false
set_option maxRecDepth 100000
set_option maxHeartbeats 4000000
set_option linter.all false
/-! what all texts of mine share: calls by name, builtins, regions of the heap, kinds of values -/
namespace U
open PySem PySem.Spec PyProof.Rows L2

/-! ### a def of the text that keeps a promise, by its name -/
/-- the def fd stands at f -/
def Lk (K : PySem.W.Frag) (f : Addr) (fd : FuncData) : Prop := ∃ (oc : Value) (od : Option Addr) (sl : Array (Option Value)), K.lookup f = some ⟨oc, od, .func fd, sl⟩
structure Has (P : Program) (w : World) (K : PySem.W.Frag) (mg : Str → Option Value) (base : Heap) (x : Str) (k : Nat) (ps : List Str) (sp : Sp) : Prop where
  ex : ∃ f fd, mg x = some (.ref f) ∧ PySem.W.keepIn K (.ref f) = true ∧ Binds K fd ps [] ∧ FnOk P w K mg base CX0 k f fd ps sp ∧ Lk K f fd
/-- a def as the top leaves it -/
structure Df (K : PySem.W.Frag) (mg : Str → Option Value) (x : Str) (st : Stmt) (ps : List Str) : Prop where
  ex : ∃ f fd, mg x = some (.ref f) ∧ Fun K x x st f fd ∧ Binds K fd ps []
section
variable {X : Cx} {k j : Nat} {ps : List Str} {sp : Sp} {x : Str} {p pos : Pos} {e : Expr} {es : List Expr} {t : TA}
theorem pcall (h : Has X.prog X.w X.K X.mg X.base x k ps sp) (hr : Room j X.A) (hk : k ≤ j) (hg : Gl X x) (ha : PA X (e :: es) t) (hdb : (x == ("__debug__" : Str)) = false := by decide)
    (he : starEach (e :: es) X.env = (false, eval e X.env) :: starEach es X.env := by rfl) (hpl : (backTo pos (starEach es X.env)).any (·.1) = false := by rfl) :
    PE X (.Call (.Name x p) (e :: es) [] pos) (tCall sp [] E0 t) := by
  obtain ⟨f, fd, hm, kp, b, F, _⟩ := h.ex
  exact pe_call F (hr.mono hk) hg hm kp b .nil pass0 ha hdb he hpl
end
theorem Fun.lk {K : PySem.W.Frag} {x qual : Str} {st : Stmt} {f : Addr} {fd : FuncData} (F : Fun K x qual st f fd) : Lk K f fd := by
  obtain ⟨oc, od, kV, doc, pm, an, cdv, ct, osl, rfl, lk, hcd⟩ := F.ex
  exact ⟨_, _, _, lk⟩
theorem Df.has {P : Program} {w : World} {K : PySem.W.Frag} {mg : Str → Option Value} {base : Heap} {x : Str} {st : Stmt} {ps : List Str} {k : Nat} {sp : Sp} (d : Df K mg x st ps)
    (h : ∀ f fd, Fun K x x st f fd → FnOk P w K mg base CX0 k f fd ps sp) : Has P w K mg base x k ps sp := by
  obtain ⟨f, fd, hm, F, b⟩ := d.ex
  exact ⟨f, fd, hm, F.kp, b, h f fd F, Fun.lk F⟩

/-! ### a method, an __init__ that keeps a promise -/
structure HasM (P : Program) (w : World) (K : PySem.W.Frag) (mg : Str → Option Value) (base : Heap) (C : Addr) (m : Str) (k : Nat) (ps : List Str) (sp : Sp) : Prop where
  ex : ∃ f, ∃ fd, Meth K C m f ∧ Binds K fd ps [] ∧ FnOk P w K mg base CX0 k f fd ps sp ∧ Lk K f fd
section
variable {P : Program} {w : World} {K : PySem.W.Frag} {mg : Str → Option Value} {base : Heap} {C : Addr} {m : Str} {k : Nat} {ps : List Str} {sp : Sp}
theorem HasM.mt (h : HasM P w K mg base C m k ps sp) : Meth K C m h.ex.choose := h.ex.choose_spec.choose_spec.1
theorem HasM.b (h : HasM P w K mg base C m k ps sp) : Binds K h.ex.choose_spec.choose ps [] := h.ex.choose_spec.choose_spec.2.1
theorem HasM.F (h : HasM P w K mg base C m k ps sp) : FnOk P w K mg base CX0 k h.ex.choose h.ex.choose_spec.choose ps sp := h.ex.choose_spec.choose_spec.2.2.1
end
structure HasI (P : Program) (w : World) (K : PySem.W.Frag) (mg : Str → Option Value) (base : Heap) (C : Addr) (k : Nat) (ps : List Str) (sp : Sp) : Prop where
  ex : ∃ f, ∃ fd, Mk K C f ∧ Binds K fd ps [] ∧ FnOk P w K mg base CX0 k f fd ps sp ∧ Lk K f fd
section
variable {P : Program} {w : World} {K : PySem.W.Frag} {mg : Str → Option Value} {base : Heap} {C : Addr} {k : Nat} {ps : List Str} {sp : Sp}
theorem HasI.m (h : HasI P w K mg base C k ps sp) : Mk K C h.ex.choose := h.ex.choose_spec.choose_spec.1
theorem HasI.b (h : HasI P w K mg base C k ps sp) : Binds K h.ex.choose_spec.choose ps [] := h.ex.choose_spec.choose_spec.2.1
theorem HasI.F (h : HasI P w K mg base C k ps sp) : FnOk P w K mg base CX0 k h.ex.choose h.ex.choose_spec.choose ps sp := h.ex.choose_spec.choose_spec.2.2.1
end
/-- methods as the top leaves them -/
structure DfM (K : PySem.W.Frag) (C : Addr) (m : Str) (qual : Str) (st : Stmt) (ps : List Str) : Prop where
  ex : ∃ f fd, Meth K C m f ∧ Fun K m qual st f fd ∧ Binds K fd ps []
structure DfI (K : PySem.W.Frag) (C : Addr) (qual : Str) (st : Stmt) (ps : List Str) : Prop where
  ex : ∃ f fd, Mk K C f ∧ Fun K "__init__" qual st f fd ∧ Binds K fd ps []
theorem DfM.has {P : Program} {w : World} {K : PySem.W.Frag} {mg : Str → Option Value} {base : Heap} {C : Addr} {m qual : Str} {st : Stmt} {ps : List Str} {k : Nat} {sp : Sp} (d : DfM K C m qual st ps)
    (h : ∀ f fd, Fun K m qual st f fd → FnOk P w K mg base CX0 k f fd ps sp) : HasM P w K mg base C m k ps sp := by
  obtain ⟨f, fd, hm, F, b⟩ := d.ex
  exact ⟨f, fd, hm, b, h f fd F, Fun.lk F⟩
theorem DfI.has {P : Program} {w : World} {K : PySem.W.Frag} {mg : Str → Option Value} {base : Heap} {C : Addr} {qual : Str} {st : Stmt} {ps : List Str} {k : Nat} {sp : Sp} (d : DfI K C qual st ps)
    (h : ∀ f fd, Fun K "__init__" qual st f fd → FnOk P w K mg base CX0 k f fd ps sp) : HasI P w K mg base C k ps sp := by
  obtain ⟨f, fd, hm, F, b⟩ := d.ex
  exact ⟨f, fd, hm, b, h f fd F, Fun.lk F⟩
/-! ### the rules whose readings speak of the written part, K named -/
section
variable {X : Cx} {K : PySem.W.Frag}
def rLen (K : PySem.W.Frag) : List V → Hp → VK → Prop := fun xs H Q => ∃ p ys, xs = [.ref p] ∧ (SqL K H p ys ∨ SqT K H p ys) ∧ Q (.int ys.length) H
def rListOf (K : PySem.W.Frag) : List V → Hp → VK → Prop := fun xs H Q => ∃ p ys, xs = [.ref p] ∧ (SqL K H p ys ∨ SqT K H p ys) ∧ ∀ l, H l = none → Q (.ref l) (upd H l (.lst ys))
def rTupleOf (K : PySem.W.Frag) : List V → Hp → VK → Prop := fun xs H Q => ∃ p ys, xs = [.ref p] ∧ ((SqL K H p ys ∧ ∀ l, H l = none → Q (.ref l) (upd H l (.tup ys))) ∨ (SqT K H p ys ∧ Q (.ref p) H))
theorem k_ixl (h : X.K = K) : IxR X (rIxL K) := by subst h; exact ix_list
theorem k_ixt (h : X.K = K) : IxR X (rIxT K) := by subst h; exact ix_tup
theorem k_ixx (h : X.K = K) : IxR X (rIx K) := by subst h; exact ix_seq
theorem k_in (h : X.K = K) : OpR X (compareOp .In) (rIn K false) := by subst h; exact op_in_seq
theorem k_notin (h : X.K = K) : OpR X (compareOp .NotIn) (rIn K true) := by subst h; exact op_notIn_seq
theorem k_cat (h : X.K = K) : OpR X (binaryOp .Add) (rCatA K) := by subst h; exact op_catA
theorem k_eqD (h : X.K = K) (hu : X.A.units + 64 < cLine) : OpR X (compareOp .Eq) (rEqD K) := by subst h; exact op_eqD hu
theorem k_neD (h : X.K = K) (hu : X.A.units + 64 < cLine) : OpR X (compareOp .NotEq) (rNeD K) := by subst h; exact op_neD hu
theorem k_len (h : X.K = K) : CallR X (.builtin "len") (rLen K) := by subst h; exact call_len_seq
theorem k_list (h : X.K = K) : CallR X (.type "list") (rListOf K) := by subst h; exact call_list_of
theorem k_tuple (h : X.K = K) : CallR X (.type "tuple") (rTupleOf K) := by subst h; exact call_tuple_of
theorem k_all (h : X.K = K) (hc : X.calm = true) : CallR X (.builtin "all") (rAll K) := by subst h; exact cr_all hc
theorem k_any (h : X.K = K) (hc : X.calm = true) : CallR X (.builtin "any") (rAny K) := by subst h; exact cr_any hc
theorem k_sorted (h : X.K = K) : CallR X (.builtin "sorted") (rSortedI K) := by subst h; exact cr_sortedI
theorem k_isi (h : X.K = K) : CallR X (.builtin "isinstance") (rIsi K) := by subst h; exact call_isi
theorem k_sll (h : X.K = K) : SlR X (rSlL K) := by subst h; exact sl_list
theorem k_slt (h : X.K = K) : SlR X (rSlA K) := by subst h; exact sl_tupA
theorem k_fld {e : Expr} {ta : TE} {f : Str} {pos : Pos} (h : X.K = K) (he : PE X e ta) (hb : attributeBase e f X.env (eval e X.env) = eval e X.env) : PE X (.Attribute e f pos) (tFld K ta f) := by subst h; exact pe_fld he hb
theorem k_pil {tg l : Expr} {tl : TE} (h : X.K = K) (hl : PE X l tl) : PI X tg l (iList K tl) := by subst h; exact pi_list hl
theorem k_pit {tg l : Expr} {tl : TE} (h : X.K = K) (hl : PE X l tl) : PI X tg l (iTup K tl) := by subst h; exact pi_tup hl
theorem k_tru {a : Expr} {ta : TE} (h : X.K = K) (ha : PE X a ta) (he : ∀ whole, isTrue a X.env whole = (do let v ← whole; standAt a.pos; holding [v] (truthy v))) :
    PT X a (fun σ H Q => ta σ H fun x H1 => ∃ k, TruV K x H1 k ∧ Q k H1) := by subst h; exact pt_truth ha he
end
/-! ### builtins -/
structure Bt (mg : Str → Option Value) : Prop where
  len : mg "len" = none
  all : mg "all" = none
  any : mg "any" = none
  sorted : mg "sorted" = none
  isinstance : mg "isinstance" = none
  abs : mg "abs" = none
  min : mg "min" = none
  max : mg "max" = none
  range : mg "range" = none
  enumerate : mg "enumerate" = none
  int : mg "int" = none
  list : mg "list" = none
  tuple : mg "tuple" = none
  str : mg "str" = none
  bool : mg "bool" = none
  repr : mg "repr" = none
  zip : mg "zip" = none
  set : mg "set" = none
  sum : mg "sum" = none
theorem bo_len : bootBuiltins "len" = some (.builtin "len") := by decide +kernel
theorem bo_all : bootBuiltins "all" = some (.builtin "all") := by decide +kernel
theorem bo_any : bootBuiltins "any" = some (.builtin "any") := by decide +kernel
theorem bo_sorted : bootBuiltins "sorted" = some (.builtin "sorted") := by decide +kernel
theorem bo_isinstance : bootBuiltins "isinstance" = some (.builtin "isinstance") := by decide +kernel
theorem bo_abs : bootBuiltins "abs" = some (.builtin "abs") := by decide +kernel
theorem bo_min : bootBuiltins "min" = some (.builtin "min") := by decide +kernel
theorem bo_max : bootBuiltins "max" = some (.builtin "max") := by decide +kernel
theorem bo_sum : bootBuiltins "sum" = some (.builtin "sum") := by decide +kernel
theorem bo_int : bootBuiltins "int" = some (.type "int") := by decide +kernel
theorem bo_list : bootBuiltins "list" = some (.type "list") := by decide +kernel
theorem bo_tuple : bootBuiltins "tuple" = some (.type "tuple") := by decide +kernel
theorem bo_str : bootBuiltins "str" = some (.type "str") := by decide +kernel
theorem bo_bool : bootBuiltins "bool" = some (.type "bool") := by decide +kernel

/-! ### kinds of values -/
/-- the type of the value is one of those built-in types -/
structure Kn (K : PySem.W.Frag) (H : Hp) (v : V) (s : String) : Prop where
  ty : TyX K H v (.type s)
  mem : s ∈ ["NoneType", "bool", "int", "str", "list", "tuple", "dict"]
/-- whether a value is an int (no bool) -/
def isI : V → Bool
  | .int _ => true
  | _ => false
def idxV (v : V) (m : Int) : Bool := match v with
  | .int i => decide (0 ≤ i) && decide (i < m)
  | _ => false
def lotFrom (m : Int) : Int → List V → Bool
  | _, [] => true
  | l, .int i :: r => decide (0 ≤ i) && decide (i < m) && decide (l < i) && lotFrom m i r
  | _, _ :: _ => false
theorem kn_int {K : PySem.W.Frag} {H : Hp} {v : V} {s : String} (h : Kn K H v s) : isI v = (s == "int") := by
  obtain ⟨t, m⟩ := h
  cases t with
  | base b => cases b <;> rfl
  | byt b => simp at m
  | set e => simp at m
  | _ => rfl
theorem kit_int {K : PySem.W.Frag} {s : String} (m : s ∈ ["NoneType", "bool", "int", "str", "list", "tuple", "dict"]) : PySem.W.kitOne K (.type s) (.type "int") = some (s == "int" || s == "bool") := by
  simp only [List.mem_cons, List.not_mem_nil, or_false] at m
  rcases m with rfl | rfl | rfl | rfl | rfl | rfl | rfl <;> exact kit_ty (by decide +kernel)
theorem kit_bool {K : PySem.W.Frag} {s : String} (m : s ∈ ["NoneType", "bool", "int", "str", "list", "tuple", "dict"]) : PySem.W.kitOne K (.type s) (.type "bool") = some (s == "bool") := by
  simp only [List.mem_cons, List.not_mem_nil, or_false] at m
  rcases m with rfl | rfl | rfl | rfl | rfl | rfl | rfl <;> exact kit_ty (by decide +kernel)
theorem kit_tuple {K : PySem.W.Frag} {s : String} (m : s ∈ ["NoneType", "bool", "int", "str", "list", "tuple", "dict"]) : PySem.W.kitOne K (.type s) (.type "tuple") = some (s == "tuple") := by
  simp only [List.mem_cons, List.not_mem_nil, or_false] at m
  rcases m with rfl | rfl | rfl | rfl | rfl | rfl | rfl <;> exact kit_ty (by decide +kernel)
theorem kn_of_int {K : PySem.W.Frag} {H : Hp} {i : Int} : Kn K H (.int i) "int" := ⟨.base (.int i), by simp⟩
theorem kn_of_tup {K : PySem.W.Frag} {H : Hp} {a : Addr} {xs : List V} (h : SqT K H a xs) : Kn K H (.ref a) "tuple" := by
  rcases h with (h | ⟨o, h⟩) | ⟨o, its, n, h1, h2, _⟩
  · exact ⟨.base (.tup h), by simp⟩
  · exact ⟨.fTuple h, by simp⟩
  · exact ⟨.kTuple h1 h2, by simp⟩

def nV (n : Nat) : V := .int (n : Int)
theorem lot_nat {m : Int} : ∀ {xs : List V} {l : Int}, -1 ≤ l → lotFrom m l xs = true → ∃ gs : List Nat, xs = gs.map nV ∧ (∀ g ∈ gs, (g : Int) < m ∧ l < (g : Int)) ∧ gs.Pairwise (· < ·)
  | [], _, _, _ => ⟨[], rfl, fun _ h => (List.not_mem_nil h).elim, List.Pairwise.nil⟩
  | .int i :: r, l, hl, h => by
    have h' : (decide (0 ≤ i) && decide (i < m) && decide (l < i) && lotFrom m i r) = true := h
    simp only [Bool.and_eq_true, decide_eq_true_eq] at h'
    obtain ⟨⟨⟨h0, h1⟩, h2⟩, h3⟩ := h'
    obtain ⟨gs, e, hg, hp⟩ := lot_nat (l := i) (by omega) h3
    refine ⟨i.toNat :: gs, ?_, fun g hm => ?_, List.Pairwise.cons (fun g hm => ?_) hp⟩
    · rw [List.map_cons, ← e]
      congr 2
      omega
    · rcases List.mem_cons.mp hm with rfl | hm
      · exact ⟨by omega, by omega⟩
      · obtain ⟨a, b⟩ := hg g hm
        exact ⟨a, by omega⟩
    · have := (hg g hm).2
      omega
  | .non :: _, _, _, h => by cases h
  | .bl _ :: _, _, _, h => by cases h
  | .str _ :: _, _, _, h => by cases h
  | .byt _ :: _, _, _, h => by cases h
  | .flt _ :: _, _, _, h => by cases h
  | .ref _ :: _, _, _, h => by cases h
  | .ty _ :: _, _, _, h => by cases h
theorem lot_of {m : Int} : ∀ {gs : List Nat} {l : Int}, (∀ g ∈ gs, (g : Int) < m ∧ l < (g : Int)) → gs.Pairwise (· < ·) → lotFrom m l (gs.map nV) = true
  | [], _, _, _ => rfl
  | g :: r, l, h, hp => by
    obtain ⟨h1, h2⟩ := h g List.mem_cons_self
    have h3 : lotFrom m (g : Int) (r.map nV) = true := lot_of (fun x hx => ⟨(h x (List.mem_cons_of_mem _ hx)).1, by have := List.rel_of_pairwise_cons hp hx; omega⟩) hp.of_cons
    show (decide (0 ≤ (g : Int)) && decide ((g : Int) < m) && decide (l < (g : Int)) && lotFrom m (g : Int) (r.map nV)) = true
    rw [h3]
    simp only [Bool.and_eq_true, decide_eq_true_eq]
    exact ⟨⟨⟨by omega, h1⟩, h2⟩, trivial⟩
/-! ### regions -/
/-- M: what may be changed; F: what was written once for ever -/
structure Grow (M : Addr → Prop) (F H F' H' : Hp) : Prop where
  same : ∀ a o, ¬ M a → H a = some o → H' a = some o
  live : ∀ a, H a ≠ none → H' a ≠ none
  sub : Same F F'
  sub' : Same F' H'
  fresh : ∀ a, F' a ≠ none → F a = none → H a = none
theorem Grow.refl {M : Addr → Prop} {F H : Hp} (h : Same F H) : Grow M F H F H := ⟨fun _ _ _ h => h, fun _ h => h, Same.refl F, h, fun _ a b => absurd b a⟩
theorem Grow.trans {M M' : Addr → Prop} {F H F1 H1 F2 H2 : Hp} (g : Grow M F H F1 H1) (g' : Grow M' F1 H1 F2 H2) (hm : ∀ a, M' a → M a ∨ H a = none) : Grow M F H F2 H2 where
  same := fun a o m h => g'.same a o (fun z => (hm a z).elim m fun e => by rw [e] at h; cases h) (g.same a o m h)
  live := fun a h => g'.live a (g.live a h)
  sub := g.sub.trans g'.sub
  sub' := g'.sub'
  fresh := fun a h2 h0 => by
    by_cases h1 : F1 a = none
    · have e := g'.fresh a h2 h1
      exact Classical.byContradiction fun z => g.live a z e
    · exact g.fresh a h1 h0
theorem same_new {H H1 : Hp} {p : Addr} {o : HO} (e : Same H H1) (h : H1 p = none) : Same H (upd H1 p o) := fun b u q => by
  have q1 := e b u q
  rw [upd_ne (ne_of_none q1 h)]
  exact q1
theorem same_mut {H H1 : Hp} {p : Addr} {o : HO} (e : Same H H1) (h : H p = none) : Same H (upd H1 p o) := fun b u q => by
  rw [upd_ne (ne_of_none q h)]
  exact e b u q
theorem Same.sqt {K : PySem.W.Frag} {H H' : Hp} {a : Addr} {xs : List V} (e : Same H H') (h : SqT K H a xs) : SqT K H' a xs := by
  rcases h with (h | ⟨o, h⟩) | h
  · exact .inl (.inl (e _ _ h))
  · exact .inl (.inr ⟨o, e _ _ h⟩)
  · exact .inr h
theorem sql {K : PySem.W.Frag} {H : Hp} {a : Addr} {xs : List V} (h : H a = some (.lst xs)) : SqL K H a xs := .inl (.inl h)
theorem sqt {K : PySem.W.Frag} {H : Hp} {a : Addr} {xs : List V} (h : H a = some (.tup xs)) : SqT K H a xs := .inl (.inl h)

theorem tyes {σ : L2.St} {H : Hp} {Q : Bool → Hp → Prop} (h : Q true H) : tYes σ H Q := h
/-! ### lists and places -/
theorem drop_cons_of {α : Type} {xs : List α} {i : Nat} {x : α} (hx : xs[i]? = some x) : xs.drop i = x :: xs.drop (i + 1) := by
  have hi := (List.getElem?_eq_some_iff.mp hx).1
  rw [List.drop_eq_getElem_cons hi, (List.getElem?_eq_some_iff.mp hx).2]
theorem take_snoc_of {α : Type} {xs : List α} {i : Nat} {x : α} (hx : xs[i]? = some x) : xs.take (i + 1) = xs.take i ++ [x] := by
  rw [List.take_add_one, hx]
  rfl
theorem ixN_nat {n j : Nat} (h : j < n) : ixN n (j : Int) = some j := by
  unfold ixN
  rw [if_pos (by omega), if_pos (by omega)]
  rfl
theorem small_sz {n : Nat} (h : n ≤ 100000) : n ≤ sizeLine := Nat.le_trans h (by decide)
theorem small_lt {n : Nat} (h : n ≤ 100000) : n < sizeLine := Nat.lt_of_le_of_lt h (by decide)
theorem getmap {α β : Type} {f : α → β} {xs : List α} {i : Nat} {y : β} (h : (xs.map f)[i]? = some y) : ∃ x, xs[i]? = some x ∧ f x = y := by
  rw [List.getElem?_map] at h
  cases e : xs[i]? with
  | none => rw [e] at h; cases h
  | some x => rw [e] at h; exact ⟨x, rfl, Option.some.inj h⟩
theorem set_map_range {β : Type} {n z : Nat} {f : Nat → β} {b : β} : ((List.range n).map f).set z b = (List.range n).map (fun i => if i = z then b else f i) := by
  apply List.ext_getElem?
  intro i
  rw [List.getElem?_set, List.getElem?_map, List.getElem?_map, List.length_map, List.length_range]
  by_cases h : z = i
  · subst h
    by_cases hz : z < n
    · rw [if_pos rfl, if_pos hz, List.getElem?_range hz]
      simp
    · rw [if_pos rfl, if_neg hz, List.getElem?_eq_none (by simpa using hz)]
      rfl
  · rw [if_neg h]
    by_cases hi : i < n
    · rw [List.getElem?_range hi]
      simp [Ne.symm h]
    · rw [List.getElem?_eq_none (by simpa using hi)]
      rfl
theorem get_map_range {β : Type} {n j : Nat} {f : Nat → β} (h : j < n) : ((List.range n).map f)[j]? = some (f j) := by
  rw [List.getElem?_map, List.getElem?_range h]
  rfl
theorem Grow.same0 {F H F' H' : Hp} (g : Grow (fun _ => False) F H F' H') : Same H H' := fun a o h => g.same a o (fun z => z) h
end U

/-! enumerate over a tuple -/
namespace U
open PySem PySem.Spec PyProof.Rows L2

abbrev enumO (a : Addr) : Obj := { cls := .type "enumerate", data := .fields #[.none, .bool false, .ref a, rawInt 0, .none, .none] }
theorem new_enum_tuple (l : Addr) (items : Array Value) (n : Nat) (dct : Option Addr) (sl : Array (Option Value)) :
    Meets (Builtin.«enumerate.__new__» ⟨[.type "enumerate", .ref l], []⟩) (fun _ R s =>
      s.heap.get? l = some { cls := .type "tuple", dict := dct, data := .seq items n, slots := sl } ∧
      R (.ok (.ret (.ref (s.heap.push { cls := .type "tuple_iterator", data := .fields #[.ref l, .int 0 0] }).objs.size)))
        { s with heap := ((s.heap.push { cls := .type "tuple_iterator", data := .fields #[.ref l, .int 0 0] }).push (enumO s.heap.objs.size)) }) :=
  .of_wp fun prog w A R s h => by
    obtain ⟨hp, g, d, tk, os⟩ := s
    obtain ⟨hl, h⟩ := h
    have hsub := sub_enumerate
    have hT : Heap.IsTuple (Shared.heap ⟨hp, g, d, tk, os⟩) l items := ⟨_, hl, rfl, n, rfl⟩
    wp_walk using AutoSeq1.wpAny_loadPart' hl
    refine wpAny_stack_any fun st => wpAny_pure ?_
    split
    · rename_i c _ _ _ _ _
      cases (c == Value.type "enumerate") <;>
      · wp_walk using AutoSeq1.wpAny_loadPart' hl, wpAny_pyIter_tuple hT
        exact ⟨_, rfl, h⟩
    · wp_walk using AutoSeq1.wpAny_loadPart' hl, wpAny_pyIter_tuple hT
      exact ⟨_, rfl, h⟩

theorem call_enum_tuple {prog : Program} {w : World} {A : Around} {E : Value → Shared → Prop} {s : Shared} {l : Addr} {items : Array Value} {Q : Value → Shared → Prop} (hT : s.heap.IsTuple l items)
    (h : ∀ h', IsEnum h' (s.heap.objs.size + 1) s.heap.objs.size 0 .none → h'.IsTupleIter s.heap.objs.size l 0 →
      (∀ b o, s.heap.get? b = some o → h'.get? b = some o) → Q (.ref (s.heap.objs.size + 1)) { s with heap := h' }) :
    wpAny (model prog w) A (call (.type "enumerate") [.ref l]) Q E s := by
  obtain ⟨⟨c, dct, dt, sl⟩, hl, rfl, n, rfl⟩ := hT
  refine callType_new F.called_enumerate (by decide) (F.typeCall_enumerate_1 _) (F.newCall_enumerate_1 _)
    (fun obj => F.args_object_init_2 obj _) F.entry_enumerate_new (new_enum_tuple l items n dct sl) ⟨hl, ?_⟩
  have hz : (s.heap.push { cls := .type "tuple_iterator", data := .fields #[.ref l, .int 0 0] }).objs.size = s.heap.objs.size + 1 := Heap.size_push ..
  show _ ∧ _
  rw [hz]
  have he := Heap.get?_push_size (s.heap.push { cls := .type "tuple_iterator", data := .fields #[.ref l, .int 0 0] })
    (o := enumO s.heap.objs.size) rfl
  rw [hz] at he
  exact ⟨⟨_, he, rfl⟩, h _ he ⟨_, Heap.get?_push_of_some _ (Heap.get?_push_size _ rfl), rfl, rfl⟩
    fun b o x => Heap.get?_push_of_some _ (Heap.get?_push_of_some _ x)⟩

/-- the tuple at a, each item in a new pair with its place -/
def ItT (K : PySem.W.Frag) (a : Addr) : It :=
  ⟨fun i H => ∃ (xs : List V) (x : V), SqT K H a xs ∧ xs[i]? = some x,
   fun i H v H' => ∃ T x, v = .ref T ∧ H T = none ∧ H' = upd H T (.tup [.int (i : Nat), x]) ∧ ∀ xs, SqT K H a xs → xs[i]? = some x,
   fun i H => ∃ xs : List V, SqT K H a xs ∧ xs.length = i⟩
theorem apart_tuple {h : Heap} {a b : Addr} {items : Array Value} {o : Obj} {c : String} (ht : h.IsTuple a items) (hb : h.get? b = some o) (hc : o.cls = .type c) (hd : (c == "tuple") = false) : b ≠ a := by
  rintro rfl
  obtain ⟨o', h1, h2, _⟩ := ht
  rw [h1] at hb
  cases hb
  rw [h2] at hc
  cases hc
  exact absurd hd (by decide)
theorem turnT {P : Program} {w : World} {K : PySem.W.Frag} {elts : List Expr} {kk : Nat} {tpos : Pos} (a e it : Addr) :
    Turn P w K (.Tuple elts kk tpos) (ItT K a) [e, it] e (fun i h => (∃ old, IsEnum h e it ((i : Nat) : Int) old) ∧ h.IsTupleIter it a i ∧ e ≠ it) where
  mem := List.mem_cons_self
  obj := fun i h st b hb => by
    obtain ⟨⟨old, he⟩, ⟨o, ho, hc, hd⟩, _⟩ := st
    rcases List.mem_cons.mp hb with z | z
    · subst z
      exact ⟨_, he, fun v q => nomatch q⟩
    · have z := List.mem_singleton.mp z
      subst z
      exact ⟨o, ho, fun v q => by rw [hd] at q; cases q⟩
  keep := fun i h h' ⟨⟨old, he⟩, hi, hne⟩ k => ⟨⟨old, k e List.mem_cons_self _ he⟩, hi.at fun o q => k it (List.mem_cons_of_mem _ List.mem_cons_self) o q, hne⟩
  item := by
    intro X hP hw hK hc i pins s σ H E I hf st hg
    subst hP; subst hw; subst hK
    obtain ⟨⟨old, he⟩, hit, hne⟩ := st
    obtain ⟨xs, x, hq, hx⟩ := hg
    obtain ⟨its, rv, p0, hz⟩ := I.tuple hq
    have p : s.heap.IsTuple a its.toArray := p0
    obtain ⟨u, hu, ru⟩ := rv.get hx
    have hui : its.toArray[i]? = some u := by rw [List.getElem?_toArray]; exact hu
    have hilt : i < its.toArray.size := (Array.getElem?_eq_some_iff.mp hui).1
    have hea : e ≠ a := apart_tuple p he rfl (by decide)
    have hia : it ≠ a := by
      obtain ⟨o, h1, h2, _⟩ := id hit
      exact apart_tuple p h1 h2 (by decide)
    have hel : e < s.heap.objs.size := Heap.lt_size he
    have hil : it < s.heap.objs.size := by obtain ⟨_, q, _⟩ := id hit; exact Heap.lt_size q
    refine wpAny_pyNext_enum_itemD (Draws.tuple (A := X.A.in1) (show X.A.in1.handled = none from I.ok.hd hc) it a hia.symm its.toArray) he ⟨hit, p⟩ hilt hne (by simp [hne, hea])
      fun x' h' tk hx' ho hit' hT hsz hk => ?_
    rw [hui] at hx'
    cases hx'
    refine ⟨_, rfl, wpAny_letOwnedTupleGo_enum (s := { s with heap := h', toks := tk + 1 }) ho fun h'' he' sb => ?_⟩
    have hT2 : h''.get? s.heap.objs.size = some { cls := .type "tuple", data := .seq #[.int i tk, u] } :=
      Eq.trans (sb.2 _ (Nat.ne_of_gt hel)) hT
    have new : ObjOk X.prog X.w (upd H s.heap.objs.size (.tup [.int (i : Nat), x])) h'' s.heap.objs.size (.tup [.int (i : Nat), x]) :=
      ⟨by show 2 ≤ sizeLine; decide, [.int i tk, u], .cons ⟨_, rfl⟩ (.cons ru .nil), ⟨_, hT2, rfl, _, rfl⟩⟩
    have keeps : ∀ b ob, b ∉ [e, it] → s.heap.get? b = some ob → h''.get? b = some ob := fun b ob hb q => by
      have b1 : b ≠ e := fun z => hb (by simp [z])
      have b2 : b ≠ it := fun z => hb (by simp [z])
      exact Eq.trans (sb.2 b b1) (hk b ob b1 b2 q)
    have I1 : Inv X pins σ (upd H s.heap.objs.size (.tup [.int (i : Nat), x])) { s with heap := h'', toks := tk + 1 } :=
      I.turnedNew (ch := [e, it]) keeps hf (Nat.le_refl _) new
    have fr := I.hok.fresh (Nat.le_refl s.heap.objs.size)
    refine ⟨.ref s.heap.objs.size, _, I1, rfl, ⟨_, x, rfl, fr, rfl, fun ys hy => by rw [I.tuple_inj hy hq]; exact hx⟩,
      ⟨⟨u, ?_⟩, hit'.1.at fun o q => Eq.trans (sb.2 it hne.symm) q, hne⟩, fun b hb => ?_⟩
    · rw [show ((i + 1 : Nat) : Int) = (i : Int) + 1 by omega]
      exact he'
    · have hb' : b < s.heap.objs.size := by
        rcases List.mem_cons.mp hb with z | z
        · rw [z]; exact hel
        · rw [List.mem_singleton.mp z]; exact hil
      rw [upd_ne (Nat.ne_of_lt hb')]
      exact (hf b hb).1
  done := by
    intro X hP hw hK hc i pins s σ H E I hf st hg
    subst hP; subst hw; subst hK
    obtain ⟨⟨old, he⟩, hit, hne⟩ := st
    obtain ⟨xs, hq, hx⟩ := hg
    obtain ⟨its, rv, p0, hz⟩ := I.tuple hq
    have p : s.heap.IsTuple a its.toArray := p0
    have hia : it ≠ a := by
      obtain ⟨o, h1, h2, _⟩ := id hit
      exact apart_tuple p h1 h2 (by decide)
    obtain ⟨f0, f1, f2, f3, f4, f5⟩ := hf it (List.mem_cons_of_mem _ List.mem_cons_self)
    have hl : its.toArray.size = i := by rw [List.size_toArray, ← rv.length]; exact hx
    · subst hl
      exact wpAny_pyNext_enum_endD (Draws.tuple (A := X.A.in1) (show X.A.in1.handled = none from I.ok.hd hc) it a hia.symm its.toArray) he ⟨hit, p⟩
        fun h' eb => ⟨rfl, I.turned (t' := s.toks) (fun b o hb q => eb b o hb q) f0 f1 f3 f4 f5⟩
  self := fun A i s Q E ⟨⟨_, he⟩, _⟩ h => wpAny_pyIter_enum he h
def iEnT (K : PySem.W.Frag) (ta : TA) : TI := fun σ H R => ta σ H fun vs H1 => ∃ a xs, vs = [.ref a] ∧ SqT K H1 a xs ∧ R (ItT K a) H1
theorem pi_enumT {X : Cx} {e : Expr} {ta : TA} {p pos tpos : Pos} {elts : List Expr} {kk : Nat} (hg : Gl X "enumerate") (hm : X.mg "enumerate" = none) (ha : PA X [e] ta)
    (hs : starEach [e] X.env = [(false, eval e X.env)] := by rfl) : PI X (.Tuple elts kk tpos) (.Call (.Name "enumerate" p) [e] [] pos) (iEnT X.K ta) := by
  refine ⟨fun pins s σ H R I h => Call_ (ld_blt I hg hm boot_enumerate (PyProof.Rows.callWith_type1 (thn (ha.run pos pins s σ H _ I h) fun us s1 hh => ?_) hs rfl))⟩
  obtain ⟨vs, H1, I1, r1, a, xs, rfl, hq, q⟩ := hh
  cases r1 with
  | cons r rr =>
    cases rr
    cases r
    obtain ⟨its, rv, p', hz⟩ := I1.tuple hq
    refine call_enum_tuple (show s1.heap.IsTuple a its.toArray from p') fun h' he hit hk => wpAny_pyIter_enum he ?_
    refine ⟨s1.heap.objs.size + 1, [s1.heap.objs.size + 1, s1.heap.objs.size], _, _, H1, rfl, I1.kept (t' := s1.toks) hk, turnT a (s1.heap.objs.size + 1) s1.heap.objs.size,
      ⟨⟨.none, he⟩, hit, Nat.succ_ne_self _⟩, fun b hb => ?_, q⟩
    have hle : s1.heap.objs.size ≤ b := by
      rcases List.mem_cons.mp hb with z | z
      · rw [z]; exact Nat.le_add_right _ _
      · rw [List.mem_singleton.mp z]; exact Nat.le_refl _
    exact I1.fpOk hle (I1.hok.fresh hle)
end U

/-! comprehensions and loops in the forms that are wanted most -/
namespace U
open PySem PySem.Spec PyProof.Rows L2
variable {K : PySem.W.Frag} {a : Addr} {xs : List V}
theorem walkT : Walk (ItT K a) xs.length (fun H => SqT K H a xs) (YPair (fun i => some (.int (i : Nat))) (fun i => xs[i]?)) := by
  refine ⟨fun i _ hi q => ⟨xs, xs[i], q, by simp [hi]⟩, fun _ q => ⟨xs, q, rfl⟩, fun i H v H' _ q y => ?_⟩
  obtain ⟨T, x, h1, h2, h3, h4⟩ := y
  exact ⟨T, .int (i : Nat), x, h1, h2, h3, rfl, h4 xs q⟩
theorem fm_range {α β : Type} {F : α → Option β} : ∀ {xs : List α}, (List.range xs.length).filterMap (fun i => (xs[i]?).bind F) = xs.filterMap F
  | [] => rfl
  | x :: r => by
    rw [List.length_cons, List.range_succ_eq_map, List.filterMap_cons, List.filterMap_map, List.filterMap_cons]
    have e : ((fun i => ((x :: r)[i]?).bind F) ∘ Nat.succ) = fun i => (r[i]?).bind F := by
      funext i
      simp
    rw [e, fm_range]
    rfl
theorem fm_some {α β : Type} {f : α → β} {xs : List α} : xs.filterMap (fun x => some (f x)) = xs.map f := by
  rw [← List.filterMap_eq_map]
  rfl
theorem flat_nats (ns : List Nat) : (ns.map nV).all flatV = true := by
  rw [List.all_map]
  exact List.all_eq_true.mpr fun _ _ => rfl
theorem inV_nats (z : Nat) (ns : List Nat) : inV (nV z) (ns.map nV) = decide (z ∈ ns) := by
  unfold inV
  rw [List.any_map, Bool.eq_iff_iff, List.any_eq_true, decide_eq_true_eq]
  constructor
  · rintro ⟨y, hy, e⟩
    have e' : ((y : Int) == (z : Int)) = true := e
    have e2 : (y : Int) = (z : Int) := eq_of_beq e'
    have e3 : y = z := by omega
    rw [← e3]
    exact hy
  · intro h
    refine ⟨z, h, ?_⟩
    show ((z : Int) == (z : Int)) = true
    exact beq_self_eq_true _
theorem nodup_le {ns : List Nat} {n : Nat} (h : ns.Nodup) (hn : ∀ z ∈ ns, z < n) : ns.length ≤ n := by
  have := h.length_le_of_subset (l₂ := List.range n) fun z hz => List.mem_range.mpr (hn z hz)
  rw [List.length_range] at this
  exact this
/-! ### a walked thing that is a list or a tuple -/
def SqX (K : PySem.W.Frag) (H : Hp) (a : Addr) (xs : List V) : Prop := SqL K H a xs ∨ SqT K H a xs
theorem Same.sqx {H H' : Hp} (e : Same H H') (h : SqX K H a xs) : SqX K H' a xs := h.elim (fun z => .inl (Same.seq e z)) fun z => .inr (Same.sqt e z)
def iSeq (K : PySem.W.Frag) (tl : TE) : TI := fun σ H R => tl σ H fun x H1 => ∃ a, x = .ref a ∧ (((∃ xs, SqL K H1 a xs) ∧ R (Itl K a) H1) ∨ ((∃ xs, SqT K H1 a xs) ∧ R (Itt K a) H1))
theorem k_pis {X : Cx} {tg l : Expr} {tl : TE} (h : X.K = K) (hl : PE X l tl) : PI X tg l (iSeq K tl) := by
  subst h
  refine ⟨fun pins s σ H R I h => thn (hl.run pins s σ H _ I h) fun v s1 ⟨x, H1, I1, r1, a, e, q⟩ => ?_⟩
  subst e
  cases r1
  have new : ∀ b ∈ [s1.heap.objs.size], FpOk X pins H1 b := fun b hb => by
    rw [List.mem_singleton.mp hb]
    exact I1.fpOk (Nat.le_refl _) (I1.hok.fresh (Nat.le_refl _))
  rcases q with ⟨⟨xs, hq⟩, q⟩ | ⟨⟨xs, hq⟩, q⟩
  · obtain ⟨its, rv, p, hz⟩ := I1.list hq
    exact wpAny_pyIter_list p.isList ⟨s1.heap.objs.size, [s1.heap.objs.size], _, _, H1, rfl, I1.kept (t' := s1.toks) fun b o e => Heap.get?_push_of_some _ e,
      turn_list a _, ⟨_, Heap.get?_push_size _ rfl, rfl, rfl⟩, new, q⟩
  · obtain ⟨its, rv, p, hz⟩ := I1.tuple hq
    exact wpAny_pyIter_tuple (show s1.heap.IsTuple a its.toArray from p) ⟨s1.heap.objs.size, [s1.heap.objs.size], _, _, H1, rfl, I1.kept (t' := s1.toks) fun b o e => Heap.get?_push_of_some _ e,
      turn_tuple a _, ⟨_, Heap.get?_push_size _ rfl, rfl, rfl⟩, new, q⟩
theorem for_seq {g : TG} {tb : TS} {D : Ends} {σ : L2.St} {H0 H : Hp} (hS : SqX K H0 a xs) (Pv : Nat → L2.St → Hp → Prop) (h0 : Pv 0 σ H) (hl : ∀ i σ H', i ≤ xs.length → Pv i σ H' → Same H0 H')
    (hs : ∀ i x σ H, xs[i]? = some x → Pv i σ H → g x σ H fun σ2 H2 => tb { D with nx := Pv (i + 1), ct := Pv (i + 1), bk := D.nx } σ2 H2) (hd : ∀ σ H, Pv xs.length σ H → D.nx σ H) :
    ((∃ xs, SqL K H a xs) ∧ ∃ W : Nat → Nat → L2.St → Hp → Prop, (∃ m, W 0 m σ H) ∧ ∀ i m σ H, W i m σ H →
      ((Itl K a).stop i H ∧ D.nx σ H) ∨ ((Itl K a).go i H ∧ ∃ N : L2.St → Hp → Prop, (∀ σ' H', N σ' H' → ∃ m', m' < m ∧ W (i + 1) m' σ' H') ∧ ∀ x H', (Itl K a).yld i H x H' → g x σ H' fun σ2 H2 => tb { D with nx := N, ct := N, bk := D.nx } σ2 H2)) ∨
    ((∃ xs, SqT K H a xs) ∧ ∃ W : Nat → Nat → L2.St → Hp → Prop, (∃ m, W 0 m σ H) ∧ ∀ i m σ H, W i m σ H →
      ((Itt K a).stop i H ∧ D.nx σ H) ∨ ((Itt K a).go i H ∧ ∃ N : L2.St → Hp → Prop, (∀ σ' H', N σ' H' → ∃ m', m' < m ∧ W (i + 1) m' σ' H') ∧ ∀ x H', (Itt K a).yld i H x H' → g x σ H' fun σ2 H2 => tb { D with nx := N, ct := N, bk := D.nx } σ2 H2)) := by
  rcases hS with hS | hS
  · exact .inl ⟨⟨xs, Same.seq (hl 0 σ H (Nat.zero_le _) h0) hS⟩, for_list Pv h0 (fun i σ H' hi p => Same.seq (hl i σ H' hi p) hS) hs hd⟩
  · exact .inr ⟨⟨xs, Same.sqt (hl 0 σ H (Nat.zero_le _) h0) hS⟩, for_tup Pv h0 (fun i σ H' hi p => Same.sqt (hl i σ H' hi p) hS) hs hd⟩
/-- nothing that stood is changed by a turn's drawing -/
def Calm (n : Nat) (Y : Nat → Hp → V → Hp → Prop) : Prop := ∀ i H x H', i < n → Y i H x H' → Same H H'
theorem calm_at {n : Nat} : Calm n (YAt xs) := fun _ H _ _ _ y => by rw [y.1]; exact Same.refl H
theorem calm_fn {n : Nat} {f : Nat → V} : Calm n (YFn f) := fun _ H _ _ _ y => by rw [y.1]; exact Same.refl H
theorem calm_pair {n : Nat} {f g : Nat → Option V} : Calm n (YPair f g) := fun _ H _ _ _ ⟨_, _, _, _, h2, h3, _⟩ => by
  rw [h3]
  exact same_new (Same.refl H) h2
/-- a comprehension that changes nothing that stood; at place i it gives an o of which R i o stands -/
theorem lc_rel {J : It} {n : Nat} {G : Hp → Prop} {Y : Nat → Hp → V → Hp → Prop} (w : Walk J n G Y) (hy : Calm n Y) {g : TG} {tt : TT} {te : TE} {vs : List Nat} {σ : L2.St} {H0 : Hp} {D : Addr} {Qd : Hp → Prop}
    (R : Nat → Hp → Option V → Prop) (hR : ∀ i o H H' acc, H D = some (.lst acc) → R i H o → (∀ b u, b ≠ D → H b = some u → H' b = some u) → R i H' o) (hn : n ≤ 100000) (hD : H0 D = none) (hG : ∀ H, Same H0 H → G H)
    (hs : ∀ i x H H', i < n → Same H0 H → Y i H x H' → ∀ Kt : Option V → Hp → Prop, (∀ o H4, Same H' H4 → R i H4 o → Kt o H4) →
      g x (wipe σ vs) H' fun σ2 H2 => wipe σ2 vs = wipe σ vs ∧ tt σ2 H2 fun b H3 => if b = true then te σ2 H3 fun y H4 => Kt (some y) H4 else Kt none H3)
    (hd : ∀ H (os : List (Option V)), Same H0 H → os.length = n → (∀ i o, os[i]? = some o → R i H o) → H D = some (.lst (os.filterMap id)) → Qd H) :
    ∃ W : Nat → Nat → Hp → Prop, (∃ m, W 0 m (upd H0 D (.lst []))) ∧ ∀ i m H, W i m H →
      (J.stop i H ∧ Qd H) ∨ (J.go i H ∧ ∃ Nx : Hp → Prop, (∀ H', Nx H' → ∃ m', m' < m ∧ W (i + 1) m' H') ∧ ∀ x H', J.yld i H x H' → g x (wipe σ vs) H' fun σ2 H2 => wipe σ2 vs = wipe σ vs ∧ tt σ2 H2 fun b H3 =>
        if b = true then te σ2 H3 fun y H4 => ∃ acc, H4 D = some (.lst acc) ∧ acc.length < sizeLine ∧ Nx (upd H4 D (.lst (acc ++ [y]))) else Nx H3) := by
  refine lc_it w (fun i H => ∃ os : List (Option V), Same H0 H ∧ os.length = i ∧ (∀ j o, os[j]? = some o → R j H o) ∧ H D = some (.lst (os.filterMap id)))
    ⟨[], same_new (Same.refl H0) hD, rfl, fun j o h => by simp at h, upd_same⟩ (fun i H hi ⟨os, sm, _⟩ => hG H sm) (fun i x H H' hi p y => ?_) fun H ⟨os, sm, hl, hr, hd'⟩ => hd H os sm hl hr hd'
  obtain ⟨os, sm, hl, hr, hH⟩ := p
  have smY := hy i H x H' hi y
  refine hs i x H H' hi sm y (fun o H4 => match o with
    | some y => ∃ acc, H4 D = some (.lst acc) ∧ acc.length < sizeLine ∧ (∃ os : List (Option V), Same H0 (upd H4 D (.lst (acc ++ [y]))) ∧ os.length = i + 1 ∧ (∀ j o, os[j]? = some o → R j (upd H4 D (.lst (acc ++ [y]))) o) ∧ upd H4 D (.lst (acc ++ [y])) D = some (.lst (os.filterMap id)))
    | none => ∃ os : List (Option V), Same H0 H4 ∧ os.length = i + 1 ∧ (∀ j o, os[j]? = some o → R j H4 o) ∧ H4 D = some (.lst (os.filterMap id))) fun o H4 s4 r4 => ?_
  have hD4 : H4 D = some (.lst (os.filterMap id)) := s4 _ _ (smY _ _ hH)
  have keep : ∀ (H5 : Hp), (∀ b u, b ≠ D → H4 b = some u → H5 b = some u) → Same H0 H5 ∧ (os ++ [o]).length = i + 1 ∧ ∀ j o', (os ++ [o])[j]? = some o' → R j H5 o' := fun H5 k => by
    refine ⟨fun b u q => ?_, by simp [hl], fun j o' hj => ?_⟩
    · have nb : b ≠ D := ne_of_none q hD
      exact k b u nb (s4 _ _ (smY _ _ (sm b u q)))
    · by_cases hj1 : j < os.length
      · rw [List.getElem?_append_left hj1] at hj
        refine hR j o' H H5 _ hH (hr j o' hj) fun b u nb q => k b u nb (s4 _ _ (smY _ _ q))
      · rw [List.getElem?_append_right (by omega)] at hj
        have e1 : j - os.length = 0 := by
          have := (List.getElem?_eq_some_iff.mp hj).1
          simp at this
          omega
        rw [e1] at hj
        have e2 : o = o' := Option.some.inj hj
        have e3 : j = i := by omega
        rw [← e2, e3]
        exact hR i o H4 H5 _ hD4 r4 k
  cases o with
  | none =>
    obtain ⟨k1, k2, k3⟩ := keep H4 fun b u _ q => q
    exact ⟨os ++ [none], k1, k2, k3, by rw [hD4, List.filterMap_append]; simp⟩
  | some y =>
    obtain ⟨k1, k2, k3⟩ := keep (upd H4 D (.lst (os.filterMap id ++ [y]))) fun b u nb q => by rw [upd_ne nb]; exact q
    refine ⟨_, hD4, ?_, os ++ [some y], k1, k2, k3, ?_⟩
    · have h1 : (os.filterMap id).length ≤ os.length := List.length_filterMap_le _ _
      exact small_lt (by omega)
    · rw [upd_same, List.filterMap_append]
      rfl
/-- the same, what comes being known -/
theorem lc_val {J : It} {n : Nat} {G : Hp → Prop} {Y : Nat → Hp → V → Hp → Prop} (w : Walk J n G Y) (hy : Calm n Y) {g : TG} {tt : TT} {te : TE} {vs : List Nat} {σ : L2.St} {H0 : Hp} {D : Addr} {Qd : Hp → Prop}
    (r : Nat → Option V) (hn : n ≤ 100000) (hD : H0 D = none) (hG : ∀ H, Same H0 H → G H)
    (hs : ∀ i x H H', i < n → Same H0 H → Y i H x H' → ∀ Kt : Option V → Hp → Prop, (∀ H4, Same H' H4 → Kt (r i) H4) →
      g x (wipe σ vs) H' fun σ2 H2 => wipe σ2 vs = wipe σ vs ∧ tt σ2 H2 fun b H3 => if b = true then te σ2 H3 fun y H4 => Kt (some y) H4 else Kt none H3)
    (hd : ∀ H, Same H0 H → H D = some (.lst ((List.range n).filterMap r)) → Qd H) :
    ∃ W : Nat → Nat → Hp → Prop, (∃ m, W 0 m (upd H0 D (.lst []))) ∧ ∀ i m H, W i m H →
      (J.stop i H ∧ Qd H) ∨ (J.go i H ∧ ∃ Nx : Hp → Prop, (∀ H', Nx H' → ∃ m', m' < m ∧ W (i + 1) m' H') ∧ ∀ x H', J.yld i H x H' → g x (wipe σ vs) H' fun σ2 H2 => wipe σ2 vs = wipe σ vs ∧ tt σ2 H2 fun b H3 =>
        if b = true then te σ2 H3 fun y H4 => ∃ acc, H4 D = some (.lst acc) ∧ acc.length < sizeLine ∧ Nx (upd H4 D (.lst (acc ++ [y]))) else Nx H3) := by
  refine lc_rel w hy (fun i _ o => o = r i) (fun i o H H' acc _ h _ => h) hn hD hG (fun i x H H' hi sm y Kt k => hs i x H H' hi sm y Kt fun H4 s4 => k (r i) H4 s4 rfl) fun H os sm hl hr hD' => hd H sm ?_
  rw [hD']
  congr 2
  have e : os = (List.range n).map r := by
    apply List.ext_getElem?
    intro j
    by_cases hj : j < n
    · have h1 : os[j]? = some os[j] := List.getElem?_eq_getElem (by omega)
      rw [h1, hr j _ h1, List.getElem?_map, List.getElem?_range hj]
      rfl
    · rw [List.getElem?_eq_none (by omega), List.getElem?_eq_none (by simp; omega)]
  rw [e, List.filterMap_map]
  rfl
/-- over a list or a tuple -/
theorem lc_seq {g : TG} {tt : TT} {te : TE} {vs : List Nat} {σ : L2.St} {Hs H0 : Hp} {Qd : Addr → Hp → Prop} (hS : SqX K Hs a xs) (sm : Same Hs H0) (r : Nat → Option V) (hn : xs.length ≤ 100000)
    (hs : ∀ i x H H', i < xs.length → Same H0 H → YAt xs i H x H' → ∀ Kt : Option V → Hp → Prop, (∀ H4, Same H' H4 → Kt (r i) H4) →
      g x (wipe σ vs) H' fun σ2 H2 => wipe σ2 vs = wipe σ vs ∧ tt σ2 H2 fun b H3 => if b = true then te σ2 H3 fun y H4 => Kt (some y) H4 else Kt none H3)
    (hd : ∀ H D, Same H0 H → H0 D = none → H D = some (.lst ((List.range xs.length).filterMap r)) → Qd D H) :
    (((∃ xs, SqL K H0 a xs) ∧ ∀ D, H0 D = none → ∃ W : Nat → Nat → Hp → Prop, (∃ m, W 0 m (upd H0 D (.lst []))) ∧ ∀ i m H, W i m H →
      ((Itl K a).stop i H ∧ Qd D H) ∨ ((Itl K a).go i H ∧ ∃ Nx : Hp → Prop, (∀ H', Nx H' → ∃ m', m' < m ∧ W (i + 1) m' H') ∧ ∀ x H', (Itl K a).yld i H x H' → g x (wipe σ vs) H' fun σ2 H2 => wipe σ2 vs = wipe σ vs ∧ tt σ2 H2 fun b H3 =>
        if b = true then te σ2 H3 fun y H4 => ∃ acc, H4 D = some (.lst acc) ∧ acc.length < sizeLine ∧ Nx (upd H4 D (.lst (acc ++ [y]))) else Nx H3)) ∨
     ((∃ xs, SqT K H0 a xs) ∧ ∀ D, H0 D = none → ∃ W : Nat → Nat → Hp → Prop, (∃ m, W 0 m (upd H0 D (.lst []))) ∧ ∀ i m H, W i m H →
      ((Itt K a).stop i H ∧ Qd D H) ∨ ((Itt K a).go i H ∧ ∃ Nx : Hp → Prop, (∀ H', Nx H' → ∃ m', m' < m ∧ W (i + 1) m' H') ∧ ∀ x H', (Itt K a).yld i H x H' → g x (wipe σ vs) H' fun σ2 H2 => wipe σ2 vs = wipe σ vs ∧ tt σ2 H2 fun b H3 =>
        if b = true then te σ2 H3 fun y H4 => ∃ acc, H4 D = some (.lst acc) ∧ acc.length < sizeLine ∧ Nx (upd H4 D (.lst (acc ++ [y]))) else Nx H3))) := by
  rcases hS with hS | hS
  · exact .inl ⟨⟨xs, Same.seq sm hS⟩, fun D nD => lc_val walk_list calm_at r hn nD (fun H3 s3 => Same.seq (sm.trans s3) hS) hs fun H s h => hd H D s nD h⟩
  · exact .inr ⟨⟨xs, Same.sqt sm hS⟩, fun D nD => lc_val walk_tup calm_at r hn nD (fun H3 s3 => Same.sqt (sm.trans s3) hS) hs fun H s h => hd H D s nD h⟩
theorem rgV0 (n : Nat) : rgV 0 (n : Int) = (List.range n).map nV := by
  unfold rgV
  rw [show ((n : Int) - 0).toNat = n by omega]
  refine List.map_congr_left fun i _ => ?_
  show V.int ((0 : Int) + (i : Int)) = V.int (i : Int)
  rw [Int.zero_add]
theorem rgV1 (n : Nat) : rgV 1 (n : Int) = ((List.range (n - 1)).map (· + 1)).map nV := by
  unfold rgV
  rw [show ((n : Int) - 1).toNat = n - 1 by omega, List.map_map]
  refine List.map_congr_left fun i _ => ?_
  show V.int ((1 : Int) + (i : Int)) = V.int ((i + 1 : Nat) : Int)
  congr 1
  omega
end U

/-! walks along edges: levels, reach, the search layer by layer -/
namespace U
abbrev Es := List (Nat × Nat)
/-- to come to v by at most k edges from S -/
def Lev (es : Es) (S : List Nat) : Nat → Nat → Prop
  | 0, v => v ∈ S
  | k + 1, v => Lev es S k v ∨ ∃ u, Lev es S k u ∧ (u, v) ∈ es
def Rch (es : Es) (S : List Nat) (v : Nat) : Prop := ∃ k, Lev es S k v
/-- the least number of edges to v is d -/
def Dst (es : Es) (S : List Nat) (v d : Nat) : Prop := Lev es S d v ∧ ∀ k, k < d → ¬ Lev es S k v
theorem Lev.succ {es : Es} {S : List Nat} {k v : Nat} (h : Lev es S k v) : Lev es S (k + 1) v := .inl h
theorem Lev.mono {es : Es} {S : List Nat} {k j v : Nat} (h : Lev es S k v) (hk : k ≤ j) : Lev es S j v := by
  induction hk with
  | refl => exact h
  | step _ ih => exact ih.succ
theorem Lev.edge {es : Es} {S : List Nat} {k u v : Nat} (h : Lev es S k u) (e : (u, v) ∈ es) : Lev es S (k + 1) v := .inr ⟨u, h, e⟩
theorem Rch.edge {es : Es} {S : List Nat} {u v : Nat} (h : Rch es S u) (e : (u, v) ∈ es) : Rch es S v := h.elim fun k hk => ⟨k + 1, hk.edge e⟩
theorem Rch.base {es : Es} {S : List Nat} {v : Nat} (h : v ∈ S) : Rch es S v := ⟨0, h⟩
theorem Rch.ind {es : Es} {S : List Nat} {P : Nat → Prop} (h0 : ∀ v ∈ S, P v) (h1 : ∀ u v, P u → (u, v) ∈ es → P v) {v : Nat} (h : Rch es S v) : P v := by
  obtain ⟨k, hk⟩ := h
  induction k generalizing v with
  | zero => exact h0 v hk
  | succ k ih =>
    rcases hk with hk | ⟨u, hu, e⟩
    · exact ih hk
    · exact h1 u v (ih hu) e
theorem Rch.mono {es es' : Es} {S S' : List Nat} (he : ∀ e ∈ es, e ∈ es') (hS : ∀ v ∈ S, v ∈ S') {v : Nat} (h : Rch es S v) : Rch es' S' v :=
  h.ind (fun v hv => .base (hS v hv)) fun u v hu e => hu.edge (he _ e)
theorem Rch.lt {es : Es} {S : List Nat} {n v : Nat} (hS : ∀ s ∈ S, s < n) (he : ∀ e ∈ es, e.2 < n) (h : Rch es S v) : v < n :=
  h.ind hS fun _ v _ e => he _ e
theorem Dst.inj {es : Es} {S : List Nat} {v d d' : Nat} (h : Dst es S v d) (h' : Dst es S v d') : d = d' := by
  rcases Nat.lt_trichotomy d d' with z | z | z
  · exact absurd h.1 (h'.2 d z)
  · exact z
  · exact absurd h'.1 (h.2 d' z)
theorem Dst.ex {es : Es} {S : List Nat} {v k : Nat} (h : Lev es S k v) : ∃ d, d ≤ k ∧ Dst es S v d := by
  induction k with
  | zero => exact ⟨0, Nat.le_refl _, h, fun k hk => absurd hk (Nat.not_lt_zero k)⟩
  | succ k ih =>
    by_cases hk : Lev es S k v
    · obtain ⟨d, hd, h'⟩ := ih hk
      exact ⟨d, Nat.le_succ_of_le hd, h'⟩
    · exact ⟨k + 1, Nat.le_refl _, h, fun j hj hl => hk (hl.mono (Nat.le_of_lt_succ hj))⟩
theorem rch_iff {es : Es} {S : List Nat} {v : Nat} : Rch es S v ↔ ∃ d, Dst es S v d :=
  ⟨fun ⟨_, h⟩ => (Dst.ex h).elim fun d h => ⟨d, h.2⟩, fun ⟨d, h⟩ => ⟨d, h.1⟩⟩
/-- no edge leads farther by more than one -/
theorem Dst.step {es : Es} {S : List Nat} {u v d d' : Nat} (h : Dst es S u d) (e : (u, v) ∈ es) (h' : Dst es S v d') : d' ≤ d + 1 := by
  by_cases hd : d' ≤ d + 1
  · exact hd
  · exact absurd (h.1.edge e) (h'.2 (d + 1) (by omega))
/-- whoever is farther off than 0 has a nearer one ahead -/
theorem Dst.pred {es : Es} {S : List Nat} {v d : Nat} (h : Dst es S v (d + 1)) : ∃ u, Dst es S u d ∧ (u, v) ∈ es := by
  rcases h.1 with hk | ⟨u, hu, e⟩
  · exact absurd hk (h.2 d (Nat.lt_succ_self d))
  · refine ⟨u, ⟨hu, fun k hk hl => ?_⟩, e⟩
    exact h.2 (k + 1) (Nat.succ_lt_succ hk) (hl.edge e)

/-! ### the search -/
/-- st tells what is known when c layers are done; lay is the layer c -/
structure Bfs (n : Nat) (es : Es) (S : List Nat) (c : Nat) (st : Nat → Option Nat) (lay : List Nat) : Prop where
  tell : ∀ v d, v < n → st v = some d → d ≤ c ∧ Dst es S v d
  full : ∀ v, v < n → Lev es S c v → st v ≠ none
  lay : ∀ v, v ∈ lay ↔ v < n ∧ st v = some c
theorem Bfs.start {n : Nat} {es : Es} {S : List Nat} (hS : ∀ s ∈ S, s < n) : Bfs n es S 0 (fun v => if v ∈ S then some 0 else none) S where
  tell := fun v d _ h => by
    by_cases hv : v ∈ S
    · rw [if_pos hv] at h
      cases h
      exact ⟨Nat.le_refl _, hv, fun k hk => absurd hk (Nat.not_lt_zero k)⟩
    · rw [if_neg hv] at h
      cases h
  full := fun v _ h => by
    have h : v ∈ S := h
    rw [if_pos h]
    exact fun z => by cases z
  lay := fun v => by
    by_cases hv : v ∈ S
    · simp [hv, hS v hv]
    · simp [hv]
/-- behind one more layer; T: all heads of edges out of the layer -/
theorem Bfs.next {n : Nat} {es : Es} {S : List Nat} {c : Nat} {st : Nat → Option Nat} {lay T : List Nat} (b : Bfs n es S c st lay) (he : ∀ e ∈ es, e.1 < n ∧ e.2 < n) (hS : ∀ s ∈ S, s < n)
    (hT : ∀ v, v ∈ T ↔ ∃ u, u ∈ lay ∧ (u, v) ∈ es) {lay' : List Nat} (hl : ∀ v, v ∈ lay' ↔ v < n ∧ st v = none ∧ v ∈ T) :
    Bfs n es S (c + 1) (fun v => match st v with
      | some d => some d
      | none => if v ∈ T then some (c + 1) else none) lay' where
  tell := fun v d hv h => by
    cases e : st v with
    | some d0 =>
      simp only [e] at h
      cases h
      obtain ⟨h1, h2⟩ := b.tell v _ hv e
      exact ⟨Nat.le_succ_of_le h1, h2⟩
    | none =>
      simp only [e] at h
      by_cases hm : v ∈ T
      · rw [if_pos hm] at h
        cases h
        obtain ⟨u, hu, ed⟩ := (hT v).mp hm
        obtain ⟨hun, hus⟩ := (b.lay u).mp hu
        refine ⟨Nat.le_refl _, (b.tell u c hun hus).2.1.edge ed, fun k hk hlk => ?_⟩
        exact b.full v hv (hlk.mono (Nat.le_of_lt_succ hk)) e
      · rw [if_neg hm] at h
        cases h
  full := fun v hv h => by
    cases e : st v with
    | some d0 =>
      simp only
      exact fun z => by cases z
    | none =>
      have hm : v ∈ T := by
        rcases h with h | ⟨u, hu, ed⟩
        · exact absurd e (b.full v hv h)
        · have hun : u < n := (he _ ed).1
          have hus := b.full u hun hu
          cases eu : st u with
          | none => exact absurd eu hus
          | some d =>
            obtain ⟨h1, h2⟩ := b.tell u d hun eu
            by_cases hd : d = c
            · subst hd
              exact (hT v).mpr ⟨u, (b.lay u).mpr ⟨hun, eu⟩, ed⟩
            · exact absurd e (b.full v hv ((h2.1.edge ed).mono (by omega)))
      simp only
      rw [if_pos hm]
      exact fun z => by cases z
  lay := fun v => by
    rw [hl v]
    constructor
    · rintro ⟨hv, h0, hm⟩
      refine ⟨hv, ?_⟩
      simp only [h0]
      rw [if_pos hm]
    · rintro ⟨hv, h⟩
      refine ⟨hv, ?_⟩
      cases e : st v with
      | some d =>
        simp only [e] at h
        cases h
        exact absurd (b.tell v (c + 1) hv e).1 (by omega)
      | none =>
        simp only [e] at h
        by_cases hm : v ∈ T
        · exact ⟨rfl, hm⟩
        · rw [if_neg hm] at h
          cases h
/-- when the layer is empty all is told -/
theorem Bfs.done {n : Nat} {es : Es} {S : List Nat} {c : Nat} {st : Nat → Option Nat} (b : Bfs n es S c st []) (he : ∀ e ∈ es, e.1 < n ∧ e.2 < n) {v : Nat} (hv : v < n) :
    (∀ d, st v = some d ↔ Dst es S v d) ∧ (st v = none ↔ ¬ Rch es S v) := by
  have cl : ∀ k w, w < n → Lev es S k w → Lev es S c w := by
    intro k
    induction k with
    | zero => exact fun w _ h => Lev.mono (k := 0) h (Nat.zero_le _)
    | succ k ih =>
      intro w hw h
      rcases h with h | ⟨u, hu, ed⟩
      · exact ih w hw h
      · have hun : u < n := (he _ ed).1
        have hu' := ih u hun hu
        obtain ⟨d, hd, h2⟩ := Dst.ex hu'
        have hdc : d ≠ c := by
          intro z
          subst z
          cases eu : st u with
          | none => exact b.full u hun hu' eu
          | some d' =>
            have e2 := (b.tell u d' hun eu).2.inj h2
            subst e2
            have := (b.lay u).mpr ⟨hun, eu⟩
            cases this
        exact (h2.1.edge ed).mono (by omega)
  have two : st v = none ↔ ¬ Rch es S v := by
    constructor
    · rintro h ⟨k, hk⟩
      exact b.full v hv (cl k v hv hk) h
    · intro h
      cases e : st v with
      | none => rfl
      | some d => exact absurd ⟨d, (b.tell v d hv e).2.1⟩ h
  refine ⟨fun d => ⟨fun h => (b.tell v d hv h).2, fun h => ?_⟩, two⟩
  cases e : st v with
  | none => exact absurd (rch_iff.mpr ⟨d, h⟩) (two.mp e)
  | some d' => rw [(b.tell v d' hv e).2.inj h]
/-- the edges from a place -/
def adj (es : Es) (v : Nat) : List Nat := es.filterMap fun e => if e.1 = v then some e.2 else none
theorem mem_adj {es : Es} {u v : Nat} : v ∈ adj es u ↔ (u, v) ∈ es := by
  unfold adj
  rw [List.mem_filterMap]
  constructor
  · rintro ⟨⟨a, b⟩, h, e⟩
    simp only at e
    by_cases hu : a = u
    · rw [if_pos hu] at e
      cases e
      rw [← hu]
      exact h
    · rw [if_neg hu] at e
      cases e
  · intro h
    exact ⟨(u, v), h, by simp⟩
theorem adj_snoc {es : Es} {e : Nat × Nat} {v : Nat} : adj (es ++ [e]) v = if e.1 = v then adj es v ++ [e.2] else adj es v := by
  unfold adj
  rw [List.filterMap_append]
  by_cases h : e.1 = v
  · simp [h]
  · simp [h]
/-- how many places are not told yet -/
def openN (n : Nat) (st : Nat → Option Nat) : Nat := (List.range n).countP fun v => (st v).isNone
theorem openN_le {n : Nat} {st st' : Nat → Option Nat} (h : ∀ v, st' v = none → st v = none) : openN n st' ≤ openN n st := by
  unfold openN
  refine List.countP_mono_left fun v _ hv => ?_
  simp only [Option.isNone_iff_eq_none] at hv ⊢
  exact h v hv
theorem openN_lt {n : Nat} {st st' : Nat → Option Nat} (h : ∀ v, st' v = none → st v = none) {z : Nat} (hz : z < n) (h1 : st z = none) (h2 : st' z ≠ none) : openN n st' < openN n st := by
  unfold openN
  have hm : z ∈ List.range n := List.mem_range.mpr hz
  obtain ⟨l1, l2, e⟩ := List.append_of_mem hm
  rw [e, List.countP_append, List.countP_append, List.countP_cons, List.countP_cons]
  have a1 : List.countP (fun v => (st' v).isNone) l1 ≤ List.countP (fun v => (st v).isNone) l1 := List.countP_mono_left fun v _ hv => by
    simp only [Option.isNone_iff_eq_none] at hv ⊢
    exact h v hv
  have a2 : List.countP (fun v => (st' v).isNone) l2 ≤ List.countP (fun v => (st v).isNone) l2 := List.countP_mono_left fun v _ hv => by
    simp only [Option.isNone_iff_eq_none] at hv ⊢
    exact h v hv
  have b1 : (if (st z).isNone = true then 1 else 0) = 1 := by rw [h1]; rfl
  have b2 : (if (st' z).isNone = true then 1 else 0) = 0 := by
    cases q : st' z with
    | none => exact absurd q h2
    | some d => rfl
  rw [b1, b2]
  omega
end U

/-! the hand that draws -/
namespace U
open PySem PySem.Spec PyProof.Rows L2
def handO (c : Addr) (i r s k : Int) : HO := .lst [.ref c, .int i, .int r, .int s, .int k]
/-- the hand stands at h, its cells in the region F -/
structure HandAt (F H : Hp) (h : Addr) : Prop where
  ob : ∃ (c : Addr) (cells : List Int) (i r s k : Int), H h = some (handO c i r s k) ∧ F c = some (.lst (cells.map V.int)) ∧ 0 ≤ i
  nF : F h = none
theorem HandAt.grow {M : Addr → Prop} {F H F' H' : Hp} {h : Addr} (a : HandAt F H h) (g : Grow M F H F' H') (hm : ¬ M h) : HandAt F' H' h where
  ob := by
    obtain ⟨c, cells, i, r, s, k, h1, h2, h3⟩ := a.ob
    exact ⟨c, cells, i, r, s, k, g.same _ _ hm h1, g.sub _ _ h2, h3⟩
  nF := by
    refine Classical.byContradiction fun z => ?_
    obtain ⟨c, cells, i, r, s, k, h1, _⟩ := a.ob
    rw [g.fresh h z a.nF] at h1
    cases h1
/-- what a draw leaves -/
structure Drew (F H H' : Hp) (h : Addr) : Prop where
  hand : HandAt F H' h
  rest : ∀ b, b ≠ h → H' b = H b
  sub : Same F H'
theorem Drew.trans {F H H1 H2 : Hp} {h : Addr} (a : Drew F H H1 h) (b : Drew F H1 H2 h) : Drew F H H2 h := ⟨b.hand, fun x hx => (b.rest x hx).trans (a.rest x hx), b.sub⟩
theorem Drew.grow {F H H' : Hp} {h : Addr} (a : HandAt F H h) (d : Drew F H H' h) : Grow (fun b => b = h) F H F H' where
  same := fun b o m e => by rw [d.rest b m]; exact e
  live := fun b e => by
    by_cases hb : b = h
    · subst hb
      obtain ⟨c, cells, i, r, s, k, h1, _⟩ := d.hand.ob
      rw [h1]
      exact fun z => by cases z
    · rw [d.rest b hb]
      exact e
  sub := Same.refl F
  sub' := d.sub
  fresh := fun b x y => absurd y x
def spDraw : Sp := fun vs H Q _ => ∃ (h : Addr) (m : Int) (F : Hp), vs = [.ref h, .int m] ∧ 0 < m ∧ m.natAbs.log2 < 9000 ∧ Same F H ∧ HandAt F H h ∧ ∀ n H', 0 ≤ n → n < m → Drew F H H' h → Q (.int n) H'
/-- a store to the hand -/
theorem drew_upd {F H : Hp} {h c : Addr} {cells : List Int} {i' r' s' k' : Int} (hs : Same F H) (nF : F h = none) (hc : F c = some (.lst (cells.map V.int))) (h0 : 0 ≤ i') : Drew F H (upd H h (handO c i' r' s' k')) h where
  hand := ⟨⟨c, cells, i', r', s', k', upd_same, hc, h0⟩, nF⟩
  rest := fun b hb => upd_ne hb
  sub := same_mut hs nF
/-- what a def with draws leaves: the hand, all else that stood -/
structure Dr (F H H' : Hp) (h : Addr) : Prop where
  hand : HandAt F H' h
  same : ∀ b o, b ≠ h → H b = some o → H' b = some o
  sub : Same F H'
theorem Drew.dr {F H H' : Hp} {h : Addr} (d : Drew F H H' h) : Dr F H H' h := ⟨d.hand, fun b o hb e => by rw [d.rest b hb]; exact e, d.sub⟩
theorem Dr.trans {F H H1 H2 : Hp} {h : Addr} (a : Dr F H H1 h) (b : Dr F H1 H2 h) : Dr F H H2 h := ⟨b.hand, fun x o hx e => b.same x o hx (a.same x o hx e), b.sub⟩
theorem HandAt.ne {F H : Hp} {h b : Addr} (a : HandAt F H h) (hb : H b = none) : b ≠ h := fun e => by
  obtain ⟨c, cells, i, r, s, k, h1, _⟩ := a.ob
  rw [← e, hb] at h1
  cases h1
theorem Dr.refl {F H : Hp} {h : Addr} (a : HandAt F H h) (s : Same F H) : Dr F H H h := ⟨a, fun _ _ _ e => e, s⟩
/-- behind what leaves all that stood -/
theorem Dr.of_same {F H H' : Hp} {h : Addr} (a : HandAt F H h) (sF : Same F H) (s : Same H H') : Dr F H H' h where
  hand := by
    obtain ⟨c, cells, i, r, s', k, h1, h2, h3⟩ := a.ob
    exact ⟨⟨c, cells, i, r, s', k, s _ _ h1, h2, h3⟩, a.nF⟩
  same := fun b o _ e => s b o e
  sub := sF.trans s
/-- a local object is stored to -/
theorem Dr.upd {F H H' : Hp} {h x : Addr} {o : HO} (d : Dr F H H' h) (hx : H x = none) (nx : x ≠ h) (nF : F x = none) : Dr F H (upd H' x o) h where
  hand := by
    obtain ⟨c, cells, i, r, s', k, h1, h2, h3⟩ := d.hand.ob
    exact ⟨⟨c, cells, i, r, s', k, by rw [upd_ne nx.symm]; exact h1, h2, h3⟩, d.hand.nF⟩
  same := fun b u hb e => by
    rw [upd_ne (ne_of_none e hx)]
    exact d.same b u hb e
  sub := same_mut d.sub nF
theorem Dr.live {F H H' : Hp} {h : Addr} (d : Dr F H H' h) {b : Addr} (hb : H b ≠ none) : H' b ≠ none := by
  by_cases e : b = h
  · subst e
    obtain ⟨c, cells, i, r, s', k, h1, _⟩ := d.hand.ob
    rw [h1]
    exact fun z => by cases z
  · cases q : H b with
    | none => exact absurd q hb
    | some o =>
      rw [d.same b o e q]
      exact fun z => by cases z
theorem Dr.free {F H H' : Hp} {h : Addr} (d : Dr F H H' h) {b : Addr} (hb : H' b = none) : H b = none := Classical.byContradiction fun z => d.live z hb
theorem Dr.sqt {K : PySem.W.Frag} {F H H' : Hp} {h a : Addr} {xs : List V} (d : Dr F H H' h) (hA : HandAt F H h) (s : SqT K H a xs) : SqT K H' a xs := by
  obtain ⟨c, cells, i, r, s', k, h1, _⟩ := hA.ob
  rcases s with (s | ⟨o, s⟩) | s
  · exact .inl (.inl (d.same _ _ (ne_of s h1 (by intro z; cases z)) s))
  · exact .inl (.inr ⟨o, d.same _ _ (ne_of s h1 (by intro z; cases z)) s⟩)
  · exact .inr s
/-- an if whose ways meet again: what stands where it is true, where it is not -/
theorem ifs_split {c : TT} {t u : TS} {D : Ends} {σ : L2.St} {H : Hp} (P Pn : Hp → Prop) (hc : ∀ Kt : Bool → Hp → Prop, (∀ H', P H' → Kt true H') → (∀ H', Pn H' → Kt false H') → c σ H Kt)
    (h1 : ∀ H', P H' → t D σ H') (h2 : ∀ H', Pn H' → u D σ H') : tIfS c t u D σ H :=
  hc _ (fun H' p => iteT (h1 H' p)) fun H' p => iteF (h2 H' p)
theorem small_log {m : Int} (h0 : 0 < m) (h : m < 2 ^ 8999) : m.natAbs.log2 < 9000 := by
  have h1 : m.natAbs ≠ 0 := by omega
  have h2 := Nat.log2_self_le h1
  refine Classical.byContradiction fun z => ?_
  have h3 : 2 ^ 9000 ≤ 2 ^ m.natAbs.log2 := Nat.pow_le_pow_right (by decide) (by omega)
  have h4 : (2 : Nat) ^ 9000 ≤ m.natAbs := Nat.le_trans h3 h2
  have h5 : (m.natAbs : Int) < 2 ^ 8999 := by omega
  have h6 : m.natAbs < 2 ^ 8999 := by exact_mod_cast h5
  have h7 : (2 : Nat) ^ 8999 ≤ 2 ^ 9000 := Nat.pow_le_pow_right (by decide) (by decide)
  omega
/-! ### the region behind a def that makes tuples -/
/-- F and all tuples that are new between H and H' -/
def hv (F H H' : Hp) : Hp := fun b => match F b with
  | some o => some o
  | none => match H b with
    | some _ => none
    | none => match H' b with
      | some (.tup xs) => some (.tup xs)
      | _ => none
theorem hv_old {F H H' : Hp} {b : Addr} {o : HO} (e : F b = some o) : hv F H H' b = some o := by
  unfold hv
  rw [e]
theorem hv_new {F H H' : Hp} {b : Addr} {xs : List V} (hF : Same F H) (h0 : H b = none) (h1 : H' b = some (.tup xs)) : hv F H H' b = some (.tup xs) := by
  have e : F b = none := Same.free hF h0
  unfold hv
  rw [e, h0, h1]
theorem hv_inv {F H H' : Hp} {b : Addr} {o : HO} (h : hv F H H' b = some o) : F b = some o ∨ (F b = none ∧ H b = none ∧ H' b = some o) := by
  unfold hv at h
  cases e : F b with
  | some u => rw [e] at h; exact .inl h
  | none =>
    rw [e] at h
    cases e2 : H b with
    | some u => rw [e2] at h; cases h
    | none =>
      rw [e2] at h
      cases e3 : H' b with
      | none => rw [e3] at h; cases h
      | some u =>
        rw [e3] at h
        cases u with
        | tup xs => exact .inr ⟨rfl, rfl, h⟩
        | _ => cases h
theorem hv_none {F H H' : Hp} {b : Addr} (h0 : F b = none) (h1 : H b ≠ none) : hv F H H' b = none := by
  cases e : hv F H H' b with
  | none => rfl
  | some o =>
    rcases hv_inv e with z | ⟨_, z, _⟩
    · rw [h0] at z; cases z
    · exact absurd z h1
theorem hv_sub {F H0 H H' : Hp} (fr : ∀ b, H b = none → H0 b = none) : Same (hv F H H') (hv F H0 H') := fun b o e => by
  unfold hv at e ⊢
  cases e1 : F b with
  | some u => rw [e1] at e; exact e
  | none =>
    rw [e1] at e
    cases e2 : H b with
    | some u => rw [e2] at e; cases e
    | none =>
      rw [e2] at e
      rw [fr b e2]
      exact e
theorem hv_grow {M : Addr → Prop} {F H H' : Hp} (hF : Same F H') (same : ∀ a o, ¬ M a → H a = some o → H' a = some o) (live : ∀ a, H a ≠ none → H' a ≠ none) : Grow M F H (hv F H H') H' where
  same := same
  live := live
  sub := fun b o e => hv_old e
  sub' := fun b o e => by
    rcases hv_inv e with z | ⟨_, _, z⟩
    · exact hF b o z
    · exact z
  fresh := fun b h1 h0 => by
    cases e : hv F H H' b with
    | none => exact absurd e h1
    | some o =>
      rcases hv_inv e with z | ⟨_, z, _⟩
      · rw [h0] at z; cases z
      · exact z
theorem Dr.hvG {F H H' : Hp} {h : Addr} (d : Dr F H H' h) : Grow (fun b => b = h) F H (hv F H H') H' :=
  hv_grow d.sub (fun b o m e => d.same b o m e) fun b e => d.live e
theorem Dr.hvH {F H H' : Hp} {h : Addr} (d : Dr F H H' h) (hA : HandAt F H h) : HandAt (hv F H H') H' h where
  ob := by
    obtain ⟨c, cells, i, r, s', k, h1, h2, h3⟩ := d.hand.ob
    exact ⟨c, cells, i, r, s', k, h1, hv_old h2, h3⟩
  nF := hv_none hA.nF fun z => by
    obtain ⟨c, cells, i, r, s', k, h1, _⟩ := hA.ob
    rw [h1] at z
    cases z
/-! ### numbers out of lists that were shuffled or sorted -/
def unV : V → Nat
  | .int i => i.toNat
  | _ => 0
theorem perm_nats {ys : List V} {l : List Nat} (h : ys.Perm (l.map nV)) : ∃ ns : List Nat, ys = ns.map nV ∧ ns.Perm l := by
  refine ⟨ys.map unV, ?_, ?_⟩
  · rw [List.map_map]
    symm
    rw [show ys = ys.map id by rw [List.map_id]]
    rw [List.map_map]
    refine List.map_congr_left fun v hv => ?_
    obtain ⟨n, _, rfl⟩ := List.mem_map.mp (h.mem_iff.mp hv)
    show V.int ((Int.toNat (n : Int) : Nat) : Int) = V.int (n : Int)
    rfl
  · have h2 := h.map unV
    rw [List.map_map] at h2
    have e : l.map (unV ∘ nV) = l := by
      rw [show l.map (unV ∘ nV) = l.map id from List.map_congr_left fun n _ => rfl, List.map_id]
    rw [e] at h2
    exact h2
theorem sort_nats {ns : List Int} {l : List Nat} (h : ns.Perm (l.map fun (n : Nat) => (n : Int))) (hp : ns.Pairwise (· ≤ ·)) : ∃ gs : List Nat, ns.map V.int = gs.map nV ∧ gs.Perm l ∧ gs.Pairwise (· ≤ ·) := by
  have h1 : (ns.map V.int).Perm (l.map nV) := by
    have := h.map V.int
    rw [List.map_map] at this
    exact this
  obtain ⟨gs, e, hg⟩ := perm_nats h1
  refine ⟨gs, e, hg, ?_⟩
  have e2 : ns = gs.map fun (n : Nat) => (n : Int) := by
    have e3 : ns.map V.int = (gs.map fun (n : Nat) => (n : Int)).map V.int := by rw [e, List.map_map]; rfl
    exact (List.map_inj_right fun x y z => by injection z).mp e3
  rw [e2, List.pairwise_map] at hp
  exact hp.imp fun h => by omega
theorem pw_lt {gs : List Nat} (h : gs.Pairwise (· ≤ ·)) (nd : gs.Nodup) : gs.Pairwise (· < ·) := by
  induction gs with
  | nil => exact List.Pairwise.nil
  | cons g r ih =>
    have h1 := List.pairwise_cons.mp h
    have h2 := List.nodup_cons.mp nd
    refine List.pairwise_cons.mpr ⟨fun x hx => ?_, ih h1.2 h2.2⟩
    have := h1.1 x hx
    have : g ≠ x := fun e => h2.1 (by rw [e]; exact hx)
    omega
/-- two lots with the same numbers are one -/
theorem lot_eq {gs gs' : List Nat} (h : gs.Pairwise (· < ·)) (h' : gs'.Pairwise (· < ·)) (e : ∀ x, x ∈ gs ↔ x ∈ gs') : gs = gs' := by
  induction gs generalizing gs' with
  | nil =>
    cases gs' with
    | nil => rfl
    | cons g r => exact absurd ((e g).mpr List.mem_cons_self) List.not_mem_nil
  | cons g r ih =>
    cases gs' with
    | nil => exact absurd ((e g).mp List.mem_cons_self) List.not_mem_nil
    | cons g' r' =>
      have h1 := List.pairwise_cons.mp h
      have h2 := List.pairwise_cons.mp h'
      have e0 : g = g' := by
        rcases List.mem_cons.mp ((e g).mp List.mem_cons_self) with z | z
        · exact z
        · rcases List.mem_cons.mp ((e g').mpr List.mem_cons_self) with z' | z'
          · exact z'.symm
          · have := h2.1 g z
            have := h1.1 g' z'
            omega
      subst e0
      congr 1
      refine ih h1.2 h2.2 fun x => ?_
      constructor
      · intro hx
        rcases List.mem_cons.mp ((e x).mp (List.mem_cons_of_mem _ hx)) with z | z
        · subst z
          exact absurd (h1.1 x hx) (Nat.lt_irrefl _)
        · exact z
      · intro hx
        rcases List.mem_cons.mp ((e x).mpr (List.mem_cons_of_mem _ hx)) with z | z
        · subst z
          exact absurd (h2.1 x hx) (Nat.lt_irrefl _)
        · exact z
end U

/-! data that is compared -/
namespace U
open PySem PySem.Spec PyProof.Rows L2
variable {K : PySem.W.Frag} {H : Hp}
def dN (n : Nat) : PyData := .int (n : Int)
theorem dp_nats : ∀ {ns : List Nat}, DpAll K H (ns.map nV) (ns.map dN)
  | [] => .nil
  | n :: r => .cons (.int (n : Int)) (dp_nats (ns := r))
theorem lay_nats : ∀ {ns : List Nat}, PyData.canLayAll0 (ns.map dN) = true
  | [] => rfl
  | n :: r => by
    rw [List.map_cons, PyData.canLayAll0, lay_nats (ns := r)]
    rfl
theorem dep_nats : ∀ {ns : List Nat}, PyData.depthAll (ns.map dN) = 0
  | [] => rfl
  | n :: r => by
    rw [List.map_cons, PyData.depthAll, dep_nats (ns := r)]
    rfl
theorem shp_lst {ns : List Nat} : SeqAt.shaped (.list (ns.map dN)) = true := by
  unfold SeqAt.shaped
  rw [PyData.canLay0, PyData.depth, lay_nats, dep_nats]
  rfl
theorem shp_tup {ns : List Nat} : SeqAt.shaped (.tuple (ns.map dN)) = true := by
  unfold SeqAt.shaped
  rw [PyData.canLay0, PyData.depth, lay_nats, dep_nats]
  rfl
theorem eqv_same {d : PyData} (h : SeqAt.shaped d = true) : PyData.eqv d d = true := SeqAt.eqv_refl d (SeqAt.canLay_of_shaped h)
def dE (e : Nat × Nat) : PyData := .tuple [dN e.1, dN e.2]
theorem lay_prs : ∀ {es : List (Nat × Nat)}, PyData.canLayAll0 (es.map dE) = true
  | [] => rfl
  | n :: r => by
    rw [List.map_cons, PyData.canLayAll0, lay_prs (es := r)]
    rfl
theorem dep_prs : ∀ {es : List (Nat × Nat)}, PyData.depthAll (es.map dE) ≤ 1
  | [] => Nat.zero_le _
  | n :: r => by
    rw [List.map_cons, PyData.depthAll]
    exact Nat.max_le.mpr ⟨Nat.le_refl 1, dep_prs (es := r)⟩
theorem shp_prs {es : List (Nat × Nat)} : SeqAt.shaped (.tuple (es.map dE)) = true := by
  unfold SeqAt.shaped
  rw [PyData.canLay0, PyData.depth, lay_prs, Bool.true_and, decide_eq_true_eq]
  have := dep_prs (es := es)
  omega
theorem kn_of_bl {b : Bool} : Kn K H (.bl b) "bool" := ⟨.base (.bl b), by simp⟩
theorem cutV_nat (ns : List Nat) (lo hi : Option Int) : ∃ ms : List Nat, cutV (ns.map nV) lo hi = ms.map nV ∧ ∀ m ∈ ms, m ∈ ns := by
  unfold cutV
  rw [← List.map_drop, ← List.map_take]
  exact ⟨_, rfl, fun m hm => List.mem_of_mem_drop (List.mem_of_mem_take hm)⟩
end U

/-! own errors made without arguments; defs that raise -/
namespace U
open PySem PySem.Spec PyProof.Rows L2
theorem pmk_own0 {X : Cx} {pos : Pos} {C : Addr} {bmB : List Value} {B newId initId : String} {x : Str} {p : Pos} (F : ExcBaseFacts B newId initId bmB) (q : PySem.W.excIn X.K C bmB newId = true) (gC : X.mg x = some (.ref C))
    (kC : PySem.W.keepIn X.K (.ref C) = true) (r : Raises X (.ref C)) (hg : Gl X x) (hdb : (x == ("__debug__" : Str)) = false := by decide) :
    PMk X (.Call (.Name x p) [] [] pos) (fun _ H Q => Q (.ref C) none H) := by
  intro pins s σ H Q I h
  refine wpAny_Call_Name_kw (ld_glob I hg gC ?_ hdb)
  refine PySem.W.callWith_K0 I.kIn kC ?_
  show wpAny _ _ (call (.ref C) []) _ _ _
  obtain ⟨bm, N, nm, qn, bs, hdct, sn, sub, ab, col, dd, k0, k1, k2, k3, k5, mN, hC, hN, hni, T⟩ := exc_obj I.kIn q
  refine wpAny_call_exc_subT F T hC hN hni (fun h' e hm => ?_) (Nat.zero_le _)
  exact mk_of I hm r h (I.hok.gone hm.new)

/-- what the written part says of an own error class without __init__, at C -/
structure Ex (K : PySem.W.Frag) (mg : Str → Option Value) (x : Str) (C : Addr) : Prop where
  g : mg x = some (.ref C)
  e : PySem.W.excIn K C [.type "ValueError", .type "Exception", .type "BaseException", .type "object"] "ValueError.__new__" = true
  k : PySem.W.keepIn K (.ref C) = true
  b : PySem.W.subIn K (.ref C) (.type "BaseException") = some true
  t : PySem.W.typeIn K (.ref C) = some (.type "type")
/-- raise C() -/
theorem ps_raise0 {X : Cx} {x : Str} {C : Addr} {W : WX} {p pos pos2 : Pos} (T : Ex X.K X.mg x C) (hc : X.calm = true) (tk : Takes X W) (hg : Gl X x) (hdb : (x == ("__debug__" : Str)) = false := by decide) :
    PS X (.Raise (some (.Call (.Name x p) [] [] pos)) none pos2) (fun _ σ H => W (.ref C) none σ H) :=
  ps_raise hc tk (pmk_own0 PySem.F.excBase_ValueError T.e T.g T.k (raises_own T.b T.t) hg hdb)

/-- as Has, for a def that may raise -/
structure HasX (P : Program) (w : World) (K : PySem.W.Frag) (mg : Str → Option Value) (base : Heap) (x : Str) (k : Nat) (ps : List Str) (sp : Sp) : Prop where
  ex : ∃ f fd, mg x = some (.ref f) ∧ PySem.W.keepIn K (.ref f) = true ∧ Binds K fd ps [] ∧ FnOk P w K mg base (L2.CX P w) k f fd ps sp ∧ Lk K f fd
theorem Df.hasX {P : Program} {w : World} {K : PySem.W.Frag} {mg : Str → Option Value} {base : Heap} {x : Str} {st : Stmt} {ps : List Str} {k : Nat} {sp : Sp} (d : Df K mg x st ps)
    (h : ∀ f fd, Fun K x x st f fd → FnOk P w K mg base (L2.CX P w) k f fd ps sp) : HasX P w K mg base x k ps sp := by
  obtain ⟨f, fd, hm, F, b⟩ := d.ex
  exact ⟨f, fd, hm, F.kp, b, h f fd F, Fun.lk F⟩
def spOr (s1 s2 : Sp) : Sp := fun vs H Q E => s1 vs H Q E ∨ s2 vs H Q E
section
variable {P : Program} {w : World} {K : PySem.W.Frag} {mg : Str → Option Value} {base : Heap} {x : Str} {k j : Nat} {ps : List Str} {s1 s2 : Sp}
theorem Has.toX (h1 : Has P w K mg base x k ps s1) : HasX P w K mg base x k ps s1 := by
  obtain ⟨f, fd, m1, kp, b, F1, oc, od, sl, l1⟩ := h1.ex
  refine ⟨f, fd, m1, kp, b, ⟨F1.len, fun A outer s H args us vs Q E hr he hb hv hs => ?_⟩, _, _, _, l1⟩
  refine codeAny_mono (F1.run A outer s H args us vs Q E hr he hb hv hs) fun r s' hq => ?_
  cases r with
  | error e => exact hq.elim
  | ok fl => cases fl with
    | ret u => exact hq
    | next => exact False.elim hq
    | brk => exact False.elim hq
    | cont => exact False.elim hq
/-- what never raises and what may, of one def -/
theorem Has.or (h1 : Has P w K mg base x k ps s1) (h2 : HasX P w K mg base x k ps s2) : HasX P w K mg base x k ps (spOr s1 s2) := by
  obtain ⟨f, fd, m1, kp, b, F1, oc, od, sl, l1⟩ := h1.ex
  obtain ⟨f2, fd2, m2, _, _, F2, oc2, od2, sl2, l2⟩ := h2.ex
  have e := m1.symm.trans m2
  cases e
  have e := l1.symm.trans l2
  cases e
  refine ⟨f, fd, m1, kp, b, ⟨fun vs H Q E h => h.elim (F1.len _ _ _ _) (F2.len _ _ _ _), fun A outer s H args us vs Q E hr he hb hv hs => ?_⟩, _, _, _, l1⟩
  rcases hs with hs | hs
  · refine codeAny_mono (F1.run A outer s H args us vs Q E hr he hb hv hs) fun r s' hq => ?_
    cases r with
    | error e => exact hq.elim
    | ok fl => cases fl with
      | ret u => exact hq
      | next => exact False.elim hq
      | brk => exact False.elim hq
      | cont => exact False.elim hq
  · exact F2.run A outer s H args us vs Q E hr he hb hv hs
end
section
variable {X : Cx} {k j : Nat} {ps : List Str} {sp : Sp} {x : Str} {p pos : Pos} {e : Expr} {es : List Expr} {t : TA}
/-- a call that may raise -/
theorem pcallS {W : WX} (h : HasX X.prog X.w X.K X.mg X.base x k ps sp) (hr : Room j X.A) (hk : k ≤ j) (hg : Gl X x) (tk : Takes X W) (ha : PA X (e :: es) t) (hdb : (x == ("__debug__" : Str)) = false := by decide)
    (he : starEach (e :: es) X.env = (false, eval e X.env) :: starEach es X.env := by rfl) (hpl : (backTo pos (starEach es X.env)).any (·.1) = false := by rfl) :
    PE X (.Call (.Name x p) (e :: es) [] pos) (tCallS sp (WE W) t) := by
  obtain ⟨f, fd, hm, kp, b, F, _⟩ := h.ex
  exact pe_callS F (hr.mono hk) hg hm kp b (fun σ => passAt tk σ) ha hdb he hpl
end
/-- whether an own error is met by a clause -/
theorem exm_pair {K : PySem.W.Frag} {S D : Addr} {b : Bool} (hb : PySem.W.subIn K (.ref D) (.type "BaseException") = some true) (hi : PySem.W.isClsIn K D = true) (ht : PySem.W.typeIn K (.ref D) = some (.type "type"))
    (hs : PySem.W.subIn K (.ref S) (.ref D) = some b) : PySem.W.exmOne K (.ref S) (.ref D) = some b := by
  have hi' : (PySem.W.clsIn K D).isSome = true := hi
  unfold PySem.W.exmOne
  rw [if_pos (by rw [hb]; rfl)]
  show (if _ = true then PySem.W.subIn K (.ref S) (.ref D) else none) = some b
  rw [if_pos (by rw [hi', ht]; rfl)]
  exact hs
/-- a test of the kinds of the values that are not a tuple -/
theorem wl_nil {K : PySem.W.Frag} {Wout : WX} {D : Ends} {cls : Value} {d : Option Addr} {σ : L2.St} {H : Hp} (h : Wout cls d σ H) : wMany K Wout D [] cls d σ H := h
end U

/-! sorted(d.values()), a dict with int values -/
namespace U
open PySem PySem.Spec PyProof.Rows L2
def tSortVals (td : TE) : TE := fun σ H Q => td σ H fun x H1 => ∃ (a : Addr) (kvs : List (Key × V)) (is : List Int), x = V.ref a ∧ H1 a = some (.dK kvs) ∧ kvs.map (·.2) = is.map V.int ∧
  ∀ (ys : List Int) (p : Addr), ys.Perm is → ys.Pairwise (· ≤ ·) → H1 p = none → Q (.ref p) (upd H1 p (.lst (ys.map V.int)))
theorem int_ones : ∀ {us : List Value} {ks : List Int}, us.length = ks.length → (∀ (j : Nat) (v : Value), us[j]? = some v → ∃ (x : Int) (t : Tok), ks[j]? = some x ∧ v = Value.int x t) → IntsAre us ks := fun h h2 => L2.ints_each h h2
variable {X : Cx} {o : Expr} {p pos apos mpos : Pos} {td : TE}
theorem pe_sortedVals (hc : X.calm = true) (hg : Gl X "sorted") (hm : X.mg "sorted" = none) (hd : PE X o td) (hbase : attributeBase o "values" X.env (eval o X.env) = eval o X.env := by rfl) (hline : (apos.endLine == mpos.line) = true := by rfl)
    (hse : starEach [Expr.Call (.Attribute o "values" apos) [] [] mpos] X.env = [(false, eval (Expr.Call (.Attribute o "values" apos) [] [] mpos) X.env)] := by rfl) :
    PE X (.Call (.Name "sorted" p) [.Call (.Attribute o "values" apos) [] [] mpos] [] pos) (tSortVals td) := by
  refine ⟨fun pins s σ H Q I h => ?_⟩
  refine wpAny_Call_Name_kw (ld_blt I hg hm (u := .builtin "sorted") (by decide +kernel) ?_ (by decide +kernel) (by decide +kernel))
  rw [hse]
  refine PySem.callWith_builtin1 (wpAny_Call_method0_late hbase hline (thn (hd.run pins s σ H _ I h) fun v s1 ⟨x, H1, I1, r1, a, kvs, is, ex, ha, hv, q⟩ => ?_))
  subst ex
  cases r1
  obtain ⟨hz, hsys, vs, rel, dof⟩ := dk_of I1.hok ha
  obtain ⟨ep, dat⟩ := dof.dictAt
  obtain ⟨ob, es, ho, exx, hdat, hko, hpr, hnd⟩ := id dat
  refine ⟨"dict", "dict.values", F.plainAttrs_dict, F.slot_dict_values, F.type_dict_values, ⟨ob, ho, exx.1⟩, fun b e => ?_, Calls.callWith_builtin rfl (PySem.evalArgs_none ?_)⟩
  · cases e
    exact ⟨ob, ho, exx.2.1⟩
  refine call_meetsIn F.slot_dict_values ⟨ob, ho, exx.1⟩ F.entry_dict_values (F.args_dict_values_1 _) (meets_dict_values (mixKind X.prog X.w) a hsys) ⟨⟨vs, dof⟩, ?_⟩
  have hl : vs.length = is.length := by
    have e1 := congrArg List.length hv
    rw [List.length_map, List.length_map] at e1
    rw [← e1]
    exact (KV.length rel).symm
  have h16 : vs.length ≤ sizeLine := by
    rw [← KV.length rel]
    exact hz
  have k1 : ∀ b u, s1.heap.get? b = some u → (s1.heap.push { cls := .type "dict_values", data := .fields #[.ref a] }).get? b = some u := fun b u e => Heap.get?_push_of_some _ e
  have dat1 : (s1.heap.push { cls := .type "dict_values", data := .fields #[.ref a] }).DictAt (mixKind X.prog X.w) a vs ep := dat.keep k1
  refine Calls.call_function_entry PyProof.Rows.kind_sorted PyProof.Rows.plain_sorted PyProof.Rows.entry_sorted (PyProof.Rows.args_sorted1 _) ?_
  unfold Builtin.«sorted»
  refine wpAny_bind (m := checkCount "sorted" 1 1 _) (wpAny_pure ?_)
  refine wpAny_bind (PySem.W.kdu_collect (A := X.A.in1) (PySem.W.kdl_values (r := s1.heap.objs.size) (d := a) (knd := mixKind X.prog X.w) (kvs := vs) (ep := ep)) (I.ok.hd hc) ⟨⟨_, Heap.get?_push_size _ rfl, rfl, rfl⟩, dat1⟩ h16 fun h' tk acc hk hacc => ?_)
  have hal : acc.toList.length = is.length := by rw [Array.length_toList, hacc.1, hl]
  have hS : IntsAre acc.toList is := int_ones hal fun j v e => by
    obtain ⟨k, hk2⟩ := hacc.2 j v (by rw [← Array.getElem?_toList]; exact e)
    obtain ⟨x, h1, h2⟩ := KV.at' rel hk2
    have e1 : (kvs.map (·.2))[j]? = some x := by
      rw [List.getElem?_map, h1]
      rfl
    rw [hv, List.getElem?_map] at e1
    obtain ⟨i, hj, e2⟩ := Option.map_eq_some_iff.mp e1
    subst e2
    obtain ⟨t, e3⟩ := h2
    exact ⟨i, t, hj, e3⟩
  have I2 : Inv X pins σ H1 { s1 with heap := h', toks := tk } := I1.kept fun b u e => hk b u (k1 b u e)
  refine wpAny_bind (wpAny_newList ?_ (by rw [hal, ← hl]; exact h16))
  have hoL : (h'.push (seqObj "list" acc.toList.toArray 0)).get? h'.objs.size = some (seqObj "list" acc.toList.toArray 0) := Heap.get?_push_size _ rfl
  refine wpAny_bind (wpAny_holding (wpAny_call_entry PyProof.Rows.slot_list_sort ⟨_, hoL, rfl⟩ PyProof.Rows.entry_list_sort
    (SrtO.list_sort_ord (s := { s1 with heap := h'.push (seqObj "list" acc.toList.toArray 0), toks := tk }) SrtO.swo_int hoL (by rw [hal, ← hl]; exact h16) (fun h2 => SrtO.ints_sortable hS h2) fun out g1 g2 => ⟨_, rfl, ?_⟩) (PyProof.Rows.args_list_sort _)))
  obtain ⟨f1, f2, f3⟩ := SrtO.ints_out hS g1 g2
  obtain ⟨e', he'⟩ := PyProof.Rows.sortedHeap_at (vs := acc.toList) (out := out.toArray) hoL
  have hlen : ((out.map SrtO.iv).map V.int).length ≤ sizeLine := by
    rw [List.length_map, f2.length_eq, ← hl]
    exact h16
  refine wpAny_pure ⟨_, rfl, .ref h'.objs.size, upd H1 h'.objs.size (.lst ((out.map SrtO.iv).map V.int)), I2.laid (t' := tk) (fun b u e => ?_) (Nat.le_refl _)
    (show ObjOk X.prog X.w _ _ _ (.lst ((out.map SrtO.iv).map V.int)) from ⟨hlen, out, e', vals_of_ints f1, he'⟩), rfl, q _ _ f2 f3 (I2.hok.fresh (Nat.le_refl _))⟩
  have hb : b < h'.objs.size := Heap.lt_size e
  rw [PyProof.Rows.sortedHeap_old (Nat.ne_of_lt hb) (by rw [size_push']; exact Nat.lt_succ_of_lt hb)]
  exact Heap.get?_push_of_some _ e
/-! ### dicts of numbers -/
def kvN (hs : List (Nat × Nat)) : List (Key × V) := hs.map fun x => (Sum.inl (x.1 : Int), nV x.2)
theorem valV_ex {kvs : List (Key × V)} {k : Key} {v : V} (h : valV kvs k = some v) : ∃ kv ∈ kvs, kv.1 = k ∧ kv.2 = v := by
  unfold valV at h
  obtain ⟨kv, h1, h2⟩ := Option.map_eq_some_iff.mp h
  exact ⟨kv, List.mem_of_find?_eq_some h1, (by
    have h3 := List.find?_some h1
    exact of_decide_eq_true h3), h2⟩
theorem valV_no {kvs : List (Key × V)} {k : Key} (h : valV kvs k = none) : ∀ kv ∈ kvs, kv.1 ≠ k := by
  unfold valV at h
  rw [Option.map_eq_none_iff] at h
  intro kv hkv e
  have := List.find?_eq_none.mp h kv hkv
  exact this (decide_eq_true e)
theorem putK_no {kvs : List (Key × V)} {k : Key} {v : V} (h : valV kvs k = none) : putK kvs k v = kvs ++ [(k, v)] := by
  unfold putK
  refine if_neg fun z => ?_
  obtain ⟨kv, h1, h2⟩ := List.any_eq_true.mp z
  exact valV_no h kv h1 (of_decide_eq_true h2)
theorem kvN_has {hs : List (Nat × Nat)} {h : Nat} {v : V} (e : valV (kvN hs) (Sum.inl (h : Int)) = some v) : ∃ a, (h, a) ∈ hs := by
  obtain ⟨kv, h1, h2, _⟩ := valV_ex e
  obtain ⟨x, hx, rfl⟩ := List.mem_map.mp h1
  injection h2 with h2
  have : x.1 = h := by omega
  exact ⟨x.2, by rw [← this]; exact hx⟩
theorem kvN_no {hs : List (Nat × Nat)} {h : Nat} (e : valV (kvN hs) (Sum.inl (h : Int)) = none) (a : Nat) : (h, a) ∉ hs := fun m =>
  valV_no e _ (List.mem_map.mpr ⟨(h, a), m, rfl⟩) rfl
/-- a dict of the first numbers that are in the relation with each key -/
structure FirstN (R : Nat → Nat → Prop) (i : Nat) (hs : List (Nat × Nat)) : Prop where
  len : hs.length ≤ i
  ok : ∀ x ∈ hs, R x.2 x.1
  all : ∀ k v, k < i → R k v → ∃ a, (v, a) ∈ hs
theorem FirstN.start {R : Nat → Nat → Prop} : FirstN R 0 [] := ⟨Nat.le_refl _, fun _ h => absurd h List.not_mem_nil, fun _ _ h => absurd h (Nat.not_lt_zero _)⟩
theorem FirstN.skip {R : Nat → Nat → Prop} {i : Nat} {hs : List (Nat × Nat)} (h : FirstN R i hs) (n : ∀ v, R i v → ∃ a, (v, a) ∈ hs) : FirstN R (i + 1) hs :=
  ⟨Nat.le_succ_of_le h.len, h.ok, fun k v hk f => by
    rcases Nat.lt_succ_iff_lt_or_eq.mp hk with z | z
    · exact h.all k v z f
    · subst z
      exact n v f⟩
theorem FirstN.snoc {R : Nat → Nat → Prop} {i v : Nat} {hs : List (Nat × Nat)} (h : FirstN R i hs) (f : R i v) (one : ∀ u, R i u → u = v) : FirstN R (i + 1) (hs ++ [(v, i)]) where
  len := by
    rw [List.length_append, List.length_singleton]
    have := h.len
    omega
  ok := fun x hx => by
    rcases List.mem_append.mp hx with hx | hx
    · exact h.ok x hx
    · rw [List.mem_singleton.mp hx]
      exact f
  all := fun k u hk g => by
    rcases Nat.lt_succ_iff_lt_or_eq.mp hk with z | z
    · obtain ⟨a, ha⟩ := h.all k u z g
      exact ⟨a, List.mem_append_left _ ha⟩
    · subst z
      rw [one u g]
      exact ⟨k, List.mem_append_right _ List.mem_cons_self⟩
theorem kvN_get {hs : List (Nat × Nat)} {v a : Nat} (h : (v, a) ∈ hs) : ∃ b, (v, b) ∈ hs ∧ valV (kvN hs) (Sum.inl (v : Int)) = some (nV b) := by
  cases e : valV (kvN hs) (Sum.inl (v : Int)) with
  | none => exact absurd h (kvN_no e a)
  | some w =>
    obtain ⟨kv, h1, h2, h3⟩ := valV_ex e
    obtain ⟨x, hx, rfl⟩ := List.mem_map.mp h1
    injection h2 with h2
    have e1 : x.1 = v := by omega
    refine ⟨x.2, by rw [← e1]; exact hx, ?_⟩
    rw [← h3]
def tSortKeys (td : TE) : TE := fun σ H Q => td σ H fun x H1 => ∃ (a : Addr) (kvs : List (Key × V)) (is : List Int), x = V.ref a ∧ H1 a = some (.dK kvs) ∧ kvs.map (·.1) = is.map Sum.inl ∧
  ∀ (ys : List Int) (p : Addr), ys.Perm is → ys.Pairwise (· ≤ ·) → H1 p = none → Q (.ref p) (upd H1 p (.lst (ys.map V.int)))
theorem pe_sortedKeys (hc : X.calm = true) (hg : Gl X "sorted") (hm : X.mg "sorted" = none) (hd : PE X o td) (hbase : attributeBase o "keys" X.env (eval o X.env) = eval o X.env := by rfl) (hline : (apos.endLine == mpos.line) = true := by rfl)
    (hse : starEach [Expr.Call (.Attribute o "keys" apos) [] [] mpos] X.env = [(false, eval (Expr.Call (.Attribute o "keys" apos) [] [] mpos) X.env)] := by rfl) :
    PE X (.Call (.Name "sorted" p) [.Call (.Attribute o "keys" apos) [] [] mpos] [] pos) (tSortKeys td) := by
  refine ⟨fun pins s σ H Q I h => ?_⟩
  refine wpAny_Call_Name_kw (ld_blt I hg hm (u := .builtin "sorted") (by decide +kernel) ?_ (by decide +kernel) (by decide +kernel))
  rw [hse]
  refine PySem.callWith_builtin1 (wpAny_Call_method0_late hbase hline (thn (hd.run pins s σ H _ I h) fun v s1 ⟨x, H1, I1, r1, a, kvs, is, ex, ha, hv, q⟩ => ?_))
  subst ex
  cases r1
  obtain ⟨hz, hsys, vs, rel, dof⟩ := dk_of I1.hok ha
  obtain ⟨ep, dat⟩ := dof.dictAt
  obtain ⟨ob, es, ho, exx, hdat, hko, hpr, hnd⟩ := id dat
  refine ⟨"dict", "dict.keys", F.plainAttrs_dict, F.slot_dict_keys, F.type_dict_keys, ⟨ob, ho, exx.1⟩, fun b e => ?_, Calls.callWith_builtin rfl (PySem.evalArgs_none ?_)⟩
  · cases e
    exact ⟨ob, ho, exx.2.1⟩
  refine call_meetsIn F.slot_dict_keys ⟨ob, ho, exx.1⟩ F.entry_dict_keys (F.args_dict_keys_1 _) (PySem.W.kdl_meets_keys (mixKind X.prog X.w) a hsys) ⟨⟨vs, dof⟩, ?_⟩
  have hkeys : vs.map (·.1) = is.map Sum.inl := rel.keys.symm.trans hv
  have hl : vs.length = is.length := by
    have e := congrArg List.length hkeys
    rw [List.length_map, List.length_map] at e
    exact e
  have h16 : vs.length ≤ sizeLine := by
    rw [← KV.length rel]
    exact hz
  have k1 : ∀ b u, s1.heap.get? b = some u → (s1.heap.push { cls := .type "dict_keys", data := .fields #[.ref a] }).get? b = some u := fun b u e => Heap.get?_push_of_some _ e
  have dat1 : (s1.heap.push { cls := .type "dict_keys", data := .fields #[.ref a] }).DictAt (mixKind X.prog X.w) a vs ep := dat.keep k1
  refine Calls.call_function_entry PyProof.Rows.kind_sorted PyProof.Rows.plain_sorted PyProof.Rows.entry_sorted (PyProof.Rows.args_sorted1 _) ?_
  unfold Builtin.«sorted»
  refine wpAny_bind (m := checkCount "sorted" 1 1 _) (wpAny_pure ?_)
  refine wpAny_bind (PySem.W.kdu_collect (A := X.A.in1) (PySem.W.kdl_keys (r := s1.heap.objs.size) (d := a) (knd := mixKind X.prog X.w) (kvs := vs) (ep := ep)) (I.ok.hd hc) ⟨⟨_, Heap.get?_push_size _ rfl, rfl, rfl⟩, dat1⟩ h16 fun h' tk acc hk hacc => ?_)
  have hal : acc.toList.length = is.length := by rw [Array.length_toList, hacc.1, hl]
  have hS : IntsAre acc.toList is := int_ones hal fun j v e => by
    obtain ⟨k, x, hk2, hk3⟩ := hacc.2 j v (by rw [← Array.getElem?_toList]; exact e)
    have e3 : (vs.map (·.1))[j]? = some k := by
      rw [List.getElem?_map, hk2]
      rfl
    rw [hkeys, List.getElem?_map] at e3
    obtain ⟨i, hj, e2⟩ := Option.map_eq_some_iff.mp e3
    subst e2
    rcases keyIs_shape (show keyIs (Sum.inl i) v = true from hk3) with ⟨z, t, ek, ev⟩ | ⟨z, t, ek, ev⟩
    · cases ek
      exact ⟨i, t, hj, ev⟩
    · cases ek
  have I2 : Inv X pins σ H1 { s1 with heap := h', toks := tk } := I1.kept fun b u e => hk b u (k1 b u e)
  refine wpAny_bind (wpAny_newList ?_ (by rw [hal, ← hl]; exact h16))
  have hoL : (h'.push (seqObj "list" acc.toList.toArray 0)).get? h'.objs.size = some (seqObj "list" acc.toList.toArray 0) := Heap.get?_push_size _ rfl
  refine wpAny_bind (wpAny_holding (wpAny_call_entry PyProof.Rows.slot_list_sort ⟨_, hoL, rfl⟩ PyProof.Rows.entry_list_sort
    (SrtO.list_sort_ord (s := { s1 with heap := h'.push (seqObj "list" acc.toList.toArray 0), toks := tk }) SrtO.swo_int hoL (by rw [hal, ← hl]; exact h16) (fun h2 => SrtO.ints_sortable hS h2) fun out g1 g2 => ⟨_, rfl, ?_⟩) (PyProof.Rows.args_list_sort _)))
  obtain ⟨f1, f2, f3⟩ := SrtO.ints_out hS g1 g2
  obtain ⟨e', he'⟩ := PyProof.Rows.sortedHeap_at (vs := acc.toList) (out := out.toArray) hoL
  have hlen : ((out.map SrtO.iv).map V.int).length ≤ sizeLine := by
    rw [List.length_map, f2.length_eq, ← hl]
    exact h16
  refine wpAny_pure ⟨_, rfl, .ref h'.objs.size, upd H1 h'.objs.size (.lst ((out.map SrtO.iv).map V.int)), I2.laid (t' := tk) (fun b u e => ?_) (Nat.le_refl _)
    (show ObjOk X.prog X.w _ _ _ (.lst ((out.map SrtO.iv).map V.int)) from ⟨hlen, out, e', vals_of_ints f1, he'⟩), rfl, q _ _ f2 f3 (I2.hok.fresh (Nat.le_refl _))⟩
  have hb : b < h'.objs.size := Heap.lt_size e
  rw [PyProof.Rows.sortedHeap_old (Nat.ne_of_lt hb) (by rw [size_push']; exact Nat.lt_succ_of_lt hb)]
  exact Heap.get?_push_of_some _ e
end U

/-! where it is known that no repr is under way: the law itself -/
namespace U
open PySem PySem.Spec PyProof.Rows L2
section
variable {P : Program} {w : World} {K : PySem.W.Frag} {mg : Str → Option Value} {base : Heap}
/-- a def's promise to a caller that stands in no repr -/
structure FnG (P : Program) (w : World) (K : PySem.W.Frag) (mg : Str → Option Value) (base : Heap) (k : Nat) (f : Addr) (fd : FuncData) (ps : List Str) (sp : Sp) : Prop where
  len : ∀ vs H Q E, sp vs H Q E → vs.length = ps.length
  run : ∀ (A : Around) (outer : List Env) (s : Shared) (H : Hp) (args : Args) (us : List Value) (vs : List V) (Q : VK) (E : XK), A.guards = some [] → Room k A → Env0 P w K mg base A outer s H → BindsTo s fd args (ps.zip us) → Vals vs us → sp vs H Q E →
    codeAny (model P w) A (.call (.ref f) args) (CR CX0 outer P w H s Q E) s
theorem Fun.okG {x qual : Str} {st : Stmt} {f : Addr} {fd : FuncData} {N ps : List Str} {k : Nat} {sp : Sp} (F : Fun K x qual st f fd) (S : FnScope N ps (defScope st)) (len : ∀ vs H Q E, sp vs H Q E → vs.length = ps.length)
    (body : ∀ (cdv : Value) (A : Around) (outer : List Env) (s : Shared) (H : Hp) (vs : List V) (Q : VK) (E : XK), A.guards = some [] → Room k (A.deeper (envOfC qual (defScope st) s.heap.objs.size f cdv)) → sp vs H Q E →
      ∃ t, PSs (cxOf CX0 P w K mg base N qual (defScope st) f cdv A outer s H E).nox (defBody st) t ∧ t { nx := fun _ H' => Q .non H', rt := Q } (start N vs) H) : FnG P w K mg base (k + 1) f fd ps sp := by
  obtain ⟨oc, od, kV, doc, pm, an, cdv, ct, osl, rfl, at_, code⟩ := F.ex
  refine ⟨len, ?_⟩
  intro A outer s H args us vs Q E hg room env bnd vals promise
  have old : ∀ b o, base.get? b = some o → s.heap.get? b = some o := fun b o e => (env.bs b o e).1
  have kin := env.mod.kin.keeps old
  obtain ⟨t, reads, goal⟩ := body cdv A outer s H vs Q E hg (room.deeper _) promise
  apply codeAny_call_function room.depth (kin _ _ at_) rfl S.co S.gen rfl (PySem.W.codeRec_of kin code)
  apply bnd
  apply wpAny_newFunctionEnv_cells S.kind
  · rintro ⟨n, v⟩ hn
    exact (S.par n (List.of_mem_zip hn).1).imp id fun q => And.intro q (PySem.W.cellsFrom_some _ _ _ (Or.inl q))
  rintro _ rfl s1 made
  refine ⟨(env.mod.nolimit.keeps old).keeps made.toInCall.keep, codeAny_func ?_⟩
  refine wpAny_mono (reads.nox.run [] s1 _ H _ (inv_start S room.hd env (len _ _ _ _ promise) vals made) goal) ?_ fun _ _ h => h
  rintro (_ | _ | _ | u) s2 h
  · exact h.elim fun _ h => h.elim fun H' h => ⟨.non, H', h.1.os, h.1.bare, h.1.base, h.1.hok, rfl, h.2⟩
  · exact h.elim fun _ h => h.elim fun _ h => h.2.elim
  · exact h.elim fun _ h => h.elim fun _ h => h.2.elim
  · obtain ⟨v, _, H', J, rel, q⟩ := h
    exact ⟨v, H', J.os, J.bare, J.base, J.hok, rel, q⟩
end
/-- a def that keeps its promise where no repr is under way -/
structure HasG (P : Program) (w : World) (K : PySem.W.Frag) (mg : Str → Option Value) (base : Heap) (x : Str) (k : Nat) (ps : List Str) (sp : Sp) : Prop where
  ex : ∃ f fd, mg x = some (.ref f) ∧ PySem.W.keepIn K (.ref f) = true ∧ Binds K fd ps [] ∧ FnG P w K mg base k f fd ps sp ∧ Lk K f fd
theorem Df.hasG {P : Program} {w : World} {K : PySem.W.Frag} {mg : Str → Option Value} {base : Heap} {x : Str} {st : Stmt} {ps : List Str} {k : Nat} {sp : Sp} (d : Df K mg x st ps)
    (h : ∀ f fd, Fun K x x st f fd → FnG P w K mg base k f fd ps sp) : HasG P w K mg base x k ps sp := by
  obtain ⟨f, fd, named, F, bound⟩ := d.ex
  exact ⟨f, fd, named, F.kp, bound, h f fd F, Fun.lk F⟩
section
variable {X : Cx} {k j : Nat} {ps : List Str} {sp : Sp} {x : Str} {p pos : Pos} {e : Expr} {es : List Expr} {t : TA}
theorem pcallG (h : HasG X.prog X.w X.K X.mg X.base x k ps sp) (quiet : X.A.guards = some []) (hr : Room j X.A) (hk : k ≤ j) (hg : Gl X x) (ha : PA X (e :: es) t) (hdb : (x == ("__debug__" : Str)) = false := by decide)
    (he : starEach (e :: es) X.env = (false, eval e X.env) :: starEach es X.env := by rfl) (hpl : (backTo pos (starEach es X.env)).any (·.1) = false := by rfl) :
    PE X (.Call (.Name x p) (e :: es) [] pos) (tCall sp [] E0 t) := by
  obtain ⟨f, fd, named, kept, bound, F, _⟩ := h.ex
  constructor
  intro pins s σ H Q I goal
  apply wpAny_Call_Name_kw
  apply ld_glob I hg named _ hdb
  apply PySem.W.callWith_K (h₀ := X.base) I.ok.mod.kin kept _ he hpl
  refine thn (ha.run pos pins s σ H _ I goal) ?_
  rintro us s1 ⟨vs, H1, I1, rel, prom⟩
  rw [List.append_nil] at prom
  refine ⟨I1.kIn, wpAny_call (codeAny_mono (F.run X.A X.stack s1 H1 ⟨us, []⟩ us vs Q E0 quiet (hr.mono hk) I1.env0 ?_ rel prom) ?_)⟩
  · have many : us.length = ps.length := rel.length.symm.trans (F.len _ _ _ _ prom)
    have := bound s1 us I1.kIn (by rw [List.append_nil]; exact many)
    rwa [List.append_nil] at this
  · rintro (bad | _ | _ | _ | u) s2 out
    · exact pass0 pins σ H1 s1 bad s2 I1 out
    · exact out.elim
    · exact out.elim
    · exact out.elim
    · exact I1.after out
end
theorem bo_repr : bootBuiltins "repr" = some (.builtin "repr") := by decide +kernel
/-- repr of a tuple or list of plain values -/
def rRepr (K : PySem.W.Frag) : List V → Hp → VK → Prop := fun xs H Q => ∃ (a : Addr) (d : PyData), xs = [.ref a] ∧ Dp K H (.ref a) d ∧ d.showable = true ∧ d.hasDict = false ∧ d.depth ≤ 8 ∧ d.shown.length ≤ sizeLine ∧ Q (.str d.shown) H
theorem k_repr {X : Cx} {K : PySem.W.Frag} (h : X.K = K) (hg : X.A.guards = some []) (hu : X.A.units + 64 < cLine) : CallR X (.builtin "repr") (rRepr K) := by
  subst h
  intro pins s σ H xs us Q I r ⟨a, d, e, hd, hs, hnd, hdp, hsz, q⟩
  subst e
  obtain ⟨u, rfl, ru⟩ := vals1 r
  obtain ⟨as, rd⟩ := Dp.reads I d _ _ hd ru
  cases ru
  exact repr_of_reads' rd hs (PyData.noDict_hsm hnd) hg (by omega) (fun _ _ e => e) (fun h' u tk hk => ⟨.str d.shown, H, I.kept hk, ⟨_, rfl⟩, q⟩) hsz
/-- sorted(t), a tuple of ints -/
def rSortedT (K : PySem.W.Frag) : List V → Hp → VK → Prop := fun vs H Q => ∃ (a : Addr) (ns : List Int), vs = [V.ref a] ∧ SqT K H a (ns.map V.int) ∧
  ∀ (ns' : List Int) (p : Addr), ns'.Perm ns → ns'.Pairwise (· ≤ ·) → H p = none → Q (.ref p) (upd H p (.lst (ns'.map V.int)))
theorem k_sortedT {X : Cx} {K : PySem.W.Frag} (h : X.K = K) : CallR X (.builtin "sorted") (rSortedT K) := by
  subst h
  intro pins s σ H xs us Q I r ⟨a, is, e, ha, q⟩
  subst e
  obtain ⟨u, rfl, ru⟩ := vals1 r
  cases ru
  obtain ⟨its, rv, ht, hz⟩ := I.tuple ha
  have hS : IntsAre its is := rv.ints
  have h16 : its.length ≤ sizeLine := by rw [← rv.length]; exact hz
  obtain ⟨o, ho, hc, n, hd⟩ := id ht
  refine Calls.call_function_entry PyProof.Rows.kind_sorted PyProof.Rows.plain_sorted PyProof.Rows.entry_sorted (PyProof.Rows.args_sorted1 _) ?_
  unfold Builtin.«sorted»
  refine wpAny_bind (m := checkCount "sorted" 1 1 _) (wpAny_pure ?_)
  refine wpAny_bind (wpAny_collect_seq a (.inr rfl) ho hc hd (fun h' hk => ?_) (by rw [List.size_toArray]; exact h16))
  have I2 : Inv X pins σ H { s with heap := h' } := I.kept (t' := s.toks) hk
  have e0 : its.toArray.toList = its := rfl
  rw [e0]
  refine wpAny_bind (wpAny_newList ?_ h16)
  have hoL : (h'.push (seqObj "list" its.toArray 0)).get? h'.objs.size = some (seqObj "list" its.toArray 0) := Heap.get?_push_size _ rfl
  refine wpAny_bind (wpAny_holding (wpAny_call_entry PyProof.Rows.slot_list_sort ⟨_, hoL, rfl⟩ PyProof.Rows.entry_list_sort
    (SrtO.list_sort_ord (s := { s with heap := h'.push (seqObj "list" its.toArray 0) }) SrtO.swo_int hoL h16 (fun h2 => SrtO.ints_sortable hS h2) fun out g1 g2 => ⟨_, rfl, ?_⟩) (PyProof.Rows.args_list_sort _)))
  obtain ⟨f1, f2, f3⟩ := SrtO.ints_out hS g1 g2
  obtain ⟨e', he'⟩ := PyProof.Rows.sortedHeap_at (vs := its) (out := out.toArray) hoL
  have hlen : ((out.map SrtO.iv).map V.int).length ≤ sizeLine := by
    rw [List.length_map, f2.length_eq]
    rw [List.length_map] at hz
    exact hz
  refine wpAny_pure ⟨_, rfl, .ref h'.objs.size, upd H h'.objs.size (.lst ((out.map SrtO.iv).map V.int)), I2.laid (t' := s.toks) (fun b u e => ?_) (Nat.le_refl _)
    (show ObjOk X.prog X.w _ _ _ (.lst ((out.map SrtO.iv).map V.int)) from ⟨hlen, out, e', vals_of_ints f1, he'⟩), rfl, q _ _ f2 f3 (I2.hok.fresh (Nat.le_refl _))⟩
  have hb : b < h'.objs.size := Heap.lt_size e
  rw [PyProof.Rows.sortedHeap_old (Nat.ne_of_lt hb) (by rw [size_push']; exact Nat.lt_succ_of_lt hb)]
  exact Heap.get?_push_of_some _ e
/-- a tuple that the text sets at its top -/
structure GTup (K : PySem.W.Frag) (mg : Str → Option Value) (x : Str) (A : Addr) (xs : List V) : Prop where
  g : mg x = some (.ref A)
  t : ∀ H, SqT K H A xs
theorem kit_str {K : PySem.W.Frag} {s : String} (m : s ∈ ["NoneType", "bool", "int", "str", "list", "tuple", "dict"]) : PySem.W.kitOne K (.type s) (.type "str") = some (s == "str") := by
  simp only [List.mem_cons, List.not_mem_nil, or_false] at m
  rcases m with rfl | rfl | rfl | rfl | rfl | rfl | rfl <;> exact kit_ty (by decide +kernel)
theorem k_min {X : Cx} {K : PySem.W.Frag} (h : X.K = K) (hc : X.calm = true) : CallR X (.builtin "min") (rMin K) := by subst h; exact cr_min hc
theorem k_max {X : Cx} {K : PySem.W.Frag} (h : X.K = K) (hc : X.calm = true) : CallR X (.builtin "max") (rMax K) := by subst h; exact cr_max hc
/-! ### the top: what the law finds there -/
section
variable {P : Program} {w : World} {K : PySem.W.Frag} {mg mb : Str → Option Value} {a : Addr} {s₁ : Shared} {vs : List Value} {ns : List Int}
/-- what is known of the script, if it's no object of the written part -/
noncomputable def scriptH (K : PySem.W.Frag) (a : Addr) (vs : List Value) (ns : List Int) : Hp := fun b => open Classical in if b = a ∧ K.lookup a = none then some (.frz { cls := .type "list", data := .seq vs.toArray } (.lst (ns.map V.int))) else none
theorem scriptH_some {b : Addr} {o : HO} (h : scriptH K a vs ns b = some o) : b = a ∧ K.lookup a = none ∧ o = .frz { cls := .type "list", data := .seq vs.toArray } (.lst (ns.map V.int)) := by
  unfold scriptH at h
  split at h
  · rename_i c
    exact ⟨c.1, c.2, (Option.some.inj h).symm⟩
  · cases h
theorem scriptH_none {b : Addr} (h : b = a → K.lookup a ≠ none) : scriptH K a vs ns b = none := by
  cases e : scriptH K a vs ns b with
  | none => rfl
  | some o => exact absurd (scriptH_some e).2.1 (h (scriptH_some e).1)
theorem scriptH_seq (KX : K.In s₁.heap) (ha : s₁.heap.get? a = some { cls := .type "list", data := .seq vs.toArray }) (hi : IntsAre vs ns) (hl : ns.length ≤ sizeLine) : SqL K (scriptH K a vs ns) a (ns.map V.int) := by
  cases hk : K.lookup a with
  | none => exact .inl (.inr ⟨{ cls := .type "list", data := .seq vs.toArray }, if_pos ⟨rfl, hk⟩⟩)
  | some o =>
    have e := (KX a o hk).symm.trans ha
    cases e
    exact .inr ⟨_, vs.toArray, _, hk, rfl, rfl, rfl, by rw [List.size_toArray, hi.length]; exact hl, vals_ints hi⟩
theorem scriptH_ok (ha : s₁.heap.get? a = some { cls := .type "list", data := .seq vs.toArray }) (hi : IntsAre vs ns) (hl : ns.length ≤ sizeLine) : HOk P w (scriptH K a vs ns) s₁.heap := fun b u e => by
  obtain ⟨rfl, _, rfl⟩ := scriptH_some e
  exact ⟨ha, (by rw [List.length_map]; exact hl), vs, _, vals_ints hi, ha⟩
/-- a dict is not the script -/
theorem scriptH_ns {b : Addr} {m : Str → Option Value} (ha : s₁.heap.get? a = some { cls := .type "list", data := .seq vs.toArray }) (h : s₁.heap.Ns b m) : (hidT s₁.heap (scriptH K a vs ns)).Ns b m := by
  obtain ⟨o, es, ep, e, d, r⟩ := h
  refine ⟨o, es, ep, hidT_get e (scriptH_none fun z => ?_), d, r⟩
  subst z
  rw [ha] at e
  cases e
  cases (show Data.seq vs.toArray _ = Data.dict es ep from d)
theorem scriptH_kin (KX : K.In s₁.heap) : K.In (hidT s₁.heap (scriptH K a vs ns)) := fun b o e => hidT_get (KX b o e) (scriptH_none fun z => by
  subst z
  rw [e]
  exact fun z => by cases z)
theorem law_callG {k : Nat} {fa : Addr} {fd : FuncData} {x : Str} {sp : Sp} (KX : K.In s₁.heap) (hns : s₁.heap.Ns mainGlobals mg) (hb : s₁.heap.Ns builtinsNs mb) (hbb : ∀ x : Str, x ≠ "__name__" → mb x = bootBuiltins x) (hlim : s₁.heap.NoLimit) (hg : s₁.gens = #[])
    (ha : s₁.heap.get? a = some { cls := .type "list", data := .seq vs.toArray }) (hi : IntsAre vs ns) (hl : ns.length ≤ sizeLine) (hr : Room k callerA)
    (F : ∀ base : Heap, K.In base → base.Ns mainGlobals mg → FnG P w K mg base k fa fd [x] sp) (hbind : ∀ (s : Shared) (u : Value), BindsTo s fd ⟨[u], []⟩ [(x, u)])
    (hsp : ∀ H : Hp, SqL K H a (ns.map V.int) → sp [.ref a] H (fun v _ => v = .bl true) fun _ _ _ => False) :
    codeAny (model P w) callerA (.call (.ref fa) ⟨[.ref a], []⟩) (fun r s' => r = .ok (.ret (.bool true)) ∧ OldK s₁.heap s'.heap ∧ s'.os = s₁.os ∧ AllBare s'.gens) s₁ := by
  have kin := scriptH_kin (vs := vs) (ns := ns) (a := a) KX
  have ok : HOk P w (scriptH K a vs ns) s₁.heap := scriptH_ok ha hi hl
  have lim : (hidT s₁.heap (scriptH K a vs ns)).NoLimit := by
    obtain ⟨mc, h1, h2⟩ := hlim
    exact ⟨mc, scriptH_ns ha h1, h2⟩
  have env : Env0 P w K mg (hidT s₁.heap (scriptH K a vs ns)) callerA [] s₁ (scriptH K a vs ns) :=
    { frames := rfl
      mod := ⟨kin, scriptH_ns ha hns, ⟨mb, scriptH_ns ha hb, hbb⟩, lim⟩
      bs := fun _ _ e => of_hidT e
      bsz := Nat.le_of_eq (hidT_size _ _)
      funs := trivial
      frf := fun _ hb => (List.not_mem_nil hb).elim
      hok := ok
      bare := .of_eq hg }
  refine codeAny_mono ((F _ kin (scriptH_ns ha hns)).run callerA [] s₁ _ ⟨[.ref a], []⟩ [.ref a] [.ref a] _ _ rfl hr env (hbind s₁ (.ref a)) (.cons rfl .nil) (hsp _ (scriptH_seq KX ha hi hl))) ?_
  rintro (e | _ | _ | _ | u) s' h
  · exact h.elim
  · exact h.elim
  · exact h.elim
  · exact h.elim
  · obtain ⟨_, H', os, bare, un, ok', rel, rfl⟩ := h
    cases rel
    refine ⟨rfl, OldK.of_keep fun b o e => ?_, os, bare⟩
    cases q : scriptH K a vs ns b with
    | none => exact un.keep b o e q List.not_mem_nil List.not_mem_nil
    | some u =>
      obtain ⟨rfl, _, rfl⟩ := scriptH_some q
      rw [ha] at e
      cases e
      exact (ok' _ _ (un.frzs _ _ _ q)).1
end
/-- the end: as the library's walk_of, for a law that asks for repr itself -/
theorem walk_ofG {l : PySem.W.OpenLaw} {n k : Nat} {q : Program} {loose : List Str} {XP : (Str → Option Value) → Heap → Prop} {YP : World → Heap → Prop} {d : DefRec} {K : Params → PySem.W.Frag} {sp : World → Sp} {x : Str}
    (hn : l.most = some n) (hn2 : n ≤ sizeLine) (hdf : d.params.defaults = []) (hr : Room k callerA)
    (hY : ∀ (w : World) (h : Heap), YP w h → (K w.params).In h)
    (F : ∀ (w : World) (mg : Str → Option Value) (fa : Addr) (h : Heap), (K w.params).In h → h.Ns mainGlobals mg → mg d.name = some (.ref fa) →
      ∃ fd : FuncData, (∀ (s : Shared) (u : Value), BindsTo s fd ⟨[u], []⟩ [(x, u)]) ∧
        ∀ base : Heap, (K w.params).In base → base.Ns mainGlobals mg → FnG l.prog w (K w.params) mg base k fa fd [x] (sp w))
    (hsp : ∀ (w : World) (H : Hp) (a : Addr) (ns : List Int), ns.length ≤ n → SqL (K w.params) H a (ns.map V.int) → sp w [.ref a] H (fun v _ => v = .bl true) fun _ _ _ => False) :
    PySem.W.WalkO q loose XP YP l.row.toRowW d [] (fun f vs => PySem.call f vs) := by
  refine Att.attach_call hn hdf fun w s₀ s₁ mg mb fa o pm cd doc a vs ns G Y ho hd hcd hmg hobj hints hlen hg => ?_
  obtain ⟨fd, bd, Fd⟩ := F w mg fa _ (hY w _ Y) G.T.g hmg
  exact law_callG (hY w _ Y) G.T.g G.T.b G.T.builtins G.T.nolimit hg hobj hints (Nat.le_trans hlen hn2) hr Fd bd fun H hS => hsp w H a ns hlen hS
end U

/-! tuple(zip(a, b)), a and b tuples -/
namespace U
open PySem PySem.Spec PyProof.Rows L2 RZ
namespace F
theorem zip_no_len : typeLookup (.type "zip") "__len__" = pure none := by rw [typeLookup_type, builtinLookup_eq_fast]; kernel_rfl
theorem zip_no_hint : typeLookup (.type "zip") "__length_hint__" = pure none := by rw [typeLookup_type, builtinLookup_eq_fast]; kernel_rfl
end F
section
variable {prog : Program} {w : World} {A : Around} {E : Value → Shared → Prop} {s : Shared} {z TI TO T i1 i2 l1 l2 : Addr} {f : Bool} {oT : Obj} {k1 k2 : Nat} {xs ys : Array Value} {x y : Value}
/-- the next of a zip over tuples whose last tuple is still out -/
theorem zipT_item_held {Q : Value → Shared → Prop} (D : ZipApart z TI TO i1 i2 l1 l2) (hz : IsZipHeld s.heap z TI TO T f) (hT : s.heap.get? T = some oT) (hTI : IsPair s.heap TI (.ref i1) (.ref i2))
    (h1 : s.heap.IsTupleIter i1 l1 k1) (h2 : s.heap.IsTupleIter i2 l2 k2) (hl1 : s.heap.IsTuple l1 xs) (hl2 : s.heap.IsTuple l2 ys) (hx : xs[k1]? = some x) (hy : ys[k2]? = some y)
    (hQ : ∀ h', IsZipHeld h' z TI TO T true → h'.IsTupleIter i1 l1 (k1 + 1) → h'.IsTupleIter i2 l2 (k2 + 1) → IsPair h' s.heap.objs.size x y → h'.objs.size = s.heap.objs.size + 1 →
      (∀ c o, c ≠ z → c ≠ i1 → c ≠ i2 → s.heap.get? c = some o → h'.get? c = some o) → Q (.ref s.heap.objs.size) { s with heap := h' }) :
    wpAny (model prog w) A (Builtin.«zip.__next__» ⟨[.ref z], []⟩) (fun fin s' => ∃ v, fin = .done (.ret v) ∧ Q v s') E s := by
  show wpAny _ _ (field (.ref z) 2 >>= _) _ _ _
  apply wpAny_bind
  apply wpAny_field hz rfl (x := .bool false) rfl
  show wpAny _ _ (field (.ref z) 3 >>= _) _ _ _
  apply wpAny_bind
  apply wpAny_field hz rfl (x := .ref TI) rfl
  apply wpAny_bind
  apply wpAny_seqItems hTI rfl
  show wpAny _ _ (Builtin.SmallTypes.ownedTupleIsFree (.ref z) >>= _) _ _ _
  apply wpAny_bind
  apply wpAny_tupleHeld_zip hz hT
  intro g1 hz1 e1
  simp only [Bool.false_eq_true, if_false]
  apply wpAny_bind
  rw [← Array.forIn_toList]
  simp only [List.forIn_cons, List.forIn_nil]
  refine wpAny_bind (wpAny_bind (wpAny_holding ?_))
  show wpAny _ _ (Builtin.SmallTypes.nextOf (.ref i1) >>= _) _ _ _
  refine wpAny_bind (nextOf_tuple_item (s := { s with heap := g1 }) (h1.extBut e1.extBut D.i1z) (hl1.extBut e1.extBut D.l1z) hx fun g2 a2 e2 => wpAny_pure (wpAny_pure ?_))
  refine wpAny_bind (wpAny_bind (wpAny_holding ?_))
  show wpAny _ _ (Builtin.SmallTypes.nextOf (.ref i2) >>= _) _ _ _
  refine wpAny_bind (nextOf_tuple_item (s := { s with heap := g2 }) ((h2.extBut e1.extBut D.i2z).extBut e2.extBut D.i12.symm) ((hl2.extBut e1.extBut D.l2z).extBut e2.extBut D.l2i1) hy fun g3 b3 e3 => wpAny_pure (wpAny_pure (wpAny_pure ?_)))
  show wpAny _ _ (newTuple [x, y] >>= _) _ _ _
  refine wpAny_bind (wpAny_newTuple (wpAny_pure ⟨_, rfl, ?_⟩))
  have size : g3.objs.size = s.heap.objs.size := by rw [e3.1, e2.1, e1.1]
  have pair : IsPair (g3.push { cls := .type "tuple", data := .seq #[x, y] }) g3.objs.size x y := Heap.get?_push_size _ rfl
  have size2 : (g3.push { cls := .type "tuple", data := .seq #[x, y] }).objs.size = g3.objs.size + 1 := Heap.size_push ..
  show Q (.ref g3.objs.size) _
  rw [size] at pair size2 ⊢
  refine hQ _ ?_ ?_ ?_ pair size2 fun c o n1 n2 n3 e => Heap.get?_push_of_some _ (e3.extBut _ _ n3 (e2.extBut _ _ n2 (e1.extBut _ _ n1 e)))
  · exact Heap.get?_push_of_some _ (e3.extBut _ _ D.i2z.symm (e2.extBut _ _ D.i1z.symm hz1))
  · exact (a2.extBut e3.extBut D.i12).at fun o e => Heap.get?_push_of_some _ e
  · exact b3.at fun o e => Heap.get?_push_of_some _ e
theorem zipT_end_held {Q : Fin → Shared → Prop} (hh : A.handled = none) (D : ZipApart z TI TO i1 i2 l1 l2) (hz : IsZipHeld s.heap z TI TO T f) (hT : s.heap.get? T = some oT) (hTI : IsPair s.heap TI (.ref i1) (.ref i2))
    (h1 : s.heap.IsTupleIter i1 l1 k1) (h2 : s.heap.IsTupleIter i2 l2 k2) (hl1 : s.heap.IsTuple l1 xs) (hx : xs[k1]? = none)
    (hE : ∀ h' e, (∀ c o, c ≠ z → c ≠ i1 → s.heap.get? c = some o → h'.get? c = some o) → (∃ o, h'.get? e = some o ∧ o.cls = .type "StopIteration") → E (.ref e) { s with heap := h' }) :
    wpAny (model prog w) A (Builtin.«zip.__next__» ⟨[.ref z], []⟩) Q E s := by
  show wpAny _ _ (field (.ref z) 2 >>= _) _ _ _
  apply wpAny_bind
  apply wpAny_field hz rfl (x := .bool false) rfl
  show wpAny _ _ (field (.ref z) 3 >>= _) _ _ _
  apply wpAny_bind
  apply wpAny_field hz rfl (x := .ref TI) rfl
  apply wpAny_bind
  apply wpAny_seqItems hTI rfl
  show wpAny _ _ (Builtin.SmallTypes.ownedTupleIsFree (.ref z) >>= _) _ _ _
  apply wpAny_bind
  apply wpAny_tupleHeld_zip hz hT
  intro g1 hz1 e1
  simp only [Bool.false_eq_true, if_false]
  apply wpAny_bind
  rw [← Array.forIn_toList]
  simp only [List.forIn_cons, List.forIn_nil]
  refine wpAny_bind (wpAny_bind (wpAny_holding ?_))
  show wpAny _ _ (Builtin.SmallTypes.nextOf (.ref i1) >>= _) _ _ _
  refine wpAny_bind (nextOf_tuple_end (s := { s with heap := g1 }) hh (h1.extBut e1.extBut D.i1z) (hl1.extBut e1.extBut D.l1z) hx fun g2 e e2 he => ?_)
  exact hE g2 e (fun c o n1 n2 q => e2 _ _ n2 (e1.extBut _ _ n1 q)) he
/-- where a zip over tuples stands; lo: above all that the walk began with -/
structure ZSt (z TI TO i1 i2 l1 l2 : Addr) (xs ys : Array Value) (lo i : Nat) (h : Heap) : Prop where
  ti : IsPair h TI (.ref i1) (.ref i2)
  a : h.IsTupleIter i1 l1 i
  b : h.IsTupleIter i2 l2 i
  la : h.IsTuple l1 xs
  lb : h.IsTuple l2 ys
  m : (IsZip h z TI TO .none ∧ ∃ u v, IsPair h TO u v) ∨ ∃ (T : Addr) (f : Bool) (oT : Obj), IsZipHeld h z TI TO T f ∧ h.get? T = some oT ∧ lo ≤ T
def ZAcc (xs ys : Array Value) (lo : Nat) (h : Heap) (acc : Array Value) (i : Nat) : Prop :=
  acc.size = i ∧ (∀ (j : Nat) (v : Value), acc[j]? = some v → ∃ (T : Addr) (x y : Value), v = .ref T ∧ lo ≤ T ∧ xs[j]? = some x ∧ ys[j]? = some y ∧ h.get? T = some { cls := .type "tuple", data := .seq #[x, y] }) ∧
  ∀ (i j : Nat) (T : Addr), acc[i]? = some (.ref T) → acc[j]? = some (.ref T) → i = j
structure ZLow (z TI TO i1 i2 l1 l2 : Addr) (lo : Nat) : Prop where
  z : z < lo
  ti : TI < lo
  to_ : TO < lo
  a : i1 < lo
  b : i2 < lo
  la : l1 < lo
  lb : l2 < lo
theorem ZSt.keep {lo i : Nat} {h h' : Heap} {S : Addr} (st : ZSt z TI TO i1 i2 l1 l2 xs ys lo i h) (L : ZLow z TI TO i1 i2 l1 l2 lo) (hS : S ≠ z ∧ S ≠ TI ∧ S ≠ TO ∧ S ≠ i1 ∧ S ≠ i2 ∧ S ≠ l1 ∧ S ≠ l2 ∧ S < lo) (k : ∀ b o, b ≠ S → h.get? b = some o → h'.get? b = some o) :
    ZSt z TI TO i1 i2 l1 l2 xs ys lo i h' := by
  obtain ⟨s1, s2, s3, s4, s5, s6, s7, s8⟩ := hS
  refine ⟨k _ _ s2.symm st.ti, st.a.at fun o e => k _ o s4.symm e, st.b.at fun o e => k _ o s5.symm e, st.la.at fun o e => k _ o s6.symm e, st.lb.at fun o e => k _ o s7.symm e, ?_⟩
  rcases st.m with ⟨m, u, v, p⟩ | ⟨T, f, oT, m, t, l⟩
  · exact .inl ⟨k _ _ s1.symm m, u, v, k _ _ s3.symm p⟩
  · exact .inr ⟨T, f, oT, k _ _ s1.symm m, k _ _ (fun e => by subst e; exact absurd l (Nat.not_le_of_lt s8)) t, l⟩
theorem z_item {lo i : Nat} {Q : Option Value → Shared → Prop} (D : ZipApart z TI TO i1 i2 l1 l2) (L : ZLow z TI TO i1 i2 l1 l2 lo) (st : ZSt z TI TO i1 i2 l1 l2 xs ys lo i s.heap) (hx : xs[i]? = some x) (hy : ys[i]? = some y) (hs : lo ≤ s.heap.objs.size)
    (hQ : ∀ h', ZSt z TI TO i1 i2 l1 l2 xs ys lo (i + 1) h' → h'.get? s.heap.objs.size = some { cls := .type "tuple", data := .seq #[x, y] } → h'.objs.size = s.heap.objs.size + 1 →
      (∀ c o, c ≠ z → c ≠ TO → c ≠ i1 → c ≠ i2 → s.heap.get? c = some o → h'.get? c = some o) → Q (some (.ref s.heap.objs.size)) { s with heap := h' }) : wpAny (model prog w) A (pyNext (.ref z)) Q E s := by
  rcases st.m with ⟨m, u, v, p⟩ | ⟨T, f, oT, m, t, l⟩
  · refine pyNext_zipT_item D m st.ti p st.a st.b st.la st.lb hx hy fun h' c1 c2 c3 c4 c5 c6 c7 => ?_
    refine hQ h' ⟨c7 _ _ D.TIz D.TITO D.TIi1 D.TIi2 st.ti, c3, c4, st.la.at fun o e => c7 _ o D.l1z D.l1TO D.l1i1 D.l1i2 e, st.lb.at fun o e => c7 _ o D.l2z D.l2TO D.l2i1 D.l2i2 e, .inr ⟨_, false, _, c1, c5, hs⟩⟩ c5 c6 c7
  · have hTy : s.TypeIs (.ref z) "zip" := ⟨_, m, rfl⟩
    unfold pyNext
    refine wpAny_bind (wpAny_attempt (wpAny_callSpecial?_slot (name := Str.ofString "__next__") hTy PySem.F.slot_zip_next
      (wpAny_call_entry PySem.F.slot_zip_next hTy PySem.F.entry_zip_next
        (zipT_item_held D m t st.ti st.a st.b st.la st.lb hx hy fun h' c1 c3 c4 c5 c6 c7 => wpAny_pure ?_) (PySem.F.args_zip_next_1 _))))
    have nT : T ≠ z ∧ T ≠ i1 ∧ T ≠ i2 := ⟨fun e => by subst e; exact absurd l (Nat.not_le_of_lt L.z), fun e => by subst e; exact absurd l (Nat.not_le_of_lt L.a), fun e => by subst e; exact absurd l (Nat.not_le_of_lt L.b)⟩
    refine hQ h' ⟨c7 _ _ D.TIz D.TIi1 D.TIi2 st.ti, c3, c4, st.la.at fun o e => c7 _ o D.l1z D.l1i1 D.l1i2 e, st.lb.at fun o e => c7 _ o D.l2z D.l2i1 D.l2i2 e, .inr ⟨T, true, oT, c1, c7 _ _ nT.1 nT.2.1 nT.2.2 t, l⟩⟩ c5 c6 fun c o n1 _ n3 n4 e => c7 c o n1 n3 n4 e
theorem z_end {lo i : Nat} {Q : Option Value → Shared → Prop} (hh : A.handled = none) (D : ZipApart z TI TO i1 i2 l1 l2) (st : ZSt z TI TO i1 i2 l1 l2 xs ys lo i s.heap) (hx : xs[i]? = none)
    (hQ : ∀ h', (∀ c o, c ≠ z → c ≠ TO → c ≠ i1 → c ≠ i2 → s.heap.get? c = some o → h'.get? c = some o) → Q none { s with heap := h' }) : wpAny (model prog w) A (pyNext (.ref z)) Q E s := by
  rcases st.m with ⟨m, u, v, p⟩ | ⟨T, f, oT, m, t, l⟩
  · exact pyNext_zipT_end hh D m st.ti p st.a st.b st.la st.lb (.inl hx) hQ
  · have hTy : s.TypeIs (.ref z) "zip" := ⟨_, m, rfl⟩
    unfold pyNext
    refine wpAny_bind (wpAny_attempt (wpAny_callSpecial?_slot (name := Str.ofString "__next__") hTy PySem.F.slot_zip_next
      (wpAny_call_entry PySem.F.slot_zip_next hTy PySem.F.entry_zip_next (zipT_end_held hh D m t st.ti st.a st.b st.la hx fun h' e hk he => ?_) (PySem.F.args_zip_next_1 _))))
    obtain ⟨o, ho, hc⟩ := he
    refine wpAny_bind (wpAny_isInstance (T := "StopIteration") (b := true) ⟨o, ho, hc⟩ isSubtype_stop ?_)
    exact wpAny_pure (hQ _ fun c o n1 _ n3 _ e => hk c o n1 n3 e)
/-- what a walk may have changed -/
def Wrote (L : List Addr) (h h' : Heap) : Prop := ∀ b o, b ∉ L → h.get? b = some o → h'.get? b = some o
theorem z_loop {R : Result → Shared → Prop} {lo : Nat} {S : Addr} (hh : A.handled = none) (D : ZipApart z TI TO i1 i2 l1 l2) (L : ZLow z TI TO i1 i2 l1 l2 lo) (hS : S ≠ z ∧ S ≠ TI ∧ S ≠ TO ∧ S ≠ i1 ∧ S ≠ i2 ∧ S ≠ l1 ∧ S ≠ l2 ∧ S < lo) (hl : xs.size = ys.size) (hn : xs.size ≤ sizeLine) (res : Value) :
    ∀ (k i : Nat) (s : Shared) (acc : Array Value) (c : Nat), xs.size - i = k → i ≤ xs.size → ZSt z TI TO i1 i2 l1 l2 xs ys lo i s.heap → s.heap.get? S = some { cls := .type "list", dict := none, data := .seq acc c, slots := #[] } → ZAcc xs ys lo s.heap acc i → lo ≤ s.heap.objs.size →
    (∀ h' acc' c', Wrote [S, z, TO, i1, i2] s.heap h' → h'.get? S = some { cls := .type "list", dict := none, data := .seq acc' c', slots := #[] } → ZAcc xs ys lo h' acc' xs.size → R (.ok (.ret res)) { s with heap := h' }) →
    codeAny (model prog w) A (.builtin "list.extend.loop" ⟨[.ref S, .ref z, res], []⟩) R s := by
  have s1 := hS.1
  have s3 := hS.2.2.1
  have s4 := hS.2.2.2.1
  have s5 := hS.2.2.2.2.1
  have s8 := hS.2.2.2.2.2.2.2
  intro k
  induction k with
  | zero =>
    intro i s acc c hk hi st hacc g hlo hR
    have e : i = xs.size := by omega
    subst e
    refine codeAny_builtin PySem.F.entry_extend_loop ?_
    rw [Around.under_plainId PySem.F.plain_extend_loop _]
    show wpAny _ A.in1 (pyNext (.ref z) >>= _) _ _ s
    refine wpAny_bind (z_end (A := A.in1) hh D st (by simp) fun h' kp => ?_)
    refine wpAny_pure (hR h' acc c (fun b o nb e => kp b o (fun q => nb (by simp [q])) (fun q => nb (by simp [q])) (fun q => nb (by simp [q])) (fun q => nb (by simp [q])) e) (kp _ _ s1 s3 s4 s5 hacc) ⟨g.1, fun j v hj => ?_, g.2.2⟩)
    obtain ⟨T, x, y, e1, e2, e3, e4, e5⟩ := g.2.1 j v hj
    have ne : ∀ {b : Addr}, b < lo → T ≠ b := fun q e => by rw [e] at e2; exact absurd q (Nat.not_lt_of_le e2)
    exact ⟨T, x, y, e1, e2, e3, e4, kp _ _ (ne L.z) (ne L.to_) (ne L.a) (ne L.b) e5⟩
  | succ k ih =>
    intro i s acc c hk hi st hacc g hlo hR
    have hlt : i < xs.size := by omega
    refine codeAny_builtin PySem.F.entry_extend_loop ?_
    rw [Around.under_plainId PySem.F.plain_extend_loop _]
    show wpAny _ A.in1 (pyNext (.ref z) >>= _) _ _ s
    have hx : xs[i]? = some xs[i] := Array.getElem?_eq_getElem hlt
    have hy : ys[i]? = some (ys[i]'(by omega)) := Array.getElem?_eq_getElem _
    generalize xs[i] = x at hx
    generalize ys[i]'(by omega) = y at hy
    refine wpAny_bind (z_item (A := A.in1) D L st hx hy hlo fun h' st' hT hsz kp => ?_)
    have hacc' := kp _ _ s1 s3 s4 s5 hacc
    show wpAny _ A.in1 (updateSeq S (·.push _) >>= _) _ _ _
    have up : ∀ b o, b ≠ S → h'.get? b = some o → (h'.update S (Obj.mapSeq fun a => a.push (.ref s.heap.objs.size))).get? b = some o := fun b o nb e => (Heap.get?_update_other _ _ (Ne.symm nb)).trans e
    have ne : ∀ {T b : Addr}, lo ≤ T → b < lo → T ≠ b := fun e2 q e => by rw [e] at e2; exact absurd q (Nat.not_lt_of_le e2)
    refine wpAny_bind (wpAny_updateSeq hacc' rfl (wpAny_pure ⟨plainId_quiet PySem.F.plain_extend_loop _, ih (i + 1) _ (acc.push (.ref s.heap.objs.size)) _ (by omega) hlt (st'.keep L hS up) (Heap.get?_update_self _ hacc' rfl) ⟨by rw [Array.size_push, g.1], fun j v hj => ?_, fun a b U ha hb => ?_⟩ (by show lo ≤ (h'.update S _).objs.size; rw [Heap.size_update, hsz]; exact Nat.le_succ_of_le hlo) fun h2 acc2 c2 w2 hS2 g2 => ?_⟩)
      (by rw [g.1]; omega) (by show (acc.push _).size ≤ sizeLine + 1; rw [Array.size_push, g.1]; omega))
    · rw [Array.getElem?_push] at hj
      split at hj
      · rename_i ej
        cases hj
        rw [g.1] at ej
        rw [ej]
        exact ⟨_, x, y, rfl, hlo, hx, hy, up _ _ (ne hlo s8) hT⟩
      · obtain ⟨T, x', y', e1, e2, e3, e4, e5⟩ := g.2.1 j v hj
        exact ⟨T, x', y', e1, e2, e3, e4, up _ _ (ne e2 s8) (kp _ _ (ne e2 L.z) (ne e2 L.to_) (ne e2 L.a) (ne e2 L.b) e5)⟩
    · have old : ∀ {j : Nat} {U : Addr}, acc[j]? = some (.ref U) → U < s.heap.objs.size := fun hj => by
        obtain ⟨T, _, _, e1, _, _, _, e5⟩ := g.2.1 _ _ hj
        cases e1
        exact Heap.lt_size e5
      rw [Array.getElem?_push] at ha hb
      split at ha
      · rename_i ea
        cases ha
        split at hb
        · rename_i eb
          omega
        · exact absurd (old hb) (Nat.lt_irrefl _)
      · split at hb
        · cases hb
          exact absurd (old ha) (Nat.lt_irrefl _)
        · exact g.2.2 a b U ha hb
    · refine hR h2 acc2 c2 (fun b o nb e => w2 b o nb (up b o (fun q => nb (by simp [q])) (kp b o (fun q => nb (by simp [q])) (fun q => nb (by simp [q])) (fun q => nb (by simp [q])) (fun q => nb (by simp [q])) e))) hS2 g2
theorem z_collect {Q : List Value → Shared → Prop} (hh : A.handled = none) (D : ZipApart z TI TO i1 i2 l1 l2) (L : ZLow z TI TO i1 i2 l1 l2 s.heap.objs.size) (hl : xs.size = ys.size) (hn : xs.size ≤ sizeLine) (hz : IsZip s.heap z TI TO .none) (hTO : ∃ u v, IsPair s.heap TO u v)
    (hTI : IsPair s.heap TI (.ref i1) (.ref i2)) (h1 : s.heap.IsTupleIter i1 l1 0) (h2 : s.heap.IsTupleIter i2 l2 0) (hl1 : s.heap.IsTuple l1 xs) (hl2 : s.heap.IsTuple l2 ys)
    (hQ : ∀ h' acc, Wrote [z, TO, i1, i2] s.heap h' → ZAcc xs ys (s.heap.objs.size + 1) h' acc xs.size → Q acc.toList { s with heap := h' }) : wpAny (model prog w) A (collect (.ref z)) Q E s := by
  have low : ∀ {b : Addr}, b < s.heap.objs.size → s.heap.objs.size ≠ b := fun q e => absurd (e ▸ q) (Nat.lt_irrefl _)
  have L2 : ZLow z TI TO i1 i2 l1 l2 (s.heap.objs.size + 1) := ⟨Nat.lt_succ_of_lt L.z, Nat.lt_succ_of_lt L.ti, Nat.lt_succ_of_lt L.to_, Nat.lt_succ_of_lt L.a, Nat.lt_succ_of_lt L.b, Nat.lt_succ_of_lt L.la, Nat.lt_succ_of_lt L.lb⟩
  have hSz := low L.z
  unfold collect
  refine wpAny_bind (wpAny_runValue (codeAny_builtin PySem.F.entry_proto_collect ?_))
  rw [Around.under_plainId PySem.F.plain_proto_collect _]
  show wpAny _ A.in1 (newList [] >>= fun l => again (.builtin "list.__iadd__" ⟨[l, .ref z], []⟩)) _ _ s
  refine wpAny_bind (wpAny_newObj_type ?_)
  refine wpAny_pure ⟨plainId_quiet PySem.F.plain_list_iadd _, codeAny_builtin PySem.F.entry_list_iadd ?_⟩
  rw [Around.under_plainId PySem.F.plain_list_iadd _]
  have k1 : ∀ b o, s.heap.get? b = some o → (s.heap.push { cls := .type "list", data := .seq ([] : List Value).toArray }).get? b = some o := fun b o e => Heap.get?_push_of_some _ e
  have hz1 := k1 _ _ hz
  show wpAny _ A.in1 (Builtin.List.listExtendWith (.ref s.heap.objs.size) (.ref z) (.ref s.heap.objs.size)) _ _ _
  unfold Builtin.List.listExtendWith
  refine wpAny_bind (wpAny_typeOf (T := "zip") ⟨_, hz1, rfl⟩ ?_)
  have e1 : Builtin.List.listSameRef (.ref s.heap.objs.size) (.ref z) = false := by simp [Builtin.List.listSameRef, hSz]
  have e2 : (Value.type "zip" == Value.type "list") = false := by decide
  have e3 : (Value.type "zip" == Value.type "tuple") = false := by decide
  simp only [e1, e2, e3, Bool.or_false, Bool.false_eq_true, if_false]
  refine wpAny_bind (wpAny_pyIter_zip hz1 ?_)
  refine wpAny_bind (wpAny_holding ?_)
  unfold Builtin.List.listLengthHint
  refine wpAny_bind (wpAny_specialOf (T := "zip") ⟨_, hz1, rfl⟩ F.zip_no_len ?_)
  show wpAny _ A.in1 (specialOf (Value.ref z) (Str.ofString "__length_hint__") >>= _) _ _ _
  refine wpAny_bind (wpAny_specialOf (T := "zip") ⟨_, hz1, rfl⟩ F.zip_no_hint ?_)
  refine wpAny_pure ?_
  show wpAny _ A.in1 (rule "list.extend.makes-room" >>= fun _ => Builtin.List.listTouch (.ref s.heap.objs.size) >>= fun _ =>
    again (.builtin "list.extend.loop" ⟨[.ref s.heap.objs.size, .ref z, .ref s.heap.objs.size], []⟩)) _ _ _
  refine wpAny_bind (wpAny_rule ?_)
  have hS₁ : (s.heap.push { cls := .type "list", data := .seq ([] : List Value).toArray }).get? s.heap.objs.size = some { cls := .type "list", data := .seq ([] : List Value).toArray } := Heap.get?_push_size _ rfl
  refine wpAny_bind ?_
  show wpAny _ A.in1 (updateSeq s.heap.objs.size (·.push .none) >>= fun _ => updateSeq s.heap.objs.size (·.pop)) _ _ _
  refine wpAny_bind (wpAny_updateSeq hS₁ rfl ?_)
  have hS₂ := Heap.get?_update_self (Obj.mapSeq (·.push Value.none)) hS₁ rfl
  refine wpAny_updateSeq hS₂ rfl ?_
  have hS₃ := Heap.get?_update_self (Obj.mapSeq (·.pop)) hS₂ rfl
  have oth : ∀ b o, b ≠ s.heap.objs.size → s.heap.get? b = some o →
      (((s.heap.push { cls := .type "list", data := .seq ([] : List Value).toArray }).update s.heap.objs.size (Obj.mapSeq (·.push Value.none))).update s.heap.objs.size (Obj.mapSeq (·.pop))).get? b = some o :=
    fun b o hb e => (Heap.get?_update_other _ _ (Ne.symm hb)).trans ((Heap.get?_update_other _ _ (Ne.symm hb)).trans (k1 b o e))
  have st : ZSt z TI TO i1 i2 l1 l2 xs ys (s.heap.objs.size + 1) 0 s.heap := ⟨hTI, h1, h2, hl1, hl2, .inl ⟨hz, hTO⟩⟩
  have hSS := And.intro hSz (And.intro (low L.ti) (And.intro (low L.to_) (And.intro (low L.a) (And.intro (low L.b) (And.intro (low L.la) (And.intro (low L.lb) (Nat.lt_succ_self s.heap.objs.size)))))))
  refine wpAny_pure ⟨plainId_quiet PySem.F.plain_extend_loop _, ?_⟩
  refine z_loop (A := A) hh D L2 hSS hl hn _ xs.size 0 _ ?acc ?cnt rfl (Nat.zero_le _) ?zst ?lst ?za ?_ fun h' acc' c' wr hS' g => ?_
  case zst => exact st.keep L2 hSS oth
  case lst => exact hS₃
  case za =>
    refine ⟨rfl, fun j v hj => ?_, fun a b U ha _ => ?_⟩
    · have hj' : (#[] : Array Value)[j]? = some v := hj
      simp at hj'
    · have hj' : (#[] : Array Value)[a]? = some (.ref U) := ha
      simp at hj'
  · show s.heap.objs.size + 1 ≤ (Heap.update _ _ _).objs.size
    rw [Heap.size_update, Heap.size_update, Heap.size_push]
    exact Nat.le_refl _
  show wpAny _ A (load s.heap.objs.size >>= _) _ _ _
  refine wpAny_bind (wpAny_load hS' ?_)
  refine wpAny_pure (hQ h' acc' (fun b o nb e => wr b o (fun q => ?_) (oth b o (fun q => absurd (q ▸ Heap.lt_size e) (Nat.lt_irrefl _)) e)) g)
  rcases List.mem_cons.mp q with q | q
  · exact absurd (q ▸ Heap.lt_size e) (Nat.lt_irrefl _)
  · exact nb q
theorem code_tuple_zip {Q₁ : Value → Shared → Prop} (hh : A.handled = none) (D : ZipApart z TI TO i1 i2 l1 l2) (L : ZLow z TI TO i1 i2 l1 l2 s.heap.objs.size) (hl : xs.size = ys.size) (hn : xs.size ≤ sizeLine) (hz : IsZip s.heap z TI TO .none) (hTO : ∃ u v, IsPair s.heap TO u v)
    (hTI : IsPair s.heap TI (.ref i1) (.ref i2)) (h1 : s.heap.IsTupleIter i1 l1 0) (h2 : s.heap.IsTupleIter i2 l2 0) (hl1 : s.heap.IsTuple l1 xs) (hl2 : s.heap.IsTuple l2 ys)
    (h : ∀ h' acc, Wrote [z, TO, i1, i2] s.heap h' → ZAcc xs ys (s.heap.objs.size + 1) h' acc xs.size → Q₁ (.ref h'.objs.size) { s with heap := h'.push { cls := .type "tuple", data := .seq acc } }) :
    codeAny (model prog w) A (.call (.builtin "tuple.__new__") ⟨[.type "tuple", .ref z], []⟩) (wants Q₁ E) s := by
  refine codeAny_of_tree ?_
  show wpAny _ A.in1 (do checkBuiltinCall "tuple.__new__" ⟨[.type "tuple", .ref z], []⟩; again (.builtin "tuple.__new__" ⟨[.type "tuple", .ref z], []⟩)) _ _ s
  refine wpAny_bind (wpAny_of_eq (PySem.F.newCall_tuple_1 _) (wpAny_pure ⟨plainId_quiet PySem.F.plain_tuple_new _, codeAny_builtin PySem.F.entry_tuple_new ?_⟩))
  rw [Around.under_plainId PySem.F.plain_tuple_new _]
  have hsub := sub_tuple_self
  have hinit := init_tuple_lookup
  have hmh := madeHere_tuple
  have hTz : s.TypeIs (.ref z) "zip" := ⟨_, hz, rfl⟩
  wp_walk using wpAny_typeOf hTz, z_collect (A := A.in1) hh D L hl hn hz hTO hTI h1 h2 hl1 hl2
  intro h' acc wr g
  show wpAny _ _ (Builtin.Tuple.tupleExact acc.toList.toArray >>= fun v => ret v) _ _ _
  unfold Builtin.Tuple.tupleExact
  refine wpAny_bind (wpAny_newObj_type ?_ (by show acc.toList.toArray.size ≤ sizeLine; simp only [Array.toArray_toList]; rw [g.1]; exact hn))
  refine wpAny_pure ?_
  have e : acc.toList.toArray = acc := by simp
  rw [e]
  exact h h' acc wr g
theorem call_tuple_zip {Q : Value → Shared → Prop} (hh : A.handled = none) (D : ZipApart z TI TO i1 i2 l1 l2) (L : ZLow z TI TO i1 i2 l1 l2 s.heap.objs.size) (hl : xs.size = ys.size) (hn : xs.size ≤ sizeLine) (hz : IsZip s.heap z TI TO .none) (hTO : ∃ u v, IsPair s.heap TO u v)
    (hTI : IsPair s.heap TI (.ref i1) (.ref i2)) (h1 : s.heap.IsTupleIter i1 l1 0) (h2 : s.heap.IsTupleIter i2 l2 0) (hl1 : s.heap.IsTuple l1 xs) (hl2 : s.heap.IsTuple l2 ys)
    (hQ : ∀ h' acc, Wrote [z, TO, i1, i2] s.heap h' → ZAcc xs ys (s.heap.objs.size + 1) h' acc xs.size → Q (.ref h'.objs.size) { s with heap := h'.push { cls := .type "tuple", data := .seq acc } }) :
    wpAny (model prog w) A (call (.type "tuple") [.ref z]) Q E s := by
  refine callType_codes (Q₁ := fun obj s₁ => s₁.TypeIs obj "tuple" ∧ Q obj s₁) PySem.F.called_tuple (PySem.F.typeCall_tuple_1 _) PySem.F.entry_object_init
    (code_tuple_zip (A := A.in1) hh D L hl hn hz hTO hTI h1 h2 hl1 hl2 fun h' acc wr g => ⟨⟨_, Heap.get?_push_size _ rfl, rfl⟩, hQ h' acc wr g⟩) fun obj s₁ h₁ => ?_
  exact ⟨h₁.1, PySem.F.args_object_init_2 obj _, object_init_meets PySem.F.called_tuple.init.lookup PySem.F.called_tuple.made (by decide) prog w A.in1 _ s₁ ⟨h₁.1, rfl, h₁.2⟩⟩
end
/-! ### the rule -/
theorem un_more {fs ex : List Addr} {H0 H1 : Hp} {h h' : Heap} {b : Addr} {o : HO} (u : Un fs ex H0 H1 h h') (hb : h.objs.size ≤ b) (n0 : H0 b = none) : Un fs ex H0 (upd H1 b o) h h' where
  keep := u.keep
  slot := u.slot
  free := fun c q e n x => by
    rw [upd_ne (fun z => absurd (Heap.lt_size (z ▸ e)) (Nat.not_lt_of_le hb))]
    exact u.free c q e n x
  there := u.there
  tups := fun c xs e => by
    rw [upd_ne (ne_of_none e n0)]
    exact u.tups c xs e
  frzs := fun c q w e => by
    rw [upd_ne (ne_of_none e n0)]
    exact u.frzs c q w e
  tbls := fun c ps e => by
    rw [upd_ne (ne_of_none e n0)]
    exact u.tbls c ps e
theorem hok_more {P : Program} {w : World} {H1 : Hp} {h : Heap} {b : Addr} {o : HO} (x : HOk P w H1 h) (n : H1 b = none) (new : ObjOk P w (upd H1 b o) h b o) : HOk P w (upd H1 b o) h := fun c u e => by
  by_cases hc : c = b
  · subst hc
    rw [upd_same] at e
    cases e
    exact new
  · rw [upd_ne hc] at e
    exact (x c u e).stay (fun _ _ _ q => q) (fun _ q => by rw [upd_ne (ne_of_none q n)]; exact q) fun _ _ q => by rw [upd_ne (ne_of_none q n)]; exact q
/-- the tuples of a zip, tracked -/
def trkZ (H : Hp) : List (Addr × V × V) → Hp
  | [] => H
  | t :: r => upd (trkZ H r) t.1 (.tup [t.2.1, t.2.2])
theorem trkZ_out {H : Hp} {b : Addr} : ∀ {ts : List (Addr × V × V)}, b ∉ ts.map (·.1) → trkZ H ts b = H b
  | [], _ => rfl
  | t :: r, h => by
    rw [List.map_cons, List.mem_cons, not_or] at h
    show upd (trkZ H r) t.1 _ b = H b
    rw [upd_ne h.1, trkZ_out h.2]
theorem trkZ_same {H : Hp} : ∀ {ts : List (Addr × V × V)}, (∀ t ∈ ts, H t.1 = none) → Same H (trkZ H ts) := fun hn b o e => by
  rw [trkZ_out fun z => ?_]
  · exact e
  · obtain ⟨t, ht, rfl⟩ := List.mem_map.mp z
    rw [hn t ht] at e
    cases e
theorem trkZ_in {H : Hp} : ∀ {ts : List (Addr × V × V)}, (ts.map (·.1)).Nodup → ∀ t ∈ ts, trkZ H ts t.1 = some (.tup [t.2.1, t.2.2])
  | t :: r, hd, u, hu => by
    rw [List.map_cons, List.nodup_cons] at hd
    rcases List.mem_cons.mp hu with rfl | hu
    · exact upd_same
    · show upd (trkZ H r) t.1 _ u.1 = _
      rw [upd_ne fun e => hd.1 (List.mem_map.mpr ⟨u, hu, e⟩)]
      exact trkZ_in hd.2 u hu
theorem trkZ_all {P : Program} {w : World} {fs : List Addr} {H : Hp} {h hf : Heap} (u0 : Un fs [] H H h hf) (ok0 : HOk P w H hf) : ∀ {ts : List (Addr × V × V)}, (ts.map (·.1)).Nodup →
    (∀ t ∈ ts, h.objs.size ≤ t.1 ∧ H t.1 = none ∧ ∃ x y, RelV t.2.1 x ∧ RelV t.2.2 y ∧ hf.get? t.1 = some { cls := .type "tuple", data := .seq #[x, y] }) → Un fs [] H (trkZ H ts) h hf ∧ HOk P w (trkZ H ts) hf
  | [], _, _ => ⟨u0, ok0⟩
  | t :: r, hd, hs => by
    rw [List.map_cons, List.nodup_cons] at hd
    obtain ⟨u1, k1⟩ := trkZ_all u0 ok0 hd.2 fun x hx => hs x (List.mem_cons_of_mem _ hx)
    obtain ⟨hb, hn, x, y, rx, ry, hg⟩ := hs t List.mem_cons_self
    have n1 : trkZ H r t.1 = none := by rw [trkZ_out hd.1]; exact hn
    exact ⟨un_more u1 hb hn, hok_more k1 n1 ⟨by show 2 ≤ sizeLine; decide, [x, y], .cons rx (.cons ry .nil), ⟨_, hg, rfl, _, rfl⟩⟩⟩
def tTupZip (K : PySem.W.Frag) (ta : TA) : TE := fun σ H Q => ta σ H fun vs H1 => ∃ (a b : Addr) (xs ys : List V), vs = [V.ref a, V.ref b] ∧ SqT K H1 a xs ∧ SqT K H1 b ys ∧ xs.length = ys.length ∧
  ∀ (r : Addr) (ts : List Addr) (H' : Hp), Same H1 H' → H1 r = none → H' r = some (.tup (ts.map V.ref)) → ts.length = xs.length →
    (∀ (i : Nat) (t : Addr) (x y : V), ts[i]? = some t → xs[i]? = some x → ys[i]? = some y → H1 t = none ∧ H' t = some (.tup [x, y])) → Q (.ref r) H'
theorem vals_refs2 : ∀ (ts : List Addr), Vals (ts.map V.ref) (ts.map Value.ref)
  | [] => .nil
  | _ :: r => .cons rfl (vals_refs2 r)
theorem acc_refs {xs ys : Array Value} {lo : Nat} {h : Heap} {acc : Array Value} {n : Nat} (g : ZAcc xs ys lo h acc n) : ∃ ts : List Addr, acc.toList = ts.map Value.ref ∧ ts.length = n ∧ ts.Nodup ∧
    ∀ (i : Nat) (t : Addr), ts[i]? = some t → ∃ x y, lo ≤ t ∧ xs[i]? = some x ∧ ys[i]? = some y ∧ h.get? t = some { cls := .type "tuple", data := .seq #[x, y] } := by
  obtain ⟨g1, g2, g3⟩ := g
  have hv : ∀ v ∈ acc.toList, ∃ t, v = Value.ref t := fun v hv => by
    obtain ⟨j, hj⟩ := List.mem_iff_getElem?.mp hv
    obtain ⟨T, _, _, e, _⟩ := g2 j v (by rw [← Array.getElem?_toList]; exact hj)
    exact ⟨T, e⟩
  have ex : ∀ l : List Value, (∀ v ∈ l, ∃ t, v = Value.ref t) → ∃ ts : List Addr, l = ts.map Value.ref := fun l => by
    induction l with
    | nil => exact fun _ => ⟨[], rfl⟩
    | cons v r ih =>
      intro h
      obtain ⟨t, rfl⟩ := h v List.mem_cons_self
      obtain ⟨ts, rfl⟩ := ih fun x hx => h x (List.mem_cons_of_mem _ hx)
      exact ⟨t :: ts, rfl⟩
  obtain ⟨ts, hts⟩ := ex acc.toList hv
  have at_ : ∀ (i : Nat) (t : Addr), ts[i]? = some t → acc[i]? = some (.ref t) := fun i t e => by
    rw [← Array.getElem?_toList, hts, List.getElem?_map, e]
    rfl
  refine ⟨ts, hts, ?_, ?_, fun i t e => ?_⟩
  · have e := congrArg List.length hts
    rw [Array.length_toList, List.length_map, g1] at e
    exact e.symm
  · rw [List.Nodup, List.pairwise_iff_getElem]
    intro i j hi hj hij e
    have a1 := at_ i _ (List.getElem?_eq_getElem hi)
    have a2 := at_ j _ (List.getElem?_eq_getElem hj)
    rw [← e] at a2
    have := g3 i j _ a1 a2
    omega
  · obtain ⟨T, x, y, e1, h1, h2, h3, h4⟩ := g2 i _ (at_ i t e)
    cases e1
    exact ⟨x, y, h1, h2, h3, h4⟩
section
variable {X : Cx} {e e2 : Expr} {ta : TA} {p p2 pos q : Pos}
theorem pe_tupZip (hc : X.calm = true) (hg : Gl X "tuple") (hm : X.mg "tuple" = none) (hg2 : Gl X "zip") (hm2 : X.mg "zip" = none) (ha : PA X [e, e2] ta)
    (hs : starEach [e, e2] X.env = (false, eval e X.env) :: starEach [e2] X.env := by rfl) (hpl : (backTo q (starEach [e2] X.env)).any (·.1) = false := by rfl)
    (na : starEach [Expr.Call (.Name "zip" p2) [e, e2] [] q] X.env = (false, eval (Expr.Call (.Name "zip" p2) [e, e2] [] q) X.env) :: starEach [] X.env := by rfl) :
    PE X (.Call (.Name "tuple" p) [.Call (.Name "zip" p2) [e, e2] [] q] [] pos) (tTupZip X.K ta) := by
  refine ⟨fun pins s σ H Q I h => ?_⟩
  refine Call_ (ld_blt I hg hm (u := .type "tuple") (by decide +kernel) ?_)
  refine PyProof.Rows.callWith_type1 (PyProof.Rows.args_cons ?_ na) na rfl
  refine Call_ (ld_blt I hg2 hm2 PyProof.Rows.boot_zip (PyProof.Rows.callWith_type1 (thn (ha.run q pins s σ H _ I h) fun us s1 ⟨vs, H1, I1, r1, q1⟩ => ?_) hs hpl))
  obtain ⟨a, b, xs, ys, ex, hqx, hqy, hlen, q1⟩ := q1
  subst ex
  cases r1 with
  | cons r rr =>
    cases rr with
    | cons r' rr =>
      cases rr
      cases r
      cases r'
      obtain ⟨its, rv, p1, hz1⟩ := I1.tuple hqx
      obtain ⟨its2, rv2, p2', hz2⟩ := I1.tuple hqy
      obtain ⟨o1, ho1, _⟩ := id p1
      obtain ⟨o2, ho2, _⟩ := id p2'
      have la := Heap.lt_size ho1
      have lb := Heap.lt_size ho2
      have hl1 := rv.length
      have hl2 := rv2.length
      have sa : its.toArray.size = xs.length := by rw [List.size_toArray]; exact hl1.symm
      have sb : its2.toArray.size = ys.length := by rw [List.size_toArray]; exact hl2.symm
      refine call_zipT (show s1.heap.IsTuple a its.toArray from p1) (show s1.heap.IsTuple b its2.toArray from p2') fun h' hz hTI hTO h1 h2 hsz hk => PyProof.Rows.args_nil ?_
      have I2 : Inv X pins σ H1 { s1 with heap := h' } := I1.kept (t' := s1.toks) hk
      have s5 : h'.objs.size = s1.heap.objs.size + 5 := hsz
      have lo5 : ∀ k : Nat, k < 5 → s1.heap.objs.size + k < h'.objs.size := fun k z => by
        rw [s5]
        exact Nat.add_lt_add_left z _
      have lo6 : ∀ {c : Addr}, c < s1.heap.objs.size → c < h'.objs.size := fun {c} z => Nat.lt_trans z (lo5 0 (by decide))
      refine call_tuple_zip (s := { s1 with heap := h' }) (xs := its.toArray) (ys := its2.toArray) (I2.ok.hd hc) (PySem.W.ktu_apart s1.heap.objs.size a b la lb) ⟨lo5 4 (by decide), lo5 2 (by decide), lo5 3 (by decide), lo5 0 (by decide), lo5 1 (by decide), lo6 la, lo6 lb⟩ (by rw [sa, sb]; exact hlen) (by rw [sa]; exact hz1) hz ⟨_, _, hTO⟩ hTI h1 h2
        (Heap.IsTuple.at (show s1.heap.IsTuple a its.toArray from p1) fun o e => hk _ o e) (Heap.IsTuple.at (show s1.heap.IsTuple b its2.toArray from p2') fun o e => hk _ o e) fun h3 acc wr g => ?_
      obtain ⟨ts, hts, htl, htd, hta⟩ := acc_refs g
      have k3 : ∀ c o, s1.heap.get? c = some o → (h3.push { cls := .type "tuple", data := .seq acc }).get? c = some o := fun c o e => by
        have hlt := Heap.lt_size e
        refine Heap.get?_push_of_some _ (wr c o ?_ (hk c o e))
        simp only [List.mem_cons, List.not_mem_nil, or_false]
        rintro (z | z | z | z)
        · exact absurd (z ▸ hlt) (Nat.not_lt.mpr (Nat.le_add_right _ _))
        · exact absurd (z ▸ hlt) (Nat.not_lt.mpr (Nat.le_add_right _ _))
        · exact absurd (z ▸ hlt) (Nat.lt_irrefl _)
        · exact absurd (z ▸ hlt) (Nat.not_lt.mpr (Nat.le_add_right _ _))
      have fr : ∀ {c : Addr}, s1.heap.objs.size ≤ c → H1 c = none := fun {c} h => I1.hok.fresh h
      have hti : ∀ (i : Nat) (t : Addr), ts[i]? = some t → i < xs.length := fun i t e => by
        have := (List.getElem?_eq_some_iff.mp e).1
        rw [htl, sa] at this
        exact this
      -- what is tracked: the pairs
      let zs : List (Addr × V × V) := (List.range ts.length).map fun i => (ts.getD i 0, xs.getD i .non, ys.getD i .non)
      have zk : zs.map (·.1) = ts := by
        show ((List.range ts.length).map fun i => (ts.getD i 0, xs.getD i .non, ys.getD i .non)).map (·.1) = ts
        rw [List.map_map]
        apply List.ext_getElem?
        intro i
        rw [List.getElem?_map]
        by_cases hi : i < ts.length
        · rw [List.getElem?_range hi, List.getElem?_eq_getElem hi]
          show some (ts.getD i 0) = _
          rw [List.getD_eq_getElem?_getD, List.getElem?_eq_getElem hi] <;> rfl
        · rw [List.getElem?_eq_none (by rw [List.length_range]; omega), List.getElem?_eq_none (by omega)]
          rfl
      have zz : ∀ t ∈ zs, ∃ i, ts[i]? = some t.1 ∧ xs[i]? = some t.2.1 ∧ ys[i]? = some t.2.2 := fun t ht => by
        obtain ⟨i, hi, rfl⟩ := List.mem_map.mp ht
        rw [List.mem_range] at hi
        have hx := hti i _ (List.getElem?_eq_getElem hi)
        refine ⟨i, ?_, ?_, ?_⟩
        · show ts[i]? = some (ts.getD i 0)
          rw [List.getD_eq_getElem?_getD, List.getElem?_eq_getElem hi] <;> rfl
        · show xs[i]? = some (xs.getD i .non)
          rw [List.getD_eq_getElem?_getD, List.getElem?_eq_getElem hx] <;> rfl
        · show ys[i]? = some (ys.getD i .non)
          rw [List.getD_eq_getElem?_getD, List.getElem?_eq_getElem (by omega)] <;> rfl
      have zall : ∀ t ∈ zs, s1.heap.objs.size ≤ t.1 ∧ H1 t.1 = none ∧ ∃ x y, RelV t.2.1 x ∧ RelV t.2.2 y ∧ (h3.push { cls := .type "tuple", data := .seq acc }).get? t.1 = some { cls := .type "tuple", data := .seq #[x, y] } := fun t ht => by
        obtain ⟨i, e1, e2, e3⟩ := zz t ht
        obtain ⟨x, y, l1, gx, gy, gt⟩ := hta i _ e1
        have l2 : s1.heap.objs.size ≤ t.1 := by
          have : h'.objs.size + 1 ≤ t.1 := l1
          omega
        obtain ⟨u, hu, ru⟩ := rv.get e2
        obtain ⟨u', hu', ru'⟩ := rv2.get e3
        rw [List.getElem?_toArray] at gx gy
        rw [hu] at gx
        rw [hu'] at gy
        cases gx
        cases gy
        exact ⟨l2, fr l2, _, _, ru, ru', Heap.get?_push_of_some _ gt⟩
      obtain ⟨U1, K1⟩ := trkZ_all (fs := X.fs) (Un.kept k3) (I1.hok.kept k3) (by rw [zk]; exact htd) zall
      have hlow : s1.heap.objs.size ≤ h3.objs.size := by
        rcases Nat.lt_or_ge h3.objs.size s1.heap.objs.size with z | z
        · exfalso
          have e1 : h'.get? (s1.heap.objs.size + 2) = some _ := hTI
          have e2 := wr _ _ (by simp) e1
          exact absurd (Nat.lt_trans (Heap.lt_size e2) z) (Nat.not_lt.mpr (Nat.le_add_right _ _))
        · exact z
      have nr : ∀ {t : Addr}, t ∈ ts → t < h3.objs.size := fun {t} ht => by
        obtain ⟨i, hi⟩ := List.mem_iff_getElem?.mp ht
        obtain ⟨x, y, _, _, _, gt⟩ := hta i t hi
        exact Heap.lt_size gt
      have n3 : trkZ H1 zs h3.objs.size = none := by
        rw [trkZ_out (by rw [zk]; exact fun z => absurd (nr z) (Nat.lt_irrefl _))]
        exact fr hlow
      have OB : ObjOk X.prog X.w (upd (trkZ H1 zs) h3.objs.size (.tup (ts.map V.ref))) (h3.push { cls := .type "tuple", data := .seq acc }) h3.objs.size (.tup (ts.map V.ref)) :=
        ⟨by rw [List.length_map, htl, sa]; exact hz1, acc.toList, by rw [hts]; exact vals_refs2 ts, ⟨_, Heap.get?_push_size _ rfl, rfl, 0, by simp⟩⟩
      have I3 : Inv X pins σ (upd (trkZ H1 zs) h3.objs.size (.tup (ts.map V.ref))) { s1 with heap := h3.push { cls := .type "tuple", data := .seq acc } } :=
        I1.un (t' := s1.toks) (un_more U1 hlow (fr hlow)) (hok_more K1 n3 OB)
      have zn : ∀ t ∈ zs, H1 t.1 = none := fun t ht => (zall t ht).2.1
      refine ⟨.ref h3.objs.size, _, I3, rfl, q1 _ ts _ ((trkZ_same zn).trans (same_new (Same.refl _) n3)) (fr hlow) upd_same (by rw [htl, sa]) fun i t x y e1 e2 e3 => ?_⟩
      have htm : t ∈ ts := List.mem_of_getElem? e1
      have hmem : (t, x, y) ∈ zs := by
        refine List.mem_map.mpr ⟨i, List.mem_range.mpr (List.getElem?_eq_some_iff.mp e1).1, ?_⟩
        rw [List.getD_eq_getElem?_getD, e1, List.getD_eq_getElem?_getD, e2, List.getD_eq_getElem?_getD, e3] <;> rfl
      refine ⟨zn _ hmem, ?_⟩
      rw [upd_ne (Nat.ne_of_lt (nr htm))]
      exact trkZ_in (by rw [zk]; exact htd) _ hmem
end
end U

/-! sorted(set(xs)), xs a list of ints -/
namespace U
open PySem PySem.Spec PyProof.Rows L2
section
variable {P : Program} {w : World} {A : Around} {E : Value → Shared → Prop} {s : Shared}
/-- an empty set, as the text makes one -/
abbrev voidS (w : World) : Obj := { cls := .type "set", dict := none, data := .set #[] 0 (.fresh 0 0 (!w.params.followText "set-order")) }
theorem call_setL {l : Addr} {items : Array Value} (ns : List Int) {Q : Value → Shared → Prop} (hh : A.handled = none) (hl : s.heap.IsList l items) (hi : IntsAre items.toList ns) (hb : ns.length + 1 < scanBound)
    (q : ∀ (g : Heap) (tk c : Nat), SetR w g s.heap.objs.size (fun j => decide (j ∈ ns)) c → (∀ b o, s.heap.get? b = some o → g.get? b = some o) → Q (.ref s.heap.objs.size) { s with heap := g, toks := tk }) :
    wpAny (model P w) A (call (.type "set") [.ref l]) Q E s := by
  have sz : items.size = ns.length := by rw [← IntsAre.length hi, Array.length_toList]
  have T := F.called_set
  obtain ⟨c0, t0, m0⟩ := T.mro
  have f1 := T.made
  have f2 := T.sub
  have f3 := T.notType
  have f4 := T.canCreate
  have f5 := F.typeCall_set_1 (.ref l)
  refine wpAny_call (codeAny_of_tree ?_)
  refine wpAny_pure ⟨Code.quiet_builtin _ (by decide +kernel), codeAny_builtin F.entry_type_call ?_⟩
  rw [Around.under_plain (weight_type_call_type "set" [.ref l] []) rfl]
  repeat (any_goals (first | assumption | wp_step))
  refine codeAny_mono (code_set_led1 (.ref l) (E := E) (Q₁ := fun x s1 => x = .ref s.heap.objs.size ∧ s1 = { s with heap := s.heap.push (voidS w) }) ⟨rfl, rfl⟩) fun r s1 hr => ?_
  match r, hr with
  | .error e, hr => exact hr
  | .ok (.next), hr => exact hr.elim
  | .ok (.brk), hr => exact hr.elim
  | .ok (.cont), hr => exact hr.elim
  | .ok (.ret v), hr =>
  obtain ⟨rfl, rfl⟩ := hr
  have g0 : (s.heap.push (voidS w)).get? s.heap.objs.size = some (voidS w) := Heap.get?_push_size _ rfl
  have ty : Shared.TypeIs { s with heap := s.heap.push (voidS w) } (.ref s.heap.objs.size) "set" := ⟨_, g0, rfl⟩
  have f6 := T.init.lookup
  have f7 := T.init.bind (.ref s.heap.objs.size)
  repeat (any_goals (first | assumption | wp_step))
  refine codeAny_mono (codeAny_call_builtin (R := wants (fun r s2 => r = .none ∧ ∃ g tk c, s2 = { s with heap := g, toks := tk } ∧ SetR w g s.heap.objs.size (fun j => decide (j ∈ ns)) c ∧ ∀ b o, s.heap.get? b = some o → g.get? b = some o) E)
    T.init.plain F.entry_set_init (check_set_init_1 ty ?_)) fun r s2 hr => ?_
  · obtain ⟨ob, hob, hcl, k, hd⟩ := hl
    obtain ⟨cls, dct, dat, slt⟩ := ob
    simp only at hcl hd
    subst hcl
    subst hd
    have in0 : (s.heap.push (voidS w)).get? l = some { cls := .type "list", dict := dct, data := .seq items k, slots := slt } := Heap.get?_push_of_some _ hob
    have ll : (s.heap.push (voidS w)).IsList l items := ⟨_, in0, rfl, k, rfl⟩
    have f8 := F.sub_list_set
    have f9 := F.sub_list_frozenset
    have nd : (Value.type "list" == Value.type "dict") = false := by decide
    unfold Builtin.«set.__init__» noKeywords Builtin.Frozenset.updateFrom
    generalize hP : pyIter = pI
    wp_walk
    subst hP
    refine wpAny_pyIter_list ll (wpAny_bind (wpAny_runValue ?_))
    have lt : l < s.heap.objs.size := Heap.lt_size hob
    have s1z : (s.heap.push (voidS w)).objs.size = s.heap.objs.size + 1 := Heap.size_push ..
    have n1 : l ≠ (s.heap.push (voidS w)).objs.size := by
      rw [s1z]
      exact Nat.ne_of_lt (Nat.lt_succ_of_lt lt)
    have n2 : s.heap.objs.size ∉ [(s.heap.push (voidS w)).objs.size, l] := by
      rw [s1z]
      intro z
      rcases List.mem_cons.mp z with z | z
      · exact absurd z (Nat.ne_of_lt (Nat.lt_succ_self _))
      · exact absurd (List.mem_singleton.mp z) (Nat.ne_of_gt lt)
    have val : ∀ (i : Nat) (v : Value), items[i]? = some v → ∃ k t, ns[i]? = some k ∧ v = .int k t := fun i v hv => by
      have hlt : i < ns.length := sz ▸ (Array.getElem?_eq_some_iff.mp hv).1
      obtain ⟨t, ht⟩ := hi.int_at i v (by rw [Array.getElem?_toList]; exact hv)
      refine ⟨ns[i], t, List.getElem?_eq_getElem hlt, ?_⟩
      rw [ht, List.getD_eq_getElem?_getD, List.getElem?_eq_getElem hlt] <;> rfl
    refine set_update_ints ((Walks.list (by simp [hh]) _ l n1 items).toS) s.heap.objs.size n2 ns sz hb val (items.size - 0) 0 _ rfl (Nat.zero_le _) ⟨⟨_, Heap.get?_push_size _ rfl, rfl, rfl⟩, ll.push _⟩
      ⟨0, Nat.le_refl 0, setR_new_at (Heap.get?_push_of_some _ g0)⟩ fun s' c hm _ hS => ?_
    obtain ⟨g, g2, d2, tk, o2⟩ := s'
    have e1 : g2 = s.gens := hm.gens
    have e2 : d2 = s.drawn := hm.drawn
    have e3 : o2 = s.os := hm.os
    subst e1
    subst e2
    subst e3
    refine wpAny_pure ?_
    show wpAny _ _ (ret Value.none) _ _ _
    refine wpAny_pure ⟨rfl, g, tk, c, rfl, hS, fun b o e => hm.heap b o (fun z => ?_) (Heap.get?_push_of_some _ (Heap.get?_push_of_some _ e))⟩
    have hlt := Heap.lt_size e
    rcases List.mem_cons.mp z with z | z
    · exact absurd (z ▸ hlt) (Nat.lt_irrefl _)
    · rw [List.mem_singleton, s1z] at z
      exact absurd (z ▸ hlt) (Nat.not_lt.mpr (Nat.le_add_right _ _))
  · match r, hr with
    | .error e, hr => exact hr
    | .ok (.next), hr => exact hr.elim
    | .ok (.brk), hr => exact hr.elim
    | .ok (.cont), hr => exact hr.elim
    | .ok (.ret v), hr =>
    obtain ⟨rfl, g, tk, c, rfl, hS, hk⟩ := hr
    repeat (any_goals (first | assumption | wp_step))
    exact q g tk c hS hk
end
/-- few members: all of them below 63 -/
theorem setR_few {w : World} {h : Heap} {a : Addr} {ns : List Int} {c : Nat} (R : SetR w h a (fun j => decide (j ∈ ns)) c) (hb : ∀ k ∈ ns, 0 ≤ k ∧ k < 63) : c < 64 := by
  obtain ⟨o, es, ep, t, _, _, _, _, nd, hm, _, _, hn, _⟩ := R
  have h1 : (es.toList.map keyOf).map Int.toNat ⊆ List.range 63 := fun x hx => by
    obtain ⟨k, hk, rfl⟩ := List.mem_map.mp hx
    have h2 := (hm k).mpr hk
    obtain ⟨a, b⟩ := hb k (of_decide_eq_true h2)
    rw [List.mem_range]
    omega
  have h3 : ((es.toList.map keyOf).map Int.toNat).Nodup := by
    rw [List.Nodup, List.pairwise_map]
    refine List.Pairwise.imp_of_mem ?_ nd
    intro x y hx hy ne e
    obtain ⟨a1, b1⟩ := hb x (of_decide_eq_true ((hm x).mpr hx))
    obtain ⟨a2, b2⟩ := hb y (of_decide_eq_true ((hm y).mpr hy))
    exact ne (by omega)
  have h4 := h3.length_le_of_subset h1
  rw [List.length_map, List.length_map, List.length_range, Array.length_toList, hn] at h4
  omega
section
variable {X : Cx} {a : Expr} {ta : TE} {p p2 pos q : Pos}
def tSortSet (K : PySem.W.Frag) (ta : TE) : TE := fun σ H Q => ta σ H fun x H1 => ∃ (l : Addr) (ns : List Int), x = V.ref l ∧ SqL K H1 l (ns.map V.int) ∧ ns.length ≤ 1000 ∧ (∀ k ∈ ns, 0 ≤ k ∧ k < 63) ∧
  ∀ (os : List Int) (r : Addr), os.Pairwise (· < ·) → (∀ k, k ∈ os ↔ k ∈ ns) → H1 r = none → Q (.ref r) (upd H1 r (.lst (os.map V.int)))
theorem pe_sortedSet (hc : X.calm = true) (hg : Gl X "sorted") (hm : X.mg "sorted" = none) (hg2 : Gl X "set") (hm2 : X.mg "set" = none) (ha : PE X a ta)
    (na : starEach [a] X.env = (false, eval a X.env) :: starEach [] X.env := by rfl)
    (nb : starEach [Expr.Call (.Name "set" p2) [a] [] q] X.env = [(false, eval (Expr.Call (.Name "set" p2) [a] [] q) X.env)] := by rfl) :
    PE X (.Call (.Name "sorted" p) [.Call (.Name "set" p2) [a] [] q] [] pos) (tSortSet X.K ta) := by
  refine ⟨fun pins s σ H Q I h => ?_⟩
  refine wpAny_Call_Name_kw (ld_blt I hg hm (u := .builtin "sorted") (by decide +kernel) ?_ (by decide +kernel) (by decide +kernel))
  rw [nb]
  refine PySem.callWith_builtin1 (Call_ (ld_blt I hg2 hm2 PyProof.Rows.boot_set (PyProof.Rows.callWith_type1 (PyProof.Rows.args_cons (thn (ha.run pins s σ H _ I h) fun v s1 ⟨x, H1, I1, r1, l, ns, ex, hq, h1, hb, q1⟩ => PyProof.Rows.args_nil ?_) na) na rfl)))
  subst ex
  cases r1
  obtain ⟨its, rv, pl, _⟩ := I1.list hq
  refine call_setL ns (I1.ok.hd hc) pl.isList (by simpa using rv.ints) (by show _ < 4096; omega) fun g tk c R k => ?_
  have I2 : Inv X pins σ H1 { s1 with heap := g, toks := tk } := I1.kept k
  refine sorted_set R (I2.ok.hd hc) (setR_few R hb) fun s' r out c' os k2 eg eo hr ho hi hs hmem hlen => ?_
  have n1 : H1 r = none := I2.hok.fresh hr
  have h64 := setR_few R hb
  have OB : ObjOk X.prog X.w (upd H1 r (.lst (os.map V.int))) s'.heap r (.lst (os.map V.int)) := ⟨by rw [List.length_map, hlen, sizeLine_eq]; omega, out.toList, c', vals_of_ints hi, ho⟩
  have I3 := I2.call' (s' := s') (ch := []) eo (Un.laid k2 hr n1) (I2.hok.laid k2 hr OB) (by rw [eg]; exact I2.bare) (fun _ z => nomatch z)
  exact ⟨.ref r, _, I3, rfl, q1 os r hs (fun z => by rw [hmem z, decide_eq_true_eq]) n1⟩
end
end U

/-! methods and constructors that raise -/
namespace U
open PySem PySem.Spec PyProof.Rows L2
structure HasMX (P : Program) (w : World) (K : PySem.W.Frag) (mg : Str → Option Value) (base : Heap) (C : Addr) (m : Str) (k : Nat) (ps : List Str) (sp : Sp) : Prop where
  ex : ∃ f fd, Meth K C m f ∧ Binds K fd ps [] ∧ FnOk P w K mg base (L2.CX P w) k f fd ps sp ∧ Lk K f fd
structure HasIX (P : Program) (w : World) (K : PySem.W.Frag) (mg : Str → Option Value) (base : Heap) (C : Addr) (k : Nat) (ps : List Str) (sp : Sp) : Prop where
  ex : ∃ f fd, Mk K C f ∧ Binds K fd ps [] ∧ FnOk P w K mg base (L2.CX P w) k f fd ps sp ∧ Lk K f fd
section
variable {P : Program} {w : World} {K : PySem.W.Frag} {mg : Str → Option Value} {base : Heap} {C : Addr} {m qual : Str} {st : Stmt} {ps : List Str} {k : Nat} {sp s1 s2 : Sp}
theorem DfM.hasX (d : DfM K C m qual st ps) (h : ∀ f fd, Fun K m qual st f fd → FnOk P w K mg base (L2.CX P w) k f fd ps sp) : HasMX P w K mg base C m k ps sp := by
  obtain ⟨f, fd, meth, F, bound⟩ := d.ex
  exact ⟨f, fd, meth, bound, h f fd F, Fun.lk F⟩
theorem DfI.hasX (d : DfI K C qual st ps) (h : ∀ f fd, Fun K "__init__" qual st f fd → FnOk P w K mg base (L2.CX P w) k f fd ps sp) : HasIX P w K mg base C k ps sp := by
  obtain ⟨f, fd, made, F, bound⟩ := d.ex
  exact ⟨f, fd, made, bound, h f fd F, Fun.lk F⟩
theorem fnOk_x {f : Addr} {fd : FuncData} (F : FnOk P w K mg base CX0 k f fd ps sp) : FnOk P w K mg base (L2.CX P w) k f fd ps sp := ⟨F.len, fun A outer s H args us vs Q E hr he hb hv hs => codeAny_mono (F.run A outer s H args us vs Q E hr he hb hv hs) fun r s' hq => by
  rcases r with e | _ | _ | _ | u
  · exact False.elim hq
  · exact False.elim hq
  · exact False.elim hq
  · exact False.elim hq
  · exact hq⟩
theorem fnOk_or {f : Addr} {fd : FuncData} (F1 : FnOk P w K mg base (L2.CX P w) k f fd ps s1) (F2 : FnOk P w K mg base (L2.CX P w) k f fd ps s2) : FnOk P w K mg base (L2.CX P w) k f fd ps (spOr s1 s2) :=
  ⟨fun vs H Q E h => h.elim (F1.len _ _ _ _) (F2.len _ _ _ _), fun A outer s H args us vs Q E hr he hb hv hs => hs.elim (F1.run A outer s H args us vs Q E hr he hb hv) (F2.run A outer s H args us vs Q E hr he hb hv)⟩
theorem lk_one {f : Addr} {d1 d2 : FuncData} (h1 : Lk K f d1) (h2 : Lk K f d2) : d1 = d2 := by
  obtain ⟨_, _, _, e1⟩ := h1
  obtain ⟨_, _, _, e2⟩ := h2
  have e := e1.symm.trans e2
  cases e
  rfl
theorem HasM.or (h1 : HasM P w K mg base C m k ps s1) (h2 : HasMX P w K mg base C m k ps s2) : HasMX P w K mg base C m k ps (spOr s1 s2) := by
  obtain ⟨f, fd, m1, b, F1, l1⟩ := h1.ex
  obtain ⟨f2, fd2, m2, _, F2, l2⟩ := h2.ex
  have e := m1.at_.symm.trans m2.at_
  cases e
  cases lk_one l1 l2
  exact ⟨f, fd, m1, b, fnOk_or (fnOk_x F1) F2, l1⟩
theorem HasI.or (h1 : HasI P w K mg base C k ps s1) (h2 : HasIX P w K mg base C k ps s2) : HasIX P w K mg base C k ps (spOr s1 s2) := by
  obtain ⟨f, fd, m1, b, F1, l1⟩ := h1.ex
  obtain ⟨f2, fd2, m2, _, F2, l2⟩ := h2.ex
  have e := m1.init.symm.trans m2.init
  cases e
  cases lk_one l1 l2
  exact ⟨f, fd, m1, b, fnOk_or (fnOk_x F1) F2, l1⟩
theorem HasM.toX (h : HasM P w K mg base C m k ps s1) : HasMX P w K mg base C m k ps s1 := by
  obtain ⟨f, fd, m1, b, F, l⟩ := h.ex
  exact ⟨f, fd, m1, b, fnOk_x F, l⟩
end
section
variable {X : Cx} {j k : Nat} {o e : Expr} {es : List Expr} {ta : TE} {t : TA} {C : Addr} {m x : Str} {ps : List Str} {sp : Sp} {apos p pos : Pos}
def tMethS (C : Addr) (m : Str) (sp : Sp) (E : L2.St → XK) (ta : TE) (t : TA) : TE := fun σ H Q => tMeth C m sp [] (E σ) ta t σ H Q
def tMakeS (C : Addr) (sp : Sp) (E : L2.St → XK) (t : TA) : TE := fun σ H Q => tMake C sp [] (E σ) t σ H Q
theorem pmethS {pl : Sem Bool} {W : WX} (he : PE X o ta) (c : Cls X.K C) (h : HasMX X.prog X.w X.K X.mg X.base C m k ps sp) (hr : Room j X.A) (hk : k ≤ j) (tk : Takes X W) (ha : PA X (e :: es) t) (each : starEach (e :: es) X.env = (false, eval e X.env) :: starEach es X.env := by rfl) (nostar : (backTo pos (starEach es X.env)).any (·.1) = false := by rfl)
    (ht : eval (.Call (.Attribute o m apos) (e :: es) [] pos) X.env = (do let ov ← eval o X.env; standAt apos.atName; let (f, first) ← holding [ov] (getMethod ov m pl); callWith pos f first (backTo pos (starEach (e :: es) X.env)) (backToKw pos (keywordEach [] X.env))) := by rfl) :
    PE X (.Call (.Attribute o m apos) (e :: es) [] pos) (tMethS C m sp (WE W) ta t) := by
  obtain ⟨f, fd, meth, bound, F, _⟩ := h.ex
  constructor
  intro pins s σ H Q I goal
  apply PySem.W.methodCall_KW (pl := pl) _ ht
  apply thn (he.run pins s σ H _ I goal)
  rintro u s1 ⟨_, H1, I1, rx, a, dx, fs, rfl, ea, l, q⟩
  cases rx
  apply getmeth_ok I1 ea c meth l
  apply PySem.W.callWith_K (first := [.ref a]) (h₀ := X.base) I.ok.mod.kin meth.kp _ each nostar
  apply thn (ha.run pos pins s1 σ H1 _ I1 q)
  rintro us s2 ⟨vs, H2, I2, r, q2⟩
  exact ⟨I2.kIn, run_fnSD (us := .ref a :: us) (vs := .ref a :: vs) (E := WE W) F (hr.mono hk) bound .nil (passAt tk σ) I2 (.cons rfl r) q2⟩
theorem run_makeS {W : WX} {f : Addr} {fd : FuncData} {pins : List (Addr × Obj)} {σ : L2.St} {H : Hp} {s : Shared} {Q : VK} {us : List Value} {vs : List V} (M : Mk X.K C f) (F : FnOk X.prog X.w X.K X.mg X.base (L2.CX X.prog X.w) k f fd ps sp) (room : Room (k + 1) X.A) (bound : Binds X.K fd ps []) (tk : Takes X W) (I : Inv X pins σ H s) (rel : Vals vs us)
    (prom : ∀ x dx, H x = none → H dx = none → dx ≠ x → sp (.ref x :: (vs ++ [])) (upd (upd H dx (.own x)) x (.ins C dx [])) (fun v H2 => v = .non ∧ Q (.ref x) H2) (WE W σ)) : wpAny (model X.prog X.w) X.A (call (.ref C) us) (EP X pins σ Q) X.xe s := by
  have here := prom (s.heap.objs.size + 1) s.heap.objs.size (I.hok.fresh (Nat.le_succ _)) (I.hok.fresh (Nat.le_refl _)) (Nat.ne_of_lt (Nat.lt_succ_self _))
  rw [List.append_nil] at here
  have J := Inv.made (C := C) I
  have rel2 : Vals (V.ref (s.heap.objs.size + 1) :: vs) (Value.ref (s.heap.objs.size + 1) :: us) := .cons rfl rel
  have many : (Value.ref (s.heap.objs.size + 1) :: us).length = ps.length := rel2.length.symm.trans (F.len _ _ _ _ here)
  have bnd := bound _ (Value.ref (s.heap.objs.size + 1) :: us) J.kIn (by rw [List.append_nil]; exact many)
  rw [List.append_nil] at bnd
  apply wpAny_call
  apply make_map (f := f) I.kIn M.makes M.init (beq_iff_eq.mp M.fn)
  refine codeAny_mono (F.run _ X.stack _ _ ⟨Value.ref (s.heap.objs.size + 1) :: us, []⟩ (Value.ref (s.heap.objs.size + 1) :: us) _ _ (WE W σ) (room.make C us []) (J.env0.make C us []) bnd rel2 here) ?_
  rintro (bad | _ | _ | _ | u) s2 out
  · exact passAt tk σ pins _ _ bad s2 J out
  · exact False.elim out
  · exact False.elim out
  · exact False.elim out
  · obtain ⟨v, H3, J3, rv, rfl, q3⟩ := J.after out
    exact ⟨rv, V.ref (s.heap.objs.size + 1), H3, J3, rfl, q3⟩
theorem pmakeS {W : WX} (h : HasIX X.prog X.w X.K X.mg X.base C k ps sp) (hr : Room j X.A) (hk : k + 1 ≤ j) (hg : Gl X x) (hm : X.mg x = some (.ref C)) (tk : Takes X W) (ha : PA X (e :: es) t) (hdb : (x == ("__debug__" : Str)) = false := by decide) (each : starEach (e :: es) X.env = (false, eval e X.env) :: starEach es X.env := by rfl) (nostar : (backTo pos (starEach es X.env)).any (·.1) = false := by rfl) :
    PE X (.Call (.Name x p) (e :: es) [] pos) (tMakeS C sp (WE W) t) := by
  obtain ⟨f, fd, made, bound, F, _⟩ := h.ex
  constructor
  intro pins s σ H Q I goal
  apply wpAny_Call_Name_kw
  apply ld_glob I hg hm _ hdb
  apply PySem.W.callWith_K (h₀ := X.base) I.ok.mod.kin made.kp _ each nostar
  apply thn (ha.run pos pins s σ H _ I goal)
  rintro us s1 ⟨vs, H1, I1, r, q⟩
  exact ⟨I1.kIn, run_makeS made F (hr.mono hk) bound tk I1 r q⟩
end
end U

/-! in and not in over lists of data -/
namespace U
open PySem PySem.Spec PyProof.Rows L2
variable {X : Cx} {K : PySem.W.Frag}
theorem k_inD (h : X.K = K) (hu : X.A.units + 65 < cLine) : OpR X (compareOp .In) (rInD K) := by subst h; exact op_inD hu
theorem k_notinD (h : X.K = K) (hu : X.A.units + 65 < cLine) : OpR X (compareOp .NotIn) (rNotInD K) := by subst h; exact op_notInD hu
theorem _root_.L2.Room.units65 {k : Nat} {A : Around} (r : Room k A) : A.units + 65 < cLine := by have := r.un; omega
theorem iteFe {b : Bool} {A B : Prop} (e : b = false) (h : A) : if b = true then B else A := by
  subst e
  exact if_neg (by decide : ¬ (false = true)) ▸ h
theorem iteTe {b : Bool} {A B : Prop} (e : b = true) (h : B) : if b = true then B else A := by
  subst e
  exact if_pos (rfl : true = true) ▸ h
end U

/-! functions handed over as values: what a call of one keeps, wherever it is made -/
namespace U
open PySem PySem.Spec PyProof.Rows L2 LamX NdefX
/-- at f a function stands, known as O (its code at co as Oc); wherever its captured cells hold what they hold in h, a call of it keeps sp -/
structure Clb (P : Program) (w : World) (K : PySem.W.Frag) (mg : Str → Option Value) (base : Heap) (j : Nat) (f : Addr) (O : HO) (co : Addr) (Oc : HO) (sp : Sp) (h : Heap) (H : Hp) : Prop where
  fn : ∀ (h' : Heap) (H' : Hp), HOk P w H' h' → H' f = some O → PySem.W.FnAt f h'
  ex : ∃ cs : List Addr, (∀ c ∈ cs, H c = none ∧ ∃ v, h.IsCell c v) ∧
    ∀ (A : Around) (outer : List Env) (s' : Shared) (H' : Hp) (us : List Value) (vs : List V) (Q : VK) (E : XK), A.guards = some [] → Room j A → Env0 P w K mg base A outer s' H' → H' f = some O → H' co = some Oc →
      (∀ c ∈ cs, H' c = none ∧ ∀ v, h.IsCell c v → s'.heap.IsCell c v) → Vals vs us → sp vs H' Q E → codeAny (model P w) A (.call (.ref f) ⟨us, []⟩) (CR CX0 outer P w H' s' Q E) s'
section
variable {X : Cx} {j : Nat} {f co : Addr} {O Oc : HO} {sp : Sp} {pins : List (Addr × Obj)} {σ : L2.St} {H : Hp} {s : Shared}
/-- what was so when the running frame began is so later -/
theorem Clb.later (C : Clb X.prog X.w X.K X.mg X.base j f O co Oc sp X.s_0.heap X.H_0) (hx : ∀ c, c ∉ X.ex) (I : Inv X pins σ H s) : Clb X.prog X.w X.K X.mg X.base j f O co Oc sp s.heap H := by
  obtain ⟨cs, hc, run⟩ := C.ex
  have keep : ∀ c ∈ cs, H c = none ∧ ∀ v, X.s_0.heap.IsCell c v → s.heap.IsCell c v := fun c hm => by
    obtain ⟨n, v, o, ho, hd⟩ := hc c hm
    refine ⟨I.base.free c o ho n (hx c), fun v' ⟨o', ho', hd'⟩ => ?_⟩
    obtain ⟨sl, q⟩ := I.base.any ho' n (hx c)
    exact ⟨_, q, hd'⟩
  refine ⟨C.fn, cs, fun c hm => ?_, fun A outer s' H' us vs Q E hg hr e0 h1 h2 hk rv q => run A outer s' H' us vs Q E hg hr e0 h1 h2 (fun c hm => ?_) rv q⟩
  · obtain ⟨n, v, z⟩ := hc c hm
    exact ⟨(keep c hm).1, v, (keep c hm).2 v z⟩
  · obtain ⟨n, z⟩ := hk c hm
    exact ⟨n, fun v y => z v ((keep c hm).2 v y)⟩
end
/-- a def that gets such a function -/
structure FnP (P : Program) (w : World) (K : PySem.W.Frag) (mg : Str → Option Value) (base : Heap) (j k : Nat) (f : Addr) (fd : FuncData) (ps : List Str) (sp : Addr → HO → Addr → HO → Sp → Sp) : Prop where
  len : ∀ fp O co Oc spp vs H Q E, sp fp O co Oc spp vs H Q E → vs.length = ps.length
  run : ∀ (A : Around) (outer : List Env) (s : Shared) (H : Hp) (args : Args) (us : List Value) (vs : List V) (Q : VK) (E : XK) (fp : Addr) (O : HO) (co : Addr) (Oc : HO) (spp : Sp), A.guards = some [] → Room k A → Env0 P w K mg base A outer s H → BindsTo s fd args (ps.zip us) → Vals vs us →
    Clb P w K mg base j fp O co Oc spp s.heap H → H fp = some O → H co = some Oc → sp fp O co Oc spp vs H Q E → codeAny (model P w) A (.call (.ref f) args) (CR CX0 outer P w H s Q E) s
section
variable {P : Program} {w : World} {K : PySem.W.Frag} {mg : Str → Option Value} {base : Heap}
theorem Fun.okP {x qual : Str} {st : Stmt} {f : Addr} {fd : FuncData} {N ps : List Str} {j k : Nat} {sp : Addr → HO → Addr → HO → Sp → Sp} (F : Fun K x qual st f fd) (S : FnScope N ps (defScope st)) (len : ∀ fp O co Oc spp vs H Q E, sp fp O co Oc spp vs H Q E → vs.length = ps.length)
    (body : ∀ (cdv : Value) (A : Around) (outer : List Env) (s : Shared) (H : Hp) (vs : List V) (Q : VK) (E : XK) (fp : Addr) (O : HO) (co : Addr) (Oc : HO) (spp : Sp), A.guards = some [] → Room k (A.deeper (envOfC qual (defScope st) s.heap.objs.size f cdv)) →
      Clb P w K mg base j fp O co Oc spp s.heap H → H fp = some O → H co = some Oc → sp fp O co Oc spp vs H Q E →
      ∃ t, PSs (cxOf CX0 P w K mg base N qual (defScope st) f cdv A outer s H E).nox (defBody st) t ∧ t { nx := fun _ H' => Q .non H', rt := Q } (start N vs) H) : FnP P w K mg base j (k + 1) f fd ps sp := by
  obtain ⟨oc, od, kV, doc, pm, an, cdv, ct, osl, rfl, placed, code⟩ := F.ex
  refine ⟨len, ?_⟩
  intro A outer s H args us vs Q E fp O co Oc spp quiet room env bnd vals cl h1 h2 promise
  have there : ∀ b o, base.get? b = some o → s.heap.get? b = some o := fun b o e => (env.bs b o e).1
  have kin := env.mod.kin.keeps there
  obtain ⟨t, reads, goal⟩ := body cdv A outer s H vs Q E fp O co Oc spp quiet (room.deeper _) cl h1 h2 promise
  apply codeAny_call_function room.depth (kin _ _ placed) rfl S.co S.gen rfl (PySem.W.codeRec_of kin code)
  apply bnd
  apply wpAny_newFunctionEnv_cells S.kind
  · rintro ⟨n, v⟩ hn
    exact (S.par n (List.of_mem_zip hn).1).imp id fun q => And.intro q (PySem.W.cellsFrom_some _ _ _ (Or.inl q))
  rintro _ rfl s1 made
  refine ⟨(env.mod.nolimit.keeps there).keeps made.toInCall.keep, codeAny_func ?_⟩
  refine wpAny_mono (reads.nox.run [] s1 _ H _ (inv_start S room.hd env (len _ _ _ _ _ _ _ _ _ promise) vals made) goal) ?_ fun _ _ h => h
  rintro (_ | _ | _ | u) s2 h
  · exact h.elim fun _ h => h.elim fun H' h => ⟨.non, H', h.1.os, h.1.bare, h.1.base, h.1.hok, rfl, h.2⟩
  · exact h.elim fun _ h => h.elim fun _ h => h.2.elim
  · exact h.elim fun _ h => h.elim fun _ h => h.2.elim
  · obtain ⟨v, _, H', J, rel, q⟩ := h
    exact ⟨v, H', J.os, J.bare, J.base, J.hok, rel, q⟩
end
structure HasP (P : Program) (w : World) (K : PySem.W.Frag) (mg : Str → Option Value) (base : Heap) (j : Nat) (x : Str) (k : Nat) (ps : List Str) (sp : Addr → HO → Addr → HO → Sp → Sp) : Prop where
  ex : ∃ f fd, mg x = some (.ref f) ∧ PySem.W.keepIn K (.ref f) = true ∧ Binds K fd ps [] ∧ FnP P w K mg base j k f fd ps sp ∧ Lk K f fd
theorem Df.hasP {P : Program} {w : World} {K : PySem.W.Frag} {mg : Str → Option Value} {base : Heap} {x : Str} {st : Stmt} {ps : List Str} {j k : Nat} {sp : Addr → HO → Addr → HO → Sp → Sp} (d : Df K mg x st ps)
    (h : ∀ f fd, Fun K x x st f fd → FnP P w K mg base j k f fd ps sp) : HasP P w K mg base j x k ps sp := by
  obtain ⟨f, fd, named, F, bound⟩ := d.ex
  exact ⟨f, fd, named, F.kp, bound, h f fd F, Fun.lk F⟩
/-- x(.., plan): where the plan's word comes from (CL): the running frame's own, or made there -/
abbrev Told := L2.St → Hp → Addr → HO → Addr → HO → Sp → Prop
def tCallP (t : TA) (CL : Told) (sp : Addr → HO → Addr → HO → Sp → Sp) : TE := fun σ H Q => t σ H fun vs H1 => ∃ (fp : Addr) (O : HO) (co : Addr) (Oc : HO) (spp : Sp), CL σ H1 fp O co Oc spp ∧ H1 fp = some O ∧ H1 co = some Oc ∧ sp fp O co Oc spp vs H1 Q E0
section
variable {X : Cx} {j k m : Nat} {ps : List Str} {sp : Addr → HO → Addr → HO → Sp → Sp} {x : Str} {p pos : Pos} {e : Expr} {es : List Expr} {t : TA}
theorem pcallP (h : HasP X.prog X.w X.K X.mg X.base j x k ps sp) (CL : Told) (hCL : ∀ pins σ H s fp O co Oc spp, Inv X pins σ H s → CL σ H fp O co Oc spp → H fp = some O → H co = some Oc → Clb X.prog X.w X.K X.mg X.base j fp O co Oc spp s.heap H)
    (quiet : X.A.guards = some []) (hr : Room m X.A) (hk : k ≤ m) (hg : Gl X x) (ha : PA X (e :: es) t) (hdb : (x == ("__debug__" : Str)) = false := by decide)
    (he : starEach (e :: es) X.env = (false, eval e X.env) :: starEach es X.env := by rfl) (hpl : (backTo pos (starEach es X.env)).any (·.1) = false := by rfl) :
    PE X (.Call (.Name x p) (e :: es) [] pos) (tCallP t CL sp) := by
  obtain ⟨f, fd, named, kept, bound, F, _⟩ := h.ex
  constructor
  intro pins s σ H Q I goal
  apply wpAny_Call_Name_kw
  apply ld_glob I hg named _ hdb
  apply PySem.W.callWith_K (h₀ := X.base) I.ok.mod.kin kept _ he hpl
  refine thn (ha.run pos pins s σ H _ I goal) ?_
  rintro us s1 ⟨vs, H1, I1, rel, fp, O, co, Oc, spp, cl, h1, h2, prom⟩
  refine ⟨I1.kIn, wpAny_call (codeAny_mono (F.run X.A X.stack s1 H1 ⟨us, []⟩ us vs Q E0 fp O co Oc spp quiet (hr.mono hk) I1.env0 ?_ rel (hCL pins σ H1 s1 fp O co Oc spp I1 cl h1 h2) h1 h2 prom) ?_)⟩
  · have many : us.length = ps.length := rel.length.symm.trans (F.len _ _ _ _ _ _ _ _ _ prom)
    have := bound s1 us I1.kIn (by rw [List.append_nil]; exact many)
    rwa [List.append_nil] at this
  · rintro (bad | _ | _ | _ | u) s2 out
    · exact pass0 pins σ H1 s1 bad s2 I1 out
    · exact out.elim
    · exact out.elim
    · exact out.elim
    · exact I1.after out
/-- the running frame's own plan -/
def Own (fp : Addr) (O : HO) (co : Addr) (Oc : HO) (spp : Sp) : Told := fun _ _ fp' O' co' Oc' spp' => fp' = fp ∧ O' = O ∧ co' = co ∧ Oc' = Oc ∧ spp' = spp
theorem own_told {fp co : Addr} {O Oc : HO} {spp : Sp} (C : Clb X.prog X.w X.K X.mg X.base j fp O co Oc spp X.s_0.heap X.H_0) (hx : ∀ c, c ∉ X.ex) :
    ∀ pins σ H s fp' O' co' Oc' spp', Inv X pins σ H s → Own fp O co Oc spp σ H fp' O' co' Oc' spp' → H fp' = some O' → H co' = some Oc' → Clb X.prog X.w X.K X.mg X.base j fp' O' co' Oc' spp' s.heap H := by
  rintro pins σ H s _ _ _ _ _ I ⟨rfl, rfl, rfl, rfl, rfl⟩ _ _
  exact C.later hx I
/-- plan(..), plan a local name -/
def tPlan (t : TA) (i : Nat) (fp : Addr) (O : HO) (co : Addr) (Oc : HO) (spp : Sp) : TE := fun σ H Q => σ[i]? = some (some (.ref fp)) ∧ H fp = some O ∧ t σ H fun vs H1 => H1 fp = some O ∧ H1 co = some Oc ∧ spp vs H1 Q E0
theorem pe_plan {fp co : Addr} {O Oc : HO} {spp : Sp} {i : Nat} (C : Clb X.prog X.w X.K X.mg X.base j fp O co Oc spp X.s_0.heap X.H_0) (hx : ∀ c, c ∉ X.ex) (quiet : X.A.guards = some []) (hr : Room m X.A) (hk : j ≤ m) (hN : X.N[i]? = some x) (hv : Vis X.env.scope x) (ha : PA X (e :: es) t)
    (hd : (x == ("__debug__" : Str)) = false := by decide) (hcd : (x == ("__classdict__" : Str)) = false := by decide)
    (he : starEach (e :: es) X.env = (false, eval e X.env) :: starEach es X.env := by rfl) (hpl : (backTo pos (starEach es X.env)).any (·.1) = false := by rfl) :
    PE X (.Call (.Name x p) (e :: es) [] pos) (tPlan t i fp O co Oc spp) := by
  constructor
  intro pins s σ H Q I goal
  obtain ⟨hs, h1, ht⟩ := goal
  refine wpAny_Call_Name_kw (thn ((pe_var (pos := p) hN hv hd hcd).run pins s σ H (fun v H1 => v = .ref fp ∧ H1 = H) I ⟨.ref fp, hs, rfl, rfl⟩) ?_)
  rintro u s1 ⟨v, H1, I1, r1, rfl, rfl⟩
  obtain rfl : u = Value.ref fp := r1
  have cl1 := C.later hx I1
  refine PySem.W.callWith_F (first := []) (cl1.fn _ _ I1.hok h1) (thn (ha.run pos pins s1 σ H1 _ I1 ht) ?_) he hpl
  rintro us s2 ⟨vs, H2, I2, rel, g1, g2, prom⟩
  have cl2 := C.later hx I2
  refine ⟨cl2.fn _ _ I2.hok g1, ?_⟩
  obtain ⟨cs, hc, run⟩ := cl2.ex
  refine wpAny_call (codeAny_mono (run X.A X.stack s2 H2 us vs Q E0 quiet (hr.mono hk) I2.env0 g1 g2 (fun c hm => ⟨(hc c hm).1, fun _ z => z⟩) rel prom) ?_)
  rintro (bad | _ | _ | _ | u) s3 out
  · exact pass0 pins σ H2 s2 bad s3 I2 out
  · exact out.elim
  · exact out.elim
  · exact out.elim
  · exact I2.after out
end
/-! ### what makes such functions: a def in a def -/
section
variable {P : Program} {w : World} {K : PySem.W.Frag} {mg : Str → Option Value} {base : Heap}
/-- behind the making of a function at f: all but the table stays -/
structure Made (H H1 : Hp) (T : Addr) (q : Str) (f : Addr) (O : HO) (c : Addr) : Prop where
  keep : ∀ b o, b ≠ T → H b = some o → H1 b = some o
  gone : ∀ b, H1 b = none → H b = none
  tab : TabN H1 T (fun _ _ => q)
  fresh : H f = none
  at_ : H1 f = some O
  code : H1 c = some (CodeO c q)
/-- the captured cells -/
def cellsOf (cl : List (Str × Addr)) : List Addr := cl.filterMap fun x => cl.lookup x.1
theorem mem_cellsOf {cl : List (Str × Addr)} {c : Addr} : c ∈ cellsOf cl → ∃ y, cl.lookup y = some c := fun h => by
  obtain ⟨x, _, e⟩ := List.mem_filterMap.mp h
  exact ⟨x.1, e⟩
theorem cells_named {F : NF} {fr : List Str} {ws : List (Option V)} {h h' : Heap} {H H' : Hp} (C : CellsAt F.cl fr ws h H) (k : ∀ c ∈ cellsOf F.cl, H' c = none ∧ ∀ v, h.IsCell c v → h'.IsCell c v) : CellsAt F.cl fr ws h' H' := by
  have mem : ∀ {y : Str} {c : Addr}, F.cl.lookup y = some c → c ∈ cellsOf F.cl := fun {y c} e => List.mem_filterMap.mpr ⟨_, PySem.mem_of_lookup e, e⟩
  refine ⟨C.len, fun y c e => ?_, C.inj, fun i y e => ?_⟩
  · obtain ⟨_, v, z⟩ := C.all y c e
    exact ⟨(k c (mem e)).1, v, (k c (mem e)).2 v z⟩
  · obtain ⟨c, hc, hv⟩ := C.has i y e
    refine ⟨c, hc, fun v ev => ?_⟩
    obtain ⟨u, r, z⟩ := hv v ev
    exact ⟨u, r, (k c (mem hc)).2 _ z⟩
/-- a nested def's word, by its body -/
theorem clb_def {F : NF} {f : Addr} {N ps fr : List Str} {ws : List (Option V)} {k : Nat} {sp : Sp} {h : Heap} {H : Hp} (S : NScope N ps fr F.scope) (C : CellsAt F.cl fr ws h H)
    (hb : ∀ (doc pm ctv : Value) (us : List Value), us.length = ps.length → bindArgs (F.fd doc pm ctv) ⟨us, []⟩ = pure (ps.zip us)) (len : ∀ vs H Q E, sp vs H Q E → vs.length = ps.length)
    (body : ∀ (A : Around) (outer : List Env) (s : Shared) (H : Hp) (vs : List V) (Q : VK) (E : XK), A.guards = some [] → Room k (A.deeper (envF F f s.heap.objs.size)) → H f = some (FnO f F) → H F.c = some (CodeO F.c F.qual) → sp vs H Q E →
      ∃ t, PSs (ncx CX0 P w K mg base N F f A outer s H E) F.body t ∧ t { nx := fun _ H' => Q .non H', rt := Q } (startF N vs ws) H) :
    Clb P w K mg base (k + 1) f (FnO f F) F.c (CodeO F.c F.qual) sp h H := by
  refine ⟨fun h' H' ok e => ?_, cellsOf F.cl, fun c hm => ?_, ?_⟩
  · obtain ⟨od, sl, doc, pm, ctv, ho⟩ := fnO_at ok e
    exact ⟨_, od, _, sl, ho⟩
  · obtain ⟨y, e⟩ := mem_cellsOf hm
    exact C.all y c e
  · intro A outer s H' us vs Q E quiet hr e0 hf hc hk r promise
    have C' := cells_named C hk
    have hl := len _ _ _ _ promise
    have lim : s.heap.NoLimit := e0.mod.nolimit.keeps fun b o e => (e0.bs b o e).1
    obtain ⟨od, sl, doc, pm, ctv, ho⟩ := fnO_at e0.hok hf
    apply codeAny_call_function hr.depth ho rfl S.co S.gen rfl (codeO_at e0.hok hc)
    rw [hb doc pm ctv us (by rw [← r.length]; exact hl)]
    refine wpAny_pure (wpAny_newFunctionEnv S.nocell ?_ ?_ S.kind)
    · rintro ⟨n, _⟩ hy
      exact S.par n (List.of_mem_zip hy).1
    intro h₁ hns hsb
    refine ⟨lim.fresh _ hsb, codeAny_func ?_⟩
    have kp : ∀ b o, s.heap.get? b = some o → h₁.get? b = some o := fun b o e => hsb.extBut b o (Nat.ne_of_lt (Heap.lt_size e)) (Heap.get?_push_of_some _ e)
    obtain ⟨t, reads, goal⟩ := body A outer s H' vs Q E quiet (hr.deeper _) hf hc promise
    have I : Inv (ncx CX0 P w K mg base N F f A outer s H' E) [] (startF N vs ws) H' { s with heap := h₁, toks := s.toks + (ps.zip us).length } := inv_startN S hr.hd e0 hl r C' hns kp
    refine wpAny_mono (reads.run [] _ (startF N vs ws) H' _ I goal) ?_ fun _ _ h => h
    rintro (_ | _ | _ | u) s2 h
    · exact h.elim fun _ h => h.elim fun H' h => ⟨.non, H', h.1.os, h.1.bare, h.1.base, h.1.hok, rfl, h.2⟩
    · exact h.elim fun _ h => h.elim fun _ h => h.2.elim
    · exact h.elim fun _ h => h.elim fun _ h => h.2.elim
    · obtain ⟨v, _, H', J, rel, q⟩ := h
      exact ⟨v, H', J.os, J.bare, J.base, J.hok, rel, q⟩
end
/-! ### a lambda -/
/-- the object at f is this lambda: F's words, with an expression for a body -/
def LmO (f : Addr) (F : NF) (ex : Expr) : HO := .ext fun h => ∃ (od : Option Addr) (sl : Array (Option Value)) (pm ctv : Value), h.get? f = some (⟨.type "function", od, .func (PySem.W.kla_fn "<lambda>" F.qual F.params ex F.scope F.cl pm (.ref F.c) ctv), sl⟩ : Obj)
theorem lmO_at {P : Program} {w : World} {H : Hp} {h : Heap} {f : Addr} {F : NF} {ex : Expr} (hok : HOk P w H h) (e : H f = some (LmO f F ex)) : ∃ (od : Option Addr) (sl : Array (Option Value)) (pm ctv : Value), h.get? f = some (⟨.type "function", od, .func (PySem.W.kla_fn "<lambda>" F.qual F.params ex F.scope F.cl pm (.ref F.c) ctv), sl⟩ : Obj) := by
  obtain ⟨z, _, _⟩ := hok f _ e
  exact z
theorem lmO_ne {f : Addr} {F : NF} {ex : Expr} : (∀ ps : Array Value, LmO f F ex ≠ .tbl ps) ∧ ∀ xs : List V, LmO f F ex ≠ .lst xs := ⟨fun _ z => (by unfold LmO at z; cases z), fun _ z => (by unfold LmO at z; cases z)⟩
theorem fnO_ne' {f : Addr} {F : NF} : (∀ ps : Array Value, FnO f F ≠ .tbl ps) ∧ ∀ xs : List V, FnO f F ≠ .lst xs := ⟨fun _ z => (by unfold FnO at z; cases z), fun _ z => (by unfold FnO at z; cases z)⟩
theorem cdO_ne {c : Addr} {q : Str} : (∀ ps : Array Value, CodeO c q ≠ .tbl ps) ∧ ∀ xs : List V, CodeO c q ≠ .lst xs := ⟨fun _ z => (by unfold CodeO at z; cases z), fun _ z => (by unfold CodeO at z; cases z)⟩
section
variable {X : Cx} {pins : List (Addr × Obj)} {σ : L2.St} {H : Hp} {s : Shared}
theorem inv_lm {F : NF} {ex : Expr} {o : Obj} {t' : Nat} {pm ctv : Value} (I : Inv X pins σ H s) (ho : o = { cls := .type "function", data := .func (PySem.W.kla_fn "<lambda>" F.qual F.params ex F.scope F.cl pm (.ref F.c) ctv) }) :
    Inv X pins σ (upd H s.heap.objs.size (LmO s.heap.objs.size F ex)) { s with heap := s.heap.push o, toks := t' } := by
  subst ho
  have e : (s.heap.push ({ cls := .type "function", data := .func (PySem.W.kla_fn "<lambda>" F.qual F.params ex F.scope F.cl pm (.ref F.c) ctv) } : Obj)).get? s.heap.objs.size = some ({ cls := .type "function", data := .func (PySem.W.kla_fn "<lambda>" F.qual F.params ex F.scope F.cl pm (.ref F.c) ctv) } : Obj) := Heap.get?_push_size _ rfl
  refine I.laid (a := s.heap.objs.size) (fun b u e => Heap.get?_push_of_some _ e) (Nat.le_refl _) ⟨⟨_, _, pm, ctv, e⟩, ⟨_, e⟩, ?_⟩
  rintro h1 h2 ⟨od, sl, p, t, z⟩ st
  exact ⟨od, sl, p, t, st _ z⟩
/-- behind the making: what was known stays, but for the table of its code -/
def MadeAt (H : Hp) (T : List NTab) (f c' : Addr) (O : HO) (q : Str) (H1 : Hp) : Prop := ExtN H H1 ∧ (∀ b, H1 b = none → H b = none) ∧ TabsN T H1 ∧ H f = none ∧ H1 f = some O ∧ H1 c' = some (CodeO c' q)
theorem lm_make {T : List NTab} {nm : Nat → Nat → Str} {c P : Addr} {params : Arguments} {body : Expr} {scope : Scope} {pos : Pos} {E Q : Value → Shared → Prop} (I : Inv X pins σ H s) (TB : TabB X.base X.mg c P) (hcode : X.env.code = .ref c)
    (hm : (P, nm) ∈ T) (hn : nm pos.line pos.col = X.env.qual ++ "<lambda>") (hu : ∀ p ∈ T, p.1 = P → p.2 = nm) (hT : TabsN T H) (hdef : defaultsOf params X.env = ([], [])) (hfree : ∀ y ∈ scope.names, y.2 = .free → ∃ c, X.env.cells.lookup y.1 = some c)
    (h : ∀ (f c' : Addr) (H1 : Hp) (s' : Shared), Inv X pins σ H1 s' → MadeAt H T f c' (LmO f ⟨"<lambda>", X.env.qual ++ "<lambda>", params, [], scope, cloFrom X.env.cells scope.names [], c'⟩ body) (X.env.qual ++ "<lambda>") H1 → Q (.ref f) s') :
    wpAny (model X.prog X.w) X.A (eval (.Lambda params body scope pos) X.env) Q E s := by
  obtain ⟨ps, hP, ht, ha⟩ := (show TabN H P nm from hT _ hm)
  refine PySem.W.kla_eval hdef ?_
  have bP : s.heap.BuiltinsAt X.mg P := TB.bm.keeps I.bk
  have hP' : s.heap.get? P = some { cls := .none, data := .fields ps } := I.hok P _ hP
  cases hc : codeAmong pos ps.toList with
  | none =>
    refine PySem.W.kla_makeFunction (mg := X.mg) (c := c) (P := P) (ps := ps) (closure_ok hfree) I.ok.glob (I.mod.glob.keeps I.bk) hcode (TB.code.keeps I.bk) hP' ht hc TB.gP bP ?_
    intro c' ctv h' tk hx hge hlt hrec htb
    obtain ⟨c2, oc, vs, t, e2, hoc, hd, hv⟩ := hrec
    cases e2
    have nC : H c' = none := I.hok.fresh hge
    have I1 := inv_table (t' := tk) (more := #[rawInt pos.line, rawInt pos.col, .ref c']) (h' := h') I hP (fun b o hb e => hx b o hb e) htb hge ⟨oc, vs, t, hoc, hd, hv⟩
    have kept : ExtN H (upd (upd H P (.tbl (ps ++ #[rawInt pos.line, rawInt pos.col, .ref c']))) c' (CodeO c' (X.env.qual ++ "<lambda>"))) := fun b o e n => by
      have b1 : b ≠ c' := ne_of_none e nC
      have b2 : b ≠ P := fun z => n ps (Option.some.inj (e.symm.trans (z ▸ hP)))
      rw [upd_ne b1, upd_ne b2, e]
    have T1 : TabsN T (upd (upd H P (.tbl (ps ++ #[rawInt pos.line, rawInt pos.col, .ref c']))) c' (CodeO c' (X.env.qual ++ "<lambda>"))) := fun p hp => by
      by_cases hb : p.1 = P
      · rw [hu p hp hb, hb]
        have eL : (ps ++ #[rawInt pos.line, rawInt pos.col, .ref c']).toList = ps.toList ++ [rawInt pos.line, rawInt pos.col, .ref c'] := by simp
        refine ⟨_, by rw [upd_ne (ne_of_none hP nC), upd_same], by rw [eL]; exact PySem.TriplesOk_snoc _ _ _ _ ht, fun p' cv hcv => ?_⟩
        rw [eL] at hcv
        rcases among_app2 _ ht hcv with z | ⟨z, z1, z2⟩
        · obtain ⟨c0, e1, e2⟩ := ha p' cv z
          exact ⟨c0, e1, kept _ _ e2 codeO_ne⟩
        · exact ⟨c', z, by rw [← z1, ← z2, hn]; exact upd_same⟩
      · obtain ⟨ps', a1, a2, a3⟩ := hT p hp
        refine ⟨ps', by rw [upd_ne (ne_of_none a1 nC), upd_ne hb]; exact a1, a2, fun p' cv hcv => ?_⟩
        obtain ⟨c0, e1, e2⟩ := a3 p' cv hcv
        exact ⟨c0, e1, kept _ _ e2 codeO_ne⟩
    have nF := I1.hok.fresh (Nat.le_refl _)
    have I2 := inv_lm (F := ⟨"<lambda>", X.env.qual ++ "<lambda>", params, [], scope, cloFrom X.env.cells scope.names [], c'⟩) (ex := body) (t' := tk) (pm := (X.mg "__name__").getD .none) (ctv := ctv) I1 rfl
    refine h h'.objs.size c' _ _ I2 ⟨fun b o e n => ?_, fun b e => upd_none (upd_none (upd_none e)), T1.ext fun b o e => ?_, I.hok.fresh (Nat.le_trans hge (Nat.le_of_lt hlt)), upd_same, ?_⟩
    · have e1 := kept b o e n
      exact (upd_ne (ne_of_none e1 nF)).trans e1
    · exact (upd_ne (ne_of_none e nF)).trans e
    · exact (upd_ne (Nat.ne_of_lt hlt)).trans upd_same
  | some cv =>
    obtain ⟨c', rfl, hco⟩ := ha pos cv hc
    rw [hn] at hco
    refine PySem.W.kla_makeFunctionHit (mg := X.mg) (c := c) (P := P) (ps := ps) (closure_ok hfree) I.ok.glob (I.mod.glob.keeps I.bk) hcode (TB.code.keeps I.bk) hP' ht hc bP ?_
    intro ctv h' tk hx hsz
    have I1 : Inv X pins σ H { s with heap := h', toks := tk } := I.kept hx
    have nF : H h'.objs.size = none := I1.hok.fresh (Nat.le_refl _)
    have I2 := inv_lm (F := ⟨"<lambda>", X.env.qual ++ "<lambda>", params, [], scope, cloFrom X.env.cells scope.names [], c'⟩) (ex := body) (t' := tk) (pm := (X.mg "__name__").getD .none) (ctv := ctv) I1 rfl
    refine h h'.objs.size c' _ _ I2 ⟨fun b o e n => ?_, fun b e => upd_none e, hT.ext fun b o e => ?_, nF, upd_same, ?_⟩
    · exact (upd_ne (ne_of_none e nF)).trans e
    · exact (upd_ne (ne_of_none e nF)).trans e
    · exact (upd_ne (ne_of_none hco nF)).trans hco
/-- a lambda as an expression -/
def tLm (T : List NTab) (q : Str) (mk : Addr → NF) (ex : Expr) : TE := fun σ H Q => TabsN T H ∧ ∀ (f c' : Addr) (H1 : Hp), MadeAt H T f c' (LmO f (mk c') ex) q H1 → Q (.ref f) H1
theorem pe_lm {T : List NTab} {nm : Nat → Nat → Str} {c P : Addr} {params : Arguments} {body : Expr} {scope : Scope} {pos : Pos} (TB : TabB X.base X.mg c P) (hcode : X.env.code = .ref c) (hm : (P, nm) ∈ T) (hn : nm pos.line pos.col = X.env.qual ++ "<lambda>") (hu : ∀ p ∈ T, p.1 = P → p.2 = nm)
    (hdef : defaultsOf params X.env = ([], [])) (hfree : ∀ y ∈ scope.names, y.2 = .free → X.env.scope.names.lookup y.1 = some .cell ∨ X.env.scope.names.lookup y.1 = some .free) :
    PE X (.Lambda params body scope pos) (tLm T (X.env.qual ++ "<lambda>") (fun c' => ⟨"<lambda>", X.env.qual ++ "<lambda>", params, [], scope, cloFrom X.env.cells scope.names [], c'⟩) body) := by
  constructor
  intro pins s σ H Q I goal
  obtain ⟨hT, goal⟩ := goal
  refine lm_make I TB hcode hm hn hu hT hdef (fun y hy e => (hfree y hy e).elim (fun z => I.ok.has _ (.inl z)) fun z => I.ok.has _ (.inr z)) ?_
  intro f c' H1 s' I1 made
  exact ⟨.ref f, H1, I1, rfl, goal f c' H1 made⟩
end
section
variable {P : Program} {w : World} {K : PySem.W.Frag} {mg : Str → Option Value} {base : Heap}
theorem lookup_of_nodup {l : List (Str × Addr)} (ndl : (l.map (·.1)).Nodup) {y : Str} {c : Addr} (hy : (y, c) ∈ l) : l.lookup y = some c := by
  induction l with
  | nil => cases hy
  | cons a r ih =>
    obtain ⟨z, d⟩ := a
    rw [List.map_cons, List.nodup_cons] at ndl
    rcases List.mem_cons.mp hy with e | hy
    · cases e
      simp [List.lookup]
    · have hne : ¬ y = z := fun e => ndl.1 (List.mem_map.mpr ⟨_, hy, e⟩)
      rw [List.lookup_cons, beq_eq_false_iff_ne.mpr hne]
      exact ih ndl.2 hy
/-- a lambda's word, by its body -/
theorem clb_lm {F : NF} {ex : Expr} {f : Addr} {N ps fr : List Str} {ws : List (Option V)} {k : Nat} {sp : Sp} {h : Heap} {H : Hp} (S : NScope N ps fr F.scope) (C : CellsAt F.cl fr ws h H)
    (hb : ∀ (pm ctv : Value) (us : List Value), us.length = ps.length → bindArgs (PySem.W.kla_fn "<lambda>" F.qual F.params ex F.scope F.cl pm (.ref F.c) ctv) ⟨us, []⟩ = pure (ps.zip us)) (len : ∀ vs H Q E, sp vs H Q E → vs.length = ps.length)
    (body : ∀ (A : Around) (outer : List Env) (s : Shared) (H : Hp) (vs : List V) (Q : VK) (E : XK), A.guards = some [] → Room k (A.deeper (envF F f s.heap.objs.size)) → H f = some (LmO f F ex) → H F.c = some (CodeO F.c F.qual) → sp vs H Q E →
      ∃ t, PE (ncx CX0 P w K mg base N F f A outer s H E) ex t ∧ t (startF N vs ws) H Q) :
    Clb P w K mg base (k + 1) f (LmO f F ex) F.c (CodeO F.c F.qual) sp h H := by
  refine ⟨fun h' H' ok e => ?_, cellsOf F.cl, fun c hm => ?_, ?_⟩
  · obtain ⟨od, sl, pm, ctv, ho⟩ := lmO_at ok e
    exact ⟨_, od, _, sl, ho⟩
  · obtain ⟨y, e⟩ := mem_cellsOf hm
    exact C.all y c e
  · intro A outer s H' us vs Q E quiet hr e0 hf hc hk r promise
    have C' := cells_named C hk
    have hl := len _ _ _ _ promise
    have lim : s.heap.NoLimit := e0.mod.nolimit.keeps fun b o e => (e0.bs b o e).1
    obtain ⟨od, sl, pm, ctv, ho⟩ := lmO_at e0.hok hf
    refine PySem.W.kla_callFunE hr.depth ho rfl S.co S.gen rfl (codeO_at e0.hok hc) ?_
    rw [hb pm ctv us (by rw [← r.length]; exact hl)]
    refine wpAny_pure (wpAny_newFunctionEnv S.nocell ?_ ?_ S.kind)
    · rintro ⟨n, _⟩ hy
      exact S.par n (List.of_mem_zip hy).1
    intro h₁ hns hsb
    refine ⟨lim.fresh _ hsb, ?_⟩
    have kp : ∀ b o, s.heap.get? b = some o → h₁.get? b = some o := fun b o e => hsb.extBut b o (Nat.ne_of_lt (Heap.lt_size e)) (Heap.get?_push_of_some _ e)
    obtain ⟨t, reads, goal⟩ := body A outer s H' vs Q E quiet (hr.deeper _) hf hc promise
    have I : Inv (ncx CX0 P w K mg base N F f A outer s H' E) [] (startF N vs ws) H' { s with heap := h₁, toks := s.toks + (ps.zip us).length } := inv_startN S hr.hd e0 hl r C' hns kp
    refine PySem.W.kla_codeExpr (wpAny_mono (reads.run [] _ (startF N vs ws) H' _ I goal) ?_ fun _ _ h => h)
    rintro v s2 ⟨x, H2, J, rel, q⟩
    exact ⟨x, H2, J.os, J.bare, J.base, J.hok, rel, q⟩
end
end U

namespace U
open PySem PySem.Spec PyProof.Rows L2
def topS (i : Nat) : Stmt := PySem.Challenge.pw_untriedways_k15_whole_parties_back_and_c.main.body.getD i (.Pass ⟨0, 0, 0, 0⟩)
section
variable {P : Program} {w : World} {K : PySem.W.Frag} {mg : Str → Option Value} {base : Heap}
abbrev s_is_integer : Stmt := topS 7
abbrev sl_is_integer : List Str := ["thing"]
theorem sc_is_integer : FnScope ["thing"] ["thing"] (defScope s_is_integer) := ⟨rfl, rfl, rfl, by decide +kernel, rfl, by decide +kernel, by decide +kernel⟩
def spIsInteger (K : PySem.W.Frag) : Sp := fun vs H Q _ => ∃ v s, vs = [v] ∧ Kn K H v s ∧ Q (.bl (isI v)) H
theorem ok_is_integer (B : Bt mg) (D : Df K mg "is_integer" s_is_integer ["thing"]) : Has P w K mg base "is_integer" 1 ["thing"] (spIsInteger K) := by
  refine D.has fun f fd F => F.ok sc_is_integer (fun vs H Q E h => ?_) (fun cdv A outer s H vs Q E hr h => ?_)
  · obtain ⟨v, s, rfl, _⟩ := h
    rfl
  · obtain ⟨v, s, rfl, hv, q⟩ := h
    refine ⟨_, (pss_one (ps_ret (pe_and (pe_callB (k_isi (K := K) rfl) (by rfl) B.isinstance bo_isinstance (pa_cons (pv 0) (pa_cons (pe_bltn (v := .ty "int") (by rfl) B.int bo_int rfl) pa_nil))) (pe_one (pe_not (pe_callB (k_isi (K := K) rfl) (by rfl) B.isinstance bo_isinstance (pa_cons (pv 0) (pa_cons (pe_bltn (v := .ty "bool") (by rfl) B.bool bo_bool rfl) pa_nil)))))))), ?_⟩
    refine ⟨v, rfl, v, .ty "int", _, _, _, rfl, .ty "int", hv.ty, kit_int hv.mem, _, rfl, ?_⟩
    have e := kn_int hv
    by_cases h1 : (s == "int" || s == "bool") = true
    · rw [h1]
      refine iteT ?_
      refine ⟨v, rfl, v, .ty "bool", _, _, _, rfl, .ty "bool", hv.ty, kit_bool hv.mem, _, rfl, ?_⟩
      have e2 : isI v = !(s == "bool") := by
        rw [e]
        simp only [Bool.or_eq_true, beq_iff_eq] at h1
        rcases h1 with rfl | rfl <;> rfl
      rw [← e2]
      exact q
    · have e2 : isI v = false := by
        rw [e]
        simp only [Bool.or_eq_true, not_or] at h1
        simpa using h1.1
      rw [Bool.eq_false_iff.mpr h1]
      refine iteF ?_
      rw [e2] at q
      exact q

abbrev s_is_index : Stmt := topS 8
abbrev sl_is_index : List Str := ["thing", "many"]
theorem sc_is_index : FnScope ["thing", "many"] ["thing", "many"] (defScope s_is_index) := ⟨rfl, rfl, rfl, by decide +kernel, rfl, by decide +kernel, by decide +kernel⟩
def spIsIndex (K : PySem.W.Frag) : Sp := fun vs H Q _ => ∃ (v : V) (s : String) (m : Int), vs = [v, .int m] ∧ Kn K H v s ∧ Q (.bl (idxV v m)) H
theorem ok_is_index (h_is_integer : Has P w K mg base "is_integer" 1 ["thing"] (spIsInteger K)) (D : Df K mg "is_index" s_is_index ["thing", "many"]) : Has P w K mg base "is_index" 2 ["thing", "many"] (spIsIndex K) := by
  refine D.has fun f fd F => F.ok sc_is_index (fun vs H Q E h => ?_) (fun cdv A outer s H vs Q E hr h => ?_)
  · obtain ⟨v, s, m, rfl, _⟩ := h
    rfl
  · obtain ⟨v, s, m, rfl, hv, q⟩ := h
    refine ⟨_, (pss_one (ps_ret (pe_and (pcall h_is_integer hr (by decide) (by rfl) (pa_cons (pv 0) pa_nil)) (pe_one (pe_chain op_le op_lt pe_int (pv 0) (pv 1)))))), ?_⟩
    refine ⟨v, rfl, v, s, rfl, hv, _, rfl, ?_⟩
    cases v with
    | int i =>
      refine iteT ?_
      refine ⟨_, rfl, _, _, rfl, rfl, _, rfl, ?_⟩
      by_cases h0 : (0 : Int) ≤ i
      · rw [decide_eq_true h0]
        refine iteT ?_
        refine ⟨_, rfl, _, _, rfl, rfl, ?_⟩
        have e : idxV (.int i) m = decide (i < m) := by
          show (decide (0 ≤ i) && decide (i < m)) = decide (i < m)
          rw [decide_eq_true h0, Bool.true_and]
        rw [e] at q
        exact q
      · rw [decide_eq_false h0]
        refine iteF ?_
        have e : idxV (.int i) m = false := by
          show (decide (0 ≤ i) && decide (i < m)) = false
          rw [decide_eq_false h0, Bool.false_and]
        rw [e] at q
        exact q
    | _ => exact iteF q

abbrev s_is_any_lot : Stmt := topS 9
abbrev sl_is_any_lot : List Str := ["thing", "last", "item"]
theorem sc_is_any_lot : FnScope ["thing", "last", "item"] ["thing"] (defScope s_is_any_lot) := ⟨rfl, rfl, rfl, by decide +kernel, rfl, by decide +kernel, by decide +kernel⟩
/-- strictly ascending integers above l -/
def ascFrom : Int → List V → Bool
  | _, [] => true
  | l, .int i :: r => decide (l < i) && ascFrom i r
  | _, _ :: _ => false
theorem ascFrom_cons {l : Int} {x : V} {r : List V} : ascFrom l (x :: r) = (match x with | .int i => decide (l < i) && ascFrom i r | _ => false) := by
  cases x <;> rfl
def spAnyLot (K : PySem.W.Frag) : Sp := fun vs H Q _ => ∃ v : V, vs = [v] ∧
  ((∃ a xs, v = .ref a ∧ SqT K H a xs ∧ (∀ x ∈ xs, ∃ s, Kn K H x s) ∧ Q (.bl (ascFrom (-1) xs)) H) ∨ (∃ s, Kn K H v s ∧ (s == "tuple") = false ∧ Q (.bl false) H))
theorem ok_is_any_lot (B : Bt mg) (h_is_integer : Has P w K mg base "is_integer" 1 ["thing"] (spIsInteger K)) (D : Df K mg "is_any_lot" s_is_any_lot ["thing"]) : Has P w K mg base "is_any_lot" 2 ["thing"] (spAnyLot K) := by
  refine D.has fun f fd F => F.ok sc_is_any_lot (fun vs H Q E h => ?_) (fun cdv A outer s H vs Q E hr h => ?_)
  · obtain ⟨v, rfl, _⟩ := h
    rfl
  · obtain ⟨v, rfl, h⟩ := h
    refine ⟨_, (pss_cons (ps_if (pt_not (pt_val (pe_callB (k_isi (K := K) rfl) (by rfl) B.isinstance bo_isinstance (pa_cons (pv 0) (pa_cons (pe_bltn (v := .ty "tuple") (by rfl) B.tuple bo_tuple rfl) pa_nil)))))
    (pss_one (ps_ret pe_bl))
    pss_nil)
  (pss_cons (ps_set (i := 1) sc_is_any_lot.nd rfl (.inl rfl) (pe_un un_neg pe_int))
  (pss_cons (ps_for PassesOwn.never rfl (k_pit (K := K) rfl (pv 0)) (pg_name (i := 2) sc_is_any_lot.nd rfl (.inl rfl))
    (pss_cons (ps_if (PW.pt (pw_or (pt_not (pt_val (pcall h_is_integer hr (by decide) (by rfl) (pa_cons (pv 2) pa_nil)))) (pw_or1 (pt_cmpR op_le (pv 2) (pv 1) (nomark _)))))
    (pss_one (ps_ret pe_bl))
    pss_nil)
  (pss_one (ps_set (i := 1) sc_is_any_lot.nd rfl (.inl rfl) (pv 2)))))
  (pss_one (ps_ret pe_bl))))), ?_⟩
    rcases h with ⟨a, xs, rfl, hS, hk, q⟩ | ⟨s, hv, hs, q⟩
    · refine ⟨_, rfl, _, .ty "tuple", _, _, _, rfl, .ty "tuple", (kn_of_tup hS).ty, kit_tuple (kn_of_tup hS).mem, _, rfl, iteF ?_⟩
      refine ⟨1, rfl, ?_⟩
      refine ⟨_, rfl, a, rfl, ⟨_, hS⟩, ?_⟩
      refine for_tup (xs := xs) (fun i σ H' => H' = H ∧ ∃ last it, σ = [some (.ref a), some (.int last), it] ∧ ascFrom (-1) xs = ascFrom last (xs.drop i)) ⟨rfl, -1, none, rfl, rfl⟩ ?_ ?_ ?_
      · rintro i σ H' _ ⟨rfl, _⟩
        exact hS
      · rintro i x σ H' hx ⟨rfl, last, it, rfl, e⟩
        obtain ⟨s, hs⟩ := hk x (List.mem_of_getElem? hx)
        rw [drop_cons_of hx, ascFrom_cons] at e
        refine ⟨x, rfl, x, s, rfl, hs, _, rfl, ?_⟩
        cases x with
        | int z =>
          simp only at e
          refine iteF ?_
          refine ⟨_, rfl, _, rfl, z, last, rfl, rfl, _, rfl, ?_⟩
          by_cases h2 : z ≤ last
          · rw [decide_eq_true h2]
            refine iteT ?_
            have e2 : ascFrom (-1) xs = false := by
              rw [e, decide_eq_false (by omega), Bool.false_and]
            rw [e2] at q
            exact q
          · rw [decide_eq_false h2]
            refine iteF ?_
            refine ⟨.int z, rfl, rfl, z, _, rfl, ?_⟩
            rw [e, decide_eq_true (by omega), Bool.true_and]
        | _ =>
          refine iteT (iteT ?_)
          simp only at e
          rw [e] at q
          exact q
      · rintro σ H' ⟨rfl, last, it, rfl, e⟩
        rw [List.drop_length] at e
        have e2 : ascFrom (-1) xs = true := e
        rw [e2] at q
        exact q
    · refine ⟨_, rfl, _, .ty "tuple", _, _, _, rfl, .ty "tuple", hv.ty, kit_tuple hv.mem, _, rfl, ?_⟩
      rw [hs]
      exact iteT q

abbrev s_is_lot : Stmt := topS 10
abbrev sl_is_lot : List Str := ["thing", "many"]
theorem sc_is_lot : FnScope ["thing", "many"] ["thing", "many"] (defScope s_is_lot) := ⟨rfl, rfl, rfl, by decide +kernel, rfl, by decide +kernel, by decide +kernel⟩
def spIsLot (K : PySem.W.Frag) : Sp := fun vs H Q _ => ∃ (v : V) (m : Int), vs = [v, .int m] ∧
  ((∃ a xs, v = .ref a ∧ SqT K H a xs ∧ (∀ x ∈ xs, ∃ s, Kn K H x s) ∧ Q (.bl (lotFrom m (-1) xs)) H) ∨ (∃ s, Kn K H v s ∧ (s == "tuple") = false ∧ Q (.bl false) H))
theorem lotFrom_cons {m l : Int} {x : V} {r : List V} : lotFrom m l (x :: r) = (match x with | .int i => idxV x m && decide (l < i) && lotFrom m i r | _ => false) := by
  cases x <;> rfl
/-- the last one is an integer below m, if there is one -/
def lastLt (m : Int) (xs : List V) : Prop := ∀ z, xs.getLast? = some z → ∃ i, z = .int i ∧ i < m
theorem asc_last : ∀ {xs : List V} {l : Int}, ascFrom l xs = true → ∀ z, xs.getLast? = some z → ∃ i, z = .int i ∧ l < i
  | [], _, _, _, h => by cases h
  | .int i :: r, l, h, z, hz => by
    have h' : (decide (l < i) && ascFrom i r) = true := h
    rw [Bool.and_eq_true, decide_eq_true_eq] at h'
    cases r with
    | nil =>
      cases hz
      exact ⟨i, rfl, h'.1⟩
    | cons y r =>
      rw [List.getLast?_cons_cons] at hz
      obtain ⟨j, e, hj⟩ := asc_last h'.2 z hz
      exact ⟨j, e, by omega⟩
  | .non :: _, _, h, _, _ => by cases h
  | .bl _ :: _, _, h, _, _ => by cases h
  | .str _ :: _, _, h, _, _ => by cases h
  | .byt _ :: _, _, h, _, _ => by cases h
  | .flt _ :: _, _, h, _, _ => by cases h
  | .ref _ :: _, _, h, _, _ => by cases h
  | .ty _ :: _, _, h, _, _ => by cases h
theorem lot_asc {m : Int} : ∀ {xs : List V} {l : Int}, -1 ≤ l → (lotFrom m l xs = true ↔ ascFrom l xs = true ∧ lastLt m xs)
  | [], _, _ => ⟨fun _ => ⟨rfl, fun z h => by cases h⟩, fun _ => rfl⟩
  | .int i :: r, l, hl => by
    have e1 : lotFrom m l (.int i :: r) = (decide (0 ≤ i) && decide (i < m) && decide (l < i) && lotFrom m i r) := rfl
    have e2 : ascFrom l (.int i :: r) = (decide (l < i) && ascFrom i r) := rfl
    rw [e1, e2]
    simp only [Bool.and_eq_true, decide_eq_true_eq]
    constructor
    · rintro ⟨⟨⟨h1, h2⟩, h3⟩, h4⟩
      obtain ⟨h5, h6⟩ := (lot_asc (l := i) (by omega)).mp h4
      refine ⟨⟨h3, h5⟩, fun z hz => ?_⟩
      cases r with
      | nil => cases hz; exact ⟨i, rfl, h2⟩
      | cons y r => rw [List.getLast?_cons_cons] at hz; exact h6 z hz
    · rintro ⟨⟨h3, h5⟩, h6⟩
      have h7 : lastLt m r := fun z hz => by
        cases r with
        | nil => cases hz
        | cons y r => exact h6 z (by rw [List.getLast?_cons_cons]; exact hz)
      refine ⟨⟨⟨by omega, ?_⟩, h3⟩, (lot_asc (l := i) (by omega)).mpr ⟨h5, h7⟩⟩
      cases r with
      | nil =>
        obtain ⟨j, e, hj⟩ := h6 _ rfl
        cases e
        exact hj
      | cons y r =>
        cases e : (y :: r).getLast? with
        | none => simp at e
        | some z =>
          obtain ⟨j, e3, hj⟩ := asc_last h5 z e
          obtain ⟨j', e4, hj'⟩ := h7 z e
          rw [e3] at e4
          cases e4
          omega
  | .non :: _, _, _ => ⟨fun h => (by cases h), fun h => (by cases h.1)⟩
  | .bl _ :: _, _, _ => ⟨fun h => (by cases h), fun h => (by cases h.1)⟩
  | .str _ :: _, _, _ => ⟨fun h => (by cases h), fun h => (by cases h.1)⟩
  | .byt _ :: _, _, _ => ⟨fun h => (by cases h), fun h => (by cases h.1)⟩
  | .flt _ :: _, _, _ => ⟨fun h => (by cases h), fun h => (by cases h.1)⟩
  | .ref _ :: _, _, _ => ⟨fun h => (by cases h), fun h => (by cases h.1)⟩
  | .ty _ :: _, _, _ => ⟨fun h => (by cases h), fun h => (by cases h.1)⟩
theorem ok_is_lot (B : Bt mg) (h_is_any_lot : Has P w K mg base "is_any_lot" 2 ["thing"] (spAnyLot K)) (D : Df K mg "is_lot" s_is_lot ["thing", "many"]) : Has P w K mg base "is_lot" 3 ["thing", "many"] (spIsLot K) := by
  refine D.has fun f fd F => F.ok sc_is_lot (fun vs H Q E h => ?_) (fun cdv A outer s H vs Q E hr h => ?_)
  · obtain ⟨v, m, rfl, _⟩ := h
    rfl
  · obtain ⟨v, m, rfl, h⟩ := h
    refine ⟨_, (pss_one (ps_ret (pe_and (pcall h_is_any_lot hr (by decide) (by rfl) (pa_cons (pv 0) pa_nil)) (pe_one (pe_or (pe_cmpR op_eq (pe_callB (k_len (K := K) rfl) (by rfl) B.len bo_len (pa_cons (pv 0) pa_nil)) pe_int (nomark _)) (pe_one (pe_cmpR op_lt (pe_ix (k_ixt (K := K) rfl) (pv 0) (pe_un un_neg pe_int) (fun _ _ => rfl)) (pv 1) (nomark _)))))))), ?_⟩
    rcases h with ⟨a, xs, rfl, hS, hk, q⟩ | ⟨s, hv, hs, q⟩
    · refine ⟨_, rfl, .ref a, rfl, .inl ⟨a, xs, rfl, hS, hk, _, rfl, ?_⟩⟩
      cases e : ascFrom (-1) xs with
      | false =>
        have e2 : lotFrom m (-1) xs = false := by
          rw [Bool.eq_false_iff]
          intro z
          rw [((lot_asc (Int.le_refl _)).mp z).1] at e
          cases e
        rw [e2] at q
        exact iteF q
      | true =>
        refine iteT ?_
        refine ⟨_, rfl, a, _, rfl, .inr hS, rfl, _, rfl, ?_⟩
        rcases List.eq_nil_or_concat xs with rfl | ⟨ys, v, rfl⟩
        · exact iteT q
        · rw [List.concat_eq_append] at *
          obtain ⟨i, rfl, _⟩ := asc_last e v (by simp)
          rw [decide_eq_false (by
            intro z
            injection z with z
            rw [List.length_append, List.length_singleton] at z
            omega)]
          refine iteF ?_
          refine ⟨_, rfl, 1, rfl, a, _, -1, _, rfl, rfl, hS, atI_last _ _, _, rfl, i, m, rfl, rfl, ?_⟩
          have e2 : lotFrom m (-1) (ys ++ [.int i]) = decide (i < m) := by
            rw [Bool.eq_iff_iff, lot_asc (Int.le_refl _), decide_eq_true_eq]
            constructor
            · rintro ⟨_, h⟩
              obtain ⟨j, z, hj⟩ := h (.int i) (by simp)
              cases z
              exact hj
            · intro h
              exact ⟨e, fun z hz => ⟨i, by simpa using hz.symm, h⟩⟩
          rw [e2] at q
          exact q
    · refine ⟨_, rfl, v, rfl, .inr ⟨s, hv, hs, _, rfl, iteF q⟩⟩

abbrev s_marks : Stmt := topS 12
abbrev sl_marks : List Str := ["many", "lot", "marked", "item"]
theorem sc_marks : FnScope ["many", "lot", "marked", "item"] ["many", "lot"] (defScope s_marks) := ⟨rfl, rfl, rfl, by decide +kernel, rfl, by decide +kernel, by decide +kernel⟩
def mks (n : Nat) (ls : List Nat) : List Bool := (List.range n).map fun i => decide (i ∈ ls)
theorem mks_nil (n : Nat) : (mks n []).map V.bl = (List.replicate n [V.bl false]).flatten := by
  unfold mks
  rw [List.map_map]
  apply List.ext_getElem?
  intro i
  have e : (List.replicate n [V.bl false]).flatten = List.replicate n (V.bl false) := by
    induction n with
    | zero => rfl
    | succ n ih => rw [List.replicate_succ, List.flatten_cons, ih, List.replicate_succ]; rfl
  rw [e, List.getElem?_map, List.getElem?_replicate]
  by_cases h : i < n
  · rw [List.getElem?_range h, if_pos h]
    simp
  · rw [List.getElem?_eq_none (by simpa using h), if_neg h]
    rfl
theorem mks_snoc {n : Nat} {ls : List Nat} {z : Nat} : ((mks n ls).map V.bl).set z (.bl true) = (mks n (ls ++ [z])).map V.bl := by
  unfold mks
  rw [List.map_map, List.map_map, set_map_range]
  refine List.map_congr_left fun i _ => ?_
  by_cases h : i = z
  · subst h
    rw [if_pos rfl]
    simp
  · rw [if_neg h]
    simp [h]
theorem mks_length (n : Nat) (ls : List Nat) : (mks n ls).length = n := by
  unfold mks
  rw [List.length_map, List.length_range]
theorem mks_get {n : Nat} {ls : List Nat} {j : Nat} (h : j < n) : ((mks n ls).map V.bl)[j]? = some (.bl (decide (j ∈ ls))) := by
  unfold mks
  rw [List.map_map, get_map_range h]
  rfl
def spMarks (K : PySem.W.Frag) : Sp := fun vs H Q _ => ∃ (n : Nat) (a : Addr) (ls : List Nat), vs = [.int (n : Int), .ref a] ∧ SqT K H a (ls.map nV) ∧ (∀ z ∈ ls, z < n) ∧ n ≤ 100000 ∧
  ∀ p H', Same H H' → H p = none → H' p = some (.lst ((mks n ls).map V.bl)) → Q (.ref p) H'
theorem ok_marks (D : Df K mg "marks" s_marks ["many", "lot"]) : Has P w K mg base "marks" 1 ["many", "lot"] (spMarks K) := by
  refine D.has fun f fd F => F.ok sc_marks (fun vs H Q E h => ?_) (fun cdv A outer s H vs Q E hr h => ?_)
  · obtain ⟨n, a, ls, rfl, _⟩ := h
    rfl
  · obtain ⟨n, a, ls, rfl, hS, hl, hn, q⟩ := h
    refine ⟨_, (pss_cons (ps_set (i := 2) sc_marks.nd rfl (.inl rfl) (pe_op op_rep (pe_lst (pa_cons pe_bl pa_nil)) (pv 0)))
  (pss_cons (ps_for PassesOwn.never rfl (k_pit (K := K) rfl (pv 1)) (pg_name (i := 3) sc_marks.nd rfl (.inl rfl))
    (pss_one (ps_asg pe_bl (pg_sub (pv 2) (pv 3) set_list))))
  (pss_one (ps_ret (pv 2))))), ?_⟩
    refine ⟨by show 1 ≤ sizeLine; decide, fun p1 n1 => ⟨_, rfl, p1, (n : Int), _, rfl, rfl, upd_same, by omega, by omega, by show 1 * (n : Int).toNat ≤ sizeLine; rw [Nat.one_mul]; exact small_sz (by omega), fun p2 n2 => ?_⟩⟩
    have s1 := same_new (o := .lst [V.bl false]) (Same.refl H) n1
    have h2 : H p2 = none := s1.free n2
    refine ⟨_, rfl, a, rfl, ⟨_, Same.sqt (same_new s1 n2) hS⟩, ?_⟩
    refine for_tup (xs := ls.map nV) (fun i σ H' => Same H H' ∧ H' p2 = some (.lst ((mks n (ls.take i)).map V.bl)) ∧ ∃ it, σ = [some (.int (n : Int)), some (.ref a), some (.ref p2), it]) ⟨same_new s1 n2, ?_, none, rfl⟩ ?_ ?_ ?_
    · rw [upd_same, List.take_zero, mks_nil]
      rfl
    · rintro i σ H' _ ⟨sm, _⟩
      exact Same.sqt sm hS
    · rintro i x σ H' hx ⟨sm, hp, it, rfl⟩
      obtain ⟨z, hz, rfl⟩ := getmap hx
      have hzn := hl z (List.mem_of_getElem? hz)
      refine ⟨_, rfl, _, rfl, p2, _, (z : Int), z, rfl, rfl, hp, by rw [List.length_map, mks_length]; exact ixN_nat hzn, ?_⟩
      refine ⟨same_mut sm h2, ?_, _, rfl⟩
      rw [upd_same, mks_snoc, take_snoc_of hz]
    · rintro σ H' ⟨sm, hp, it, rfl⟩
      rw [List.length_map, List.take_length] at hp
      exact ⟨_, rfl, q p2 H' sm h2 hp⟩

abbrev s_pairs_left : Stmt := topS 14
abbrev sl_pairs_left : List Str := ["arrows", "rotten", "gone", "arrow", "pair"]
theorem sc_pairs_left : FnScope ["arrows", "rotten", "gone", "arrow", "pair"] ["arrows", "rotten"] (defScope s_pairs_left) := ⟨rfl, rfl, rfl, by decide +kernel, rfl, by decide +kernel, by decide +kernel⟩
def leftV {α : Type} (xs : List α) (ls : List Nat) : List α := (List.range xs.length).filterMap fun i => if i ∈ ls then none else xs[i]?
def spPairsLeft (K : PySem.W.Frag) : Sp := fun vs H Q _ => ∃ (a b : Addr) (xs : List V) (ls : List Nat), vs = [.ref a, .ref b] ∧ SqT K H a xs ∧ SqT K H b (ls.map nV) ∧ (∀ z ∈ ls, z < xs.length) ∧ xs.length ≤ 100000 ∧
  ∀ p H', Same H H' → H p = none → H' p = some (.lst (leftV xs ls)) → Q (.ref p) H'
theorem ok_pairs_left (B : Bt mg) (h_marks : Has P w K mg base "marks" 1 ["many", "lot"] (spMarks K)) (D : Df K mg "pairs_left" s_pairs_left ["arrows", "rotten"]) : Has P w K mg base "pairs_left" 2 ["arrows", "rotten"] (spPairsLeft K) := by
  refine D.has fun f fd F => F.ok sc_pairs_left (fun vs H Q E h => ?_) (fun cdv A outer s H vs Q E hr h => ?_)
  · obtain ⟨a, b, xs, ls, rfl, _⟩ := h
    rfl
  · obtain ⟨a, b, xs, ls, rfl, hA, hB, hl, hn, q⟩ := h
    refine ⟨_, (pss_cons (ps_set (i := 2) sc_pairs_left.nd rfl (.inr rfl) (pcall h_marks hr (by decide) (by rfl) (pa_cons (pe_callB (k_len (K := K) rfl) (by rfl) B.len bo_len (pa_cons (pv 0) pa_nil)) (pa_cons (pv 1) pa_nil))))
  (pss_one (ps_ret (pe_lc (own := [("arrow", 3), ("pair", 4)]) (g := gTup K 2 (gCons (gName 3) (gCons (gName 4) gNil))) rfl sc_pairs_left.nd (pi_enumT (by rfl) B.enumerate (pa_cons (pv 0) pa_nil)) (blkOk_by (N := sl_pairs_left) (sc := defScope s_pairs_left) (by decide +kernel)) (fun _ _ _ _ _ => (pg_tup rfl (pgs_cons (pg_name (i := 3) sc_pairs_left.nd rfl (.inl rfl)) (pgs_cons (pg_name (i := 4) sc_pairs_left.nd rfl (.inl rfl)) pgs_nil)))) (fun _ _ _ _ _ => pts_one (pt_not (pt_val (pe_ix (k_ixl (K := K) rfl) (pv 2) (pv 3) (fun _ _ => rfl))))) (fun _ _ _ _ _ => (pv 4)))))), ?_⟩
    refine ⟨_, rfl, ⟨a, xs, rfl, .inr hA, _, rfl, xs.length, b, ls, rfl, hB, hl, hn, fun g H1 s1 ng hg => ?_⟩⟩
    refine ⟨_, rfl, a, xs, rfl, Same.sqt s1 hA, fun D nD => ?_⟩
    refine lc_val walkT calm_pair (fun i => if i ∈ ls then none else xs[i]?) hn nD (fun H2 s2 => Same.sqt s2 (Same.sqt s1 hA)) ?_ fun H2 s2 h2 => ?_
    · rintro i x H2 H3 hi s2 ⟨T, x1, x2, rfl, nT, rfl, e1, e2⟩ Kt kt
      cases e1
      have s3 := same_new (o := .tup [.int (i : Nat), x2]) (Same.refl H2) nT
      have hg3 : (upd H2 T (.tup [.int (i : Nat), x2])) g = some (.lst ((mks xs.length ls).map V.bl)) := s3 _ _ (s2 _ _ hg)
      refine ⟨T, _, rfl, sqt upd_same, rfl, _, _, rfl, _, _, rfl, rfl, rfl, ?_⟩
      refine ⟨_, rfl, _, rfl, g, _, (i : Int), _, rfl, rfl, sql hg3, atI_nat (mks_get hi), _, rfl, ?_⟩
      have k0 := kt _ (Same.refl _)
      by_cases hm : i ∈ ls
      · rw [decide_eq_true hm]
        refine iteF ?_
        rw [if_pos hm] at k0
        exact k0
      · rw [decide_eq_false hm]
        refine iteT ⟨x2, rfl, ?_⟩
        rw [if_neg hm, show xs[i]? = some x2 from e2] at k0
        exact k0
    · exact q D H2 (s1.trans s2) (s1.free nD) h2

abbrev s_steps_from : Stmt := topS 15
abbrev sl_steps_from : List Str := ["many", "pairs", "sources", "heads", "tail", "head", "steps", "place", "layer", "count", "fresh", "_"]
theorem sc_steps_from : FnScope ["many", "pairs", "sources", "heads", "tail", "head", "steps", "place", "layer", "count", "fresh", "_"] ["many", "pairs", "sources"] (defScope s_steps_from) := ⟨rfl, rfl, rfl, by decide +kernel, rfl, by decide +kernel, by decide +kernel⟩
def oV : Option Nat → V
  | none => .non
  | some d => nV d
def PairAt (K : PySem.W.Frag) (H : Hp) (v : V) (e : Nat × Nat) : Prop := ∃ t, v = .ref t ∧ SqT K H t [nV e.1, nV e.2]
/-- the values vs are the pairs es -/
structure Prs (K : PySem.W.Frag) (H : Hp) (vs : List V) (es : Es) : Prop where
  len : vs.length = es.length
  at_ : ∀ (i : Nat) (v : V) (e : Nat × Nat), vs[i]? = some v → es[i]? = some e → PairAt K H v e
theorem Prs.same {K : PySem.W.Frag} {H H' : Hp} {vs : List V} {es : Es} (p : Prs K H vs es) (s : Same H H') : Prs K H' vs es :=
  ⟨p.len, fun i v e a b => (p.at_ i v e a b).elim fun t ⟨h1, h2⟩ => ⟨t, h1, Same.sqt s h2⟩⟩
theorem Prs.get {K : PySem.W.Frag} {H : Hp} {vs : List V} {es : Es} (p : Prs K H vs es) {i : Nat} {v : V} (h : vs[i]? = some v) : ∃ e, es[i]? = some e ∧ PairAt K H v e := by
  have hi := (List.getElem?_eq_some_iff.mp h).1
  have hj : i < es.length := by rw [← p.len]; exact hi
  exact ⟨es[i], List.getElem?_eq_getElem hj, p.at_ i v _ h (List.getElem?_eq_getElem hj)⟩
def stV (n : Nat) (st : Nat → Option Nat) : List V := (List.range n).map fun v => oV (st v)
theorem stV_len (n : Nat) (st : Nat → Option Nat) : (stV n st).length = n := by
  unfold stV
  rw [List.length_map, List.length_range]
theorem stV_get {n j : Nat} {st : Nat → Option Nat} (h : j < n) : (stV n st)[j]? = some (oV (st j)) := get_map_range h
theorem stV_congr {n : Nat} {st st' : Nat → Option Nat} (h : ∀ v, v < n → st v = st' v) : stV n st = stV n st' := by
  unfold stV
  exact List.map_congr_left fun v hv => by rw [h v (List.mem_range.mp hv)]
theorem stV_set {n j : Nat} {d : Nat} {st : Nat → Option Nat} : (stV n st).set j (nV d) = stV n (fun v => if v = j then some d else st v) := by
  unfold stV
  rw [set_map_range]
  refine List.map_congr_left fun v _ => ?_
  by_cases h : v = j
  · simp only [if_pos h]
    rfl
  · simp only [if_neg h]
theorem stV_none (n : Nat) : stV n (fun _ => none) = (List.replicate n [V.non]).flatten := by
  unfold stV
  apply List.ext_getElem?
  intro i
  have e : (List.replicate n [V.non]).flatten = List.replicate n V.non := by
    induction n with
    | zero => rfl
    | succ n ih => rw [List.replicate_succ, List.flatten_cons, ih, List.replicate_succ]; rfl
  rw [e, List.getElem?_map, List.getElem?_replicate]
  by_cases h : i < n
  · rw [List.getElem?_range h, if_pos h]
    rfl
  · rw [List.getElem?_eq_none (by simpa using h), if_neg h]
    rfl
/-- behind the heads T, seen in layer c -/
def nx (c : Nat) (st : Nat → Option Nat) (T : List Nat) (v : Nat) : Option Nat := match st v with
  | some d => some d
  | none => if v ∈ T then some (c + 1) else none
theorem nx_nil (c : Nat) (st : Nat → Option Nat) : nx c st [] = st := by
  funext v
  unfold nx
  cases e : st v with
  | some d => rfl
  | none => simp
theorem nx_old {c : Nat} {st : Nat → Option Nat} {T : List Nat} {h d : Nat} (e : nx c st T h = some d) : nx c st (T ++ [h]) = nx c st T := by
  funext v
  unfold nx at e ⊢
  cases q : st v with
  | some d => rfl
  | none =>
    simp only
    by_cases hv : v = h
    · subst hv
      rw [q] at e
      simp only at e
      by_cases hm : v ∈ T
      · simp [hm]
      · rw [if_neg hm] at e
        cases e
    · simp [hv]
theorem nx_new {c : Nat} {st : Nat → Option Nat} {T : List Nat} {h : Nat} (e : nx c st T h = none) : (fun v => if v = h then some (c + 1) else nx c st T v) = nx c st (T ++ [h]) := by
  funext v
  unfold nx at e ⊢
  by_cases hv : v = h
  · subst hv
    rw [if_pos rfl]
    cases q : st v with
    | some d => rw [q] at e; cases e
    | none => simp
  · rw [if_neg hv]
    cases q : st v with
    | some d => rfl
    | none => simp [hv]
theorem nx_none {c : Nat} {st : Nat → Option Nat} {T : List Nat} {h : Nat} : nx c st T h = none ↔ st h = none ∧ h ∉ T := by
  unfold nx
  cases q : st h with
  | some d => simp
  | none => simp
/-- what stands while the search goes on -/
structure SfH (H H' : Hp) (D sp : Addr) (qs : List Addr) (n : Nat) (es : Es) (st : Nat → Option Nat) : Prop where
  same : Same H H'
  hD : H' D = some (.lst (qs.map V.ref))
  hA : ∀ (v : Nat) (q : Addr), qs[v]? = some q → H' q = some (.lst ((adj es v).map nV))
  hs : H' sp = some (.lst (stV n st))
/-- which objects are others -/
structure SfN (H : Hp) (D sp : Addr) (qs : List Addr) (x : Addr) : Prop where
  new : H x = none
  nD : x ≠ D
  nq : ∀ q ∈ qs, x ≠ q
theorem SfH.upd_other {H H' : Hp} {D sp x : Addr} {qs : List Addr} {n : Nat} {es : Es} {st : Nat → Option Nat} {o : HO} (s : SfH H H' D sp qs n es st) (N : SfN H D sp qs x) (ns : x ≠ sp) : SfH H (upd H' x o) D sp qs n es st where
  same := same_mut s.same N.new
  hD := by rw [upd_ne N.nD.symm]; exact s.hD
  hA := fun v q h => by rw [upd_ne (N.nq q (List.mem_of_getElem? h)).symm]; exact s.hA v q h
  hs := by rw [upd_ne ns.symm]; exact s.hs
theorem SfH.upd_sp {H H' : Hp} {D sp : Addr} {qs : List Addr} {n : Nat} {es : Es} {st st' : Nat → Option Nat} (s : SfH H H' D sp qs n es st) (N : SfN H D sp qs sp) : SfH H (upd H' sp (.lst (stV n st'))) D sp qs n es st' where
  same := same_mut s.same N.new
  hD := by rw [upd_ne N.nD.symm]; exact s.hD
  hA := fun v q h => by rw [upd_ne (N.nq q (List.mem_of_getElem? h)).symm]; exact s.hA v q h
  hs := upd_same
theorem SfH.newN {H H' : Hp} {D sp x : Addr} {qs : List Addr} {n : Nat} {es : Es} {st : Nat → Option Nat} (s : SfH H H' D sp qs n es st) (hq : ∀ q ∈ qs, H' q ≠ none) (h : H' x = none) : SfN H D sp qs x ∧ x ≠ sp :=
  ⟨⟨Same.free s.same h, (ne_of_none s.hD h).symm, fun q m z => hq q m (by rw [← z]; exact h)⟩, (ne_of_none s.hs h).symm⟩
def spSteps (K : PySem.W.Frag) : Sp := fun vs H Q _ => ∃ (n : Nat) (b c : Addr) (pvs : List V) (es : Es) (S : List Nat), vs = [.int (n : Int), .ref b, .ref c] ∧ SqX K H b pvs ∧ Prs K H pvs es ∧ SqX K H c (S.map nV) ∧
  (∀ e ∈ es, e.1 < n ∧ e.2 < n) ∧ (∀ s ∈ S, s < n) ∧ n ≤ 1000 ∧ es.length ≤ 1000 ∧
  ∀ p H' st, Same H H' → H p = none → H' p = some (.lst (stV n st)) → (∀ v, v < n → (∀ d, st v = some d ↔ Dst es S v d) ∧ (st v = none ↔ ¬ Rch es S v)) → Q (.ref p) H'
theorem ok_steps_from (B : Bt mg) (D0 : Df K mg "steps_from" s_steps_from ["many", "pairs", "sources"]) : Has P w K mg base "steps_from" 1 ["many", "pairs", "sources"] (spSteps K) := by
  refine D0.has fun f fd F => F.ok sc_steps_from (fun vs H Q E h => ?_) (fun cdv A outer s H vs Q E hr h => ?_)
  · obtain ⟨n, b, c, pvs, es, S, rfl, _⟩ := h
    rfl
  · obtain ⟨n, b, c, pvs, es, S, rfl, hB, hP, hC, he, hS, hn, hel, q⟩ := h
    refine ⟨_, (pss_cons (ps_setLc (i := 3) (own := [("_", 11)]) (g := gName 11) rfl sc_steps_from.nd rfl rfl (sw_true rfl rfl rfl (by decide +kernel)) (pi_range1 (by rfl) B.range (pa_cons (pv 0) pa_nil)) (blkOk_by (N := sl_steps_from) (sc := defScope s_steps_from) (by decide +kernel)) (fun _ _ _ _ _ => (pg_name (i := 11) sc_steps_from.nd rfl (.inl rfl))) (fun _ _ _ _ _ => pts_nil) (fun _ _ _ _ _ => (pe_lst pa_nil)))
  (pss_cons (ps_for PassesOwn.never rfl (k_pis (K := K) rfl (pv 1)) (pg_tup rfl (pgs_cons (pg_name (i := 4) sc_steps_from.nd rfl (.inl rfl)) (pgs_cons (pg_name (i := 5) sc_steps_from.nd rfl (.inl rfl)) pgs_nil)))
    (pss_one (ps_expr (pe_bm PySem.F.plainAttrs_list PySem.F.slot_list_append PySem.F.type_list_append mt_append (pe_ix (k_ixl (K := K) rfl) (pv 3) (pv 4) (fun _ _ => rfl)) (pa_cons (pv 5) pa_nil)))))
  (pss_cons (ps_set (i := 6) sc_steps_from.nd rfl (.inl rfl) (pe_op op_rep (pe_lst (pa_cons pe_non pa_nil)) (pv 0)))
  (pss_cons (ps_for PassesOwn.never rfl (k_pis (K := K) rfl (pv 2)) (pg_name (i := 7) sc_steps_from.nd rfl (.inl rfl))
    (pss_one (ps_asg pe_int (pg_sub (pv 6) (pv 7) set_list))))
  (pss_cons (ps_set (i := 8) sc_steps_from.nd rfl (.inl rfl) (pe_callTy (k_list (K := K) rfl) (by rfl) B.list bo_list (pa_cons (pv 2) pa_nil)))
  (pss_cons (ps_set (i := 9) sc_steps_from.nd rfl (.inl rfl) pe_int)
  (pss_cons (ps_while PassesOwn.never (k_tru (K := K) rfl (pv 8) (by intro _; rfl))
    (pss_cons (ps_aug (i := 9) sc_steps_from.nd rfl (.inl rfl) pe_int ip_add)
  (pss_cons (ps_set (i := 10) sc_steps_from.nd rfl (.inl rfl) (pe_lst pa_nil))
  (pss_cons (ps_for PassesOwn.never rfl (k_pil (K := K) rfl (pv 8)) (pg_name (i := 7) sc_steps_from.nd rfl (.inl rfl))
    (pss_one (ps_for PassesOwn.never rfl (k_pil (K := K) rfl (pe_ix (k_ixl (K := K) rfl) (pv 3) (pv 7) (fun _ _ => rfl))) (pg_name (i := 5) sc_steps_from.nd rfl (.inl rfl))
    (pss_one (ps_if (pt_cmpR op_isN (pe_ix (k_ixl (K := K) rfl) (pv 6) (pv 5) (fun _ _ => rfl)) pe_non (nomark _))
    (pss_cons (ps_asg (pv 9) (pg_sub (pv 6) (pv 5) set_list))
  (pss_one (ps_expr (pe_bm PySem.F.plainAttrs_list PySem.F.slot_list_append PySem.F.type_list_append mt_append (pv 10) (pa_cons (pv 5) pa_nil)))))
    pss_nil)))))
  (pss_one (ps_set (i := 8) sc_steps_from.nd rfl (.inl rfl) (pv 10)))))))
  (pss_one (ps_ret (pv 6)))))))))), ?_⟩
    -- heads
    refine ⟨_, rfl, _, rfl, by omega, by omega, fun D nD => ?_⟩
    refine lc_range (lo := 0) (n := (n : Int).toNat) (fun i H' => ∃ qs : List Addr, qs.length = i ∧ qs.Nodup ∧ (∀ q ∈ qs, H q = none ∧ q ≠ D ∧ H' q = some (.lst [])) ∧ H' D = some (.lst (qs.map V.ref)) ∧ Same H H')
      ⟨[], rfl, List.nodup_nil, fun q hq => (List.not_mem_nil hq).elim, upd_same, same_new (Same.refl H) nD⟩ ?_ ?_
    · rintro i H' hi ⟨qs, hl, nd, hq, hD, sm⟩
      refine ⟨rfl, tyes ?_⟩
      refine iteT ?_
      refine ⟨Nat.zero_le _, fun p np => ⟨qs.map V.ref, ?_, ?_, qs ++ [p], by simp [hl], ?_, ?_, ?_, ?_⟩⟩
      · rw [upd_ne (ne_of_none hD np)]
        exact hD
      · rw [List.length_map]
        exact small_lt (by omega)
      · rw [List.nodup_append]
        refine ⟨nd, by simp, fun x hx y hy => ?_⟩
        rw [List.mem_singleton.mp hy]
        exact ne_of_none (hq x hx).2.2 np
      · intro x hx
        have nDp : D ≠ p := ne_of_none hD np
        rcases List.mem_append.mp hx with hx | hx
        · obtain ⟨h1, h2, h3⟩ := hq x hx
          exact ⟨h1, h2, by rw [upd_ne h2, upd_ne (ne_of_none h3 np)]; exact h3⟩
        · rw [List.mem_singleton.mp hx]
          exact ⟨Same.free sm np, nDp.symm, by rw [upd_ne nDp.symm, upd_same]⟩
      · rw [upd_same, List.map_append]
        rfl
      · exact same_mut (same_new sm np) nD
    rintro H1 ⟨qs, hql, qnd, hq, hD, sm1⟩
    have hql : qs.length = n := by rw [hql]; rfl
    -- the pairs
    refine ⟨_, rfl, b, rfl, for_seq hB (fun i σ H' => ∃ t h, σ = [some (.int (n : Int)), some (.ref b), some (.ref c), some (.ref D), t, h, none, none, none, none, none, none] ∧ Same H H' ∧
      H' D = some (.lst (qs.map V.ref)) ∧ ∀ (v : Nat) (q : Addr), qs[v]? = some q → H' q = some (.lst ((adj (es.take i) v).map nV))) ⟨none, none, rfl, sm1, hD, fun v q h => (hq q (List.mem_of_getElem? h)).2.2⟩ ?_ ?_ ?_⟩
    · rintro i σ H' _ ⟨t, h, rfl, sm, _⟩
      exact sm
    · rintro i x σ H' hx ⟨t, h, rfl, sm, hD', hA⟩
      obtain ⟨e, hei, t0, rfl, ht0⟩ := hP.get hx
      obtain ⟨e1, e2⟩ := e
      have hlt := he _ (List.mem_of_getElem? hei)
      have hqv : qs[e1]? = some qs[e1] := List.getElem?_eq_getElem (by rw [hql]; exact hlt.1)
      refine ⟨t0, _, rfl, Same.sqt sm ht0, rfl, _, _, rfl, _, _, rfl, rfl, ?_⟩
      refine ⟨_, rfl, _, rfl, D, _, (e1 : Int), .ref qs[e1], rfl, rfl, sql hD', atI_nat (by rw [List.getElem?_map, hqv]; rfl), .inl ⟨rfl, _, sql (hA e1 _ hqv)⟩, _, rfl, ?_⟩
      refine ⟨_, _, _, rfl, rfl, hA e1 _ hqv, ?_, ?_⟩
      · rw [List.length_map]
        have h1 : (adj (es.take i) e1).length ≤ (es.take i).length := List.length_filterMap_le _ _
        have h2 : (es.take i).length ≤ es.length := by rw [List.length_take]; exact Nat.min_le_right _ _
        exact small_lt (by omega)
      · have hmem : qs[e1] ∈ qs := List.mem_of_getElem? hqv
        refine ⟨_, _, rfl, same_mut sm (hq _ hmem).1, by rw [upd_ne (hq _ hmem).2.1.symm]; exact hD', fun v q' hv => ?_⟩
        rw [take_snoc_of hei, adj_snoc]
        by_cases hve : e1 = v
        · subst hve
          rw [hqv] at hv
          cases hv
          rw [if_pos rfl, upd_same, List.map_append]
          rfl
        · rw [if_neg hve, upd_ne (fun z => hve ?_)]
          · exact hA v q' hv
          · rw [z] at hv
            exact (List.getElem?_inj (by rw [hql]; exact hlt.1) qnd).mp (by rw [hqv, hv])
    rintro σ H2 ⟨t, h, rfl, sm2, hD2, hA2⟩
    rw [hP.len, List.take_length] at hA2
    -- steps
    refine ⟨by show 1 ≤ sizeLine; decide, fun p1 n1 => ⟨_, rfl, p1, (n : Int), _, rfl, rfl, upd_same, by omega, by omega, by show 1 * (n : Int).toNat ≤ sizeLine; rw [Nat.one_mul]; exact small_sz (by omega), fun sp nsp => ?_⟩⟩
    have sm3 : Same H2 (upd H2 p1 (.lst [V.non])) := same_new (Same.refl H2) n1
    have nsp2 : H2 sp = none := Same.free sm3 nsp
    have nqs : ∀ q ∈ qs, H2 q ≠ none := fun q m z => by
      obtain ⟨v, hv⟩ := List.getElem?_of_mem m
      rw [hA2 v q hv] at z
      cases z
    have Nsp : SfN H D sp qs sp := ⟨Same.free sm2 nsp2, (ne_of_none hD2 nsp2).symm, fun q m z => nqs q m (by rw [← z]; exact nsp2)⟩
    have s0 : SfH H (upd (upd H2 p1 (.lst [V.non])) sp (.lst (stV n fun _ => none))) D sp qs n es (fun _ => none) := by
      have sm4 : Same H2 (upd (upd H2 p1 (.lst [V.non])) sp (.lst (stV n fun _ => none))) := same_new sm3 nsp
      exact ⟨sm2.trans sm4, sm4 _ _ hD2, fun v q hv => sm4 _ _ (hA2 v q hv), upd_same⟩
    rw [show ((n : Int)).toNat = n from rfl, ← stV_none]
    -- the sources
    refine ⟨_, rfl, c, rfl, for_seq hC (fun i σ H' => ∃ pl, σ = [some (.int (n : Int)), some (.ref b), some (.ref c), some (.ref D), t, h, some (.ref sp), pl, none, none, none, none] ∧
      SfH H H' D sp qs n es (fun v => if v ∈ S.take i then some 0 else none)) ⟨none, rfl, ?_⟩ ?_ ?_ ?_⟩
    · have e0 : (fun v => if v ∈ S.take 0 then some 0 else none) = (fun _ : Nat => (none : Option Nat)) := by
        funext v
        simp
      rw [e0]
      exact s0
    · rintro i σ H' _ ⟨pl, rfl, sf⟩
      exact sf.same
    · rintro i x σ H' hx ⟨pl, rfl, sf⟩
      obtain ⟨z, hz, rfl⟩ := getmap hx
      have hzn := hS z (List.mem_of_getElem? hz)
      refine ⟨_, rfl, _, rfl, sp, _, (z : Int), z, rfl, rfl, sf.hs, by rw [stV_len]; exact ixN_nat hzn, _, rfl, ?_⟩
      show SfH H (upd H' sp (.lst ((stV n _).set z (nV 0)))) D sp qs n es _
      rw [stV_set]
      have e1 : (fun v => if v = z then some 0 else if v ∈ S.take i then some 0 else none) = (fun v => if v ∈ S.take (i + 1) then some 0 else (none : Option Nat)) := by
        funext v
        rw [take_snoc_of hz]
        by_cases hv : v = z
        · simp [hv]
        · simp [hv]
      rw [e1]
      exact sf.upd_sp Nsp
    rintro σ H3 ⟨pl, rfl, sf3⟩
    rw [List.length_map, List.take_length] at sf3
    -- layer, count
    refine ⟨_, rfl, c, S.map nV, rfl, Same.sqx sf3.same hC, fun ly nly => ?_⟩
    have nq3 : ∀ {H' : Hp} {st : Nat → Option Nat}, SfH H H' D sp qs n es st → ∀ q ∈ qs, H' q ≠ none := fun s q m z => by
      obtain ⟨v, hv⟩ := List.getElem?_of_mem m
      rw [s.hA v q hv] at z
      cases z
    obtain ⟨Nly, nly2⟩ := sf3.newN (nq3 sf3) nly
    -- the layers
    refine ⟨fun m σ H' => ∃ (cc : Nat) (st : Nat → Option Nat) (lay : List Nat) (ly : Addr) (t h pl fr : Option V), σ = [some (.int (n : Int)), some (.ref b), some (.ref c), some (.ref D), t, h, some (.ref sp), pl, some (.ref ly), some (.int (cc : Int)), fr, none] ∧
      SfH H H' D sp qs n es st ∧ SfN H D sp qs ly ∧ ly ≠ sp ∧ H' ly = some (.lst (lay.map nV)) ∧ Bfs n es S cc st lay ∧ m = 2 * openN n st + (if lay = [] then 0 else 1),
      ⟨_, 0, _, S, ly, t, h, pl, none, rfl, sf3.upd_other Nly nly2, Nly, nly2, upd_same, Bfs.start hS, rfl⟩, ?_⟩
    rintro m σ H4 ⟨cc, st, lay, ly4, t4, h4, pl4, fr4, rfl, sf4, Nl4, nls, hly, bf, rfl⟩
    refine ⟨_, rfl, !(lay.map nV).isEmpty, .inl ⟨_, sql hly, rfl⟩, ?_⟩
    cases hlay : lay with
    | nil =>
      subst hlay
      refine iteF ⟨_, rfl, ?_⟩
      exact q sp H4 st sf4.same Nsp.new sf4.hs fun v hv => bf.done he hv
    | cons l0 lr =>
      rw [← hlay]
      have hne : lay ≠ [] := by rw [hlay]; exact List.cons_ne_nil _ _
      have e5 : (!(lay.map nV).isEmpty) = true := by rw [hlay]; rfl
      rw [e5]
      refine iteT ⟨_, fun σ' H' z => z, ?_⟩
      -- count += 1; fresh = []
      refine ⟨_, rfl, _, _, rfl, rfl, Nat.zero_le _, fun fr nfr => ?_⟩
      obtain ⟨Nfr, nfrs⟩ := sf4.newN (nq3 sf4) nfr
      have nfl : ly4 ≠ fr := ne_of_none hly nfr
      -- for place in layer
      refine ⟨_, rfl, ly4, rfl, ⟨_, sql (show (upd H4 fr (.lst [])) ly4 = _ by rw [upd_ne nfl]; exact hly)⟩, ?_⟩
      refine for_list (xs := lay.map nV) (fun i σ H' => ∃ (T fl : List Nat) (h pl : Option V), σ = [some (.int (n : Int)), some (.ref b), some (.ref c), some (.ref D), t4, h, some (.ref sp), pl, some (.ref ly4), some (.int ((cc : Int) + 1)), some (.ref fr), none] ∧
        T = (lay.take i).flatMap (adj es) ∧ SfH H H' D sp qs n es (nx cc st T) ∧ H' ly4 = some (.lst (lay.map nV)) ∧ H' fr = some (.lst (fl.map nV)) ∧ (∀ v, v ∈ fl ↔ v < n ∧ st v = none ∧ v ∈ T) ∧ fl.length + openN n (nx cc st T) ≤ openN n st)
        ⟨[], [], h4, pl4, rfl, rfl, by rw [nx_nil]; exact sf4.upd_other Nfr nfrs, by rw [upd_ne nfl]; exact hly, upd_same, fun v => by simp, by rw [nx_nil]; simp⟩ ?_ ?_ ?_
      · rintro i σ H' _ ⟨T, fl, h, pl, rfl, _, _, hl5, _⟩
        exact sql hl5
      · rintro i x σ H' hx ⟨T, fl, h, pl, rfl, rfl, sf5, hl5, hf5, hfl, hfn⟩
        obtain ⟨z, hz, rfl⟩ := getmap hx
        have hzn : z < n := ((bf.lay z).mp (List.mem_of_getElem? hz)).1
        have hqz : qs[z]? = some qs[z] := List.getElem?_eq_getElem (by rw [hql]; exact hzn)
        refine ⟨_, rfl, _, rfl, D, _, (z : Int), .ref qs[z], rfl, rfl, sql sf5.hD, atI_nat (by rw [List.getElem?_map, hqz]; rfl), qs[z], rfl, ⟨_, sql (sf5.hA z _ hqz)⟩, ?_⟩
        refine for_list (xs := (adj es z).map nV) (fun j σ H' => ∃ (T fl : List Nat) (h : Option V), σ = [some (.int (n : Int)), some (.ref b), some (.ref c), some (.ref D), t4, h, some (.ref sp), some (nV z), some (.ref ly4), some (.int ((cc : Int) + 1)), some (.ref fr), none] ∧
          T = (lay.take i).flatMap (adj es) ++ (adj es z).take j ∧ SfH H H' D sp qs n es (nx cc st T) ∧ H' ly4 = some (.lst (lay.map nV)) ∧ H' fr = some (.lst (fl.map nV)) ∧ (∀ v, v ∈ fl ↔ v < n ∧ st v = none ∧ v ∈ T) ∧ fl.length + openN n (nx cc st T) ≤ openN n st)
          ⟨_, fl, h, rfl, rfl, by rw [List.take_zero, List.append_nil]; exact sf5, hl5, hf5, by rw [List.take_zero, List.append_nil]; exact hfl, by rw [List.take_zero, List.append_nil]; exact hfn⟩ ?_ ?_ ?_
        · rintro j σ H' _ ⟨T, fl, h, rfl, _, sf6, _⟩
          exact sql (sf6.hA z _ hqz)
        · rintro j x σ H' hx ⟨T, fl, h, rfl, rfl, sf6, hl6, hf6, hfl6, hfn6⟩
          obtain ⟨y, hy, rfl⟩ := getmap hx
          have hyn : y < n := (he _ (mem_adj.mp (List.mem_of_getElem? hy))).2
          generalize hT : (lay.take i).flatMap (adj es) ++ (adj es z).take j = T at sf6 hfl6 hfn6
          have hT2 : (lay.take i).flatMap (adj es) ++ (adj es z).take (j + 1) = T ++ [y] := by rw [take_snoc_of hy, ← List.append_assoc, hT]
          refine ⟨_, rfl, _, rfl, sp, _, (y : Int), oV (nx cc st T y), rfl, rfl, sql sf6.hs, atI_nat (stV_get hyn), rfl, _, rfl, ?_⟩
          cases e7 : nx cc st T y with
          | some d =>
            refine iteF ⟨_, fl, _, rfl, hT2.symm, ?_, hl6, hf6, fun v => ?_, ?_⟩
            · rw [nx_old e7]; exact sf6
            · rw [hfl6 v]
              constructor
              · rintro ⟨h1, h2, h3⟩
                exact ⟨h1, h2, List.mem_append_left _ h3⟩
              · rintro ⟨h1, h2, h3⟩
                refine ⟨h1, h2, ?_⟩
                rcases List.mem_append.mp h3 with h3 | h3
                · exact h3
                · rw [List.mem_singleton.mp h3] at h2 ⊢
                  by_cases hm : y ∈ T
                  · exact hm
                  · rw [nx_none.mpr ⟨h2, hm⟩] at e7
                    cases e7
            · rw [nx_old e7]; exact hfn6
          | none =>
            obtain ⟨e8, e9⟩ := nx_none.mp e7
            refine iteT ?_
            have hcc : (V.int ((cc : Int) + 1)) = nV (cc + 1) := rfl
            refine ⟨_, rfl, _, rfl, _, rfl, sp, _, (y : Int), y, rfl, rfl, sf6.hs, by rw [stV_len]; exact ixN_nat hyn, ?_⟩
            have hfr : ∀ o, (upd H' sp o) fr = some (.lst (fl.map nV)) := fun o => by rw [upd_ne nfrs]; exact hf6
            refine ⟨_, rfl, .inl ⟨rfl, _, sql (hfr _)⟩, _, rfl, fr, _, _, rfl, rfl, hfr _, ?_, ?_⟩
            · have h1 : openN n st ≤ n := by
                unfold openN
                have := List.countP_le_length (p := fun v => (st v).isNone) (l := List.range n)
                rw [List.length_range] at this
                exact this
              rw [List.length_map]
              exact small_lt (by omega)
            · rw [hcc, stV_set, nx_new e7]
              refine ⟨_, fl ++ [y], _, rfl, hT2.symm, (sf6.upd_sp Nsp).upd_other Nfr nfrs, ?_, ?_, fun v => ?_, ?_⟩
              · rw [upd_ne nfl, upd_ne nls]; exact hl6
              · rw [upd_same, List.map_append]; rfl
              · rw [List.mem_append, hfl6 v, List.mem_singleton, List.mem_append, List.mem_singleton]
                constructor
                · rintro (⟨h1, h2, h3⟩ | rfl)
                  · exact ⟨h1, h2, .inl h3⟩
                  · exact ⟨hyn, e8, .inr rfl⟩
                · rintro ⟨h1, h2, h3 | rfl⟩
                  · exact .inl ⟨h1, h2, h3⟩
                  · exact .inr rfl
              · have h9 : openN n (nx cc st (T ++ [y])) < openN n (nx cc st T) := openN_lt (fun v hv => by
                  obtain ⟨a1, a2⟩ := nx_none.mp hv
                  exact nx_none.mpr ⟨a1, fun z => a2 (List.mem_append_left _ z)⟩) hyn e7 (fun z => (nx_none.mp z).2 (by simp))
                rw [List.length_append, List.length_singleton]
                omega
        · rintro σ H' ⟨T, fl, h, rfl, rfl, sf6, hl6, hf6, hfl6, hfn6⟩
          rw [List.length_map, List.take_length] at sf6 hfl6 hfn6
          have hT3 : (lay.take (i + 1)).flatMap (adj es) = (lay.take i).flatMap (adj es) ++ adj es z := by
            rw [take_snoc_of hz, List.flatMap_append]
            simp
          exact ⟨_, fl, h, _, rfl, rfl, by rw [hT3]; exact sf6, hl6, hf6, by rw [hT3]; exact hfl6, by rw [hT3]; exact hfn6⟩
      · rintro σ H' ⟨T, fl, h, pl, rfl, rfl, sf5, hl5, hf5, hfl, hfn⟩
        rw [List.length_map, List.take_length] at sf5 hfl hfn
        refine ⟨_, rfl, _, ?_, cc + 1, nx cc st (lay.flatMap (adj es)), fl, fr, _, h, pl, _, rfl, sf5, Nfr, nfrs, hf5, ?_, rfl⟩
        · have h1 : (if lay = [] then 0 else 1) = 1 := if_neg hne
          rw [h1]
          cases fl with
          | nil => simp only [List.length_nil, if_pos] at hfn ⊢; omega
          | cons f0 fr0 => rw [List.length_cons] at hfn; rw [if_neg (List.cons_ne_nil _ _)]; omega
        · refine bf.next he hS (fun v => ?_) hfl
          rw [List.mem_flatMap]
          constructor
          · rintro ⟨u, hu, hv⟩
            exact ⟨u, hu, mem_adj.mp hv⟩
          · rintro ⟨u, hu, hv⟩
            exact ⟨u, hu, mem_adj.mpr hv⟩

abbrev s_leads_to_all : Stmt := topS 16
abbrev sl_leads_to_all : List Str := ["many", "pairs", "places", "steps", "place"]
theorem sc_leads_to_all : FnScope ["many", "pairs", "places", "steps", "place"] ["many", "pairs", "places"] (defScope s_leads_to_all) := ⟨rfl, rfl, rfl, by decide +kernel, rfl, by decide +kernel, by decide +kernel⟩
def spLeads (K : PySem.W.Frag) : Sp := fun vs H Q _ => ∃ (n : Nat) (b c : Addr) (pvs : List V) (es : Es) (gs : List Nat), vs = [.int (n : Int), .ref b, .ref c] ∧ SqX K H b pvs ∧ Prs K H pvs es ∧ SqT K H c (gs.map nV) ∧
  (∀ e ∈ es, e.1 < n ∧ e.2 < n) ∧ (∀ g ∈ gs, g < n) ∧ 0 < n ∧ n ≤ 1000 ∧ es.length ≤ 1000 ∧ gs.length ≤ 1000 ∧
  ∀ H' (ok : Bool), Same H H' → (ok = true ↔ ∀ g ∈ gs, Rch es [0] g) → Q (.bl ok) H'
theorem ok_leads_to_all (B : Bt mg) (h_steps_from : Has P w K mg base "steps_from" 1 ["many", "pairs", "sources"] (spSteps K)) (D0 : Df K mg "leads_to_all" s_leads_to_all ["many", "pairs", "places"]) : Has P w K mg base "leads_to_all" 2 ["many", "pairs", "places"] (spLeads K) := by
  refine D0.has fun f fd F => F.ok sc_leads_to_all (fun vs H Q E h => ?_) (fun cdv A outer s H vs Q E hr h => ?_)
  · obtain ⟨n, b, c, pvs, es, S, rfl, _⟩ := h
    rfl
  · obtain ⟨n, b, c, pvs, es, gs, rfl, hB, hP, hC, he, hg, h0, hn, hel, hgl, q⟩ := h
    refine ⟨_, (pss_cons (ps_set (i := 3) sc_leads_to_all.nd rfl (.inr rfl) (pcall h_steps_from hr (by decide) (by rfl) (pa_cons (pv 0) (pa_cons (pv 1) (pa_cons (pe_tup (pa_cons pe_int pa_nil)) pa_nil)))))
  (pss_one (ps_ret (pe_callB (k_all (K := K) rfl rfl) (by rfl) B.all bo_all (pa_cons (pe_lc (own := [("place", 4)]) (g := gName 4) rfl sc_leads_to_all.nd (k_pit (K := K) rfl (pv 2)) (blkOk_by (N := sl_leads_to_all) (sc := defScope s_leads_to_all) (by decide +kernel)) (fun _ _ _ _ _ => (pg_name (i := 4) sc_leads_to_all.nd rfl (.inl rfl))) (fun _ _ _ _ _ => pts_nil) (fun _ _ _ _ _ => (pe_cmpR op_notN (pe_ix (k_ixl (K := K) rfl) (pv 3) (pv 4) (fun _ _ => rfl)) pe_non (nomark _)))) pa_nil))))), ?_⟩
    refine ⟨_, rfl, _, rfl, by show 1 ≤ sizeLine; decide, fun t0 nt0 => ?_⟩
    have s1 := same_new (o := .tup [.int 0]) (Same.refl H) nt0
    refine ⟨n, b, t0, pvs, es, [0], rfl, Same.sqx s1 hB, hP.same s1, .inr (sqt upd_same), he, fun s hs => by rw [List.mem_singleton.mp hs]; exact h0, hn, hel, fun p H2 st s2 np hp hst => ?_⟩
    have s12 := s1.trans s2
    refine ⟨_, rfl, c, rfl, ⟨_, Same.sqt s12 hC⟩, fun D nD => ?_⟩
    refine lc_val walk_tup calm_at (fun i => (gs[i]?).bind fun g => some (V.bl (st g).isSome)) (by rw [List.length_map]; omega) nD (fun H3 s3 => Same.sqt s3 (Same.sqt s12 hC)) ?_ fun H3 s3 h3 => ?_
    · rintro i x H3 H4 hi s3 ⟨rfl, hx⟩ Kt kt
      obtain ⟨g, hgi, rfl⟩ := getmap hx
      have hgn := hg g (List.mem_of_getElem? hgi)
      refine ⟨rfl, tyes ?_⟩
      refine iteT ?_
      refine ⟨_, rfl, _, rfl, p, _, (g : Int), oV (st g), rfl, rfl, sql (s3 _ _ hp), atI_nat (stV_get hgn), rfl, ?_⟩
      have k0 := kt _ (Same.refl _)
      rw [hgi] at k0
      have e : (!decide (oV (st g) = .non)) = (st g).isSome := by
        cases st g with
        | none => rfl
        | some d => rfl
      rw [e]
      exact k0
    · rw [List.length_map, fm_range, fm_some] at h3
      refine ⟨D, gs.map fun g => (st g).isSome, rfl, sql (by rw [h3, List.map_map]; rfl), ?_⟩
      refine q H3 _ (s12.trans s3) ?_
      rw [List.all_eq_true]
      constructor
      · intro h g hgm
        have h1 := h _ (List.mem_map.mpr ⟨g, hgm, rfl⟩)
        have h2 := (hst g (hg g hgm)).2
        refine Classical.byContradiction fun z => ?_
        rw [h2.mpr z] at h1
        cases h1
      · intro h x hx
        obtain ⟨g, hgm, rfl⟩ := List.mem_map.mp hx
        have h2 := (hst g (hg g hgm)).2
        cases e : st g with
        | none => exact absurd (h g hgm) (h2.mp e)
        | some d => rfl

abbrev s_Map_many : Stmt := inClass (topS 21) 1
abbrev sl_Map_many : List Str := ["self"]
theorem sc_Map_many : FnScope ["self"] ["self"] (defScope s_Map_many) := ⟨rfl, rfl, rfl, by decide +kernel, rfl, by decide +kernel, by decide +kernel⟩
/-- what the top says of the class Map and its constants -/
structure MapC (K : PySem.W.Frag) (mg : Str → Option Value) (CMap : Addr) : Prop where
  cl : Cls K CMap
  n1 : NoAttr K CMap "_many"
  n2 : NoAttr K CMap "_arrows"
  n3 : NoAttr K CMap "_goals"
  mgMap : mg "Map" = some (.ref CMap)
  FEWEST_PLACES : ∃ t, mg "FEWEST_PLACES" = some (.int 2 t)
  MOST_PLACES : ∃ t, mg "MOST_PLACES" = some (.int 40 t)
  MOST_ARROWS : ∃ t, mg "MOST_ARROWS" = some (.int 60 t)
def mapF (n : Nat) (a c : Addr) : List (Str × V) := putF "_goals" (.ref c) (putF "_arrows" (.ref a) (putF "_many" (nV n) []))
theorem kn1 : ¬ (("_many" : Str) = "_arrows") := by decide +kernel
theorem kn2 : ¬ (("_many" : Str) = "_goals") := by decide +kernel
theorem kn3 : ¬ (("_arrows" : Str) = "_goals") := by decide +kernel
theorem mapF_m (n : Nat) (a c : Addr) : (mapF n a c).lookup ("_many" : Str) = some (nV n) := by
  unfold mapF
  rw [lookup_putF, if_neg kn2, lookup_putF, if_neg kn1, lookup_putF, if_pos rfl]
theorem mapF_a (n : Nat) (a c : Addr) : (mapF n a c).lookup ("_arrows" : Str) = some (.ref a) := by
  unfold mapF
  rw [lookup_putF, if_neg kn3, lookup_putF, if_pos rfl]
theorem mapF_g (n : Nat) (a c : Addr) : (mapF n a c).lookup ("_goals" : Str) = some (.ref c) := by
  unfold mapF
  rw [lookup_putF, if_pos rfl]
theorem mapF_no (n : Nat) (a c : Addr) {m : Str} (h1 : ¬ m = "_goals") (h2 : ¬ m = "_arrows") (h3 : ¬ m = "_many") : (mapF n a c).lookup m = none := by
  unfold mapF
  rw [lookup_putF, if_neg h1, lookup_putF, if_neg h2, lookup_putF, if_neg h3]
  rfl
theorem mapF_many (n : Nat) (a c : Addr) : (mapF n a c).lookup ("many" : Str) = none := mapF_no n a c (by decide +kernel) (by decide +kernel) (by decide +kernel)
theorem mapF_arrows (n : Nat) (a c : Addr) : (mapF n a c).lookup ("arrows" : Str) = none := mapF_no n a c (by decide +kernel) (by decide +kernel) (by decide +kernel)
theorem mapF_goals (n : Nat) (a c : Addr) : (mapF n a c).lookup ("goals" : Str) = none := mapF_no n a c (by decide +kernel) (by decide +kernel) (by decide +kernel)
/-- a Map stands at p: n places, arrows at a (the values pvs), goals at c -/
structure MapAt (K : PySem.W.Frag) (C : Addr) (H : Hp) (p : Addr) (n : Nat) (a : Addr) (pvs : List V) (c : Addr) (gs : List Nat) : Prop where
  ob : ∃ dx, H p = some (.ins C dx (mapF n a c))
  ar : SqT K H a pvs
  go : SqT K H c (gs.map nV)
theorem MapAt.same {K : PySem.W.Frag} {C : Addr} {H H' : Hp} {p : Addr} {n : Nat} {a : Addr} {pvs : List V} {c : Addr} {gs : List Nat} (m : MapAt K C H p n a pvs c gs) (s : Same H H') : MapAt K C H' p n a pvs c gs :=
  ⟨m.ob.elim fun dx h => ⟨dx, s _ _ h⟩, Same.sqt s m.ar, Same.sqt s m.go⟩
def spMany (K : PySem.W.Frag) (C : Addr) : Sp := fun vs H Q _ => ∃ p n a pvs c gs, vs = [.ref p] ∧ MapAt K C H p n a pvs c gs ∧ Q (nV n) H
theorem ok_many {CMap : Addr} (C : MapC K mg CMap) (D0 : DfM K CMap "many" "Map.many" s_Map_many ["self"]) : HasM P w K mg base CMap "many" 1 ["self"] (spMany K CMap) := by
  refine D0.has fun f fd F => F.ok sc_Map_many (fun vs H Q E h => ?_) (fun cdv A outer s H vs Q E hr h => ?_)
  · obtain ⟨p, n, a, pvs, c, gs, rfl, _⟩ := h
    rfl
  · obtain ⟨p, n, a, pvs, c, gs, rfl, m, q⟩ := h
    obtain ⟨dx, hp⟩ := m.ob
    refine ⟨_, (pss_one (ps_ret (k_fld (K := K) rfl (pv 0) rfl))), ?_⟩
    exact ⟨_, rfl, p, CMap, dx, _, _, rfl, hp, C.cl, C.n1, mapF_m n a c, q⟩

abbrev s_Map_arrows : Stmt := inClass (topS 21) 2
abbrev sl_Map_arrows : List Str := ["self"]
theorem sc_Map_arrows : FnScope ["self"] ["self"] (defScope s_Map_arrows) := ⟨rfl, rfl, rfl, by decide +kernel, rfl, by decide +kernel, by decide +kernel⟩
def spArrows (K : PySem.W.Frag) (C : Addr) : Sp := fun vs H Q _ => ∃ p n a pvs c gs, vs = [.ref p] ∧ MapAt K C H p n a pvs c gs ∧ Q (.ref a) H
theorem ok_arrows {CMap : Addr} (C : MapC K mg CMap) (D0 : DfM K CMap "arrows" "Map.arrows" s_Map_arrows ["self"]) : HasM P w K mg base CMap "arrows" 1 ["self"] (spArrows K CMap) := by
  refine D0.has fun f fd F => F.ok sc_Map_arrows (fun vs H Q E h => ?_) (fun cdv A outer s H vs Q E hr h => ?_)
  · obtain ⟨p, n, a, pvs, c, gs, rfl, _⟩ := h
    rfl
  · obtain ⟨p, n, a, pvs, c, gs, rfl, m, q⟩ := h
    obtain ⟨dx, hp⟩ := m.ob
    refine ⟨_, (pss_one (ps_ret (k_fld (K := K) rfl (pv 0) rfl))), ?_⟩
    exact ⟨_, rfl, p, CMap, dx, _, _, rfl, hp, C.cl, C.n2, mapF_a n a c, q⟩

abbrev s_Map_goals : Stmt := inClass (topS 21) 3
abbrev sl_Map_goals : List Str := ["self"]
theorem sc_Map_goals : FnScope ["self"] ["self"] (defScope s_Map_goals) := ⟨rfl, rfl, rfl, by decide +kernel, rfl, by decide +kernel, by decide +kernel⟩
def spGoals (K : PySem.W.Frag) (C : Addr) : Sp := fun vs H Q _ => ∃ p n a pvs c gs, vs = [.ref p] ∧ MapAt K C H p n a pvs c gs ∧ Q (.ref c) H
theorem ok_goals {CMap : Addr} (C : MapC K mg CMap) (D0 : DfM K CMap "goals" "Map.goals" s_Map_goals ["self"]) : HasM P w K mg base CMap "goals" 1 ["self"] (spGoals K CMap) := by
  refine D0.has fun f fd F => F.ok sc_Map_goals (fun vs H Q E h => ?_) (fun cdv A outer s H vs Q E hr h => ?_)
  · obtain ⟨p, n, a, pvs, c, gs, rfl, _⟩ := h
    rfl
  · obtain ⟨p, n, a, pvs, c, gs, rfl, m, q⟩ := h
    obtain ⟨dx, hp⟩ := m.ob
    refine ⟨_, (pss_one (ps_ret (k_fld (K := K) rfl (pv 0) rfl))), ?_⟩
    exact ⟨_, rfl, p, CMap, dx, _, _, rfl, hp, C.cl, C.n3, mapF_g n a c, q⟩

abbrev s_is_pair : Stmt := topS 25
abbrev sl_is_pair : List Str := ["thing", "many", "tail", "head"]
theorem sc_is_pair : FnScope ["thing", "many", "tail", "head"] ["thing", "many"] (defScope s_is_pair) := ⟨rfl, rfl, rfl, by decide +kernel, rfl, by decide +kernel, by decide +kernel⟩
def pairV (m : Int) : List V → Bool
  | [x, y] => idxV x m && (idxV y m && !decide (x = y))
  | _ => false
/-- whether the value x is a pair for m: b -/
def PairRes (K : PySem.W.Frag) (H : Hp) (m : Int) (x : V) (b : Bool) : Prop :=
  (∃ a ys, x = .ref a ∧ SqT K H a ys ∧ (∀ y ∈ ys, ∃ s, Kn K H y s) ∧ b = pairV m ys) ∨ (∃ s, Kn K H x s ∧ (s == "tuple") = false ∧ b = false)
def spIsPair (K : PySem.W.Frag) : Sp := fun vs H Q _ => ∃ (v : V) (m : Int) (b : Bool), vs = [v, .int m] ∧ PairRes K H m v b ∧ Q (.bl b) H
theorem pairV_ne {m : Int} {ys : List V} (h : ys.length ≠ 2) : pairV m ys = false := by
  match ys, h with
  | [], _ => rfl
  | [_], _ => rfl
  | [_, _], h => exact absurd rfl h
  | _ :: _ :: _ :: _, _ => rfl
theorem ok_is_pair (B : Bt mg) (h_is_index : Has P w K mg base "is_index" 2 ["thing", "many"] (spIsIndex K)) (D0 : Df K mg "is_pair" s_is_pair ["thing", "many"]) : Has P w K mg base "is_pair" 3 ["thing", "many"] (spIsPair K) := by
  refine D0.has fun f fd F => F.ok sc_is_pair (fun vs H Q E h => ?_) (fun cdv A outer s H vs Q E hr h => ?_)
  · obtain ⟨v, m, b, rfl, _⟩ := h
    rfl
  · obtain ⟨v, m, b, rfl, h, q⟩ := h
    refine ⟨_, (pss_cons (ps_if (PW.pt (pw_or (pt_not (pt_val (pe_callB (k_isi (K := K) rfl) (by rfl) B.isinstance bo_isinstance (pa_cons (pv 0) (pa_cons (pe_bltn (v := .ty "tuple") (by rfl) B.tuple bo_tuple rfl) pa_nil))))) (pw_or1 (pt_cmpR op_ne (pe_callB (k_len (K := K) rfl) (by rfl) B.len bo_len (pa_cons (pv 0) pa_nil)) pe_int (nomark _)))))
    (pss_one (ps_ret pe_bl))
    pss_nil)
  (pss_cons (ps_asg (pv 0) (pg_tup rfl (pgs_cons (pg_name (i := 2) sc_is_pair.nd rfl (.inl rfl)) (pgs_cons (pg_name (i := 3) sc_is_pair.nd rfl (.inl rfl)) pgs_nil))))
  (pss_one (ps_ret (pe_and (pcall h_is_index hr (by decide) (by rfl) (pa_cons (pv 2) (pa_cons (pv 1) pa_nil))) (pe_and (pcall h_is_index hr (by decide) (by rfl) (pa_cons (pv 3) (pa_cons (pv 1) pa_nil))) (pe_one (pe_cmpR (k_neD (K := K) rfl hr.units) (pv 2) (pv 3) (nomark _))))))))), ?_⟩
    rcases h with ⟨a, ys, rfl, hS, hk, rfl⟩ | ⟨s, hv, hs, rfl⟩
    · refine ⟨_, rfl, _, .ty "tuple", _, _, _, rfl, .ty "tuple", (kn_of_tup hS).ty, kit_tuple (kn_of_tup hS).mem, _, rfl, iteF ?_⟩
      refine ⟨_, rfl, a, ys, rfl, .inr hS, rfl, _, rfl, ?_⟩
      by_cases h2 : ys.length = 2
      · rw [h2]
        refine iteF ?_
        match ys, h2, hS, hk, q with
        | [x, y], _, hS, hk, q =>
          obtain ⟨sx, kx⟩ := hk x (by simp)
          obtain ⟨sy, ky⟩ := hk y (by simp)
          refine ⟨_, rfl, a, _, rfl, hS, rfl, _, _, rfl, _, _, rfl, rfl, ?_⟩
          refine ⟨x, rfl, _, rfl, x, sx, m, rfl, kx, _, rfl, ?_⟩
          have q : Q (.bl (idxV x m && (idxV y m && !decide (x = y)))) H := q
          cases h3 : idxV x m with
          | false =>
            rw [h3, Bool.false_and] at q
            exact iteF q
          | true =>
            rw [h3, Bool.true_and] at q
            refine iteT ⟨y, rfl, _, rfl, y, sy, m, rfl, ky, _, rfl, ?_⟩
            cases h4 : idxV y m with
            | false =>
              rw [h4, Bool.false_and] at q
              exact iteF q
            | true =>
              rw [h4, Bool.true_and] at q
              refine iteT ?_
              match x, y, h3, h4, q with
              | .int i, .int j, _, _, q =>
                refine ⟨_, rfl, _, rfl, .int i, .int j, .int i, .int j, rfl, rfl, ?_⟩
                have e : (!PyData.eqv (.int i) (.int j)) = !decide (V.int i = V.int j) := by
                  congr 1
                  by_cases h5 : i = j
                  · subst h5
                    simp [PyData.eqv]
                  · have h6 : ¬ V.int i = V.int j := fun z => h5 (by cases z; rfl)
                    simp [PyData.eqv, h5]
                rw [e]
                exact q
      · have e : (!decide (V.int (ys.length : Int) = V.int 2)) = true := by
          have : ¬ V.int (ys.length : Int) = V.int 2 := fun z => h2 (by injection z with z; omega)
          simp [this]
        rw [e]
        refine iteT ?_
        rw [pairV_ne h2] at q
        exact q
    · refine ⟨_, rfl, _, .ty "tuple", _, _, _, rfl, .ty "tuple", hv.ty, kit_tuple hv.mem, _, rfl, ?_⟩
      rw [hs]
      exact iteT (iteT q)

abbrev s_check_pairs : Stmt := topS 24
abbrev sl_check_pairs : List Str := ["many", "pairs", "most", "pair"]
theorem sc_check_pairs : FnScope ["many", "pairs", "most", "pair"] ["many", "pairs", "most"] (defScope s_check_pairs) := ⟨rfl, rfl, rfl, by decide +kernel, rfl, by decide +kernel, by decide +kernel⟩
/-- parts of a map but the goals, all right -/
structure GoodPairs (n : Nat) (es : Es) (m : Nat) : Prop where
  n2 : 2 ≤ n
  n40 : n ≤ 40
  lm : es.length ≤ m
  ok : ∀ e ∈ es, e.1 < n ∧ e.2 < n ∧ e.1 ≠ e.2
def spCheckPairs (K : PySem.W.Frag) : Sp := fun vs H Q _ => ∃ (n : Nat) (a : Addr) (pvs : List V) (es : Es) (m : Nat), vs = [.int (n : Int), .ref a, .int (m : Int)] ∧ SqT K H a pvs ∧ Prs K H pvs es ∧ GoodPairs n es m ∧ m ≤ 60 ∧ ∀ H', Same H H' → Q .non H'
theorem TyX_same {K : PySem.W.Frag} {H H' : Hp} {v : V} {t : Value} (h : TyX K H v t) (s : Same H H') : TyX K H' v t := by
  cases h with
  | base b => cases b with
    | non => exact .base .non
    | bl x => exact .base (.bl x)
    | int i => exact .base (.int i)
    | str x => exact .base (.str x)
    | flt x => exact .base (.flt x)
    | lst e => exact .base (.lst (s _ _ e))
    | frz e => exact .base (.frz (s _ _ e))
    | tup e => exact .base (.tup (s _ _ e))
    | dK e => exact .base (.dK (s _ _ e))
    | dT e => exact .base (.dT (s _ _ e))
    | ins e a b c d f => exact .base (.ins (s _ _ e) a b c d f)
  | byt b => exact .byt b
  | set e => exact .set (s _ _ e)
  | kList a b => exact .kList a b
  | kTuple a b => exact .kTuple a b
  | kDict a b => exact .kDict a b
  | fTuple e => exact .fTuple (s _ _ e)
  | fDict e => exact .fDict (s _ _ e)
theorem Kn.same {K : PySem.W.Frag} {H H' : Hp} {v : V} {t : String} (h : Kn K H v t) (s : Same H H') : Kn K H' v t := ⟨TyX_same h.ty s, h.mem⟩
theorem PairRes.same {K : PySem.W.Frag} {H H' : Hp} {m : Int} {v : V} {b : Bool} (h : PairRes K H m v b) (s : Same H H') : PairRes K H' m v b := by
  rcases h with ⟨a, ys, e, h1, h2, h3⟩ | ⟨t, h1, h2⟩
  · exact .inl ⟨a, ys, e, Same.sqt s h1, fun y hy => (h2 y hy).elim fun t k => ⟨t, k.same s⟩, h3⟩
  · exact .inr ⟨t, h1.same s, h2⟩
theorem pairRes_of {K : PySem.W.Frag} {H : Hp} {n : Nat} {v : V} {e : Nat × Nat} (h : PairAt K H v e) (h1 : e.1 < n) (h2 : e.2 < n) (h3 : e.1 ≠ e.2) : PairRes K H (n : Int) v true := by
  obtain ⟨t, rfl, ht⟩ := h
  refine .inl ⟨t, _, rfl, ht, fun y hy => ?_, ?_⟩
  · simp only [List.mem_cons, List.not_mem_nil, or_false] at hy
    rcases hy with rfl | rfl <;> exact ⟨"int", kn_of_int⟩
  · show true = ((decide (0 ≤ (e.1 : Int)) && decide ((e.1 : Int) < (n : Int))) && ((decide (0 ≤ (e.2 : Int)) && decide ((e.2 : Int) < (n : Int))) && !decide (nV e.1 = nV e.2)))
    have h4 : ¬ nV e.1 = nV e.2 := fun z => by
      have z' : V.int (e.1 : Int) = V.int (e.2 : Int) := z
      injection z' with z'
      exact h3 (by omega)
    simp only [h4, decide_false, Bool.not_false, Bool.and_true]
    symm
    simp only [Bool.and_eq_true, decide_eq_true_eq]
    omega
theorem ok_check_pairs {CMap : Addr} (B : Bt mg) (C : MapC K mg CMap) (h_is_integer : Has P w K mg base "is_integer" 1 ["thing"] (spIsInteger K)) (h_is_pair : Has P w K mg base "is_pair" 3 ["thing", "many"] (spIsPair K)) (D0 : Df K mg "check_pairs" s_check_pairs ["many", "pairs", "most"]) : Has P w K mg base "check_pairs" 4 ["many", "pairs", "most"] (spCheckPairs K) := by
  refine D0.has fun f fd F => F.ok sc_check_pairs (fun vs H Q E h => ?_) (fun cdv A outer s H vs Q E hr h => ?_)
  · obtain ⟨n, a, pvs, es, m, rfl, _⟩ := h
    rfl
  · obtain ⟨n, a, pvs, es, m, rfl, hA, hP, g, hm, q⟩ := h
    refine ⟨_, (pss_cons (ps_if (PW.pt (pw_or (pt_not (pt_val (pcall h_is_integer hr (by decide) (by rfl) (pa_cons (pv 0) pa_nil)))) (pw_or1 (pt_not (pt_chain op_le op_le (pe_glob (v := .int 2) (by rfl) C.FEWEST_PLACES.choose_spec ⟨_, rfl⟩) (pv 0) (pe_glob (v := .int 40) (by rfl) C.MOST_PLACES.choose_spec ⟨_, rfl⟩))))))
    (pss_one ps_never)
    pss_nil)
  (pss_cons (ps_if (PW.pt (pw_or (pt_not (pt_val (pe_callB (k_isi (K := K) rfl) (by rfl) B.isinstance bo_isinstance (pa_cons (pv 1) (pa_cons (pe_bltn (v := .ty "tuple") (by rfl) B.tuple bo_tuple rfl) pa_nil))))) (pw_or1 (pt_cmpR op_gt (pe_callB (k_len (K := K) rfl) (by rfl) B.len bo_len (pa_cons (pv 1) pa_nil)) (pv 2) (nomark _)))))
    (pss_one ps_never)
    pss_nil)
  (pss_one (ps_if (pt_not (pt_val (pe_callB (k_all (K := K) rfl rfl) (by rfl) B.all bo_all (pa_cons (pe_lc (own := [("pair", 3)]) (g := gName 3) rfl sc_check_pairs.nd (k_pit (K := K) rfl (pv 1)) (blkOk_by (N := sl_check_pairs) (sc := defScope s_check_pairs) (by decide +kernel)) (fun _ _ _ _ _ => (pg_name (i := 3) sc_check_pairs.nd rfl (.inl rfl))) (fun _ _ _ _ _ => pts_nil) (fun _ _ _ _ _ => (pcall h_is_pair hr (by decide) (by rfl) (pa_cons (pv 3) (pa_cons (pv 0) pa_nil))))) pa_nil))))
    (pss_one ps_never)
    pss_nil)))), ?_⟩
    have gn2 := g.n2
    have gn40 := g.n40
    have glm := g.lm
    have hl := hP.len
    refine ⟨_, rfl, .int (n : Int), "int", rfl, kn_of_int, _, rfl, iteF ?_⟩
    refine ⟨_, rfl, _, _, rfl, rfl, _, rfl, ?_⟩
    rw [decide_eq_true (show (2 : Int) ≤ (n : Int) by omega)]
    refine iteT ⟨_, _, rfl, rfl, _, rfl, ?_⟩
    rw [decide_eq_true (show (n : Int) ≤ (40 : Int) by omega)]
    refine iteF ?_
    refine ⟨_, rfl, _, .ty "tuple", _, _, _, rfl, .ty "tuple", (kn_of_tup hA).ty, kit_tuple (kn_of_tup hA).mem, _, rfl, iteF ?_⟩
    refine ⟨_, rfl, a, pvs, rfl, .inr hA, _, rfl, _, _, rfl, rfl, _, rfl, ?_⟩
    rw [decide_eq_false (show ¬ (m : Int) < (pvs.length : Int) by omega)]
    refine iteF ?_
    refine ⟨_, rfl, a, rfl, ⟨_, hA⟩, fun D nD => ?_⟩
    refine lc_val walk_tup calm_at (fun i => (pvs[i]?).bind fun _ => some (V.bl true)) (by omega) nD (fun H3 s3 => Same.sqt s3 hA) ?_ fun H3 s3 h3 => ?_
    · rintro i x H3 H4 hi s3 ⟨rfl, hx⟩ Kt kt
      refine ⟨rfl, tyes ?_⟩
      refine iteT ?_
      obtain ⟨e, hei, he⟩ := hP.get hx
      obtain ⟨h1, h2, h3⟩ := g.ok e (List.mem_of_getElem? hei)
      refine ⟨x, rfl, _, rfl, x, (n : Int), true, rfl, (pairRes_of he h1 h2 h3).same s3, ?_⟩
      have k0 := kt _ (Same.refl _)
      rw [hx] at k0
      exact k0
    · rw [fm_range, fm_some] at h3
      refine ⟨D, pvs.map fun _ => true, rfl, sql (by rw [List.map_map]; exact h3), _, rfl, ?_⟩
      rw [show (pvs.map fun _ => true).all id = true by rw [List.all_map]; exact List.all_eq_true.mpr fun _ _ => rfl]
      refine iteF ?_
      exact q H3 s3

abbrev s_are_goals : Stmt := topS 26
abbrev sl_are_goals : List Str := ["thing", "many", "arrows"]
theorem sc_are_goals : FnScope ["thing", "many", "arrows"] ["thing", "many", "arrows"] (defScope s_are_goals) := ⟨rfl, rfl, rfl, by decide +kernel, rfl, by decide +kernel, by decide +kernel⟩
/-- what judges the value v as goals: r told of a lot, or not one at all -/
def spAreGoals (K : PySem.W.Frag) : Sp := fun vs H Q _ => ∃ (v : V) (n : Nat) (b : Addr) (pvs : List V) (es : Es), vs = [v, .int (n : Int), .ref b] ∧ SqT K H b pvs ∧ Prs K H pvs es ∧ (∀ e ∈ es, e.1 < n ∧ e.2 < n) ∧ 0 < n ∧ n ≤ 1000 ∧ es.length ≤ 1000 ∧
  ((∃ c xs, v = .ref c ∧ SqT K H c xs ∧ xs.length ≤ 1000 ∧ (∀ x ∈ xs, ∃ s, Kn K H x s) ∧
    ∀ H' (ok : Bool), Same H H' → (ok = true ↔ ∃ gs : List Nat, xs = gs.map nV ∧ lotFrom (n : Int) (-1) xs = true ∧ gs ≠ [] ∧ (∀ g ∈ gs, g ≠ 0) ∧ ∀ g ∈ gs, Rch es [0] g) → Q (.bl ok) H') ∨
   (∃ s, Kn K H v s ∧ (s == "tuple") = false ∧ Q (.bl false) H))
theorem nV_inj {gs gs' : List Nat} (h : gs.map nV = gs'.map nV) : gs = gs' := by
  refine (List.map_inj_right fun x y e => ?_).mp h
  have e' : V.int (x : Int) = V.int (y : Int) := e
  injection e' with e'
  omega
theorem ok_are_goals (B : Bt mg) (h_is_lot : Has P w K mg base "is_lot" 3 ["thing", "many"] (spIsLot K)) (h_leads_to_all : Has P w K mg base "leads_to_all" 2 ["many", "pairs", "places"] (spLeads K))
    (D0 : Df K mg "are_goals" s_are_goals ["thing", "many", "arrows"]) : Has P w K mg base "are_goals" 4 ["thing", "many", "arrows"] (spAreGoals K) := by
  refine D0.has fun f fd F => F.ok sc_are_goals (fun vs H Q E h => ?_) (fun cdv A outer s H vs Q E hr h => ?_)
  · obtain ⟨v, n, b, pvs, es, rfl, _⟩ := h
    rfl
  · obtain ⟨v, n, b, pvs, es, rfl, hB, hP, he, h0, hn, hel, h⟩ := h
    refine ⟨_, (pss_cons (ps_if (PW.pt (pw_or (pt_not (pt_val (pcall h_is_lot hr (by decide) (by rfl) (pa_cons (pv 0) (pa_cons (pv 1) pa_nil))))) (pw_or (pt_cmpR op_eq (pe_callB (k_len (K := K) rfl) (by rfl) B.len bo_len (pa_cons (pv 0) pa_nil)) pe_int (nomark _)) (pw_or1 (pt_cmpR op_eq (pe_ix (k_ixt (K := K) rfl) (pv 0) pe_int (fun _ _ => rfl)) pe_int (nomark _))))))
    (pss_one (ps_ret pe_bl))
    pss_nil)
  (pss_one (ps_ret (pcall h_leads_to_all hr (by decide) (by rfl) (pa_cons (pv 1) (pa_cons (pv 2) (pa_cons (pv 0) pa_nil))))))), ?_⟩
    rcases h with ⟨c, xs, rfl, hS, hxl, hk, q⟩ | ⟨s, hv, hs, q⟩
    · refine ⟨_, rfl, _, rfl, .ref c, (n : Int), rfl, .inl ⟨c, xs, rfl, hS, hk, _, rfl, ?_⟩⟩
      cases hlf : lotFrom (n : Int) (-1) xs with
      | false =>
        refine iteT (iteT ?_)
        refine q H false (Same.refl H) ⟨fun z => Bool.noConfusion z, ?_⟩
        rintro ⟨gs, _, h2, _⟩
        rw [hlf] at h2
        cases h2
      | true =>
        obtain ⟨gs, rfl, hg, hpw⟩ := lot_nat (Int.le_refl _) hlf
        rw [List.length_map] at hxl
        refine iteF ?_
        refine ⟨_, rfl, c, _, rfl, .inr hS, rfl, _, rfl, ?_⟩
        cases gs with
        | nil =>
          refine iteT (iteT ?_)
          refine q H false (Same.refl H) ⟨fun z => Bool.noConfusion z, ?_⟩
          rintro ⟨gs', h1, _, h3, _⟩
          exact absurd (nV_inj h1).symm h3
        | cons g0 gr =>
          have e1 : decide (V.int (((g0 :: gr).map nV).length : Int) = V.int 0) = false := by
            have : ¬ V.int (((g0 :: gr).map nV).length : Int) = V.int 0 := fun z => by
              injection z with z
              rw [List.length_map, List.length_cons] at z
              omega
            simp only [this, decide_false]
          rw [e1]
          refine iteF ?_
          refine ⟨_, rfl, c, _, (0 : Nat), nV g0, rfl, rfl, hS, atI_nat rfl, rfl, _, rfl, ?_⟩
          by_cases hz : g0 = 0
          · subst hz
            refine iteT ?_
            refine q H false (Same.refl H) ⟨fun z => Bool.noConfusion z, ?_⟩
            rintro ⟨gs', h1, _, _, h4, _⟩
            exact absurd rfl (h4 0 (by rw [← nV_inj h1]; exact List.mem_cons_self))
          · have e2 : decide (nV g0 = V.int 0) = false := by
              have : ¬ nV g0 = V.int 0 := fun z => by
                have z' : V.int (g0 : Int) = V.int 0 := z
                injection z' with z'
                omega
              simp only [this, decide_false]
            rw [e2]
            refine iteF ?_
            refine ⟨_, rfl, _, rfl, _, rfl, n, b, c, pvs, es, g0 :: gr, rfl, .inr hB, hP, hS, he, fun g hm => ?_, h0, hn, hel, hxl, fun H' ok s' hok => q H' ok s' ?_⟩
            · have := (hg g hm).1
              omega
            · rw [hok]
              constructor
              · intro h
                refine ⟨g0 :: gr, rfl, hlf, List.cons_ne_nil _ _, fun g hm => ?_, h⟩
                rcases List.mem_cons.mp hm with rfl | hm
                · exact hz
                · have := List.rel_of_pairwise_cons hpw hm
                  omega
              · rintro ⟨gs', h1, _, _, _, h5⟩
                rw [nV_inj h1]
                exact h5
    · refine ⟨_, rfl, _, rfl, v, (n : Int), rfl, .inr ⟨s, hv, hs, _, rfl, iteT (iteT q)⟩⟩

abbrev s_Map___init__ : Stmt := inClass (topS 21) 0
abbrev sl_Map___init__ : List Str := ["self", "many", "arrows", "goals"]
theorem sc_Map___init__ : FnScope ["self", "many", "arrows", "goals"] ["self", "many", "arrows", "goals"] (defScope s_Map___init__) := ⟨rfl, rfl, rfl, by decide +kernel, rfl, by decide +kernel, by decide +kernel⟩
theorem pw_len {n : Nat} : ∀ {gs : List Nat} {l : Nat}, gs.Pairwise (· < ·) → (∀ g ∈ gs, l ≤ g ∧ g < n) → gs.length ≤ n - l
  | [], _, _, _ => Nat.zero_le _
  | g :: r, l, hp, h => by
    have h1 := h g List.mem_cons_self
    have h2 : r.length ≤ n - (g + 1) := pw_len hp.of_cons fun x hx => ⟨List.rel_of_pairwise_cons hp hx, (h x (List.mem_cons_of_mem _ hx)).2⟩
    rw [List.length_cons]
    omega
theorem putF_len (f : Str) (v : V) : ∀ fs : List (Str × V), (putF f v fs).length ≤ fs.length + 1
  | [] => Nat.le_refl _
  | (g, x) :: r => by
    unfold putF
    split
    · exact Nat.le_succ _
    · rw [List.length_cons, List.length_cons]
      exact Nat.succ_le_succ (putF_len f v r)
/-- parts that make a map -/
structure GoodMap (n : Nat) (es : Es) (gs : List Nat) : Prop where
  n2 : 2 ≤ n
  n40 : n ≤ 40
  l60 : es.length ≤ 60
  ok : ∀ e ∈ es, e.1 < n ∧ e.2 < n ∧ e.1 ≠ e.2
  ne : gs ≠ []
  pw : gs.Pairwise (· < ·)
  gl : ∀ g ∈ gs, g ≠ 0 ∧ g < n
  rch : ∀ g ∈ gs, Rch es [0] g
def spMapInit (K : PySem.W.Frag) (C : Addr) : Sp := fun vs H Q _ => ∃ (p dx : Addr) (n : Nat) (a : Addr) (pvs : List V) (es : Es) (c : Addr) (gs : List Nat), vs = [.ref p, .int (n : Int), .ref a, .ref c] ∧ H p = some (.ins C dx []) ∧
  SqT K H a pvs ∧ Prs K H pvs es ∧ SqT K H c (gs.map nV) ∧ GoodMap n es gs ∧ ∀ H', MapAt K C H' p n a pvs c gs → (∀ b o, b ≠ p → H b = some o → H' b = some o) → Q .non H'
theorem ok_Map_init {CMap : Addr} (C : MapC K mg CMap) (h_check_pairs : Has P w K mg base "check_pairs" 4 ["many", "pairs", "most"] (spCheckPairs K))
    (h_are_goals : Has P w K mg base "are_goals" 4 ["thing", "many", "arrows"] (spAreGoals K)) (D0 : DfI K CMap "Map.__init__" s_Map___init__ ["self", "many", "arrows", "goals"]) : HasI P w K mg base CMap 5 ["self", "many", "arrows", "goals"] (spMapInit K CMap) := by
  refine D0.has fun f fd F => F.ok sc_Map___init__ (fun vs H Q E h => ?_) (fun cdv A outer s H vs Q E hr h => ?_)
  · obtain ⟨p, dx, n, a, pvs, es, c, gs, rfl, _⟩ := h
    rfl
  · obtain ⟨p, dx, n, a, pvs, es, c, gs, rfl, hp, hA, hP, hG, g, q⟩ := h
    refine ⟨_, (pss_cons (ps_expr (pcall h_check_pairs hr (by decide) (by rfl) (pa_cons (pv 1) (pa_cons (pv 2) (pa_cons (pe_glob (v := .int 60) (by rfl) C.MOST_ARROWS.choose_spec ⟨_, rfl⟩) pa_nil)))))
  (pss_cons (ps_if (pt_not (pt_val (pcall h_are_goals hr (by decide) (by rfl) (pa_cons (pv 3) (pa_cons (pv 1) (pa_cons (pv 2) pa_nil))))))
    (pss_one ps_never)
    pss_nil)
  (pss_cons (ps_fld (pv 0) (pv 1) rfl)
  (pss_cons (ps_fld (pv 0) (pv 2) rfl)
  (pss_one (ps_fld (pv 0) (pv 3) rfl)))))), ?_⟩
    have gn2 := g.n2
    have gn40 := g.n40
    -- many, arrows
    refine ⟨_, rfl, _, rfl, n, a, pvs, es, 60, rfl, hA, hP, ⟨g.n2, g.n40, g.l60, g.ok⟩, Nat.le_refl _, fun H1 s1 => ?_⟩
    -- goals
    refine ⟨_, rfl, _, rfl, _, rfl, .ref c, n, a, pvs, es, rfl, Same.sqt s1 hA, hP.same s1, fun e he => ⟨(g.ok e he).1, (g.ok e he).2.1⟩, by omega, by omega, by have := g.l60; omega,
      .inl ⟨c, _, rfl, Same.sqt s1 hG, ?_, fun x hx => ?_, fun H2 ok s2 hok => ⟨_, rfl, ?_⟩⟩⟩
    · rw [List.length_map]
      have h1 : gs.length ≤ n - 0 := pw_len g.pw fun x hx => ⟨Nat.zero_le _, (g.gl x hx).2⟩
      omega
    · obtain ⟨z, _, rfl⟩ := List.mem_map.mp hx
      exact ⟨"int", kn_of_int⟩
    have e2 : ok = true := hok.mpr ⟨gs, rfl, lot_of (fun x hx => ⟨by have := (g.gl x hx).2; omega, by omega⟩) g.pw, g.ne, fun x hx => (g.gl x hx).1, g.rch⟩
    rw [e2]
    refine iteF ?_
    -- the fields
    have hp2 : H2 p = some (.ins CMap dx []) := s2 _ _ (s1 _ _ hp)
    refine ⟨_, rfl, _, rfl, p, CMap, dx, _, rfl, hp2, C.cl, C.n1, by show 0 < 1000; decide, ?_⟩
    refine ⟨_, rfl, _, rfl, p, CMap, dx, _, rfl, upd_same, C.cl, C.n2, by show 1 < 1000; decide, ?_⟩
    refine ⟨_, rfl, _, rfl, p, CMap, dx, _, rfl, upd_same, C.cl, C.n3, Nat.lt_of_le_of_lt (putF_len _ _ _) (by show 1 + 1 < 1000; decide), ?_⟩
    rw [upd_upd, upd_upd]
    have keep : ∀ b o, b ≠ p → H b = some o → upd H2 p (.ins CMap dx (mapF n a c)) b = some o := fun b o nb hb => by
      rw [upd_ne nb]
      exact s2 _ _ (s1 _ _ hb)
    have kt : ∀ {x : Addr} {xs : List V}, SqT K H x xs → SqT K (upd H2 p (.ins CMap dx (mapF n a c))) x xs := fun {x xs} h => by
      rcases h with (h | ⟨o, h⟩) | h
      · exact .inl (.inl (keep _ _ (ne_of h hp (by intro z; cases z)) h))
      · exact .inl (.inr ⟨o, keep _ _ (ne_of h hp (by intro z; cases z)) h⟩)
      · exact .inr h
    exact q _ ⟨⟨dx, upd_same⟩, kt hA, kt hG⟩ keep

abbrev s_goals_are_open : Stmt := topS 23
abbrev sl_goals_are_open : List Str := ["chart", "rotten"]
theorem sc_goals_are_open : FnScope ["chart", "rotten"] ["chart", "rotten"] (defScope s_goals_are_open) := ⟨rfl, rfl, rfl, by decide +kernel, rfl, by decide +kernel, by decide +kernel⟩
/-- a Map at p and what is right of it for every function -/
structure MapOk (K : PySem.W.Frag) (C : Addr) (H : Hp) (p : Addr) (n : Nat) (a : Addr) (pvs : List V) (es : Es) (c : Addr) (gs : List Nat) : Prop where
  at_ : MapAt K C H p n a pvs c gs
  pr : Prs K H pvs es
  n0 : 0 < n
  n1 : n ≤ 1000
  el : es.length ≤ 1000
  gn : gs.length ≤ 1000
  ok : ∀ e ∈ es, e.1 < n ∧ e.2 < n
  gl : ∀ g ∈ gs, g < n
theorem MapOk.same {K : PySem.W.Frag} {C : Addr} {H H' : Hp} {p : Addr} {n : Nat} {a : Addr} {pvs : List V} {es : Es} {c : Addr} {gs : List Nat} (m : MapOk K C H p n a pvs es c gs) (s : Same H H') : MapOk K C H' p n a pvs es c gs :=
  ⟨m.at_.same s, m.pr.same s, m.n0, m.n1, m.el, m.gn, m.ok, m.gl⟩
/-- the edges that are left without the arrows of the lot -/
abbrev left (es : Es) (ls : List Nat) : Es := leftV es ls
theorem mem_leftV {α : Type} {xs : List α} {ls : List Nat} {x : α} : x ∈ leftV xs ls ↔ ∃ i, xs[i]? = some x ∧ i ∉ ls := by
  unfold leftV
  rw [List.mem_filterMap]
  constructor
  · rintro ⟨i, _, h⟩
    by_cases hi : i ∈ ls
    · rw [if_pos hi] at h
      cases h
    · rw [if_neg hi] at h
      exact ⟨i, h, hi⟩
  · rintro ⟨i, h, hi⟩
    exact ⟨i, List.mem_range.mpr (List.getElem?_eq_some_iff.mp h).1, by rw [if_neg hi]; exact h⟩
theorem leftV_len {α : Type} {xs : List α} {ls : List Nat} : (leftV xs ls).length ≤ xs.length := by
  unfold leftV
  have := List.length_filterMap_le (fun i => if i ∈ ls then none else xs[i]?) (List.range xs.length)
  rw [List.length_range] at this
  exact this
theorem left_ok {es : Es} {ls : List Nat} {Pq : Nat × Nat → Prop} (h : ∀ e ∈ es, Pq e) : ∀ e ∈ left es ls, Pq e := fun e he => by
  obtain ⟨i, hi, _⟩ := mem_leftV.mp he
  exact h e (List.mem_of_getElem? hi)
theorem left_map {α β : Type} {f : Nat → Option α} {g : Nat → Option β} : ∀ {l : List Nat}, (∀ i ∈ l, (f i).isSome = (g i).isSome) →
    (l.filterMap f).length = (l.filterMap g).length ∧ ∀ (j : Nat) (x : α) (y : β), (l.filterMap f)[j]? = some x → (l.filterMap g)[j]? = some y → ∃ i ∈ l, f i = some x ∧ g i = some y
  | [], _ => ⟨rfl, fun j x y h _ => by simp at h⟩
  | i :: r, h => by
    obtain ⟨ih1, ih2⟩ := left_map (l := r) fun k hk => h k (List.mem_cons_of_mem _ hk)
    have hi := h i List.mem_cons_self
    cases ef : f i with
    | none =>
      rw [ef] at hi
      have eg : g i = none := by
        cases q : g i with
        | none => rfl
        | some y => rw [q] at hi; cases hi
      rw [List.filterMap_cons_none ef, List.filterMap_cons_none eg]
      exact ⟨ih1, fun j x y a b => (ih2 j x y a b).elim fun k ⟨hk, q⟩ => ⟨k, List.mem_cons_of_mem _ hk, q⟩⟩
    | some x0 =>
      rw [ef] at hi
      cases eg : g i with
      | none => rw [eg] at hi; cases hi
      | some y0 =>
        rw [List.filterMap_cons_some ef, List.filterMap_cons_some eg]
        refine ⟨by rw [List.length_cons, List.length_cons, ih1], fun j x y a b => ?_⟩
        cases j with
        | zero =>
          cases a
          cases b
          exact ⟨i, List.mem_cons_self, ef, eg⟩
        | succ j => exact (ih2 j x y a b).elim fun k ⟨hk, q⟩ => ⟨k, List.mem_cons_of_mem _ hk, q⟩
theorem Prs.left {K : PySem.W.Frag} {H : Hp} {vs : List V} {es : Es} (p : Prs K H vs es) (ls : List Nat) : Prs K H (leftV vs ls) (leftV es ls) := by
  have h := left_map (f := fun i => if i ∈ ls then none else vs[i]?) (g := fun i => if i ∈ ls then none else es[i]?) (l := List.range vs.length) fun i hi => by
    have h1 : i < vs.length := List.mem_range.mp hi
    by_cases hm : i ∈ ls
    · simp only [if_pos hm]
      rfl
    · simp only [if_neg hm]
      rw [List.getElem?_eq_getElem h1, List.getElem?_eq_getElem (by rw [← p.len]; exact h1)]
      rfl
  have e : leftV es ls = (List.range vs.length).filterMap fun i => if i ∈ ls then none else es[i]? := by
    unfold leftV
    rw [p.len]
  rw [e]
  refine ⟨h.1, fun j v e' a b => ?_⟩
  obtain ⟨i, _, q1, q2⟩ := h.2 j v e' a b
  by_cases hm : i ∈ ls
  · rw [if_pos hm] at q1
    cases q1
  · rw [if_neg hm] at q1 q2
    exact p.at_ i v e' q1 q2
def spOpen (K : PySem.W.Frag) (C : Addr) : Sp := fun vs H Q _ => ∃ (p : Addr) (n : Nat) (a : Addr) (pvs : List V) (es : Es) (c : Addr) (gs : List Nat) (b : Addr) (ls : List Nat), vs = [.ref p, .ref b] ∧ MapOk K C H p n a pvs es c gs ∧ SqT K H b (ls.map nV) ∧ (∀ z ∈ ls, z < es.length) ∧
  ∀ H' (ok : Bool), Same H H' → (ok = true ↔ ∀ g ∈ gs, Rch (left es ls) [0] g) → Q (.bl ok) H'
theorem ok_goals_are_open {CMap : Addr} (C : MapC K mg CMap) (h_leads_to_all : Has P w K mg base "leads_to_all" 2 ["many", "pairs", "places"] (spLeads K)) (h_pairs_left : Has P w K mg base "pairs_left" 2 ["arrows", "rotten"] (spPairsLeft K))
    (h_many : HasM P w K mg base CMap "many" 1 ["self"] (spMany K CMap)) (h_arrows : HasM P w K mg base CMap "arrows" 1 ["self"] (spArrows K CMap)) (h_goals : HasM P w K mg base CMap "goals" 1 ["self"] (spGoals K CMap))
    (D0 : Df K mg "goals_are_open" s_goals_are_open ["chart", "rotten"]) : Has P w K mg base "goals_are_open" 3 ["chart", "rotten"] (spOpen K CMap) := by
  refine D0.has fun f fd F => F.ok sc_goals_are_open (fun vs H Q E h => ?_) (fun cdv A outer s H vs Q E hr h => ?_)
  · obtain ⟨p, n, a, pvs, es, c, gs, b, ls, rfl, _⟩ := h
    rfl
  · obtain ⟨p, n, a, pvs, es, c, gs, b, ls, rfl, m, hB, hls, q⟩ := h
    refine ⟨_, (pss_one (ps_ret (pcall h_leads_to_all hr (by decide) (by rfl) (pa_cons (pe_meth0 (pv 0) C.cl h_many.mt h_many.F (hr.mono (by decide)) h_many.b .nil pass0) (pa_cons (pcall h_pairs_left hr (by decide) (by rfl) (pa_cons (pe_meth0 (pv 0) C.cl h_arrows.mt h_arrows.F (hr.mono (by decide)) h_arrows.b .nil pass0) (pa_cons (pv 1) pa_nil))) (pa_cons (pe_meth0 (pv 0) C.cl h_goals.mt h_goals.F (hr.mono (by decide)) h_goals.b .nil pass0) pa_nil)))))), ?_⟩
    have ma := m.at_
    obtain ⟨dx, hp⟩ := ma.ob
    have hl := m.pr.len
    refine ⟨_, rfl, p, dx, _, rfl, hp, mapF_many _ _ _, p, n, a, pvs, c, gs, rfl, ma, ?_⟩
    refine ⟨_, rfl, p, dx, _, rfl, hp, mapF_arrows _ _ _, p, n, a, pvs, c, gs, rfl, ma, _, rfl, ?_⟩
    refine ⟨a, b, pvs, ls, rfl, ma.ar, hB, fun z hz => by rw [hl]; exact hls z hz, by have := m.el; omega, fun d H1 s1 nd hd => ?_⟩
    have m1 := m.same s1
    obtain ⟨dx1, hp1⟩ := m1.at_.ob
    refine ⟨_, rfl, p, dx1, _, rfl, hp1, mapF_goals _ _ _, p, n, a, pvs, c, gs, rfl, m1.at_, ?_⟩
    refine ⟨n, d, c, leftV pvs ls, left es ls, gs, rfl, .inl (sql hd), (m1.pr).left ls, m1.at_.go, left_ok m.ok, m.gl, m.n0, m.n1, Nat.le_trans leftV_len m.el, m.gn, fun H' ok s' hok => q H' ok (s1.trans s') hok⟩

/-- a tuple of two lots of numbers -/
structure StdAt (K : PySem.W.Frag) (H : Hp) (t x y : Addr) (rs ls : List Nat) : Prop where
  t : SqT K H t [.ref x, .ref y]
  x : SqT K H x (rs.map nV)
  y : SqT K H y (ls.map nV)
theorem StdAt.same {K : PySem.W.Frag} {H H' : Hp} {t x y : Addr} {rs ls : List Nat} (h : StdAt K H t x y rs ls) (s : Same H H') : StdAt K H' t x y rs ls := ⟨Same.sqt s h.t, Same.sqt s h.x, Same.sqt s h.y⟩
def PairT (H : Hp) (v : V) (e : Nat × Nat) : Prop := ∃ t, v = .ref t ∧ H t = some (.tup [nV e.1, nV e.2])
theorem PairT.at_ {K : PySem.W.Frag} {H : Hp} {v : V} {e : Nat × Nat} (h : PairT H v e) : PairAt K H v e := h.elim fun t ⟨a, b⟩ => ⟨t, a, sqt b⟩
/-- what a place of a comprehension over pairs gives -/
def RelG (G : Nat × Nat → Option (Nat × Nat)) (es : Es) (i : Nat) (H : Hp) (o : Option V) : Prop :=
  ∃ e, es[i]? = some e ∧ ((∃ e' v, G e = some e' ∧ o = some v ∧ PairT H v e') ∨ (G e = none ∧ o = none))
theorem RelG.stay {G : Nat × Nat → Option (Nat × Nat)} {es : Es} {D : Addr} (i : Nat) (o : Option V) (H H' : Hp) (acc : List V) (hD : H D = some (.lst acc)) (h : RelG G es i H o)
    (k : ∀ b u, b ≠ D → H b = some u → H' b = some u) : RelG G es i H' o := by
  obtain ⟨e, he, h⟩ := h
  refine ⟨e, he, ?_⟩
  rcases h with ⟨e', v, h1, h2, t, rfl, ht⟩ | h
  · exact .inl ⟨e', _, h1, h2, t, rfl, k _ _ (ne_of ht hD (by intro z; cases z)) ht⟩
  · exact .inr h
theorem prs_rel {K : PySem.W.Frag} {H : Hp} {G : Nat × Nat → Option (Nat × Nat)} : ∀ {es : Es} {os : List (Option V)}, os.length = es.length → (∀ i o, os[i]? = some o → RelG G es i H o) → Prs K H (os.filterMap id) (es.filterMap G)
  | [], [], _, _ => ⟨rfl, fun i v e h _ => by simp at h⟩
  | e :: es, o :: os, hl, h => by
    have ih := prs_rel (K := K) (es := es) (os := os) (by simpa using hl) fun i o' hi => by
      obtain ⟨e', h1, h2⟩ := h (i + 1) o' (by simpa using hi)
      exact ⟨e', by simpa using h1, h2⟩
    obtain ⟨e0, h0, h1⟩ := h 0 o rfl
    cases (show some e = some e0 from h0)
    rcases h1 with ⟨e', v, h1, rfl, hv⟩ | ⟨h1, rfl⟩
    · rw [List.filterMap_cons_some h1, List.filterMap_cons_some (f := id) (b := v) rfl]
      refine ⟨by rw [List.length_cons, List.length_cons, ih.len], fun i x y a b => ?_⟩
      cases i with
      | zero =>
        cases a
        cases b
        exact hv.at_
      | succ i => exact ih.at_ i x y a b
    · rw [List.filterMap_cons_none h1, List.filterMap_cons_none (f := id) rfl]
      exact ih
  | [], _ :: _, hl, _ => by cases hl
  | _ :: _, [], hl, _ => by cases hl
/-- the edges between the places that are reached, without the rotten ones -/
def innG (rs : List Nat) (e : Nat × Nat) : Option (Nat × Nat) := if e.1 ∈ rs ∧ e.2 ∈ rs then some e else none
abbrev inner (es : Es) (rs ls : List Nat) : Es := (left es ls).filterMap (innG rs)
theorem fmG_ok {G : Nat × Nat → Option (Nat × Nat)} {es : Es} {Pq : Nat × Nat → Prop} (hG : ∀ e e', G e = some e' → Pq e → Pq e') (h : ∀ e ∈ es, Pq e) : ∀ e ∈ es.filterMap G, Pq e := fun e' he => by
  obtain ⟨e, h1, h2⟩ := List.mem_filterMap.mp he
  exact hG e e' h2 (h e h1)
theorem inn_ok {rs : List Nat} {e e' : Nat × Nat} {Pq : Nat × Nat → Prop} (h : innG rs e = some e') (p : Pq e) : Pq e' := by
  unfold innG at h
  split at h
  · cases h
    exact p
  · cases h
/-- a standing of the map -/
structure StdOk (n : Nat) (es : Es) (gs rs ls : List Nat) : Prop where
  rp : rs.Pairwise (· < ·)
  lp : ls.Pairwise (· < ·)
  rn : ∀ r ∈ rs, r < n
  ln : ∀ l ∈ ls, l < es.length
  r0 : 0 ∈ rs
  tl : ∀ l ∈ ls, ∀ e, es[l]? = some e → e.1 ∈ rs
  hold : ∀ r ∈ rs, Rch (inner es rs ls) [0] r
  opn : ∀ g ∈ gs, Rch (left es ls) [0] g
theorem kn_nats {K : PySem.W.Frag} {H : Hp} {gs : List Nat} : ∀ x ∈ gs.map nV, ∃ s, Kn K H x s := fun x hx => by
  obtain ⟨z, _, rfl⟩ := List.mem_map.mp hx
  exact ⟨"int", kn_of_int⟩

/-- the edges between places that are not reached -/
def unrG (rs : List Nat) (e : Nat × Nat) : Option (Nat × Nat) := if e.1 ∉ rs ∧ e.2 ∉ rs then some e else none
abbrev unr (es : Es) (rs ls : List Nat) : Es := (left es ls).filterMap (unrG rs)
theorem unr_ok {rs : List Nat} {e e' : Nat × Nat} {Pq : Nat × Nat → Prop} (h : unrG rs e = some e') (p : Pq e) : Pq e' := by
  unfold unrG at h
  split at h
  · cases h
    exact p
  · cases h
/-- edges turned about -/
def swp (e : Nat × Nat) : Nat × Nat := (e.2, e.1)
abbrev backE (es : Es) (rs ls : List Nat) : Es := (unr es rs ls).filterMap fun e => some (swp e)
abbrev openG (gs rs : List Nat) : List Nat := gs.filterMap fun g => if g ∈ rs then none else some g
theorem mem_openG {gs rs : List Nat} {g : Nat} : g ∈ openG gs rs ↔ g ∈ gs ∧ g ∉ rs := by
  unfold openG
  rw [List.mem_filterMap]
  constructor
  · rintro ⟨z, hz, h⟩
    by_cases hm : z ∈ rs
    · rw [if_pos hm] at h
      cases h
    · rw [if_neg hm] at h
      cases h
      exact ⟨hz, hm⟩
  · rintro ⟨h1, h2⟩
    exact ⟨g, h1, if_neg h2⟩

abbrev s__unreached_pairs : Stmt := topS 33
abbrev sl__unreached_pairs : List Str := ["chart", "standing", "reached", "rotten", "inside", "left", "tail", "head"]
theorem sc__unreached_pairs : FnScope ["chart", "standing", "reached", "rotten", "inside", "left", "tail", "head"] ["chart", "standing"] (defScope s__unreached_pairs) := ⟨rfl, rfl, rfl, by decide +kernel, rfl, by decide +kernel, by decide +kernel⟩
def spUnr (K : PySem.W.Frag) (C : Addr) : Sp := fun vs H Q _ => ∃ (p : Addr) (n : Nat) (a : Addr) (pvs : List V) (es : Es) (c : Addr) (gs : List Nat) (t x y : Addr) (rs ls : List Nat), vs = [.ref p, .ref t] ∧ MapOk K C H p n a pvs es c gs ∧
  StdAt K H t x y rs ls ∧ (∀ z ∈ rs, z < n) ∧ (∀ z ∈ ls, z < es.length) ∧
  ∀ D H' xs, Same H H' → H D = none → H' D = some (.lst xs) → Prs K H' xs (unr es rs ls) → Q (.ref D) H'
theorem ok__unreached_pairs {CMap : Addr} (C : MapC K mg CMap) (h_marks : Has P w K mg base "marks" 1 ["many", "lot"] (spMarks K))
    (h_pairs_left : Has P w K mg base "pairs_left" 2 ["arrows", "rotten"] (spPairsLeft K)) (h_many : HasM P w K mg base CMap "many" 1 ["self"] (spMany K CMap)) (h_arrows : HasM P w K mg base CMap "arrows" 1 ["self"] (spArrows K CMap))
    (D0 : Df K mg "_unreached_pairs" s__unreached_pairs ["chart", "standing"]) : Has P w K mg base "_unreached_pairs" 3 ["chart", "standing"] (spUnr K CMap) := by
  refine D0.has fun f fd F => F.ok sc__unreached_pairs (fun vs H Q E h => ?_) (fun cdv A outer s H vs Q E hr h => ?_)
  · obtain ⟨p, n, a, pvs, es, c, gs, t, x, y, rs, ls, rfl, _⟩ := h
    rfl
  · obtain ⟨p, n, a, pvs, es, c, gs, t, x, y, rs, ls, rfl, m, S, hrs, hls, q⟩ := h
    refine ⟨_, (pss_cons (ps_asg (pv 1) (pg_tup rfl (pgs_cons (pg_name (i := 2) sc__unreached_pairs.nd rfl (.inl rfl)) (pgs_cons (pg_name (i := 3) sc__unreached_pairs.nd rfl (.inl rfl)) pgs_nil))))
  (pss_cons (ps_set (i := 4) sc__unreached_pairs.nd rfl (.inr rfl) (pcall h_marks hr (by decide) (by rfl) (pa_cons (pe_meth0 (pv 0) C.cl h_many.mt h_many.F (hr.mono (by decide)) h_many.b .nil pass0) (pa_cons (pv 2) pa_nil))))
  (pss_cons (ps_set (i := 5) sc__unreached_pairs.nd rfl (.inl rfl) (pcall h_pairs_left hr (by decide) (by rfl) (pa_cons (pe_meth0 (pv 0) C.cl h_arrows.mt h_arrows.F (hr.mono (by decide)) h_arrows.b .nil pass0) (pa_cons (pv 3) pa_nil))))
  (pss_one (ps_ret (pe_lc (own := [("tail", 6), ("head", 7)]) (g := gTup K 2 (gCons (gName 6) (gCons (gName 7) gNil))) rfl sc__unreached_pairs.nd (k_pil (K := K) rfl (pv 5)) (blkOk_by (N := sl__unreached_pairs) (sc := defScope s__unreached_pairs) (by decide +kernel)) (fun _ _ _ _ _ => (pg_tup rfl (pgs_cons (pg_name (i := 6) sc__unreached_pairs.nd rfl (.inl rfl)) (pgs_cons (pg_name (i := 7) sc__unreached_pairs.nd rfl (.inl rfl)) pgs_nil)))) (fun _ _ _ _ _ => pts_one (PW.pt (pw_and (pt_not (pt_val (pe_ix (k_ixl (K := K) rfl) (pv 4) (pv 6) (fun _ _ => rfl)))) (pw_and1 (pt_not (pt_val (pe_ix (k_ixl (K := K) rfl) (pv 4) (pv 7) (fun _ _ => rfl)))))))) (fun _ _ _ _ _ => (pe_tup (pa_cons (pv 6) (pa_cons (pv 7) pa_nil)))))))))), ?_⟩
    obtain ⟨dx, hp⟩ := m.at_.ob
    have hl := m.pr.len
    refine ⟨_, rfl, t, _, rfl, S.t, rfl, _, _, rfl, _, _, rfl, rfl, ?_⟩
    refine ⟨_, rfl, p, dx, _, rfl, hp, mapF_many _ _ _, p, n, a, pvs, c, gs, rfl, m.at_, _, rfl, n, x, rs, rfl, S.x, hrs, by have := m.n1; omega, fun d H1 s1 nd hd => ?_⟩
    have m1 := m.same s1
    obtain ⟨dx1, hp1⟩ := m1.at_.ob
    refine ⟨_, rfl, p, dx1, _, rfl, hp1, mapF_arrows _ _ _, p, n, a, pvs, c, gs, rfl, m1.at_, _, rfl, a, y, pvs, ls, rfl, m1.at_.ar, Same.sqt s1 S.y, fun z hz => by rw [hl]; exact hls z hz, by have := m.el; omega, fun lf H2 s2 nlf hlf => ?_⟩
    have m2 := m1.same s2
    have p2 := m2.pr.left ls
    have hd2 := s2 _ _ hd
    refine ⟨_, rfl, lf, rfl, ⟨_, sql hlf⟩, fun D nD => ?_⟩
    refine lc_rel walk_list calm_at (RelG (unrG rs) (left es ls)) RelG.stay (by have := leftV_len (xs := pvs) (ls := ls); have := m.el; omega) nD (fun H3 s3 => sql (s3 _ _ hlf)) ?_ fun H3 os s3 hol hos h3 => ?_
    · rintro i v H3 H4 hi s3 ⟨rfl, hv⟩ Kt kt
      obtain ⟨e, hei, t, rfl, ht⟩ := p2.get hv
      obtain ⟨e1, e2⟩ := e
      have hok := left_ok m.ok _ (List.mem_of_getElem? hei)
      have hd3 := s3 _ _ hd2
      refine ⟨t, _, rfl, Same.sqt s3 ht, rfl, _, _, rfl, _, _, rfl, rfl, rfl, ?_⟩
      refine ⟨_, rfl, _, rfl, d, _, (e1 : Int), _, rfl, rfl, sql hd3, atI_nat (mks_get hok.1), _, rfl, ?_⟩
      by_cases h1 : e1 ∈ rs
      · rw [decide_eq_true h1]
        refine iteF ?_
        refine iteF (kt _ _ (Same.refl _) ⟨(e1, e2), hei, .inr ⟨by unfold unrG; rw [if_neg fun z => z.1 h1], rfl⟩⟩)
      · rw [decide_eq_false h1]
        refine iteT ⟨_, rfl, _, rfl, d, _, (e2 : Int), _, rfl, rfl, sql hd3, atI_nat (mks_get hok.2), _, rfl, ?_⟩
        by_cases h2 : e2 ∈ rs
        · rw [decide_eq_true h2]
          refine iteF (kt _ _ (Same.refl _) ⟨(e1, e2), hei, .inr ⟨by unfold unrG; rw [if_neg fun z => z.2 h2], rfl⟩⟩)
        · rw [decide_eq_false h2]
          refine iteT ⟨_, rfl, _, rfl, by show 2 ≤ sizeLine; decide, fun t2 nt2 => kt _ _ (same_new (Same.refl _) nt2) ⟨(e1, e2), hei, .inl ⟨(e1, e2), _, by unfold unrG; rw [if_pos ⟨h1, h2⟩], rfl, t2, rfl, upd_same⟩⟩⟩
    · have sm : Same H H3 := (s1.trans s2).trans s3
      exact q D H3 _ sm (Same.free (s1.trans s2) nD) h3 (prs_rel (K := K) (hol.trans p2.len) hos)

/-- a standing of a map, as it is handed in: the values, and that it is one -/
structure At (K : PySem.W.Frag) (C : Addr) (H : Hp) (p : Addr) (n : Nat) (a : Addr) (pvs : List V) (es : Es) (c : Addr) (gs : List Nat) (t x y : Addr) (rs ls : List Nat) : Prop where
  m : MapOk K C H p n a pvs es c gs
  S : StdAt K H t x y rs ls
  o : StdOk n es gs rs ls
theorem At.same {K : PySem.W.Frag} {C : Addr} {H H' : Hp} {p : Addr} {n : Nat} {a : Addr} {pvs : List V} {es : Es} {c : Addr} {gs : List Nat} {t x y : Addr} {rs ls : List Nat} (h : At K C H p n a pvs es c gs t x y rs ls) (s : Same H H') :
    At K C H' p n a pvs es c gs t x y rs ls := ⟨h.m.same s, h.S.same s, h.o⟩
theorem At.rl {K : PySem.W.Frag} {C : Addr} {H : Hp} {p : Addr} {n : Nat} {a : Addr} {pvs : List V} {es : Es} {c : Addr} {gs : List Nat} {t x y : Addr} {rs ls : List Nat} (h : At K C H p n a pvs es c gs t x y rs ls) : rs.length ≤ 1000 := by
  have := pw_len h.o.rp (l := 0) fun z hz => ⟨Nat.zero_le _, h.o.rn z hz⟩
  have := h.m.n1
  omega
theorem At.ll {K : PySem.W.Frag} {C : Addr} {H : Hp} {p : Addr} {n : Nat} {a : Addr} {pvs : List V} {es : Es} {c : Addr} {gs : List Nat} {t x y : Addr} {rs ls : List Nat} (h : At K C H p n a pvs es c gs t x y rs ls) : ls.length ≤ 1000 := by
  have := pw_len h.o.lp (l := 0) fun z hz => ⟨Nat.zero_le _, h.o.ln z hz⟩
  have := h.m.el
  omega
/-- promises of functions of a map and a standing: R of the answer and the heap -/
def spOf (K : PySem.W.Frag) (C : Addr) (R : Nat → Es → List Nat → List Nat → List Nat → Hp → V → Hp → Prop) : Sp := fun vs H Q _ =>
  ∃ (p : Addr) (n : Nat) (a : Addr) (pvs : List V) (es : Es) (c : Addr) (gs : List Nat) (t x y : Addr) (rs ls : List Nat), vs = [.ref p, .ref t] ∧ At K C H p n a pvs es c gs t x y rs ls ∧ ∀ v H', Same H H' → R n es gs rs ls H v H' → Q v H'
theorem range_pw (n : Nat) : (List.range n).Pairwise (· < ·) := List.pairwise_lt_range
theorem fm_pw {n : Nat} {F : Nat → Option Nat} (hF : ∀ i j, F i = some j → j = i) : ((List.range n).filterMap F).Pairwise (· < ·) := by
  refine List.Pairwise.filterMap F (fun a b hab x hx y hy => ?_) (range_pw n)
  rw [hF a x hx, hF b y hy]
  exact hab

abbrev s_done_at : Stmt := topS 29
abbrev sl_done_at : List Str := ["chart", "standing", "reached", "_", "inside", "goal"]
theorem sc_done_at : FnScope ["chart", "standing", "reached", "_", "inside", "goal"] ["chart", "standing"] (defScope s_done_at) := ⟨rfl, rfl, rfl, by decide +kernel, rfl, by decide +kernel, by decide +kernel⟩
def RDone : Nat → Es → List Nat → List Nat → List Nat → Hp → V → Hp → Prop := fun _ _ gs rs _ _ v _ => v = .bl (decide (∀ g ∈ gs, g ∈ rs))
theorem ok_done_at {CMap : Addr} (B : Bt mg) (C : MapC K mg CMap) (h_marks : Has P w K mg base "marks" 1 ["many", "lot"] (spMarks K)) 
    (h_many : HasM P w K mg base CMap "many" 1 ["self"] (spMany K CMap)) (h_goals : HasM P w K mg base CMap "goals" 1 ["self"] (spGoals K CMap))
    (D0 : Df K mg "done_at" s_done_at ["chart", "standing"]) : Has P w K mg base "done_at" 2 ["chart", "standing"] (spOf K CMap RDone) := by
  refine D0.has fun f fd F => F.ok sc_done_at (fun vs H Q E h => ?_) (fun cdv A outer s H vs Q E hr h => ?_)
  · obtain ⟨p, n, a, pvs, es, c, gs, t, x, y, rs, ls, rfl, _⟩ := h
    rfl
  · obtain ⟨p, n, a, pvs, es, c, gs, t, x, y, rs, ls, rfl, hh, q⟩ := h
    refine ⟨_, (pss_cons (ps_asg (pv 1) (pg_tup rfl (pgs_cons (pg_name (i := 2) sc_done_at.nd rfl (.inl rfl)) (pgs_cons (pg_name (i := 3) sc_done_at.nd rfl (.inl rfl)) pgs_nil))))
  (pss_cons (ps_set (i := 4) sc_done_at.nd rfl (.inr rfl) (pcall h_marks hr (by decide) (by rfl) (pa_cons (pe_meth0 (pv 0) C.cl h_many.mt h_many.F (hr.mono (by decide)) h_many.b .nil pass0) (pa_cons (pv 2) pa_nil))))
  (pss_one (ps_ret (pe_callB (k_all (K := K) rfl rfl) (by rfl) B.all bo_all (pa_cons (pe_lc (own := [("goal", 5)]) (g := gName 5) rfl sc_done_at.nd (k_pit (K := K) rfl (pe_meth0 (pv 0) C.cl h_goals.mt h_goals.F (hr.mono (by decide)) h_goals.b .nil pass0)) (blkOk_by (N := sl_done_at) (sc := defScope s_done_at) (by decide +kernel)) (fun _ _ _ _ _ => (pg_name (i := 5) sc_done_at.nd rfl (.inl rfl))) (fun _ _ _ _ _ => pts_nil) (fun _ _ _ _ _ => (pe_ix (k_ixl (K := K) rfl) (pv 4) (pv 5) (fun _ _ => rfl)))) pa_nil)))))), ?_⟩
    have s1 := Same.refl H
    have h1 := hh
    obtain ⟨dx, hp⟩ := h1.m.at_.ob
    refine ⟨_, rfl, t, _, rfl, h1.S.t, rfl, _, _, rfl, _, _, rfl, rfl, ?_⟩
    refine ⟨_, rfl, p, dx, _, rfl, hp, mapF_many _ _ _, p, n, a, pvs, c, gs, rfl, h1.m.at_, _, rfl, n, x, rs, rfl, h1.S.x, h1.o.rn, by have := h1.m.n1; omega, fun d H2 s2 nd hd => ?_⟩
    have h2 := h1.same s2
    obtain ⟨dx2, hp2⟩ := h2.m.at_.ob
    refine ⟨_, rfl, p, dx2, _, rfl, hp2, mapF_goals _ _ _, p, n, a, pvs, c, gs, rfl, h2.m.at_, c, rfl, ⟨_, h2.m.at_.go⟩, fun D nD => ?_⟩
    refine lc_val walk_tup calm_at (fun i => (gs[i]?).bind fun g => some (V.bl (decide (g ∈ rs)))) (by rw [List.length_map]; have := h2.m.gn; omega) nD (fun H3 s3 => Same.sqt s3 h2.m.at_.go) ?_ fun H3 s3 h3 => ?_
    · rintro i v H3 H4 hi s3 ⟨rfl, hv⟩ Kt kt
      obtain ⟨g, hgi, rfl⟩ := getmap hv
      have hgn := h2.m.gl g (List.mem_of_getElem? hgi)
      refine ⟨rfl, tyes ?_⟩
      refine iteT ?_
      refine ⟨_, rfl, _, rfl, d, _, (g : Int), _, rfl, rfl, sql (s3 _ _ hd), atI_nat (mks_get hgn), ?_⟩
      have k0 := kt _ (Same.refl _)
      rw [hgi] at k0
      exact k0
    · rw [List.length_map, fm_range, fm_some] at h3
      refine ⟨D, gs.map fun g => decide (g ∈ rs), rfl, sql (by rw [h3, List.map_map]; rfl), ?_⟩
      refine q _ H3 ((s1.trans s2).trans s3) ?_
      show V.bl _ = V.bl _
      congr 1
      rw [Bool.eq_iff_iff, List.all_eq_true, decide_eq_true_eq]
      constructor
      · intro h g hg
        exact of_decide_eq_true (h _ (List.mem_map.mpr ⟨g, hg, rfl⟩))
      · intro h z hz
        obtain ⟨g, hg, rfl⟩ := List.mem_map.mp hz
        exact decide_eq_true (h g hg)

abbrev s_steps_to_go : Stmt := topS 32
abbrev sl_steps_to_go : List Str := ["chart", "standing", "reached", "_", "inside", "turned", "goals", "tail", "head", "goal"]
theorem sc_steps_to_go : FnScope ["chart", "standing", "reached", "_", "inside", "turned", "goals", "tail", "head", "goal"] ["chart", "standing"] (defScope s_steps_to_go) := ⟨rfl, rfl, rfl, by decide +kernel, rfl, by decide +kernel, by decide +kernel⟩
def RGo : Nat → Es → List Nat → List Nat → List Nat → Hp → V → Hp → Prop := fun n es gs rs ls H v H' => ∃ D st, v = .ref D ∧ H D = none ∧ H' D = some (.lst (stV n st)) ∧
  ∀ u, u < n → (∀ d, st u = some d ↔ Dst (backE es rs ls) (openG gs rs) u d) ∧ (st u = none ↔ ¬ Rch (backE es rs ls) (openG gs rs) u)
theorem ok_steps_to_go {CMap : Addr} (C : MapC K mg CMap) (h_marks : Has P w K mg base "marks" 1 ["many", "lot"] (spMarks K)) (h_steps_from : Has P w K mg base "steps_from" 1 ["many", "pairs", "sources"] (spSteps K))
    (h_unreached_pairs : Has P w K mg base "_unreached_pairs" 3 ["chart", "standing"] (spUnr K CMap))
    (h_many : HasM P w K mg base CMap "many" 1 ["self"] (spMany K CMap)) (h_goals : HasM P w K mg base CMap "goals" 1 ["self"] (spGoals K CMap))
    (D0 : Df K mg "steps_to_go" s_steps_to_go ["chart", "standing"]) : Has P w K mg base "steps_to_go" 4 ["chart", "standing"] (spOf K CMap RGo) := by
  refine D0.has fun f fd F => F.ok sc_steps_to_go (fun vs H Q E h => ?_) (fun cdv A outer s H vs Q E hr h => ?_)
  · obtain ⟨p, n, a, pvs, es, c, gs, t, x, y, rs, ls, rfl, _⟩ := h
    rfl
  · obtain ⟨p, n, a, pvs, es, c, gs, t, x, y, rs, ls, rfl, h1, q⟩ := h
    refine ⟨_, (pss_cons (ps_asg (pv 1) (pg_tup rfl (pgs_cons (pg_name (i := 2) sc_steps_to_go.nd rfl (.inl rfl)) (pgs_cons (pg_name (i := 3) sc_steps_to_go.nd rfl (.inl rfl)) pgs_nil))))
  (pss_cons (ps_set (i := 4) sc_steps_to_go.nd rfl (.inr rfl) (pcall h_marks hr (by decide) (by rfl) (pa_cons (pe_meth0 (pv 0) C.cl h_many.mt h_many.F (hr.mono (by decide)) h_many.b .nil pass0) (pa_cons (pv 2) pa_nil))))
  (pss_cons (ps_setLc (i := 5) (own := [("tail", 7), ("head", 8)]) (g := gTup K 2 (gCons (gName 7) (gCons (gName 8) gNil))) rfl sc_steps_to_go.nd rfl rfl (sw_true rfl rfl rfl (by decide +kernel)) (k_pil (K := K) rfl (pcall h_unreached_pairs hr (by decide) (by rfl) (pa_cons (pv 0) (pa_cons (pv 1) pa_nil)))) (blkOk_by (N := sl_steps_to_go) (sc := defScope s_steps_to_go) (by decide +kernel)) (fun _ _ _ _ _ => (pg_tup rfl (pgs_cons (pg_name (i := 7) sc_steps_to_go.nd rfl (.inl rfl)) (pgs_cons (pg_name (i := 8) sc_steps_to_go.nd rfl (.inl rfl)) pgs_nil)))) (fun _ _ _ _ _ => pts_nil) (fun _ _ _ _ _ => (pe_tup (pa_cons (pv 8) (pa_cons (pv 7) pa_nil)))))
  (pss_cons (ps_setLc (i := 6) (own := [("goal", 9)]) (g := gName 9) rfl sc_steps_to_go.nd rfl rfl (sw_true rfl rfl rfl (by decide +kernel)) (k_pit (K := K) rfl (pe_meth0 (pv 0) C.cl h_goals.mt h_goals.F (hr.mono (by decide)) h_goals.b .nil pass0)) (blkOk_by (N := sl_steps_to_go) (sc := defScope s_steps_to_go) (by decide +kernel)) (fun _ _ _ _ _ => (pg_name (i := 9) sc_steps_to_go.nd rfl (.inl rfl))) (fun _ _ _ _ _ => pts_one (pt_not (pt_val (pe_ix (k_ixl (K := K) rfl) (pv 4) (pv 9) (fun _ _ => rfl))))) (fun _ _ _ _ _ => (pv 9)))
  (pss_one (ps_ret (pcall h_steps_from hr (by decide) (by rfl) (pa_cons (pe_meth0 (pv 0) C.cl h_many.mt h_many.F (hr.mono (by decide)) h_many.b .nil pass0) (pa_cons (pv 5) (pa_cons (pv 6) pa_nil)))))))))), ?_⟩
    obtain ⟨dx, hp⟩ := h1.m.at_.ob
    refine ⟨_, rfl, t, _, rfl, h1.S.t, rfl, _, _, rfl, _, _, rfl, rfl, ?_⟩
    refine ⟨_, rfl, p, dx, _, rfl, hp, mapF_many _ _ _, p, n, a, pvs, c, gs, rfl, h1.m.at_, _, rfl, n, x, rs, rfl, h1.S.x, h1.o.rn, by have := h1.m.n1; omega, fun d H2 s2 nd hd => ?_⟩
    have h2 := h1.same s2
    -- turned
    refine ⟨_, rfl, _, rfl, p, n, a, pvs, es, c, gs, t, x, y, rs, ls, rfl, h2.m, h2.S, h2.o.rn, h2.o.ln, fun ul H3 uvs s3 nul hul hpr => ?_⟩
    have h3 := h2.same s3
    refine ⟨ul, rfl, ⟨_, sql hul⟩, fun D nD => ?_⟩
    have hul2 : uvs.length ≤ 1000 := by
      rw [hpr.len]
      exact Nat.le_trans (List.length_filterMap_le _ _) (Nat.le_trans leftV_len h1.m.el)
    refine lc_rel walk_list calm_at (RelG (fun e => some (swp e)) (unr es rs ls)) RelG.stay (by omega) nD (fun H4 s4 => sql (s4 _ _ hul)) ?_ fun H4 os s4 hol hos hD4 => ?_
    · rintro i v H4 H5 hi s4 ⟨rfl, hv⟩ Kt kt
      obtain ⟨e, hei, tt, rfl, ht⟩ := hpr.get hv
      obtain ⟨e1, e2⟩ := e
      refine ⟨tt, _, rfl, Same.sqt s4 ht, rfl, _, _, rfl, _, _, rfl, rfl, rfl, tyes ?_⟩
      refine iteT ?_
      exact ⟨_, rfl, _, rfl, by show 2 ≤ sizeLine; decide, fun t2 nt2 => kt _ _ (same_new (Same.refl _) nt2) ⟨(e1, e2), hei, .inl ⟨(e2, e1), _, rfl, rfl, t2, rfl, upd_same⟩⟩⟩
    have p4 := prs_rel (K := K) (hol.trans hpr.len) hos
    have h4 := h3.same s4
    have hd4 := s4 _ _ (s3 _ _ hd)
    obtain ⟨dx4, hp4⟩ := h4.m.at_.ob
    -- goals
    refine ⟨_, rfl, p, dx4, _, rfl, hp4, mapF_goals _ _ _, p, n, a, pvs, c, gs, rfl, h4.m.at_, c, rfl, ⟨_, h4.m.at_.go⟩, fun G nG => ?_⟩
    refine lc_val walk_tup calm_at (fun i => (gs[i]?).bind fun g => if g ∈ rs then none else some (nV g)) (by rw [List.length_map]; have := h2.m.gn; omega) nG (fun H5 s5 => Same.sqt s5 h4.m.at_.go) ?_ fun H5 s5 hG5 => ?_
    · rintro i v H5 H6 hi s5 ⟨rfl, hv⟩ Kt kt
      obtain ⟨g, hgi, rfl⟩ := getmap hv
      have hgn := h2.m.gl g (List.mem_of_getElem? hgi)
      refine ⟨rfl, ?_⟩
      refine ⟨_, rfl, _, rfl, d, _, (g : Int), _, rfl, rfl, sql (s5 _ _ hd4), atI_nat (mks_get hgn), _, rfl, ?_⟩
      have k0 := kt _ (Same.refl _)
      rw [hgi] at k0
      by_cases hm : g ∈ rs
      · rw [decide_eq_true hm]
        refine iteF ?_
        have k1 : Kt (if g ∈ rs then none else some (nV g)) _ := k0
        rw [if_pos hm] at k1
        exact k1
      · rw [decide_eq_false hm]
        refine iteT ⟨_, rfl, ?_⟩
        have k1 : Kt (if g ∈ rs then none else some (nV g)) _ := k0
        rw [if_neg hm] at k1
        exact k1
    rw [List.length_map, fm_range] at hG5
    have eG : (gs.filterMap fun g => if g ∈ rs then none else some (nV g)) = (openG gs rs).map nV := by
      unfold openG
      rw [List.map_filterMap]
      congr 1
      funext g
      by_cases hm : g ∈ rs
      · rw [if_pos hm, if_pos hm]
        rfl
      · rw [if_neg hm, if_neg hm]
        rfl
    rw [eG] at hG5
    have h5 := h4.same s5
    obtain ⟨dx5, hp5⟩ := h5.m.at_.ob
    refine ⟨_, rfl, p, dx5, _, rfl, hp5, mapF_many _ _ _, p, n, a, pvs, c, gs, rfl, h5.m.at_, _, rfl, _, rfl, ?_⟩
    have hok : ∀ e ∈ backE es rs ls, e.1 < n ∧ e.2 < n := fun e he => by
      obtain ⟨e0, h6, h7⟩ := List.mem_filterMap.mp he
      cases h7
      have h8 := fmG_ok (Pq := fun e => e.1 < n ∧ e.2 < n) (fun e e' => unr_ok (Pq := fun e => e.1 < n ∧ e.2 < n)) (left_ok h1.m.ok) e0 h6
      exact ⟨h8.2, h8.1⟩
    refine ⟨n, D, G, _, backE es rs ls, openG gs rs, rfl, .inl (sql (s5 _ _ hD4)), p4.same s5, .inl (sql hG5), hok, fun g hg => h1.m.gl g (mem_openG.mp hg).1, h1.m.n1, ?_, fun r H6 st s6 nr hr6 hst => ?_⟩
    · exact Nat.le_trans (List.length_filterMap_le _ _) (Nat.le_trans (List.length_filterMap_le _ _) (Nat.le_trans leftV_len h1.m.el))
    · have sm : Same H H5 := ((s2.trans s3).trans s4).trans s5
      exact q _ H6 (sm.trans s6) ⟨r, st, rfl, Same.free sm nr, hr6, hst⟩

/-- the place is alive -/
def Alive (es : Es) (gs rs ls : List Nat) (v : Nat) : Prop := Rch (backE es rs ls) (openG gs rs) v
def RAlive : Nat → Es → List Nat → List Nat → List Nat → Hp → V → Hp → Prop := fun n es gs rs ls H v H' => ∃ (q : Addr) (as : List Nat), v = .ref q ∧ H q = none ∧ H' q = some (.tup (as.map nV)) ∧ as.Pairwise (· < ·) ∧ ∀ u, u ∈ as ↔ u < n ∧ Alive es gs rs ls u
theorem no_alive {es : Es} {gs rs ls : List Nat} (h : ∀ g ∈ gs, g ∈ rs) {v : Nat} (ha : Alive es gs rs ls v) : False :=
  ha.ind (P := fun _ => False) (fun v hv => (mem_openG.mp hv).2 (h v (mem_openG.mp hv).1)) fun _ _ z _ => z
theorem alive_out {es : Es} {gs rs ls : List Nat} {v : Nat} (h : Alive es gs rs ls v) : v ∉ rs :=
  h.ind (P := fun v => v ∉ rs) (fun v hv => (mem_openG.mp hv).2) fun u v _ e => by
    obtain ⟨e0, h6, h7⟩ := List.mem_filterMap.mp e
    cases h7
    obtain ⟨e1, _, h9⟩ := List.mem_filterMap.mp h6
    unfold unrG at h9
    split at h9
    · rename_i hc
      cases h9
      exact hc.1
    · cases h9
theorem alive_back {es : Es} {gs rs ls : List Nat} {u v k : Nat} (ha : Alive es gs rs ls v) (hk : es[k]? = some (u, v)) (hl : k ∉ ls) (hu : u ∉ rs) (hv : v ∉ rs) : Alive es gs rs ls u := by
  refine Rch.edge ha (List.mem_filterMap.mpr ⟨(u, v), List.mem_filterMap.mpr ⟨(u, v), mem_leftV.mpr ⟨k, hk, hl⟩, ?_⟩, rfl⟩)
  unfold unrG
  exact if_pos ⟨hu, hv⟩
theorem mem_backE {es : Es} {rs ls : List Nat} {e : Nat × Nat} : e ∈ backE es rs ls ↔ ∃ k, es[k]? = some (swp e) ∧ k ∉ ls ∧ e.1 ∉ rs ∧ e.2 ∉ rs := by
  constructor
  · intro h
    obtain ⟨e0, h6, h7⟩ := List.mem_filterMap.mp h
    cases h7
    obtain ⟨e1, h8, h9⟩ := List.mem_filterMap.mp h6
    unfold unrG at h9
    split at h9
    · rename_i hc
      cases h9
      obtain ⟨k, h10, h11⟩ := mem_leftV.mp h8
      exact ⟨k, h10, h11, hc.2, hc.1⟩
    · cases h9
  · rintro ⟨k, h1, h2, h3, h4⟩
    refine List.mem_filterMap.mpr ⟨swp e, List.mem_filterMap.mpr ⟨swp e, mem_leftV.mpr ⟨k, h1, h2⟩, ?_⟩, rfl⟩
    unfold unrG
    exact if_pos ⟨h4, h3⟩

abbrev s_tries_at : Stmt := topS 30
abbrev sl_tries_at : List Str := ["chart", "standing", "reached", "rotten", "inside", "gone", "arrow", "tail", "head"]
theorem sc_tries_at : FnScope ["chart", "standing", "reached", "rotten", "inside", "gone", "arrow", "tail", "head"] ["chart", "standing"] (defScope s_tries_at) := ⟨rfl, rfl, rfl, by decide +kernel, rfl, by decide +kernel, by decide +kernel⟩
def isTry (es : Es) (rs ls : List Nat) (i : Nat) : Option Nat := (es[i]?).bind fun e => if i ∉ ls ∧ e.1 ∈ rs ∧ e.2 ∉ rs then some i else none
def triesL (es : Es) (rs ls : List Nat) : List Nat := (List.range es.length).filterMap (isTry es rs ls)
theorem isTry_some {es : Es} {rs ls : List Nat} {i j : Nat} (h : isTry es rs ls i = some j) : j = i ∧ ∃ e, es[i]? = some e ∧ i ∉ ls ∧ e.1 ∈ rs ∧ e.2 ∉ rs := by
  unfold isTry at h
  cases e : es[i]? with
  | none => rw [e] at h; cases h
  | some x =>
    rw [e] at h
    simp only [Option.bind_some] at h
    split at h
    · rename_i hc
      exact ⟨(Option.some.inj h).symm, x, rfl, hc⟩
    · cases h
theorem mem_tries {es : Es} {rs ls : List Nat} {i : Nat} : i ∈ triesL es rs ls ↔ ∃ e, es[i]? = some e ∧ i ∉ ls ∧ e.1 ∈ rs ∧ e.2 ∉ rs := by
  unfold triesL
  rw [List.mem_filterMap]
  constructor
  · rintro ⟨j, _, h⟩
    obtain ⟨h1, h2⟩ := isTry_some h
    rw [h1]
    exact h2
  · rintro ⟨e, he, h⟩
    refine ⟨i, List.mem_range.mpr (List.getElem?_eq_some_iff.mp he).1, ?_⟩
    unfold isTry
    rw [he]
    exact if_pos h
theorem tries_pw {es : Es} {rs ls : List Nat} : (triesL es rs ls).Pairwise (· < ·) := fm_pw fun i j h => (isTry_some h).1
def RTries : Nat → Es → List Nat → List Nat → List Nat → Hp → V → Hp → Prop := fun n es gs rs ls H v H' => ∃ q : Addr, v = .ref q ∧ H q = none ∧ H' q = some (.tup ((triesL es rs ls).map nV))
theorem ok_tries_at {CMap : Addr} (B : Bt mg) (C : MapC K mg CMap) (h_marks : Has P w K mg base "marks" 1 ["many", "lot"] (spMarks K))
    (h_many : HasM P w K mg base CMap "many" 1 ["self"] (spMany K CMap)) (h_arrows : HasM P w K mg base CMap "arrows" 1 ["self"] (spArrows K CMap))
    (D0 : Df K mg "tries_at" s_tries_at ["chart", "standing"]) : Has P w K mg base "tries_at" 3 ["chart", "standing"] (spOf K CMap RTries) := by
  refine D0.has fun f fd F => F.ok sc_tries_at (fun vs H Q E h => ?_) (fun cdv A outer s H vs Q E hr h => ?_)
  · obtain ⟨p, n, a, pvs, es, c, gs, t, x, y, rs, ls, rfl, _⟩ := h
    rfl
  · obtain ⟨p, n, a, pvs, es, c, gs, t, x, y, rs, ls, rfl, hh, q⟩ := h
    refine ⟨_, (pss_cons (ps_asg (pv 1) (pg_tup rfl (pgs_cons (pg_name (i := 2) sc_tries_at.nd rfl (.inl rfl)) (pgs_cons (pg_name (i := 3) sc_tries_at.nd rfl (.inl rfl)) pgs_nil))))
  (pss_cons (ps_set (i := 4) sc_tries_at.nd rfl (.inr rfl) (pcall h_marks hr (by decide) (by rfl) (pa_cons (pe_meth0 (pv 0) C.cl h_many.mt h_many.F (hr.mono (by decide)) h_many.b .nil pass0) (pa_cons (pv 2) pa_nil))))
  (pss_cons (ps_set (i := 5) sc_tries_at.nd rfl (.inr rfl) (pcall h_marks hr (by decide) (by rfl) (pa_cons (pe_callB (k_len (K := K) rfl) (by rfl) B.len bo_len (pa_cons (pe_meth0 (pv 0) C.cl h_arrows.mt h_arrows.F (hr.mono (by decide)) h_arrows.b .nil pass0) pa_nil)) (pa_cons (pv 3) pa_nil))))
  (pss_one (ps_ret (pe_callTy (k_tuple (K := K) rfl) (by rfl) B.tuple bo_tuple (pa_cons (pe_lc (own := [("arrow", 6), ("tail", 7), ("head", 8)]) (g := gTup K 2 (gCons (gName 6) (gCons (gTup K 2 (gCons (gName 7) (gCons (gName 8) gNil))) gNil))) rfl sc_tries_at.nd (pi_enumT (by rfl) B.enumerate (pa_cons (pe_meth0 (pv 0) C.cl h_arrows.mt h_arrows.F (hr.mono (by decide)) h_arrows.b .nil pass0) pa_nil)) (blkOk_by (N := sl_tries_at) (sc := defScope s_tries_at) (by decide +kernel)) (fun _ _ _ _ _ => (pg_tup rfl (pgs_cons (pg_name (i := 6) sc_tries_at.nd rfl (.inl rfl)) (pgs_cons (pg_tup rfl (pgs_cons (pg_name (i := 7) sc_tries_at.nd rfl (.inl rfl)) (pgs_cons (pg_name (i := 8) sc_tries_at.nd rfl (.inl rfl)) pgs_nil))) pgs_nil)))) (fun _ _ _ _ _ => pts_one (PW.pt (pw_and (pt_not (pt_val (pe_ix (k_ixl (K := K) rfl) (pv 5) (pv 6) (fun _ _ => rfl)))) (pw_and (pt_val (pe_ix (k_ixl (K := K) rfl) (pv 4) (pv 7) (fun _ _ => rfl))) (pw_and1 (pt_not (pt_val (pe_ix (k_ixl (K := K) rfl) (pv 4) (pv 8) (fun _ _ => rfl))))))))) (fun _ _ _ _ _ => (pv 6))) pa_nil))))))), ?_⟩
    have hl := hh.m.pr.len
    have hn1 := hh.m.n1
    have hel := hh.m.el
    have s1 := Same.refl H
    have h1 := hh
    obtain ⟨dx, hp⟩ := h1.m.at_.ob
    refine ⟨_, rfl, t, _, rfl, h1.S.t, rfl, _, _, rfl, _, _, rfl, rfl, ?_⟩
    refine ⟨_, rfl, p, dx, _, rfl, hp, mapF_many _ _ _, p, n, a, pvs, c, gs, rfl, h1.m.at_, _, rfl, n, x, rs, rfl, h1.S.x, h1.o.rn, by omega, fun d H2 s2 nd hd => ?_⟩
    have h2 := h1.same s2
    obtain ⟨dx2, hp2⟩ := h2.m.at_.ob
    refine ⟨_, rfl, p, dx2, _, rfl, hp2, mapF_arrows _ _ _, p, n, a, pvs, c, gs, rfl, h2.m.at_, a, pvs, rfl, .inr h2.m.at_.ar, _, rfl, pvs.length, y, ls, rfl, h2.S.y, fun z hz => by rw [hl]; exact hh.o.ln z hz, by omega, fun g H3 s3 ng hg => ?_⟩
    have h3 := h2.same s3
    have hd3 := s3 _ _ hd
    obtain ⟨dx3, hp3⟩ := h3.m.at_.ob
    refine ⟨_, rfl, p, dx3, _, rfl, hp3, mapF_arrows _ _ _, p, n, a, pvs, c, gs, rfl, h3.m.at_, a, pvs, rfl, h3.m.at_.ar, fun D nD => ?_⟩
    refine lc_val walkT calm_pair (fun i => (isTry es rs ls i).map nV) (by omega) nD (fun H4 s4 => Same.sqt s4 h3.m.at_.ar) ?_ fun H4 s4 h4 => ?_
    · rintro i v H4 H5 hi s4 ⟨T, x1, x2, rfl, nT, rfl, e1, e2⟩ Kt kt
      cases e1
      have s5 := same_new (o := .tup [.int (i : Nat), x2]) (Same.refl H4) nT
      obtain ⟨e, hei, tt, rfl, ht⟩ := hh.m.pr.get (show pvs[i]? = some x2 from e2)
      obtain ⟨e1, e2⟩ := e
      have hok := hh.m.ok _ (List.mem_of_getElem? hei)
      have sm : Same H (upd H4 T (.tup [.int (i : Nat), .ref tt])) := (((s1.trans s2).trans s3).trans s4).trans s5
      have hg5 := s5 _ _ (s4 _ _ hg)
      have hd5 := s5 _ _ (s4 _ _ hd3)
      have k0 := kt _ (Same.refl _)
      have kf : ¬ (i ∉ ls ∧ e1 ∈ rs ∧ e2 ∉ rs) → Kt none (upd H4 T (.tup [.int (i : Nat), .ref tt])) := fun z => by
        unfold isTry at k0
        rw [hei] at k0
        simp only [Option.bind_some] at k0
        rw [if_neg z] at k0
        exact k0
      refine ⟨T, _, rfl, sqt upd_same, rfl, _, _, rfl, _, _, rfl, ⟨tt, _, rfl, Same.sqt sm ht, rfl, _, _, rfl, _, _, rfl, rfl, rfl, rfl, ?_⟩⟩
      refine ⟨_, rfl, _, rfl, g, _, (i : Int), _, rfl, rfl, sql hg5, atI_nat (mks_get hi), _, rfl, ?_⟩
      by_cases m1 : i ∈ ls
      · rw [decide_eq_true m1]
        refine iteF ?_
        exact iteF (kf fun z => z.1 m1)
      rw [decide_eq_false m1]
      refine iteT ⟨_, rfl, _, rfl, d, _, (e1 : Int), _, rfl, rfl, sql hd5, atI_nat (mks_get hok.1), _, rfl, ?_⟩
      by_cases m2 : e1 ∈ rs
      · rw [decide_eq_true m2]
        refine iteT ⟨_, rfl, _, rfl, d, _, (e2 : Int), _, rfl, rfl, sql hd5, atI_nat (mks_get hok.2), _, rfl, ?_⟩
        by_cases m3 : e2 ∈ rs
        · rw [decide_eq_true m3]
          refine iteF ?_
          exact kf fun z => z.2.2 m3
        · rw [decide_eq_false m3]
          refine iteT ⟨_, rfl, ?_⟩
          unfold isTry at k0
          rw [hei] at k0
          simp only [Option.bind_some] at k0
          rw [if_pos ⟨m1, m2, m3⟩] at k0
          exact k0
      · rw [decide_eq_false m2]
        refine iteF ?_
        exact iteF (kf fun z => m2 z.2.1)
    · have e1 : ((List.range pvs.length).filterMap fun i => (isTry es rs ls i).map nV) = (triesL es rs ls).map nV := by
        unfold triesL
        rw [List.map_filterMap, hl]
      rw [e1] at h4
      refine ⟨D, _, rfl, .inl ⟨sql h4, fun q1 nq1 => ?_⟩⟩
      have sm : Same H H4 := ((s1.trans s2).trans s3).trans s4
      exact q _ _ (same_new sm nq1) ⟨q1, rfl, Same.free sm nq1, upd_same⟩

abbrev s_worth_at : Stmt := topS 31
abbrev sl_worth_at : List Str := ["chart", "standing", "tried", "steps", "arrows", "arrow"]
theorem sc_worth_at : FnScope ["chart", "standing", "tried", "steps", "arrows", "arrow"] ["chart", "standing"] (defScope s_worth_at) := ⟨rfl, rfl, rfl, by decide +kernel, rfl, by decide +kernel, by decide +kernel⟩
def RWorth : Nat → Es → List Nat → List Nat → List Nat → Hp → V → Hp → Prop := fun n es gs rs ls H v H' => ∃ (q : Addr) (ws : List Nat), v = .ref q ∧ H q = none ∧ H' q = some (.tup (ws.map nV)) ∧ ws.Pairwise (· < ·) ∧
  ∀ i, i ∈ ws ↔ i ∈ triesL es rs ls ∧ ∃ e, es[i]? = some e ∧ Alive es gs rs ls e.2
theorem ok_worth_at {CMap : Addr} (B : Bt mg) (C : MapC K mg CMap) (h_tries_at : Has P w K mg base "tries_at" 3 ["chart", "standing"] (spOf K CMap RTries)) (h_steps_to_go : Has P w K mg base "steps_to_go" 4 ["chart", "standing"] (spOf K CMap RGo))
    (h_arrows : HasM P w K mg base CMap "arrows" 1 ["self"] (spArrows K CMap)) (D0 : Df K mg "worth_at" s_worth_at ["chart", "standing"]) : Has P w K mg base "worth_at" 5 ["chart", "standing"] (spOf K CMap RWorth) := by
  refine D0.has fun f fd F => F.ok sc_worth_at (fun vs H Q E h => ?_) (fun cdv A outer s H vs Q E hr h => ?_)
  · obtain ⟨p, n, a, pvs, es, c, gs, t, x, y, rs, ls, rfl, _⟩ := h
    rfl
  · obtain ⟨p, n, a, pvs, es, c, gs, t, x, y, rs, ls, rfl, hh, q⟩ := h
    refine ⟨_, (pss_cons (ps_set (i := 2) sc_worth_at.nd rfl (.inl rfl) (pcall h_tries_at hr (by decide) (by rfl) (pa_cons (pv 0) (pa_cons (pv 1) pa_nil))))
  (pss_cons (ps_set (i := 3) sc_worth_at.nd rfl (.inr rfl) (pcall h_steps_to_go hr (by decide) (by rfl) (pa_cons (pv 0) (pa_cons (pv 1) pa_nil))))
  (pss_cons (ps_set (i := 4) sc_worth_at.nd rfl (.inr rfl) (pe_meth0 (pv 0) C.cl h_arrows.mt h_arrows.F (hr.mono (by decide)) h_arrows.b .nil pass0))
  (pss_one (ps_ret (pe_callTy (k_tuple (K := K) rfl) (by rfl) B.tuple bo_tuple (pa_cons (pe_lc (own := [("arrow", 5)]) (g := gName 5) rfl sc_worth_at.nd (k_pit (K := K) rfl (pv 2)) (blkOk_by (N := sl_worth_at) (sc := defScope s_worth_at) (by decide +kernel)) (fun _ _ _ _ _ => (pg_name (i := 5) sc_worth_at.nd rfl (.inl rfl))) (fun _ _ _ _ _ => pts_one (pt_cmpR op_notN (pe_ix (k_ixl (K := K) rfl) (pv 3) (pe_ix (k_ixt (K := K) rfl) (pe_ix (k_ixt (K := K) rfl) (pv 4) (pv 5) (fun _ _ => rfl)) pe_int (fun _ _ => rfl)) (fun _ _ => rfl)) pe_non (nomark _))) (fun _ _ _ _ _ => (pv 5))) pa_nil))))))), ?_⟩
    have hl := hh.m.pr.len
    have hel := hh.m.el
    refine ⟨_, rfl, _, rfl, p, n, a, pvs, es, c, gs, t, x, y, rs, ls, rfl, hh, fun v H1 s1 hv => ?_⟩
    obtain ⟨tr, rfl, ntr, htr⟩ := hv
    have h1 := hh.same s1
    refine ⟨_, rfl, _, rfl, p, n, a, pvs, es, c, gs, t, x, y, rs, ls, rfl, h1, fun v H2 s2 hv => ?_⟩
    obtain ⟨d, st, rfl, nd, hd, hst⟩ := hv
    have h2 := h1.same s2
    have htr2 := s2 _ _ htr
    obtain ⟨dx, hp⟩ := h2.m.at_.ob
    refine ⟨_, rfl, p, dx, _, rfl, hp, mapF_arrows _ _ _, p, n, a, pvs, c, gs, rfl, h2.m.at_, ?_⟩
    refine ⟨_, rfl, tr, rfl, ⟨_, sqt htr2⟩, fun D nD => ?_⟩
    have hlt : (triesL es rs ls).length ≤ es.length - 0 := pw_len tries_pw fun z hz => ⟨Nat.zero_le _, by
      obtain ⟨e, he, _⟩ := mem_tries.mp hz
      exact (List.getElem?_eq_some_iff.mp he).1⟩
    refine lc_val walk_tup calm_at (fun i => ((triesL es rs ls)[i]?).bind fun k => (es[k]?).bind fun e => if (st e.2).isSome then some (nV k) else none) (by rw [List.length_map]; omega) nD (fun H3 s3 => sqt (s3 _ _ htr2)) ?_ fun H3 s3 h3 => ?_
    · rintro i v H3 H4 hi s3 ⟨rfl, hv⟩ Kt kt
      obtain ⟨k, hki, rfl⟩ := getmap hv
      obtain ⟨e, hke, _⟩ := mem_tries.mp (List.mem_of_getElem? hki)
      have h3 := h2.same s3
      have hkl : k < pvs.length := by rw [hl]; exact (List.getElem?_eq_some_iff.mp hke).1
      have hk : pvs[k]? = some pvs[k] := List.getElem?_eq_getElem hkl
      obtain ⟨tt, htt, ht⟩ := h3.m.pr.at_ k _ _ hk hke
      have hok := hh.m.ok _ (List.mem_of_getElem? hke)
      refine ⟨rfl, ?_⟩
      refine ⟨_, rfl, _, rfl, _, rfl, a, pvs, (k : Int), _, rfl, rfl, h3.m.at_.ar, atI_nat hk, tt, _, (1 : Nat), nV e.2, htt, rfl, ht, atI_nat rfl, d, _, (e.2 : Int), oV (st e.2), rfl, rfl, sql (s3 _ _ hd), atI_nat (stV_get hok.2), rfl, _, rfl, ?_⟩
      have k0 := kt _ (Same.refl _)
      rw [hki] at k0
      simp only [Option.bind_some] at k0
      rw [hke] at k0
      simp only [Option.bind_some] at k0
      cases e5 : st e.2 with
      | none =>
        rw [e5] at k0
        exact iteF k0
      | some dd =>
        rw [e5] at k0
        exact iteT ⟨_, rfl, k0⟩
    · rw [List.length_map, fm_range] at h3
      have e1 : ((triesL es rs ls).filterMap fun k => (es[k]?).bind fun e => if (st e.2).isSome then some (nV k) else none) = ((triesL es rs ls).filterMap fun k => (es[k]?).bind fun e => if (st e.2).isSome then some k else none).map nV := by
        rw [List.map_filterMap]
        congr 1
        funext k
        cases es[k]? with
        | none => rfl
        | some e =>
          simp only [Option.bind_some]
          split <;> rfl
      rw [e1] at h3
      refine ⟨D, _, rfl, .inl ⟨sql h3, fun q1 nq1 => ?_⟩⟩
      have sm : Same H H3 := (s1.trans s2).trans s3
      have hF : ∀ (k j : Nat), ((es[k]?).bind fun (e : Nat × Nat) => if (st e.2).isSome then some k else none) = some j → j = k ∧ ∃ e : Nat × Nat, es[k]? = some e ∧ (st e.2).isSome = true := fun k j h => by
        cases e2 : es[k]? with
        | none => rw [e2] at h; cases h
        | some e =>
          rw [e2] at h
          simp only [Option.bind_some] at h
          split at h
          · rename_i hc
            exact ⟨(Option.some.inj h).symm, e, rfl, hc⟩
          · cases h
      refine q _ _ (same_new sm nq1) ⟨q1, _, rfl, Same.free sm nq1, upd_same, ?_, fun i => ?_⟩
      · refine List.Pairwise.filterMap _ (fun k j hkj u hu v hv => ?_) tries_pw
        rw [(hF k u hu).1, (hF j v hv).1]
        exact hkj
      · rw [List.mem_filterMap]
        constructor
        · rintro ⟨k, hk, hj⟩
          obtain ⟨rfl, e, he, hs⟩ := hF k i hj
          refine ⟨hk, e, he, Classical.byContradiction fun z => ?_⟩
          have hen := (hh.m.ok _ (List.mem_of_getElem? he)).2
          rw [(hst _ hen).2.mpr z] at hs
          cases hs
        · rintro ⟨hk, e, he, ha⟩
          refine ⟨i, hk, ?_⟩
          have hen := (hh.m.ok _ (List.mem_of_getElem? he)).2
          rw [he]
          refine if_pos ?_
          cases e5 : st e.2 with
          | none => exact absurd ha ((hst _ hen).2.mp e5)
          | some dd => rfl

abbrev s__law_led : Stmt := topS 49
abbrev sl__law_led : List Str := ["_law_arrows", "_law_begun", "_law_let", "_law_barred", "_law_found", "_law_at", "_law_k", "_law_tail_here", "_law_head"]
theorem sc__law_led : FnScope ["_law_arrows", "_law_begun", "_law_let", "_law_barred", "_law_found", "_law_at", "_law_k", "_law_tail_here", "_law_head"] ["_law_arrows", "_law_begun", "_law_let", "_law_barred"] (defScope s__law_led) := ⟨rfl, rfl, rfl, by decide +kernel, rfl, by decide +kernel, by decide +kernel⟩
def ledG (lt br : List Nat) (k : Nat) (e : Nat × Nat) : Option (Nat × Nat) := if k ∉ br ∧ e.2 ∈ lt then some e else none
def ledE (es : Es) (lt br : List Nat) : Es := (List.range es.length).filterMap fun k => (es[k]?).bind (ledG lt br k)
theorem mem_ledE {es : Es} {lt br : List Nat} {e : Nat × Nat} : e ∈ ledE es lt br ↔ ∃ k, es[k]? = some e ∧ k ∉ br ∧ e.2 ∈ lt := by
  unfold ledE
  rw [List.mem_filterMap]
  constructor
  · rintro ⟨k, _, h⟩
    cases e2 : es[k]? with
    | none => rw [e2] at h; cases h
    | some x =>
      rw [e2] at h
      have h' : (if k ∉ br ∧ x.2 ∈ lt then some x else none) = some e := h
      split at h'
      · rename_i hc
        cases h'
        exact ⟨k, e2, hc⟩
      · cases h'
  · rintro ⟨k, h1, h2⟩
    refine ⟨k, List.mem_range.mpr (List.getElem?_eq_some_iff.mp h1).1, ?_⟩
    rw [h1]
    exact if_pos h2
def spLed (K : PySem.W.Frag) : Sp := fun vs H Q _ => ∃ (a b c d : Addr) (pvs : List V) (es : Es) (S lt br : List Nat) (n : Nat), vs = [.ref a, .ref b, .ref c, .ref d] ∧ SqX K H a pvs ∧ Prs K H pvs es ∧ SqX K H b (S.map nV) ∧ SqX K H c (lt.map nV) ∧ SqX K H d (br.map nV) ∧
  (∀ e ∈ es, e.2 < n) ∧ (∀ s ∈ S, s < n) ∧ S.Nodup ∧ n ≤ 1000 ∧ es.length ≤ 1000 ∧
  ∀ p H' (fs : List Nat), Same H H' → H p = none → H' p = some (.lst (fs.map nV)) → fs.Nodup → (∀ v, v ∈ fs ↔ Rch (ledE es lt br) S v) → Q (.ref p) H'
theorem ok__law_led (B : Bt mg) (D0 : Df K mg "_law_led" s__law_led ["_law_arrows", "_law_begun", "_law_let", "_law_barred"]) : Has P w K mg base "_law_led" 1 ["_law_arrows", "_law_begun", "_law_let", "_law_barred"] (spLed K) := by
  refine D0.has fun f fd F => F.ok sc__law_led (fun vs H Q E h => ?_) (fun cdv A outer s H vs Q E hr h => ?_)
  · obtain ⟨a, b, c, d, pvs, es, S, lt, br, n, rfl, _⟩ := h
    rfl
  · obtain ⟨a, b, c, d, pvs, es, S, lt, br, n, rfl, hA, hP, hB, hC, hD, he, hS, hSn, hn, hel, q⟩ := h
    refine ⟨_, (pss_cons (ps_set (i := 4) sc__law_led.nd rfl (.inl rfl) (pe_callTy (k_list (K := K) rfl) (by rfl) B.list bo_list (pa_cons (pv 1) pa_nil)))
  (pss_cons (ps_set (i := 5) sc__law_led.nd rfl (.inl rfl) pe_int)
  (pss_cons (ps_while PassesOwn.never (pt_cmpR op_lt (pv 5) (pe_callB (k_len (K := K) rfl) (by rfl) B.len bo_len (pa_cons (pv 4) pa_nil)) (nomark _))
    (pss_cons (ps_for PassesOwn.never rfl (pi_range1 (by rfl) B.range (pa_cons (pe_callB (k_len (K := K) rfl) (by rfl) B.len bo_len (pa_cons (pv 0) pa_nil)) pa_nil)) (pg_name (i := 6) sc__law_led.nd rfl (.inl rfl))
    (pss_cons (ps_asg (pe_ix (k_ixx (K := K) rfl) (pv 0) (pv 6) (fun _ _ => rfl)) (pg_tup rfl (pgs_cons (pg_name (i := 7) sc__law_led.nd rfl (.inl rfl)) (pgs_cons (pg_name (i := 8) sc__law_led.nd rfl (.inl rfl)) pgs_nil))))
  (pss_one (ps_if (PW.pt (pw_and (pt_cmpR op_eq (pv 7) (pe_ix (k_ixl (K := K) rfl) (pv 4) (pv 5) (fun _ _ => rfl)) (nomark _)) (pw_and (pt_cmpR (k_notin (K := K) rfl) (pv 6) (pv 3) (by rfl)) (pw_and (pt_cmpR (k_in (K := K) rfl) (pv 8) (pv 2) (by rfl)) (pw_and1 (pt_cmpR (k_notin (K := K) rfl) (pv 8) (pv 4) (by rfl)))))))
    (pss_one (ps_expr (pe_bm PySem.F.plainAttrs_list PySem.F.slot_list_append PySem.F.type_list_append mt_append (pv 4) (pa_cons (pv 8) pa_nil))))
    pss_nil))))
  (pss_one (ps_set (i := 5) sc__law_led.nd rfl (.inl rfl) (pe_op op_add (pv 5) pe_int)))))
  (pss_one (ps_ret (pv 4)))))), ?_⟩
    have hl := hP.len
    refine ⟨_, rfl, b, S.map nV, rfl, hB, fun p np => ?_⟩
    -- while
    refine ⟨fun m σ H' => ∃ (at' : Nat) (fs : List Nat) (k t h : Option V), σ = [some (.ref a), some (.ref b), some (.ref c), some (.ref d), some (.ref p), some (.int (at' : Int)), k, t, h] ∧ Same H H' ∧ H' p = some (.lst (fs.map nV)) ∧ fs.Nodup ∧ (∀ z ∈ fs, z < n) ∧ (∀ s ∈ S, s ∈ fs) ∧
      at' ≤ fs.length ∧ (∀ v ∈ fs, Rch (ledE es lt br) S v) ∧ (∀ i v, i < at' → fs[i]? = some v → ∀ u, (v, u) ∈ ledE es lt br → u ∈ fs) ∧ m = n - at',
      ⟨_, 0, S, none, none, none, rfl, same_new (Same.refl H) np, upd_same, hSn, hS, fun s h => h, Nat.zero_le _, fun v h => .base h, fun i v h => absurd h (Nat.not_lt_zero i), rfl⟩, ?_⟩
    rintro m σ H1 ⟨at', fs, k, t, h, rfl, s1, hp1, nd, hfn, hSf, hat, hrc, hcl, rfl⟩
    refine ⟨_, rfl, _, rfl, p, _, rfl, .inl (sql hp1), _, _, rfl, rfl, _, rfl, ?_⟩
    rw [List.length_map]
    by_cases hlt : at' < fs.length
    · rw [decide_eq_true (show (at' : Int) < (fs.length : Int) by omega)]
      refine iteT ⟨_, fun σ' H' z => z, ?_⟩
      have hfl := nodup_le nd hfn
      -- for k in range(len(arrows))
      refine ⟨_, rfl, a, pvs, rfl, Same.sqx s1 hA, pvs.length, rfl, by omega, by omega, ?_⟩
      have hz : fs[at']? = some fs[at'] := List.getElem?_eq_getElem hlt
      generalize fs[at'] = z at hz
      refine for_range (lo := 0) (n := (pvs.length : Int).toNat) (fun i σ H' => ∃ (fs' : List Nat) (k t h : Option V), σ = [some (.ref a), some (.ref b), some (.ref c), some (.ref d), some (.ref p), some (.int (at' : Int)), k, t, h] ∧ Same H H' ∧ H' p = some (.lst (fs'.map nV)) ∧ fs'.Nodup ∧ (∀ z ∈ fs', z < n) ∧
        fs <+: fs' ∧ (∀ v ∈ fs', Rch (ledE es lt br) S v) ∧ ∀ (j : Nat) (e : Nat × Nat), j < i → es[j]? = some e → j ∉ br → e.2 ∈ lt → e.1 = z → e.2 ∈ fs')
        ⟨fs, k, t, h, rfl, s1, hp1, nd, hfn, List.prefix_refl _, hrc, fun j e hj => absurd hj (Nat.not_lt_zero j)⟩ ?_ ?_
      · rintro i σ H2 hi ⟨fs', k, t, h, rfl, s2, hp2, nd2, hfn2, hpre, hrc2, hcl2⟩
        have hin : i < pvs.length := hi
        have e0 : (0 : Int) + (i : Int) = (i : Int) := Int.zero_add _
        have hiv : pvs[i]? = some pvs[i] := List.getElem?_eq_getElem hin
        have hie : es[i]? = some (es[i]'(by omega)) := List.getElem?_eq_getElem (by omega)
        generalize es[i]'(by omega) = e at hie
        obtain ⟨tt, htt, ht⟩ := hP.at_ i _ _ hiv hie
        obtain ⟨e1, e2⟩ := e
        have hA2 := Same.sqx s2 hA
        have hz2 : fs'[at']? = some z := by
          obtain ⟨r, rfl⟩ := hpre
          rw [List.getElem?_append_left hlt]
          exact hz
        have he2n : e2 < n := he _ (List.mem_of_getElem? hie)
        have keep : ∀ (k' t' h' : Option V), (∀ (hc : i ∉ br ∧ e2 ∈ lt ∧ e1 = z), e2 ∈ fs') → ∃ (fs'' : List Nat) (k t h : Option V), ([some (.ref a), some (.ref b), some (.ref c), some (.ref d), some (.ref p), some (.int (at' : Int)), k', t', h'] : L2.St) = [some (.ref a), some (.ref b), some (.ref c), some (.ref d), some (.ref p), some (.int (at' : Int)), k, t, h] ∧ Same H H2 ∧ H2 p = some (.lst (fs''.map nV)) ∧ fs''.Nodup ∧ (∀ z ∈ fs'', z < n) ∧
            fs <+: fs'' ∧ (∀ v ∈ fs'', Rch (ledE es lt br) S v) ∧ ∀ (j : Nat) (e : Nat × Nat), j < i + 1 → es[j]? = some e → j ∉ br → e.2 ∈ lt → e.1 = z → e.2 ∈ fs'' := fun k' t' h' hc =>
          ⟨fs', k', t', h', rfl, s2, hp2, nd2, hfn2, hpre, hrc2, fun j e hj he3 h1 h2 h3 => by
            by_cases hji : j = i
            · subst hji
              rw [hie] at he3
              cases he3
              exact hc ⟨h1, h2, h3⟩
            · exact hcl2 j e (by omega) he3 h1 h2 h3⟩
        -- tail, head = arrows[k]
        have ix : ∀ (R : V → Hp → Prop), R pvs[i] H2 → rIx K (.ref a) (.int ((0 : Int) + (i : Int))) H2 R := fun R r => by
          rw [e0]
          rcases hA2 with hA2 | hA2
          · exact .inl ⟨a, _, _, _, rfl, rfl, hA2, atI_nat hiv, r⟩
          · exact .inr (.inl ⟨a, _, _, _, rfl, rfl, hA2, atI_nat hiv, r⟩)
        refine ⟨_, rfl, _, rfl, ix _ ⟨tt, _, htt, Same.sqt s2 ht, rfl, _, _, rfl, _, _, rfl, rfl, ?_⟩⟩
        refine ⟨_, rfl, _, rfl, _, rfl, p, _, (at' : Int), nV z, rfl, rfl, sql hp2, atI_nat (by rw [List.getElem?_map, hz2]; rfl), rfl, _, rfl, ?_⟩
        by_cases c1 : e1 = z
        · subst c1
          rw [decide_eq_true (show nV e1 = nV e1 from rfl)]
          refine iteT ⟨_, rfl, _, rfl, d, _, rfl, Same.sqx s2 hD, rfl, flat_nats _, _, rfl, ?_⟩
          have ei : inV (V.int ((0 : Int) + (i : Int))) (br.map nV) = decide (i ∈ br) := by rw [e0]; exact inV_nats i br
          rw [if_pos rfl, ei]
          by_cases c2 : i ∈ br
          · rw [decide_eq_true c2]
            refine iteF ?_
            exact iteF (keep _ _ _ fun z => absurd c2 z.1)
          rw [decide_eq_false c2]
          refine iteT ⟨_, rfl, _, rfl, c, _, rfl, Same.sqx s2 hC, rfl, flat_nats _, _, rfl, ?_⟩
          rw [if_neg Bool.false_ne_true, inV_nats]
          by_cases c3 : e2 ∈ lt
          · rw [decide_eq_true c3]
            refine iteT ⟨_, rfl, _, rfl, p, _, rfl, .inl (sql hp2), rfl, flat_nats _, _, rfl, ?_⟩
            rw [if_pos rfl, inV_nats]
            by_cases c4 : e2 ∈ fs'
            · rw [decide_eq_true c4]
              refine iteF ?_
              exact keep _ _ _ fun _ => c4
            · rw [decide_eq_false c4]
              have hfl2 := nodup_le nd2 hfn2
              refine iteT ⟨_, rfl, .inl ⟨rfl, _, sql hp2⟩, _, rfl, p, _, _, rfl, rfl, hp2, by rw [List.length_map]; exact small_lt (by omega), ?_⟩
              have hre : Rch (ledE es lt br) S e2 := (hrc2 e1 (List.mem_of_getElem? hz2)).edge (mem_ledE.mpr ⟨i, hie, c2, c3⟩)
              refine ⟨fs' ++ [e2], _, _, _, rfl, same_mut s2 np, by rw [upd_same, List.map_append]; rfl, ?_, ?_, hpre.trans (List.prefix_append _ _), ?_, ?_⟩
              · rw [List.nodup_append]
                refine ⟨nd2, by simp, fun x hx y hy => ?_⟩
                rw [List.mem_singleton.mp hy]
                exact fun z => c4 (z ▸ hx)
              · intro x hx
                rcases List.mem_append.mp hx with hx | hx
                · exact hfn2 x hx
                · rw [List.mem_singleton.mp hx]
                  exact he2n
              · intro x hx
                rcases List.mem_append.mp hx with hx | hx
                · exact hrc2 x hx
                · rw [List.mem_singleton.mp hx]
                  exact hre
              · intro j e hj he3 h1 h2 h3
                by_cases hji : j = i
                · subst hji
                  rw [hie] at he3
                  cases he3
                  exact List.mem_append_right _ List.mem_cons_self
                · exact List.mem_append_left _ (hcl2 j e (by omega) he3 h1 h2 h3)
          · rw [decide_eq_false c3]
            refine iteF ?_
            exact iteF (keep _ _ _ fun z => absurd z.2.1 c3)
        · have c1' : ¬ nV e1 = nV z := fun y => by
            have y' : V.int (e1 : Int) = V.int (z : Int) := y
            injection y' with y'
            exact c1 (by omega)
          rw [decide_eq_false c1']
          refine iteF ?_
          exact iteF (keep _ _ _ fun z => absurd z.2.2 c1)
      · rintro σ H2 ⟨fs', k, t, h, rfl, s2, hp2, nd2, hfn2, hpre, hrc2, hcl2⟩
        refine ⟨_, rfl, _, _, rfl, rfl, n - (at' + 1), by omega, at' + 1, fs', k, t, h, rfl, s2, hp2, nd2, hfn2, fun s hs => hpre.subset (hSf s hs), ?_, hrc2, ?_, rfl⟩
        · have := hpre.length_le
          omega
        · intro i v hi hv u hu
          by_cases hia : i = at'
          · subst hia
            obtain ⟨r, rfl⟩ := hpre
            rw [List.getElem?_append_left hlt, hz] at hv
            cases hv
            obtain ⟨j, h1, h2, h3⟩ := mem_ledE.mp hu
            exact hcl2 j _ (by have := (List.getElem?_eq_some_iff.mp h1).1; show j < pvs.length; omega) h1 h2 h3 rfl
          · obtain ⟨r, rfl⟩ := id hpre
            rw [List.getElem?_append_left (by omega)] at hv
            exact hpre.subset (hcl i v (by omega) hv u hu)
    · rw [decide_eq_false (show ¬ (at' : Int) < (fs.length : Int) by omega)]
      refine iteF ⟨_, rfl, q p H1 fs s1 np hp1 nd fun v => ⟨hrc v, fun hv => ?_⟩⟩
      refine hv.ind hSf fun u v' hu he' => ?_
      obtain ⟨i, hi⟩ := List.getElem?_of_mem hu
      exact hcl i u (by have := (List.getElem?_eq_some_iff.mp hi).1; omega) hi v' he'

abbrev s__law_is_world : Stmt := topS 50
abbrev sl__law_is_world : List Str := ["_law_parts_here", "_law_rotten", "_law_many", "_law_arrows", "_law_goals", "_law_there", "_law_goal"]
theorem sc__law_is_world : FnScope ["_law_parts_here", "_law_rotten", "_law_many", "_law_arrows", "_law_goals", "_law_there", "_law_goal"] ["_law_parts_here", "_law_rotten"] (defScope s__law_is_world) := ⟨rfl, rfl, rfl, by decide +kernel, rfl, by decide +kernel, by decide +kernel⟩
/-- the parts of a map as a tuple -/
structure PtsAt (K : PySem.W.Frag) (H : Hp) (t : Addr) (n : Nat) (a : Addr) (pvs : List V) (es : Es) (c : Addr) (gs : List Nat) : Prop where
  tp : SqT K H t [nV n, .ref a, .ref c]
  ar : SqT K H a pvs
  pr : Prs K H pvs es
  go : SqT K H c (gs.map nV)
  gm : GoodMap n es gs
theorem PtsAt.same {K : PySem.W.Frag} {H H' : Hp} {t : Addr} {n : Nat} {a : Addr} {pvs : List V} {es : Es} {c : Addr} {gs : List Nat} (h : PtsAt K H t n a pvs es c gs) (s : Same H H') : PtsAt K H' t n a pvs es c gs :=
  ⟨Same.sqt s h.tp, Same.sqt s h.ar, h.pr.same s, Same.sqt s h.go, h.gm⟩
theorem GoodMap.gl2 {n : Nat} {es : Es} {gs : List Nat} (g : GoodMap n es gs) : gs.length ≤ n - 0 := pw_len g.pw fun x hx => ⟨Nat.zero_le _, (g.gl x hx).2⟩
theorem rch_led_left {n : Nat} {es : Es} {br S : List Nat} (h : ∀ e ∈ es, e.2 < n) {v : Nat} : Rch (ledE es (List.range n) br) S v ↔ Rch (left es br) S v := by
  constructor
  · exact Rch.mono (fun e he => by
      obtain ⟨k, h1, h2, _⟩ := mem_ledE.mp he
      exact mem_leftV.mpr ⟨k, h1, h2⟩) fun _ h => h
  · exact Rch.mono (fun e he => by
      obtain ⟨k, h1, h2⟩ := mem_leftV.mp he
      exact mem_ledE.mpr ⟨k, h1, h2, List.mem_range.mpr (h e (List.mem_of_getElem? h1))⟩) fun _ h => h
def spIsWorld (K : PySem.W.Frag) : Sp := fun vs H Q _ => ∃ (t : Addr) (n : Nat) (a : Addr) (pvs : List V) (es : Es) (c : Addr) (gs : List Nat) (d : Addr) (br : List Nat), vs = [.ref t, .ref d] ∧ PtsAt K H t n a pvs es c gs ∧ SqX K H d (br.map nV) ∧
  ∀ H' (ok : Bool), Same H H' → (ok = true ↔ ∀ g ∈ gs, Rch (left es br) [0] g) → Q (.bl ok) H'
theorem ok__law_is_world (B : Bt mg) (h_law_led : Has P w K mg base "_law_led" 1 ["_law_arrows", "_law_begun", "_law_let", "_law_barred"] (spLed K)) (D0 : Df K mg "_law_is_world" s__law_is_world ["_law_parts_here", "_law_rotten"]) : Has P w K mg base "_law_is_world" 2 ["_law_parts_here", "_law_rotten"] (spIsWorld K) := by
  refine D0.has fun f fd F => F.ok sc__law_is_world (fun vs H Q E h => ?_) (fun cdv A outer s H vs Q E hr h => ?_)
  · obtain ⟨t, n, a, pvs, es, c, gs, d, br, rfl, _⟩ := h
    rfl
  · obtain ⟨t, n, a, pvs, es, c, gs, d, br, rfl, hp, hd, q⟩ := h
    refine ⟨_, (pss_cons (ps_asg (pv 0) (pg_tup rfl (pgs_cons (pg_name (i := 2) sc__law_is_world.nd rfl (.inl rfl)) (pgs_cons (pg_name (i := 3) sc__law_is_world.nd rfl (.inl rfl)) (pgs_cons (pg_name (i := 4) sc__law_is_world.nd rfl (.inl rfl)) pgs_nil)))))
  (pss_cons (ps_set (i := 5) sc__law_is_world.nd rfl (.inr rfl) (pcall h_law_led hr (by decide) (by rfl) (pa_cons (pv 3) (pa_cons (pe_lst (pa_cons pe_int pa_nil)) (pa_cons (pe_listRg rfl (by rfl) B.list (prg_1 (by rfl) B.range (pv 2))) (pa_cons (pv 1) pa_nil))))))
  (pss_one (ps_ret (pe_callB (k_all (K := K) rfl rfl) (by rfl) B.all bo_all (pa_cons (pe_lc (own := [("_law_goal", 6)]) (g := gName 6) rfl sc__law_is_world.nd (k_pit (K := K) rfl (pv 4)) (blkOk_by (N := sl__law_is_world) (sc := defScope s__law_is_world) (by decide +kernel)) (fun _ _ _ _ _ => (pg_name (i := 6) sc__law_is_world.nd rfl (.inl rfl))) (fun _ _ _ _ _ => pts_nil) (fun _ _ _ _ _ => (pe_cmpR (k_in (K := K) rfl) (pv 6) (pv 5) (by rfl)))) pa_nil)))))), ?_⟩
    have gn := hp.gm.n40
    have g2 := hp.gm.n2
    have g60 := hp.gm.l60
    have ggl := hp.gm.gl2
    refine ⟨_, rfl, t, _, rfl, hp.tp, rfl, _, _, rfl, _, _, rfl, _, _, rfl, rfl, ?_⟩
    refine ⟨_, rfl, Nat.le_of_lt (small_lt (by decide : 1 ≤ 100000)), fun z nz => ⟨_, rfl, (n : Int), rfl, ⟨by omega, by omega, by omega, by omega, by omega⟩, fun r nr => ⟨_, rfl, ?_⟩⟩⟩
    have s1 := same_new (o := .lst [.int 0]) (Same.refl H) nz
    have s2 := same_new (o := .lst (rgV 0 (n : Int))) s1 nr
    have hz2 : upd (upd H z (.lst [.int 0])) r (.lst (rgV 0 (n : Int))) z = some (.lst [.int 0]) := by rw [upd_ne (ne_of_none (upd_same) nr), upd_same]
    refine ⟨a, z, r, d, pvs, es, [0], List.range n, br, n, rfl, .inr (Same.sqt s2 hp.ar), hp.pr.same s2, .inl (sql hz2), .inl (sql (by rw [upd_same, rgV0])), Same.sqx s2 hd, fun e he => (hp.gm.ok e he).2.1, fun x hx => by rw [List.mem_singleton.mp hx]; omega, by simp, by omega, by omega,
      fun p H3 fs s3 np hp3 nd hfs => ?_⟩
    have sm : Same H H3 := Same.trans s2 s3
    refine ⟨_, rfl, c, rfl, ⟨_, Same.sqt sm hp.go⟩, fun D nD => ?_⟩
    refine lc_val walk_tup calm_at (fun i => (gs[i]?).bind fun g => some (V.bl (decide (g ∈ fs)))) (by rw [List.length_map]; omega) nD (fun H4 s4 => Same.sqt (sm.trans s4) hp.go) ?_ fun H4 s4 h4 => ?_
    · rintro i v H4 H5 hi s4 ⟨rfl, hv⟩ Kt kt
      obtain ⟨g, hgi, rfl⟩ := getmap hv
      refine ⟨rfl, tyes ?_⟩
      refine iteT ?_
      refine ⟨_, rfl, _, rfl, p, _, rfl, .inl (sql (s4 _ _ hp3)), rfl, flat_nats _, ?_⟩
      rw [if_neg Bool.false_ne_true, inV_nats]
      have k0 := kt _ (Same.refl _)
      rw [hgi] at k0
      exact k0
    · rw [List.length_map, fm_range, fm_some] at h4
      refine ⟨D, gs.map fun g => decide (g ∈ fs), rfl, sql (by rw [h4, List.map_map]; rfl), ?_⟩
      refine q H4 _ (sm.trans s4) ?_
      rw [List.all_eq_true]
      have hiff : ∀ g, g ∈ fs ↔ Rch (left es br) [0] g := fun g => (hfs g).trans (rch_led_left fun e he => (hp.gm.ok e he).2.1)
      constructor
      · intro h g hg
        exact (hiff g).mp (of_decide_eq_true (h _ (List.mem_map.mpr ⟨g, hg, rfl⟩)))
      · intro h x hx
        obtain ⟨g, hg, rfl⟩ := List.mem_map.mp hx
        exact decide_eq_true ((hiff g).mpr (h g hg))

abbrev s__law_hand : Stmt := topS 43
abbrev sl__law_hand : List Str := ["_law_script", "_law_cells", "_law_cell"]
theorem sc__law_hand : FnScope ["_law_script", "_law_cells", "_law_cell"] ["_law_script"] (defScope s__law_hand) := ⟨rfl, rfl, rfl, by decide +kernel, rfl, by decide +kernel, by decide +kernel⟩
def spHand (K : PySem.W.Frag) : Sp := fun vs H Q _ => ∃ (a : Addr) (ns : List Int) (F : Hp), vs = [.ref a] ∧ SqL K H a (ns.map V.int) ∧ ns.length ≤ 1000 ∧ Same F H ∧
  ∀ h F' H', Grow (fun _ => False) F H F' H' → HandAt F' H' h → Q (.ref h) H'
theorem cutV_int (ns : List Int) (lo hi : Option Int) : ∃ ms : List Int, cutV (ns.map V.int) lo hi = ms.map V.int ∧ ms.length ≤ ns.length := by
  unfold cutV
  rw [← List.map_drop, ← List.map_take]
  refine ⟨_, rfl, ?_⟩
  rw [List.length_take, List.length_drop]
  omega
theorem ok__law_hand (B : Bt mg) (D0 : Df K mg "_law_hand" s__law_hand ["_law_script"]) : Has P w K mg base "_law_hand" 1 ["_law_script"] (spHand K) := by
  refine D0.has fun f fd F => F.ok sc__law_hand (fun vs H Q E h => ?_) (fun cdv A outer s H vs Q E hr h => ?_)
  · obtain ⟨a, ns, F, rfl, _⟩ := h
    rfl
  · obtain ⟨a, ns, F0, rfl, hS, hl, hF, q⟩ := h
    refine ⟨_, (pss_cons (ps_setLc (i := 1) (own := [("_law_cell", 2)]) (g := gName 2) rfl sc__law_hand.nd rfl rfl (sw_true rfl rfl rfl (by decide +kernel)) (k_pil (K := K) rfl (pe_slice (k_sll (K := K) rfl) (pv 0) po_none (po_some pe_int))) (blkOk_by (N := sl__law_hand) (sc := defScope s__law_hand) (by decide +kernel)) (fun _ _ _ _ _ => (pg_name (i := 2) sc__law_hand.nd rfl (.inl rfl))) (fun _ _ _ _ _ => pts_nil) (fun _ _ _ _ _ => (pe_callB call_abs (by rfl) B.abs bo_abs (pa_cons (pe_callTy call_int1 (by rfl) B.int bo_int (pa_cons (pv 2) pa_nil)) pa_nil))))
  (pss_one (ps_ret (pe_lst (pa_cons (pv 1) (pa_cons pe_int (pa_cons pe_int (pa_cons (pe_op op_add pe_int (pe_callB (k_len (K := K) rfl) (by rfl) B.len bo_len (pa_cons (pv 1) pa_nil))) (pa_cons pe_int pa_nil))))))))), ?_⟩
    obtain ⟨ms, hms, hml⟩ := cutV_int ns none (some 63)
    refine ⟨_, rfl, _, rfl, a, _, rfl, hS, fun p np => ⟨p, rfl, ⟨_, sql upd_same⟩, fun D nD => ?_⟩⟩
    rw [hms] at nD ⊢
    have s1 := same_new (o := .lst (ms.map V.int)) (Same.refl H) np
    refine lc_val (walk_list (xs := ms.map V.int)) calm_at (fun i => (ms[i]?).bind fun z => some (V.int (if z < 0 then -z else z))) (by rw [List.length_map]; omega) nD (fun H3 s3 => sql (s3 _ _ upd_same)) ?_ fun H3 s3 h3 => ?_
    · rintro i v H3 H4 hi s3 ⟨rfl, hv⟩ Kt kt
      obtain ⟨z, hz, rfl⟩ := getmap hv
      refine ⟨rfl, tyes ?_⟩
      refine iteT ?_
      refine ⟨_, rfl, .inl ⟨z, rfl, z, rfl, ?_⟩⟩
      have k0 := kt _ (Same.refl _)
      rw [hz] at k0
      exact k0
    · rw [List.length_map, fm_range, fm_some] at h3
      have eC : (ms.map fun z => V.int (if z < 0 then -z else z)) = (ms.map fun z => if z < 0 then -z else z).map V.int := by
        rw [List.map_map]
        rfl
      rw [eC] at h3
      refine ⟨_, rfl, _, rfl, D, _, rfl, .inl (sql h3), _, _, rfl, rfl, Nat.le_of_lt (small_lt (by decide : 5 ≤ 100000)), fun hh nh => ?_⟩
      have sm : Same H H3 := Same.trans s1 s3
      have hDh : D ≠ hh := ne_of_none h3 nh
      have sm2 := same_new (o := handO D 0 0 (1 + (((ms.map fun z => if z < 0 then -z else z).map V.int).length : Int)) 0) sm nh
      refine q hh (upd F0 D (.lst ((ms.map fun z => if z < 0 then -z else z).map V.int))) _ ⟨fun b o _ e => sm2 _ _ e, fun b hb z => ?_, ?_, ?_, ?_⟩ ⟨⟨D, _, 0, 0, _, 0, upd_same, upd_same, Int.le_refl _⟩, ?_⟩
      · cases e : H b with
        | none => exact hb e
        | some o => exact absurd ((sm2 _ _ e).symm.trans z) (by intro y; cases y)
      · exact same_new (Same.refl F0) (Same.free (hF.trans s1) nD)
      · intro b o e
        by_cases hb : b = D
        · subst hb
          rw [upd_same] at e
          rw [upd_ne hDh, h3]
          exact e
        · rw [upd_ne hb] at e
          exact sm2 _ _ (hF _ _ e)
      · intro b h1 h2
        by_cases hb : b = D
        · rw [hb]
          exact Same.free s1 nD
        · rw [upd_ne hb] at h1
          exact absurd h2 h1
      · rw [upd_ne hDh.symm]
        exact Same.free (hF.trans sm) nh

abbrev s__law_draw : Stmt := topS 44
abbrev sl__law_draw : List Str := ["_law_hand_here", "_law_many", "_law_cell", "_law_digit", "_law_number"]
theorem sc__law_draw : FnScope ["_law_hand_here", "_law_many", "_law_cell", "_law_digit", "_law_number"] ["_law_hand_here", "_law_many"] (defScope s__law_draw) := ⟨rfl, rfl, rfl, by decide +kernel, rfl, by decide +kernel, by decide +kernel⟩
theorem cells_at {cells : List Int} {i : Int} (h0 : 0 ≤ i) (h1 : i < (cells.length : Int)) : ∃ z, atI (cells.map V.int) i = some (.int z) := by
  obtain ⟨j, rfl⟩ : ∃ j : Nat, i = (j : Int) := ⟨i.toNat, by omega⟩
  have hj : j < cells.length := by omega
  exact ⟨cells[j], atI_nat (by rw [List.getElem?_map, List.getElem?_eq_getElem hj]; rfl)⟩
theorem cm1 {a b : Int} : CMul (a % 2147483647) b :=
  .inl ⟨Int.lt_of_lt_of_le (by decide) (Int.emod_nonneg a (by decide)), Int.lt_trans (Int.emod_lt_of_pos a (by decide)) (by decide)⟩
theorem ok__law_draw (B : Bt mg) (D0 : Df K mg "_law_draw" s__law_draw ["_law_hand_here", "_law_many"]) : Has P w K mg base "_law_draw" 1 ["_law_hand_here", "_law_many"] spDraw := by
  refine D0.has fun f fd F => F.ok sc__law_draw (fun vs H Q E h => ?_) (fun cdv A outer s H vs Q E hr h => ?_)
  · obtain ⟨h, m, F, rfl, _⟩ := h
    rfl
  · obtain ⟨h, m, F0, rfl, hm0, hml, hF, hA, q⟩ := h
    refine ⟨_, (C8.pss_cut (ps_if (PW.pt (pw_and (pt_cmpR op_eq (pe_ix (k_ixl (K := K) rfl) (pv 0) pe_int (fun _ _ => rfl)) pe_int (nomark _)) (pw_and1 (pt_cmpR op_lt (pe_ix (k_ixl (K := K) rfl) (pv 0) pe_int (fun _ _ => rfl)) (pe_callB (k_len (K := K) rfl) (by rfl) B.len bo_len (pa_cons (pe_ix (k_ixl (K := K) rfl) (pv 0) pe_int (fun _ _ => rfl)) pa_nil)) (nomark _)))))
    (pss_cons (ps_set (i := 2) sc__law_draw.nd rfl (.inl rfl) (pe_ix (k_ixl (K := K) rfl) (pe_ix (k_ixl (K := K) rfl) (pv 0) pe_int (fun _ _ => rfl)) (pe_ix (k_ixl (K := K) rfl) (pv 0) pe_int (fun _ _ => rfl)) (fun _ _ => rfl)))
  (pss_cons (ps_asg (pe_op op_add (pe_ix (k_ixl (K := K) rfl) (pv 0) pe_int (fun _ _ => rfl)) pe_int) (pg_sub (pv 0) pe_int set_list))
  (pss_cons (ps_asg (pe_op op_mod (pe_callTy call_int1 (by rfl) B.int bo_int (pa_cons (pe_op op_add (pe_op op_add (pe_op op_mul (pe_ix (k_ixl (K := K) rfl) (pv 0) pe_int (fun _ _ => rfl)) pe_int) (pv 2)) pe_int) pa_nil)) pe_int) (pg_sub (pv 0) pe_int set_list))
  (pss_one (ps_if (pt_cmpR op_ge (pv 2) (pe_op op_pow pe_int pe_int) (nomark _))
    (pss_one (ps_asg (pv 2) (pg_sub (pv 0) pe_int set_list)))
    pss_nil)))))
    pss_nil)
  (pss_cons (ps_if (pt_cmpR op_gt (pe_ix (k_ixl (K := K) rfl) (pv 0) pe_int (fun _ _ => rfl)) pe_int (nomark _))
    (pss_cons (ps_set (i := 3) sc__law_draw.nd rfl (.inl rfl) (pe_op op_mod (pe_callTy call_int1 (by rfl) B.int bo_int (pa_cons (pe_ix (k_ixl (K := K) rfl) (pv 0) pe_int (fun _ _ => rfl)) pa_nil)) (pv 1)))
  (pss_cons (ps_asg (pe_op op_fdivW (pe_ix (k_ixl (K := K) rfl) (pv 0) pe_int (fun _ _ => rfl)) (pv 1)) (pg_sub (pv 0) pe_int set_list))
  (pss_one (ps_ret (pv 3)))))
    pss_nil)
  (pss_cons (ps_asg (pe_op op_add (pe_ix (k_ixl (K := K) rfl) (pv 0) pe_int (fun _ _ => rfl)) pe_int) (pg_sub (pv 0) pe_int set_list))
  (pss_cons (ps_set (i := 4) sc__law_draw.nd rfl (.inl rfl) (pe_op op_mod (pe_callTy call_int1 (by rfl) B.int bo_int (pa_cons (pe_op op_mul (pe_callTy call_int1 (by rfl) B.int bo_int (pa_cons (pe_op op_add (pe_ix (k_ixl (K := K) rfl) (pv 0) pe_int (fun _ _ => rfl)) (pe_op op_mul pe_int (pe_ix (k_ixl (K := K) rfl) (pv 0) pe_int (fun _ _ => rfl)))) pa_nil)) pe_int) pa_nil)) pe_int))
  (pss_cons (ps_set (i := 4) sc__law_draw.nd rfl (.inl rfl) (pe_op op_mod (pe_callTy call_int1 (by rfl) B.int bo_int (pa_cons (pe_op op_mul (pv 4) (pe_op op_add (pe_op op_fdiv (pv 4) pe_int) pe_int)) pa_nil)) pe_int))
  (pss_cons (ps_set (i := 4) sc__law_draw.nd rfl (.inl rfl) (pe_op op_mod (pe_callTy call_int1 (by rfl) B.int bo_int (pa_cons (pe_op op_mul (pv 4) (pe_op op_add (pe_op op_fdiv (pv 4) pe_int) pe_int)) pa_nil)) pe_int))
  (pss_one (ps_ret (pe_op op_mod (pe_callTy call_int1 (by rfl) B.int bo_int (pa_cons (pe_op op_fdiv (pv 4) pe_int) pa_nil)) (pv 1)))))))))), ?_⟩
    refine ⟨fun σ H' => ∃ x2, σ = [some (.ref h), some (.int m), x2, none, none] ∧ HandAt F0 H' h ∧ Same F0 H' ∧ ∀ b, b ≠ h → H' b = H b, ?_, ?_⟩
    · obtain ⟨c, cells, i, r, s, k, hh, hc, hi⟩ := hA.ob
      have hcH : H c = some (.lst (cells.map V.int)) := hF _ _ hc
      have stay : ∃ x2, ([some (.ref h), some (.int m), none, none, none] : L2.St) = [some (.ref h), some (.int m), x2, none, none] ∧ HandAt F0 H h ∧ Same F0 H ∧ ∀ b, b ≠ h → H b = H b := ⟨none, rfl, hA, hF, fun _ _ => rfl⟩
      refine ⟨_, rfl, h, _, (2 : Nat), .int r, rfl, rfl, sql hh, atI_nat rfl, rfl, _, rfl, ?_⟩
      by_cases hr0 : r = 0
      · rw [hr0, decide_eq_true (rfl : V.int 0 = V.int 0)]
        refine iteT ⟨_, rfl, h, _, (1 : Nat), .int i, rfl, rfl, sql hh, atI_nat rfl, _, rfl, h, _, (0 : Nat), .ref c, rfl, rfl, sql hh, atI_nat rfl, c, _, rfl, .inl (sql hcH), _, _, rfl, rfl, _, rfl, ?_⟩
        rw [List.length_map]
        by_cases hic : i < (cells.length : Int)
        · rw [decide_eq_true hic]
          refine iteT ?_
          obtain ⟨z, hz⟩ := cells_at hi hic
          have nch : c ≠ h := fun e => by
            have := hA.nF
            rw [← e, hc] at this
            cases this
          refine ⟨_, rfl, h, _, (0 : Nat), .ref c, rfl, rfl, sql hh, atI_nat rfl, _, rfl, h, _, (1 : Nat), .int i, rfl, rfl, sql hh, atI_nat rfl, c, _, i, .int z, rfl, rfl, sql hcH, hz, ?_⟩
          refine ⟨_, rfl, h, _, (1 : Nat), .int i, rfl, rfl, sql hh, atI_nat rfl, _, _, rfl, rfl, _, rfl, h, _, (1 : Nat), 1, rfl, rfl, hh, ixN_nat (by show 1 < 5; decide), ?_⟩
          refine ⟨_, rfl, h, _, (3 : Nat), .int s, rfl, rfl, sql upd_same, atI_nat rfl, s, 69621, rfl, rfl, .inr ⟨by decide, by decide⟩, _, rfl, _, _, rfl, rfl, _, _, rfl, rfl, .inl ⟨_, rfl, _, _, rfl, rfl, (by show (0 : Int) < 2147483629; decide), _, rfl, h, _, (3 : Nat), 3, rfl, rfl, upd_same, ixN_nat (by show 3 < 5; decide), ?_⟩⟩
          rw [upd_upd]
          refine ⟨_, rfl, _, _, rfl, rfl, ⟨by decide, by decide, by decide⟩, _, _, rfl, rfl, _, rfl, ?_⟩
          by_cases hbig : (10 : Int) ^ (18 : Int).toNat ≤ z
          · rw [decide_eq_true hbig]
            refine iteT ?_
            refine ⟨_, rfl, _, rfl, h, _, (2 : Nat), 2, rfl, rfl, upd_same, ixN_nat (by show 2 < 5; decide), ?_⟩
            rw [upd_upd]
            exact ⟨_, rfl, (drew_upd hF hA.nF hc (by omega)).hand, same_mut hF hA.nF, fun b hb => upd_ne hb⟩
          · rw [decide_eq_false hbig]
            refine iteF ?_
            exact ⟨_, rfl, (drew_upd hF hA.nF hc (by omega)).hand, same_mut hF hA.nF, fun b hb => upd_ne hb⟩
        · rw [decide_eq_false hic]
          refine iteF ?_
          exact stay
      · have : ¬ V.int r = V.int 0 := fun z => hr0 (by injection z)
        rw [decide_eq_false this]
        refine iteF ?_
        exact iteF stay
    · rintro σ H1 ⟨x2, rfl, hA1, hF1, hk1⟩
      obtain ⟨c, cells, i, r, s, k, hh, hc, hi⟩ := hA1.ob
      refine ⟨_, rfl, h, _, (2 : Nat), .int r, rfl, rfl, sql hh, atI_nat rfl, _, _, rfl, rfl, _, rfl, ?_⟩
      by_cases hr0 : (0 : Int) < r
      · rw [decide_eq_true hr0]
        refine iteT ?_
        refine ⟨_, rfl, h, _, (2 : Nat), .int r, rfl, rfl, sql hh, atI_nat rfl, .inl ⟨_, rfl, _, rfl, _, _, rfl, rfl, hm0, ?_⟩⟩
        refine ⟨_, rfl, h, _, (2 : Nat), .int r, rfl, rfl, sql hh, atI_nat rfl, _, rfl, _, _, rfl, rfl, ⟨hm0, hml⟩, _, rfl, h, _, (2 : Nat), 2, rfl, rfl, hh, ixN_nat (by show 2 < 5; decide), ?_⟩
        refine ⟨_, rfl, q _ _ (Int.emod_nonneg _ (by omega)) (Int.emod_lt_of_pos _ hm0) ⟨(drew_upd hF1 hA1.nF hc hi).hand, fun b hb => (upd_ne hb).trans (hk1 b hb), same_mut hF1 hA1.nF⟩⟩
      · rw [decide_eq_false hr0]
        refine iteF ?_
        refine ⟨_, rfl, h, _, (4 : Nat), .int k, rfl, rfl, sql hh, atI_nat rfl, _, _, rfl, rfl, _, rfl, h, _, (4 : Nat), 4, rfl, rfl, hh, ixN_nat (by show 4 < 5; decide), ?_⟩
        refine ⟨_, rfl, h, _, (3 : Nat), .int s, rfl, rfl, sql upd_same, atI_nat rfl, _, rfl, h, _, (4 : Nat), .int (k + 1), rfl, rfl, sql upd_same, atI_nat rfl, _, _, rfl, rfl, .inl ⟨by decide, by decide⟩, _, _, rfl, rfl, .inl ⟨_, rfl, _, _, rfl, rfl, .inr ⟨by decide, by decide⟩, .inl ⟨_, rfl, _, _, rfl, rfl, (by show (0 : Int) < 2147483647; decide), ?_⟩⟩⟩
        refine ⟨_, rfl, _, rfl, _, _, rfl, rfl, ⟨by decide, by decide⟩, _, _, rfl, rfl, _, _, rfl, rfl, cm1, .inl ⟨_, rfl, _, _, rfl, rfl, (by show (0 : Int) < 2147483647; decide), ?_⟩⟩
        refine ⟨_, rfl, _, rfl, _, _, rfl, rfl, ⟨by decide, by decide⟩, _, _, rfl, rfl, _, _, rfl, rfl, cm1, .inl ⟨_, rfl, _, _, rfl, rfl, (by show (0 : Int) < 2147483399; decide), ?_⟩⟩
        refine ⟨_, rfl, _, _, rfl, rfl, ⟨by decide, by decide⟩, .inl ⟨_, rfl, _, rfl, _, _, rfl, rfl, hm0, ?_⟩⟩
        exact q _ _ (Int.emod_nonneg _ (by omega)) (Int.emod_lt_of_pos _ hm0) ⟨(drew_upd hF1 hA1.nF hc hi).hand, fun b hb => (upd_ne hb).trans (hk1 b hb), same_mut hF1 hA1.nF⟩

abbrev s__law_shuffled : Stmt := topS 45
abbrev sl__law_shuffled : List Str := ["_law_hand_here", "_law_things", "_law_left", "_law_found"]
theorem sc__law_shuffled : FnScope ["_law_hand_here", "_law_things", "_law_left", "_law_found"] ["_law_hand_here", "_law_things"] (defScope s__law_shuffled) := ⟨rfl, rfl, rfl, by decide +kernel, rfl, by decide +kernel, by decide +kernel⟩
def spShuffled (K : PySem.W.Frag) : Sp := fun vs H Q _ => ∃ (h a : Addr) (xs : List V) (F : Hp), vs = [.ref h, .ref a] ∧ SqX K H a xs ∧ xs.length ≤ 1000 ∧ Same F H ∧ HandAt F H h ∧
  ∀ p H' ys, ys.Perm xs → Dr F H H' h → H p = none → H' p = some (.lst ys) → Q (.ref p) H'
theorem perm_erase {y : V} : ∀ {zs : List V} {k : Nat}, zs[k]? = some y → (y :: zs.eraseIdx k).Perm zs
  | [], k, h => by simp at h
  | z :: r, 0, h => by
    cases h
    exact List.Perm.refl _
  | z :: r, k + 1, h => by
    have ih := perm_erase (zs := r) (k := k) (by simpa using h)
    rw [List.eraseIdx_cons_succ]
    exact (List.Perm.swap z y _).trans (ih.cons z)
theorem ok__law_shuffled (B : Bt mg) (h_law_draw : Has P w K mg base "_law_draw" 1 ["_law_hand_here", "_law_many"] spDraw) (D0 : Df K mg "_law_shuffled" s__law_shuffled ["_law_hand_here", "_law_things"]) : Has P w K mg base "_law_shuffled" 2 ["_law_hand_here", "_law_things"] (spShuffled K) := by
  refine D0.has fun f fd F => F.ok sc__law_shuffled (fun vs H Q E h => ?_) (fun cdv A outer s H vs Q E hr h => ?_)
  · obtain ⟨h, a, xs, F, rfl, _⟩ := h
    rfl
  · obtain ⟨h, a, xs, F0, rfl, hS, hl, hF, hA, q⟩ := h
    refine ⟨_, (pss_cons (ps_set (i := 2) sc__law_shuffled.nd rfl (.inl rfl) (pe_callTy (k_list (K := K) rfl) (by rfl) B.list bo_list (pa_cons (pv 1) pa_nil)))
  (pss_cons (ps_set (i := 3) sc__law_shuffled.nd rfl (.inl rfl) (pe_lst pa_nil))
  (pss_cons (ps_while PassesOwn.never (pt_cmpR op_gt (pe_callB (k_len (K := K) rfl) (by rfl) B.len bo_len (pa_cons (pv 2) pa_nil)) pe_int (nomark _))
    (pss_one (ps_expr (pe_bm PySem.F.plainAttrs_list PySem.F.slot_list_append PySem.F.type_list_append mt_append (pv 3) (pa_cons (pe_bm PySem.F.plainAttrs_list PySem.F.slot_list_pop PySem.F.type_list_pop mt_popAt (pv 2) (pa_cons (pcall h_law_draw hr (by decide) (by rfl) (pa_cons (pv 0) (pa_cons (pe_callB (k_len (K := K) rfl) (by rfl) B.len bo_len (pa_cons (pv 2) pa_nil)) pa_nil))) pa_nil)) pa_nil)))))
  (pss_one (ps_ret (pv 3)))))), ?_⟩
    refine ⟨_, rfl, a, xs, rfl, hS, fun l nl => ⟨Nat.zero_le _, fun p np => ?_⟩⟩
    have s1 := same_new (o := .lst xs) (Same.refl H) nl
    have s2 := same_new (o := .lst []) s1 np
    have nlh : l ≠ h := hA.ne nl
    have np0 : H p = none := Same.free s1 np
    have nph : p ≠ h := hA.ne np0
    have nlp : l ≠ p := ne_of_none upd_same np
    have nlF : F0 l = none := Same.free hF nl
    have npF : F0 p = none := Same.free hF np0
    refine ⟨fun m σ H' => ∃ (zs ys : List V), σ = [some (.ref h), some (.ref a), some (.ref l), some (.ref p)] ∧ Dr F0 H H' h ∧ H' l = some (.lst zs) ∧ H' p = some (.lst ys) ∧ (ys ++ zs).Perm xs ∧ m = zs.length,
      ⟨_, xs, [], rfl, Dr.of_same hA hF s2, by rw [upd_ne nlp, upd_same], upd_same, List.Perm.refl _, rfl⟩, ?_⟩
    rintro m σ H1 ⟨zs, ys, rfl, d1, hl1, hp1, hpm, rfl⟩
    refine ⟨_, rfl, l, zs, rfl, .inl (sql hl1), _, _, rfl, rfl, _, rfl, ?_⟩
    have hlen : ys.length + zs.length = xs.length := by
      have := hpm.length_eq
      rw [List.length_append] at this
      exact this
    cases hz : zs with
    | nil =>
      subst hz
      refine iteF ⟨_, rfl, q p H1 ys (by rw [List.append_nil] at hpm; exact hpm) d1 np0 hp1⟩
    | cons z0 zr =>
      rw [← hz]
      have hpos : 0 < zs.length := by rw [hz]; exact Nat.succ_pos _
      rw [decide_eq_true (show (0 : Int) < (zs.length : Int) by omega)]
      refine iteT ⟨_, fun σ' H' z => z, ?_⟩
      refine ⟨_, rfl, .inl ⟨rfl, _, sql hp1⟩, _, rfl, .inl ⟨rfl, _, sql hl1⟩, _, rfl, _, rfl, l, zs, rfl, .inl (sql hl1), h, (zs.length : Int), F0, rfl, by omega, small_log (by omega) (by omega), d1.sub, d1.hand, fun n H2 hn0 hn1 dd => ?_⟩
      have d2 := d1.trans dd.dr
      have hl2 : H2 l = some (.lst zs) := by rw [dd.rest l nlh]; exact hl1
      have hp2 : H2 p = some (.lst ys) := by rw [dd.rest p nph]; exact hp1
      obtain ⟨k, rfl⟩ : ∃ k : Nat, n = (k : Int) := ⟨n.toNat, by omega⟩
      have hk : k < zs.length := by omega
      refine ⟨l, zs, (k : Int), k, zs[k], rfl, rfl, hl2, by omega, by omega, seqIndex_of (by omega) (by omega), List.getElem?_eq_getElem hk, p, ys, _, rfl, rfl, by rw [upd_ne nlp.symm]; exact hp2, small_lt (by omega), ?_⟩
      refine ⟨_, ?_, zs.eraseIdx k, ys ++ [zs[k]], rfl, (d2.upd nl nlh nlF).upd np0 nph npF, by rw [upd_ne nlp, upd_same], upd_same, ?_, rfl⟩
      · rw [List.length_eraseIdx_of_lt hk]
        omega
      · rw [List.append_assoc]
        exact (List.Perm.append_left ys (perm_erase (List.getElem?_eq_getElem hk))).trans hpm

abbrev s__law_tail : Stmt := topS 47
abbrev sl__law_tail : List Str := ["_law_hand_here", "_law_pairs", "_law_goals", "_law_place", "_law_there", "_law_tail_here", "_law_head", "_law_one"]
theorem sc__law_tail : FnScope ["_law_hand_here", "_law_pairs", "_law_goals", "_law_place", "_law_there", "_law_tail_here", "_law_head", "_law_one"] ["_law_hand_here", "_law_pairs", "_law_goals", "_law_place"] (defScope s__law_tail) := ⟨rfl, rfl, rfl, by decide +kernel, rfl, by decide +kernel, by decide +kernel⟩
def spTail (K : PySem.W.Frag) : Sp := fun vs H Q _ => ∃ (h b g : Addr) (pl : Int) (pvs : List V) (es : Es) (gs : List Nat) (F : Hp), vs = [.ref h, .ref b, .ref g, .int pl] ∧ SqL K H b pvs ∧ Prs K H pvs es ∧ SqL K H g (gs.map nV) ∧ 0 ∉ gs ∧ es.length ≤ 1000 ∧ Same F H ∧ HandAt F H h ∧
  ∀ (v : Nat) H', (v = 0 ∨ ∃ e ∈ es, e.2 = v) → Dr F H H' h → Q (nV v) H'
theorem ok__law_tail (B : Bt mg) (h_law_draw : Has P w K mg base "_law_draw" 1 ["_law_hand_here", "_law_many"] spDraw) (D0 : Df K mg "_law_tail" s__law_tail ["_law_hand_here", "_law_pairs", "_law_goals", "_law_place"]) : Has P w K mg base "_law_tail" 2 ["_law_hand_here", "_law_pairs", "_law_goals", "_law_place"] (spTail K) := by
  refine D0.has fun f fd F => F.ok sc__law_tail (fun vs H Q E h => ?_) (fun cdv A outer s H vs Q E hr h => ?_)
  · obtain ⟨h, b, g, pl, pvs, es, gs, F, rfl, _⟩ := h
    rfl
  · obtain ⟨h, b, g, pl, pvs, es, gs, F0, rfl, hB, hP, hG, h0, hel, hF, hA, q⟩ := h
    refine ⟨_, (pss_cons (ps_set (i := 4) sc__law_tail.nd rfl (.inl rfl) (pe_op op_cat (pe_lst (pa_cons pe_int pa_nil)) (pe_lc (own := [("_law_tail_here", 5), ("_law_head", 6)]) (g := gTup K 2 (gCons (gName 5) (gCons (gName 6) gNil))) rfl sc__law_tail.nd (k_pil (K := K) rfl (pv 1)) (blkOk_by (N := sl__law_tail) (sc := defScope s__law_tail) (by decide +kernel)) (fun _ _ _ _ _ => (pg_tup rfl (pgs_cons (pg_name (i := 5) sc__law_tail.nd rfl (.inl rfl)) (pgs_cons (pg_name (i := 6) sc__law_tail.nd rfl (.inl rfl)) pgs_nil)))) (fun _ _ _ _ _ => pts_nil) (fun _ _ _ _ _ => (pv 6)))))
  (C8.pss_cut (ps_if (pt_cmpR op_gt (pcall h_law_draw hr (by decide) (by rfl) (pa_cons (pv 0) (pa_cons pe_int pa_nil))) pe_int (nomark _))
    (pss_one (ps_setLc (i := 4) (own := [("_law_one", 7)]) (g := gName 7) rfl sc__law_tail.nd rfl rfl (sw_true rfl rfl rfl (by decide +kernel)) (k_pil (K := K) rfl (pv 4)) (blkOk_by (N := sl__law_tail) (sc := defScope s__law_tail) (by decide +kernel)) (fun _ _ _ _ _ => (pg_name (i := 7) sc__law_tail.nd rfl (.inl rfl))) (fun _ _ _ _ _ => pts_one (pt_cmpR (k_notin (K := K) rfl) (pv 7) (pv 2) (by rfl))) (fun _ _ _ _ _ => (pv 7))))
    pss_nil)
  (pss_one (ps_ret (pe_ix (k_ixl (K := K) rfl) (pv 4) (pcall h_law_draw hr (by decide) (by rfl) (pa_cons (pv 0) (pa_cons (pe_callB (k_len (K := K) rfl) (by rfl) B.len bo_len (pa_cons (pv 4) pa_nil)) pa_nil))) (fun _ _ => rfl)))))), ?_⟩
    have hl := hP.len
    refine ⟨Nat.le_of_lt (small_lt (by decide : 1 ≤ 100000)), fun z nz => ?_⟩
    have s1 := same_new (o := .lst [.int 0]) (Same.refl H) nz
    refine ⟨_, rfl, b, rfl, ⟨_, Same.seq s1 hB⟩, fun D nD => ?_⟩
    refine lc_val walk_list calm_at (fun i => (es[i]?).bind fun e => some (nV e.2)) (by omega) nD (fun H3 s3 => Same.seq (Same.trans s1 s3) hB) ?_ fun H3 s3 h3 => ?_
    · rintro i v H3 H4 hi s3 ⟨rfl, hv⟩ Kt kt
      obtain ⟨e, hei, t, rfl, ht⟩ := hP.get hv
      have sm : Same H H4 := Same.trans s1 s3
      refine ⟨t, _, rfl, Same.sqt sm ht, rfl, _, _, rfl, _, _, rfl, rfl, rfl, tyes ?_⟩
      refine iteT ⟨_, rfl, ?_⟩
      have k0 := kt _ (Same.refl _)
      rw [hei] at k0
      exact k0
    rw [hl, fm_range, fm_some] at h3
    have s13 : Same H H3 := Same.trans s1 s3
    have hz3 : H3 z = some (.lst [.int 0]) := s3 _ _ upd_same
    have e3 : (es.map fun e => nV e.2) = (es.map (·.2)).map nV := by rw [List.map_map]; rfl
    rw [e3] at h3
    refine ⟨z, D, _, _, rfl, rfl, hz3, h3, by rw [List.length_map, List.length_map]; exact small_sz (by show 1 + es.length ≤ 100000; omega), fun th nth => ?_⟩
    have hcat : ([V.int 0] ++ (es.map (·.2)).map nV) = (0 :: es.map (·.2)).map nV := rfl
    rw [hcat]
    have s14 := same_new (o := .lst ((0 :: es.map (·.2)).map nV)) s13 nth
    have nthh : th ≠ h := hA.ne (Same.free s13 nth)
    -- if draw > 0
    refine ⟨fun σ H' => ∃ (th' : Addr) (ts : List Nat) (x : Option V), σ = [some (.ref h), some (.ref b), some (.ref g), some (.int pl), some (.ref th'), none, none, none] ∧ Dr F0 H H' h ∧ H' th' = some (.lst (ts.map nV)) ∧ th' ≠ h ∧ 0 ∈ ts ∧ ts.length ≤ 1001 ∧ (∀ v ∈ ts, v = 0 ∨ ∃ e ∈ es, e.2 = v), ?_, ?_⟩
    · have dA := Dr.of_same hA hF s14
      refine ⟨_, rfl, h, 4, F0, rfl, by decide, small_log (by decide) (by omega), dA.sub, dA.hand, fun n H5 hn0 hn1 dd => ⟨_, _, rfl, rfl, _, rfl, ?_⟩⟩
      have d5 := dA.trans dd.dr
      have hth5 : H5 th = some (.lst ((0 :: es.map (·.2)).map nV)) := by rw [dd.rest th nthh]; exact upd_same
      have hts : ∀ v ∈ (0 :: es.map (·.2)), v = 0 ∨ ∃ e ∈ es, e.2 = v := fun v hv => by
        rcases List.mem_cons.mp hv with hv | hv
        · exact .inl hv
        · obtain ⟨e, he, rfl⟩ := List.mem_map.mp hv
          exact .inr ⟨e, he, rfl⟩
      have htl : (0 :: es.map (·.2)).length ≤ 1001 := by rw [List.length_cons, List.length_map]; omega
      by_cases hn : (0 : Int) < n
      · rw [decide_eq_true hn]
        refine iteT ⟨_, rfl, th, rfl, ⟨_, sql hth5⟩, fun D2 nD2 => ?_⟩
        have hG5 : SqL K H5 g (gs.map nV) := by
          obtain ⟨c, cells, i, r, s', k, h1, _⟩ := hA.ob
          rcases hG with (hg | ⟨o, hg⟩) | hg
          · exact .inl (.inl (d5.same _ _ (fun e => by
              subst e
              rw [hg] at h1
              have h2 := Option.some.inj h1
              injection h2 with h2
              cases gs with
              | nil => cases h2
              | cons g0 gr => injection h2 with h2 _; cases h2) hg))
          · exact .inl (.inr ⟨o, d5.same _ _ (ne_of hg h1 (by intro z; cases z)) hg⟩)
          · exact .inr hg
        refine lc_val walk_list calm_at (fun i => ((0 :: es.map (·.2))[i]?).bind fun v => if v ∈ gs then none else some (nV v)) (by rw [List.length_map]; omega) nD2 (fun H6 s6 => sql (s6 _ _ hth5)) ?_ fun H6 s6 h6 => ?_
        · rintro i v H6 H7 hi s6 ⟨rfl, hv⟩ Kt kt
          obtain ⟨u, hui, rfl⟩ := getmap hv
          refine ⟨rfl, ?_⟩
          refine ⟨_, rfl, _, rfl, g, _, rfl, .inl (Same.seq s6 hG5), rfl, flat_nats _, _, rfl, ?_⟩
          rw [if_pos rfl, inV_nats]
          have k0 := kt _ (Same.refl _)
          rw [hui] at k0
          simp only [Option.bind_some] at k0
          by_cases hm : u ∈ gs
          · rw [decide_eq_true hm]
            rw [if_pos hm] at k0
            exact iteF k0
          · rw [decide_eq_false hm]
            rw [if_neg hm] at k0
            exact iteT ⟨_, rfl, k0⟩
        rw [List.length_map, fm_range] at h6
        have e6 : ((0 :: es.map (·.2)).filterMap fun v => if v ∈ gs then none else some (nV v)) = ((0 :: es.map (·.2)).filterMap fun v => if v ∈ gs then none else some v).map nV := by
          rw [List.map_filterMap]
          congr 1
          funext v
          split <;> rfl
        rw [e6] at h6
        have d6 := d5.trans (Dr.of_same d5.hand d5.sub s6)
        refine ⟨D2, _, none, rfl, d6, h6, hA.ne (d5.free nD2), ?_, Nat.le_trans (List.length_filterMap_le _ _) htl, fun v hv => ?_⟩
        · exact List.mem_filterMap.mpr ⟨0, List.mem_cons_self, if_neg h0⟩
        · obtain ⟨u, hu, e⟩ := List.mem_filterMap.mp hv
          split at e
          · cases e
          · cases e
            exact hts _ hu
      · rw [decide_eq_false hn]
        refine iteF ?_
        exact ⟨th, _, none, rfl, d5, hth5, nthh, List.mem_cons_self, htl, hts⟩
    · rintro σ H5 ⟨th', ts, x, rfl, d5, hth5, nth5, h0t, htl, hts⟩
      have hpos : 0 < ts.length := List.length_pos_of_mem h0t
      refine ⟨_, rfl, _, rfl, _, rfl, th', _, rfl, .inl (sql hth5), h, (ts.length : Int), F0, by rw [List.length_map]; rfl, by omega, small_log (by omega) (by omega), d5.sub, d5.hand, fun n H6 hn0 hn1 dd => ?_⟩
      obtain ⟨k, rfl⟩ : ∃ k : Nat, n = (k : Int) := ⟨n.toNat, by omega⟩
      have hk : k < ts.length := by omega
      have htk : ts[k]? = some ts[k] := List.getElem?_eq_getElem hk
      refine ⟨th', _, (k : Int), nV ts[k], rfl, rfl, sql (by rw [dd.rest th' nth5]; exact hth5), atI_nat (by rw [List.getElem?_map, htk]; rfl), q _ H6 (hts _ (List.mem_of_getElem? htk)) (d5.trans dd.dr)⟩

abbrev s__law_renamed : Stmt := topS 48
abbrev sl__law_renamed : List Str := ["_law_hand_here", "_law_many", "_law_pairs", "_law_goals", "_law_number", "_law_arrows", "_law_one", "_law_other", "_law_goal"]
theorem sc__law_renamed : FnScope ["_law_hand_here", "_law_many", "_law_pairs", "_law_goals", "_law_number", "_law_arrows", "_law_one", "_law_other", "_law_goal"] ["_law_hand_here", "_law_many", "_law_pairs", "_law_goals"] (defScope s__law_renamed) := ⟨rfl, rfl, rfl, by decide +kernel, rfl, by decide +kernel, by decide +kernel⟩
/-- pairs made since H0 -/
def PairN (H0 H : Hp) (v : V) (e : Nat × Nat) : Prop := ∃ t, v = .ref t ∧ H t = some (.tup [nV e.1, nV e.2]) ∧ H0 t = none
def RelN (H0 : Hp) (G : Nat × Nat → Nat × Nat) (es : Es) (i : Nat) (H : Hp) (o : Option V) : Prop := ∃ e v, es[i]? = some e ∧ o = some v ∧ PairN H0 H v (G e)
theorem RelN.stay {H0 : Hp} {G : Nat × Nat → Nat × Nat} {es : Es} {D : Addr} (i : Nat) (o : Option V) (H H' : Hp) (acc : List V) (hD : H D = some (.lst acc)) (h : RelN H0 G es i H o)
    (k : ∀ b u, b ≠ D → H b = some u → H' b = some u) : RelN H0 G es i H' o := by
  obtain ⟨e, v, he, h1, t, rfl, ht, hn⟩ := h
  exact ⟨e, _, he, h1, t, rfl, k _ _ (ne_of ht hD (by intro z; cases z)) ht, hn⟩
theorem relN_vals {H0 H : Hp} {G : Nat × Nat → Nat × Nat} {es : Es} {os : List (Option V)} (hl : os.length = es.length) (h : ∀ (i : Nat) (o : Option V), os[i]? = some o → RelN H0 G es i H o) :
    (os.filterMap id).length = es.length ∧ ∀ (i : Nat) (v : V) (e : Nat × Nat), (os.filterMap id)[i]? = some v → es[i]? = some e → PairN H0 H v (G e) := by
  have e1 : ∃ vs : List V, os = vs.map some := by
    refine ⟨os.map fun o => o.getD .non, ?_⟩
    rw [List.map_map]
    symm
    rw [show os = os.map id by rw [List.map_id]]
    rw [List.map_map]
    refine List.map_congr_left fun o ho => ?_
    obtain ⟨i, hi⟩ := List.getElem?_of_mem ho
    obtain ⟨e, v, _, rfl, _⟩ := h i o hi
    rfl
  obtain ⟨vs, rfl⟩ := e1
  have e2 : (vs.map some).filterMap id = vs := by
    rw [List.filterMap_map]
    exact List.filterMap_some
  rw [e2]
  rw [List.length_map] at hl
  refine ⟨hl, fun i v e hv he => ?_⟩
  obtain ⟨e', v', he', hv', hp⟩ := h i (some v) (by rw [List.getElem?_map, hv]; rfl)
  rw [he] at he'
  cases he'
  cases hv'
  exact hp
theorem nd_map {f : Nat → Nat} {l : List Nat} (h : ∀ a b, a ∈ l → b ∈ l → f a = f b → a = b) (nd : l.Nodup) : (l.map f).Nodup := by
  unfold List.Nodup
  rw [List.pairwise_map]
  exact List.Pairwise.imp_of_mem (fun {a b} ha hb hab e => hab (h a b ha hb e)) nd
/-- the numbers of the places anew -/
structure Num (n : Nat) (num : List Nat) : Prop where
  len : num.length = n
  nd : num.Nodup
  lt : ∀ v ∈ num, v < n
  z : num[0]? = some 0
def pi (num : List Nat) (v : Nat) : Nat := num[v]?.getD 0
theorem Num.at_ {n : Nat} {num : List Nat} (h : Num n num) {v : Nat} (hv : v < n) : num[v]? = some (pi num v) := by
  have h1 : v < num.length := by rw [h.len]; exact hv
  unfold pi
  rw [List.getElem?_eq_getElem h1]
  rfl
theorem Num.pilt {n : Nat} {num : List Nat} (h : Num n num) {v : Nat} (hv : v < n) : pi num v < n := h.lt _ (List.mem_of_getElem? (h.at_ hv))
theorem Num.inj {n : Nat} {num : List Nat} (h : Num n num) {u v : Nat} (hu : u < n) (hv : v < n) (e : pi num u = pi num v) : u = v :=
  (List.getElem?_inj (by rw [h.len]; exact hu) h.nd).mp (by rw [h.at_ hu, h.at_ hv, e])
theorem Num.pi0 {n : Nat} {num : List Nat} (h : Num n num) : pi num 0 = 0 := by
  unfold pi
  rw [h.z]
  rfl
def ren (num : List Nat) (e : Nat × Nat) : Nat × Nat := (pi num e.1, pi num e.2)
theorem Num.rch {n : Nat} {num : List Nat} (h : Num n num) {es : Es} {v : Nat} (hr : Rch es [0] v) : Rch (es.map (ren num)) [0] (pi num v) :=
  hr.ind (P := fun v => Rch (es.map (ren num)) [0] (pi num v)) (fun v hv => by
    rw [List.mem_singleton.mp hv, h.pi0]
    exact .base List.mem_cons_self) fun u v hu e => hu.edge (List.mem_map.mpr ⟨(u, v), e, rfl⟩)
theorem num_of {n : Nat} {ys : List Nat} (hn : 2 ≤ n) (h : ys.Perm ((List.range (n - 1)).map (· + 1))) : Num n (0 :: ys) where
  len := by
    rw [List.length_cons, h.length_eq, List.length_map, List.length_range]
    omega
  nd := by
    refine List.nodup_cons.mpr ⟨fun z => ?_, ?_⟩
    · obtain ⟨k, _, e⟩ := List.mem_map.mp (h.mem_iff.mp z)
      omega
    · refine h.nodup_iff.mpr ?_
      exact nd_map (fun a b _ _ hab => by omega) List.nodup_range
  lt := fun v hv => by
    rcases List.mem_cons.mp hv with rfl | hv
    · omega
    · obtain ⟨k, hk, rfl⟩ := List.mem_map.mp (h.mem_iff.mp hv)
      have := List.mem_range.mp hk
      omega
  z := rfl
theorem Prs.dr {K : PySem.W.Frag} {F H H' : Hp} {h : Addr} {vs : List V} {es : Es} (p : Prs K H vs es) (d : Dr F H H' h) (hA : HandAt F H h) : Prs K H' vs es :=
  ⟨p.len, fun i v e a b => (p.at_ i v e a b).elim fun t ⟨h1, h2⟩ => ⟨t, h1, d.sqt hA h2⟩⟩
/-- what can be renamed to a map -/
structure RawMap (n : Nat) (es : Es) (gs : List Nat) : Prop where
  n2 : 2 ≤ n
  n40 : n ≤ 40
  l60 : es.length ≤ 60
  ok : ∀ e ∈ es, e.1 < n ∧ e.2 < n ∧ e.1 ≠ e.2
  ne : gs ≠ []
  nd : gs.Nodup
  gl : ∀ g ∈ gs, g ≠ 0 ∧ g < n
  rch : ∀ g ∈ gs, Rch es [0] g
theorem good_of {n : Nat} {num : List Nat} (N : Num n num) {es : Es} {gs gs' : List Nat} (r : RawMap n es gs) (hp : gs'.Perm (gs.map (pi num))) (hs : gs'.Pairwise (· ≤ ·)) : GoodMap n (es.map (ren num)) gs' where
  n2 := r.n2
  n40 := r.n40
  l60 := by rw [List.length_map]; exact r.l60
  ok := fun e he => by
    obtain ⟨e0, h0, rfl⟩ := List.mem_map.mp he
    obtain ⟨h1, h2, h3⟩ := r.ok e0 h0
    exact ⟨N.pilt h1, N.pilt h2, fun z => h3 (N.inj h1 h2 z)⟩
  ne := fun z => by
    rw [z] at hp
    have := hp.length_eq
    rw [List.length_map] at this
    exact r.ne (List.length_eq_zero_iff.mp this.symm)
  pw := pw_lt hs (hp.nodup_iff.mpr (nd_map (fun a b ha hb e => N.inj (r.gl a ha).2 (r.gl b hb).2 e) r.nd))
  gl := fun g hg => by
    obtain ⟨g0, h0, rfl⟩ := List.mem_map.mp (hp.mem_iff.mp hg)
    obtain ⟨h1, h2⟩ := r.gl g0 h0
    exact ⟨fun z => h1 (N.inj h2 (by have := r.n2; omega) (by rw [z, N.pi0])), N.pilt h2⟩
  rch := fun g hg => by
    obtain ⟨g0, h0, rfl⟩ := List.mem_map.mp (hp.mem_iff.mp hg)
    exact N.rch (r.rch g0 h0)

def spRenamed (K : PySem.W.Frag) : Sp := fun vs H Q _ => ∃ (h b g : Addr) (n : Nat) (pvs : List V) (es : Es) (gs : List Nat) (F : Hp), vs = [.ref h, .int (n : Int), .ref b, .ref g] ∧ H b = some (.lst pvs) ∧ b ≠ h ∧ Prs K H pvs es ∧ H g = some (.lst (gs.map nV)) ∧ g ≠ h ∧ RawMap n es gs ∧ Same F H ∧ HandAt F H h ∧
  ∀ (t a c : Addr) (pvs' : List V) (es' : Es) (gs' : List Nat) (H' : Hp), Dr F H H' h → es'.length = es.length → PtsAt K (hv F H H') t n a pvs' es' c gs' → Q (.ref t) H'
theorem ok__law_renamed (B : Bt mg) (h_law_shuffled : Has P w K mg base "_law_shuffled" 2 ["_law_hand_here", "_law_things"] (spShuffled K)) (D0 : Df K mg "_law_renamed" s__law_renamed ["_law_hand_here", "_law_many", "_law_pairs", "_law_goals"]) : Has P w K mg base "_law_renamed" 3 ["_law_hand_here", "_law_many", "_law_pairs", "_law_goals"] (spRenamed K) := by
  refine D0.has fun f fd F => F.ok sc__law_renamed (fun vs H Q E h => ?_) (fun cdv A outer s H vs Q E hr h => ?_)
  · obtain ⟨h, b, g, n, pvs, es, gs, F, rfl, _⟩ := h
    rfl
  · obtain ⟨h, b, g, n, pvs, es, gs, F0, rfl, hB, nbh, hP, hG, ngh, rm, hF, hA, q⟩ := h
    refine ⟨_, (pss_cons (ps_set (i := 4) sc__law_renamed.nd rfl (.inr rfl) (pe_op op_cat (pe_lst (pa_cons pe_int pa_nil)) (pcall h_law_shuffled hr (by decide) (by rfl) (pa_cons (pv 0) (pa_cons (pe_listRg rfl (by rfl) B.list (prg_2 (by rfl) B.range pe_int (pv 1))) pa_nil)))))
  (pss_cons (ps_set (i := 5) sc__law_renamed.nd rfl (.inl rfl) (pe_callTy (k_tuple (K := K) rfl) (by rfl) B.tuple bo_tuple (pa_cons (pe_lc (own := [("_law_one", 6), ("_law_other", 7)]) (g := gTup K 2 (gCons (gName 6) (gCons (gName 7) gNil))) rfl sc__law_renamed.nd (k_pil (K := K) rfl (pv 2)) (blkOk_by (N := sl__law_renamed) (sc := defScope s__law_renamed) (by decide +kernel)) (fun _ _ _ _ _ => (pg_tup rfl (pgs_cons (pg_name (i := 6) sc__law_renamed.nd rfl (.inl rfl)) (pgs_cons (pg_name (i := 7) sc__law_renamed.nd rfl (.inl rfl)) pgs_nil)))) (fun _ _ _ _ _ => pts_nil) (fun _ _ _ _ _ => (pe_tup (pa_cons (pe_ix (k_ixl (K := K) rfl) (pv 4) (pv 6) (fun _ _ => rfl)) (pa_cons (pe_ix (k_ixl (K := K) rfl) (pv 4) (pv 7) (fun _ _ => rfl)) pa_nil))))) pa_nil)))
  (pss_one (ps_ret (pe_tup (pa_cons (pv 1) (pa_cons (pv 5) (pa_cons (pe_callTy (k_tuple (K := K) rfl) (by rfl) B.tuple bo_tuple (pa_cons (pe_callB (k_sorted (K := K) rfl) (by rfl) B.sorted bo_sorted (pa_cons (pe_lc (own := [("_law_goal", 8)]) (g := gName 8) rfl sc__law_renamed.nd (k_pil (K := K) rfl (pv 3)) (blkOk_by (N := sl__law_renamed) (sc := defScope s__law_renamed) (by decide +kernel)) (fun _ _ _ _ _ => (pg_name (i := 8) sc__law_renamed.nd rfl (.inl rfl))) (fun _ _ _ _ _ => pts_nil) (fun _ _ _ _ _ => (pe_ix (k_ixl (K := K) rfl) (pv 4) (pv 8) (fun _ _ => rfl)))) pa_nil)) pa_nil)) pa_nil)))))))), ?_⟩
    have hl := hP.len
    have rn2 := rm.n2
    have rn40 := rm.n40
    have r60 := rm.l60
    -- number
    refine ⟨Nat.le_of_lt (small_lt (by decide : 1 ≤ 100000)), fun z nz => ⟨_, rfl, _, rfl, _, (n : Int), rfl, rfl, ⟨by omega, by omega, by omega, by omega, by omega⟩, fun r nr => ?_⟩⟩
    have s1 := same_new (o := .lst [.int 0]) (Same.refl H) nz
    have s2 := same_new (o := .lst (rgV 1 (n : Int))) s1 nr
    have d2 := Dr.of_same hA hF s2
    have nzh : z ≠ h := hA.ne nz
    refine ⟨h, r, _, F0, rfl, .inl (sql upd_same), by rw [rgV_length]; omega, d2.sub, d2.hand, fun p H3 ysv hperm d3 np hp3 => ?_⟩
    have d23 := d2.trans d3
    rw [rgV1] at hperm
    obtain ⟨ys, rfl, hys⟩ := perm_nats hperm
    have N := num_of rn2 hys
    have hz3 : H3 z = some (.lst [.int 0]) := d3.same z _ nzh (by rw [upd_ne (ne_of_none upd_same nr), upd_same])
    refine ⟨z, p, _, _, rfl, rfl, hz3, hp3, by rw [List.length_map]; have := N.len; rw [List.length_cons] at this; exact small_sz (by show 1 + ys.length ≤ 100000; omega), fun nm nnm => ?_⟩
    have hcat : ([V.int 0] ++ ys.map nV) = (0 :: ys).map nV := rfl
    rw [hcat]
    generalize 0 :: ys = num at N ⊢
    have d4 := d23.trans (Dr.of_same d23.hand d23.sub (same_new (o := .lst (num.map nV)) (Same.refl H3) nnm))
    have nnm0 : H nm = none := d23.free nnm
    have nnmh : nm ≠ h := hA.ne nnm0
    generalize hH4 : upd H3 nm (.lst (num.map nV)) = H4 at d4
    have hnm4 : H4 nm = some (.lst (num.map nV)) := by rw [← hH4]; exact upd_same
    have hB4 := d4.same b _ nbh hB
    have hG4 := d4.same g _ ngh hG
    have hP4 := hP.dr d4 hA
    -- arrows
    refine ⟨_, rfl, b, rfl, ⟨_, sql hB4⟩, fun D nD => ?_⟩
    refine lc_rel walk_list calm_at (RelN H (ren num) es) RelN.stay (by omega) nD (fun H5 s5 => sql (s5 _ _ hB4)) ?_ fun H5 os s5 hol hos hD5 => ?_
    · rintro i v H5 H6 hi s5 ⟨rfl, hv⟩ Kt kt
      obtain ⟨e, hei, tt, rfl, ht⟩ := hP4.get hv
      obtain ⟨e1, e2⟩ := e
      obtain ⟨h1, h2, _⟩ := rm.ok _ (List.mem_of_getElem? hei)
      have hnm5 := s5 _ _ hnm4
      refine ⟨tt, _, rfl, Same.sqt s5 ht, rfl, _, _, rfl, _, _, rfl, rfl, rfl, tyes ?_⟩
      refine iteT ?_
      refine ⟨_, rfl, _, rfl, nm, _, (e1 : Int), nV (pi num e1), rfl, rfl, sql hnm5, atI_nat (by rw [List.getElem?_map, N.at_ h1]; rfl), _, rfl, _, rfl, nm, _, (e2 : Int), nV (pi num e2), rfl, rfl, sql hnm5, atI_nat (by rw [List.getElem?_map, N.at_ h2]; rfl), by show 2 ≤ sizeLine; decide, fun t2 nt2 => ?_⟩
      refine kt _ _ (same_new (Same.refl _) nt2) ⟨(e1, e2), _, hei, rfl, t2, rfl, upd_same, ?_⟩
      exact d4.free (Same.free s5 nt2)
    obtain ⟨hvl, hva⟩ := relN_vals (hol.trans hl) hos
    generalize os.filterMap id = pvs2 at hD5 hvl hva
    have d5 := d4.trans (Dr.of_same d4.hand d4.sub s5)
    refine ⟨D, _, rfl, .inl ⟨sql hD5, fun ar nar => ?_⟩⟩
    have nar0 : H ar = none := d5.free nar
    have s6 := same_new (o := .tup pvs2) (Same.refl H5) nar
    have d6 := d5.trans (Dr.of_same d5.hand d5.sub s6)
    generalize hH6 : upd H5 ar (.tup pvs2) = H6 at d6 s6
    have har6 : H6 ar = some (.tup pvs2) := by rw [← hH6]; exact upd_same
    have hG6 := d6.same g _ ngh hG
    have hnm6 : H6 nm = some (.lst (num.map nV)) := s6 _ _ (s5 _ _ hnm4)
    -- the goals, sorted
    refine ⟨_, rfl, _, rfl, _, rfl, g, rfl, ⟨_, sql hG6⟩, fun D2 nD2 => ?_⟩
    have hgl : gs.length ≤ n := nodup_le rm.nd fun x hx => (rm.gl x hx).2
    refine lc_val (walk_list (xs := gs.map nV)) calm_at (fun i => (gs[i]?).bind fun g => some (nV (pi num g))) (by rw [List.length_map]; omega) nD2 (fun H7 s7 => sql (s7 _ _ hG6)) ?_ fun H7 s7 h7 => ?_
    · rintro i v H7 H8 hi s7 ⟨rfl, hv⟩ Kt kt
      obtain ⟨x, hxi, rfl⟩ := getmap hv
      have hxn := (rm.gl x (List.mem_of_getElem? hxi)).2
      refine ⟨rfl, tyes ?_⟩
      refine iteT ?_
      refine ⟨_, rfl, _, rfl, nm, _, (x : Int), nV (pi num x), rfl, rfl, sql (s7 _ _ hnm6), atI_nat (by rw [List.getElem?_map, N.at_ hxn]; rfl), ?_⟩
      have k0 := kt _ (Same.refl _)
      rw [hxi] at k0
      exact k0
    rw [List.length_map, fm_range, fm_some] at h7
    refine ⟨D2, (gs.map (pi num)).map fun (n : Nat) => (n : Int), rfl, sql (by rw [h7, List.map_map, List.map_map]; rfl), fun ns so hpm hpw nso => ?_⟩
    obtain ⟨gs', hgs', hgp, hgw⟩ := sort_nats hpm hpw
    rw [hgs']
    refine ⟨so, _, rfl, .inl ⟨sql upd_same, fun c nc => ⟨Nat.le_of_lt (small_lt (by decide : 3 ≤ 100000)), fun t nt => ?_⟩⟩⟩
    have s8 := same_new (o := .tup [.int (n : Int), .ref ar, .ref c]) (same_new (o := .tup (gs'.map nV)) (same_new (o := .lst (gs'.map nV)) (Same.trans (Same.refl H6) s7) nso) nc) nt
    have d8 := d6.trans (Dr.of_same d6.hand d6.sub s8)
    have nc0 : H c = none := d6.free (Same.free s7 (Same.free (same_new (o := .lst (gs'.map nV)) (Same.refl H7) nso) nc))
    have nt0 : H t = none := d6.free (Same.free (same_new (o := .tup (gs'.map nV)) (same_new (o := .lst (gs'.map nV)) s7 nso) nc) nt)
    have nct : c ≠ t := ne_of_none upd_same nt
    refine q t ar c pvs2 (es.map (ren num)) gs' _ d8 (List.length_map _) ⟨?_, ?_, ⟨?_, fun i v e hv he => ?_⟩, ?_, good_of N rm hgp hgw⟩
    · exact sqt (hv_new hF nt0 upd_same)
    · exact sqt (hv_new hF nar0 (s8 _ _ har6))
    · rw [List.length_map, hvl]
    · rw [List.getElem?_map] at he
      cases he0 : es[i]? with
      | none => rw [he0] at he; cases he
      | some e0 =>
        rw [he0] at he
        cases he
        obtain ⟨tt, rfl, ht, hn⟩ := hva i v e0 hv he0
        exact ⟨tt, rfl, sqt (hv_new hF hn (s8 _ _ (s6 _ _ ht)))⟩
    · exact sqt (hv_new hF nc0 (by rw [upd_ne nct, upd_same]))

abbrev s__law_parts : Stmt := topS 46
abbrev sl__law_parts : List Str := ["_law_hand_here", "_law_places", "_law_arrows", "_law_many", "_law_goals", "_law_pairs", "_law_place", "_law_turn", "_law_way", "_law_one", "_law_other"]
theorem sc__law_parts : FnScope ["_law_hand_here", "_law_places", "_law_arrows", "_law_many", "_law_goals", "_law_pairs", "_law_place", "_law_turn", "_law_way", "_law_one", "_law_other"] ["_law_hand_here", "_law_places", "_law_arrows"] (defScope s__law_parts) := ⟨rfl, rfl, rfl, by decide +kernel, rfl, by decide +kernel, by decide +kernel⟩
/-- the pairs that are drawn so far; all heads are at most i, each head can be come to -/
structure Grown (n i : Nat) (es : Es) (gs : List Nat) : Prop where
  len : es.length ≤ i
  ok : ∀ e ∈ es, e.1 < n ∧ e.2 < n ∧ e.1 ≠ e.2
  hd : ∀ e ∈ es, e.2 ≤ i
  rch : ∀ e ∈ es, Rch es [0] e.2
  gl : ∀ g ∈ gs, g ≤ i → ∃ e ∈ es, e.2 = g
theorem Grown.add {n i v : Nat} {es : Es} {gs : List Nat} (g : Grown n i es gs) (hv : v = 0 ∨ ∃ e ∈ es, e.2 = v) (hi : i + 1 < n) : Grown n (i + 1) (es ++ [(v, i + 1)]) gs := by
  have hvr : Rch es [0] v := by
    rcases hv with rfl | ⟨e, he, rfl⟩
    · exact .base List.mem_cons_self
    · exact g.rch e he
  have hvi : v ≤ i := by
    rcases hv with rfl | ⟨e, he, rfl⟩
    · exact Nat.zero_le _
    · exact g.hd e he
  have sub : ∀ e ∈ es, e ∈ es ++ [(v, i + 1)] := fun e he => List.mem_append_left _ he
  refine ⟨by rw [List.length_append, List.length_singleton]; have := g.len; omega, fun e he => ?_, fun e he => ?_, fun e he => ?_, fun x hx hxi => ?_⟩
  · rcases List.mem_append.mp he with he | he
    · exact g.ok e he
    · rw [List.mem_singleton.mp he]
      exact ⟨by show v < n; omega, hi, by show v ≠ i + 1; omega⟩
  · rcases List.mem_append.mp he with he | he
    · exact Nat.le_succ_of_le (g.hd e he)
    · rw [List.mem_singleton.mp he]
      exact Nat.le_refl _
  · rcases List.mem_append.mp he with he | he
    · exact (g.rch e he).mono sub fun _ h => h
    · rw [List.mem_singleton.mp he]
      exact (hvr.mono sub fun _ h => h).edge (List.mem_append_right _ List.mem_cons_self)
  · by_cases h : x ≤ i
    · obtain ⟨e, he, h1⟩ := g.gl x hx h
      exact ⟨e, sub e he, h1⟩
    · exact ⟨_, List.mem_append_right _ List.mem_cons_self, by show i + 1 = x; omega⟩
theorem Grown.skip {n i : Nat} {es : Es} {gs : List Nat} (g : Grown n i es gs) (h : i + 1 ∉ gs) : Grown n (i + 1) es gs :=
  ⟨Nat.le_succ_of_le g.len, g.ok, fun e he => Nat.le_succ_of_le (g.hd e he), g.rch, fun x hx hxi => g.gl x hx (by
    have : x ≠ i + 1 := fun z => h (z ▸ hx)
    omega)⟩
theorem Prs.snoc {K : PySem.W.Frag} {H : Hp} {vs : List V} {es : Es} {v : V} {e : Nat × Nat} (p : Prs K H vs es) (h : PairAt K H v e) : Prs K H (vs ++ [v]) (es ++ [e]) where
  len := by rw [List.length_append, List.length_append, p.len]; rfl
  at_ := fun i x y a b => by
    by_cases hi : i < vs.length
    · rw [List.getElem?_append_left hi] at a
      rw [List.getElem?_append_left (by rw [← p.len]; exact hi)] at b
      exact p.at_ i x y a b
    · rw [List.getElem?_append_right (by omega)] at a
      rw [List.getElem?_append_right (by rw [← p.len]; omega)] at b
      have e0 : i - vs.length = 0 := by
        have := (List.getElem?_eq_some_iff.mp a).1
        simp at this
        omega
      rw [e0] at a
      rw [← p.len, e0] at b
      cases a
      cases b
      exact h
theorem Prs.keep {K : PySem.W.Frag} {H H' : Hp} {vs : List V} {es : Es} (p : Prs K H vs es) (k : ∀ t xs, SqT K H t xs → SqT K H' t xs) : Prs K H' vs es :=
  ⟨p.len, fun i v e a b => (p.at_ i v e a b).elim fun t ⟨h1, h2⟩ => ⟨t, h1, k _ _ h2⟩⟩
/-- a list is stored to, tuples stay -/
theorem sqt_upd {K : PySem.W.Frag} {H : Hp} {x t : Addr} {xs ys : List V} {o : HO} (hx : H x = some (.lst ys)) (s : SqT K H t xs) : SqT K (upd H x o) t xs := by
  rcases s with (s | ⟨o, s⟩) | s
  · exact .inl (.inl (by rw [upd_ne (ne_of s hx (by intro z; cases z))]; exact s))
  · exact .inl (.inr ⟨o, by rw [upd_ne (ne_of s hx (by intro z; cases z))]; exact s⟩)
  · exact .inr s
/-- values in another order are the pairs in another order -/
theorem prs_perm {K : PySem.W.Frag} {H : Hp} {vs ys : List V} {es : Es} (p : Prs K H vs es) (h : ys.Perm vs) : ∃ es' : Es, es'.Perm es ∧ Prs K H ys es' := by
  induction h generalizing es with
  | nil => exact ⟨es, List.Perm.refl _, p⟩
  | @cons x l1 l2 hp ih =>
    cases es with
    | nil => have := p.len; cases this
    | cons e er =>
      obtain ⟨es', h1, h2⟩ := ih (es := er) ⟨by have := p.len; simpa using this, fun i v e a b => p.at_ (i + 1) v e (by simpa using a) (by simpa using b)⟩
      refine ⟨e :: es', h1.cons e, by rw [List.length_cons, List.length_cons, h2.len], fun i v e' a b => ?_⟩
      cases i with
      | zero =>
        cases a
        cases b
        exact p.at_ 0 _ _ rfl rfl
      | succ i => exact h2.at_ i v e' (by simpa using a) (by simpa using b)
  | @swap x y l =>
    cases es with
    | nil => have := p.len; cases this
    | cons e er =>
      cases er with
      | nil => have := p.len; simp at this
      | cons e2 er =>
        refine ⟨e2 :: e :: er, List.Perm.swap e e2 er, by have := p.len; simpa using this, fun i v e' a b => ?_⟩
        match i, a, b with
        | 0, a, b => cases a; cases b; exact p.at_ 1 _ _ rfl rfl
        | 1, a, b => cases a; cases b; exact p.at_ 0 _ _ rfl rfl
        | i + 2, a, b => exact p.at_ (i + 2) v e' (by simpa using a) (by simpa using b)
  | trans _ _ ih1 ih2 =>
    obtain ⟨es1, h1, p1⟩ := ih2 p
    obtain ⟨es2, h2, p2⟩ := ih1 p1
    exact ⟨es2, h2.trans h1, p2⟩
theorem rgVn (a b : Nat) : rgV (a : Int) (b : Int) = ((List.range (b - a)).map (a + ·)).map nV := by
  unfold rgV
  rw [show ((b : Int) - (a : Int)).toNat = b - a by omega, List.map_map]
  refine List.map_congr_left fun i _ => ?_
  show V.int ((a : Int) + (i : Int)) = V.int ((a + i : Nat) : Int)
  congr 1
theorem mod_two {x n : Nat} (h : x < 2 * n) : (x : Int) % (n : Int) = ((if x < n then x else x - n : Nat) : Int) := by
  rw [← Int.natCast_emod]
  congr 1
  by_cases hx : x < n
  · rw [if_pos hx, Nat.mod_eq_of_lt hx]
  · rw [if_neg hx, Nat.mod_eq_sub_mod (by omega), Nat.mod_eq_of_lt (by omega)]
def spParts (K : PySem.W.Frag) : Sp := fun vs H Q _ => ∃ (h : Addr) (pl ar : Nat) (F : Hp), vs = [.ref h, .int (pl : Int), .int (ar : Int)] ∧ 2 ≤ pl ∧ pl ≤ 40 ∧ ar ≤ 60 ∧ Same F H ∧ HandAt F H h ∧
  ∀ t n a c pvs es gs H', n ≤ pl → es.length ≤ max pl ar → Dr F H H' h → PtsAt K (hv F H H') t n a pvs es c gs → Q (.ref t) H'
theorem ok__law_parts (B : Bt mg) (h_law_draw : Has P w K mg base "_law_draw" 1 ["_law_hand_here", "_law_many"] spDraw) (h_law_tail : Has P w K mg base "_law_tail" 2 ["_law_hand_here", "_law_pairs", "_law_goals", "_law_place"] (spTail K))
    (h_law_shuffled : Has P w K mg base "_law_shuffled" 2 ["_law_hand_here", "_law_things"] (spShuffled K)) (h_law_renamed : Has P w K mg base "_law_renamed" 3 ["_law_hand_here", "_law_many", "_law_pairs", "_law_goals"] (spRenamed K))
    (D0 : Df K mg "_law_parts" s__law_parts ["_law_hand_here", "_law_places", "_law_arrows"]) : Has P w K mg base "_law_parts" 4 ["_law_hand_here", "_law_places", "_law_arrows"] (spParts K) := by
  refine D0.has fun f fd F => F.ok sc__law_parts (fun vs H Q E h => ?_) (fun cdv A outer s H vs Q E hr h => ?_)
  · obtain ⟨h, pl, ar, F, rfl, _⟩ := h
    rfl
  · obtain ⟨h, pl, ar, F0, rfl, hp2, hp40, har, hF, hA, q⟩ := h
    refine ⟨_, (pss_cons (ps_set (i := 3) sc__law_parts.nd rfl (.inl rfl) (pe_op op_add pe_int (pcall h_law_draw hr (by decide) (by rfl) (pa_cons (pv 0) (pa_cons (pe_op op_sub (pv 1) pe_int) pa_nil)))))
  (pss_cons (ps_set (i := 4) sc__law_parts.nd rfl (.inl rfl) (pe_lst (pa_cons (pe_op op_sub (pv 3) pe_int) pa_nil)))
  (C8.pss_cut (ps_if (PW.pt (pw_and (pt_cmpR op_gt (pv 3) pe_int (nomark _)) (pw_and1 (pt_cmpR op_eq (pcall h_law_draw hr (by decide) (by rfl) (pa_cons (pv 0) (pa_cons pe_int pa_nil))) pe_int (nomark _)))))
    (pss_one (ps_set (i := 4) sc__law_parts.nd rfl (.inl rfl) (pe_listRg rfl (by rfl) B.list (prg_2 (by rfl) B.range (pe_op op_sub (pe_op op_sub (pv 3) pe_int) (pcall h_law_draw hr (by decide) (by rfl) (pa_cons (pv 0) (pa_cons (pe_callB (call_min2 rfl) (by rfl) B.min bo_min (pa_cons pe_int (pa_cons (pe_op op_sub (pv 3) pe_int) pa_nil))) pa_nil)))) (pv 3)))))
    pss_nil)
  (pss_cons (ps_set (i := 5) sc__law_parts.nd rfl (.inl rfl) (pe_lst pa_nil))
  (pss_cons (ps_for PassesOwn.never rfl (pi_range2 (by rfl) B.range (pa_cons pe_int (pa_cons (pv 3) pa_nil))) (pg_name (i := 6) sc__law_parts.nd rfl (.inl rfl))
    (pss_one (ps_if (PW.pt (pw_or (pt_cmpR (k_in (K := K) rfl) (pv 6) (pv 4) (by rfl)) (pw_or1 (pt_cmpR op_gt (pcall h_law_draw hr (by decide) (by rfl) (pa_cons (pv 0) (pa_cons pe_int pa_nil))) pe_int (nomark _)))))
    (pss_one (ps_expr (pe_bm PySem.F.plainAttrs_list PySem.F.slot_list_append PySem.F.type_list_append mt_append (pv 5) (pa_cons (pe_tup (pa_cons (pcall h_law_tail hr (by decide) (by rfl) (pa_cons (pv 0) (pa_cons (pv 5) (pa_cons (pv 4) (pa_cons (pv 6) pa_nil))))) (pa_cons (pv 6) pa_nil))) pa_nil))))
    pss_nil)))
  (pss_cons (ps_for PassesOwn.never rfl (pi_range1 (by rfl) B.range (pa_cons (pcall h_law_draw hr (by decide) (by rfl) (pa_cons (pv 0) (pa_cons (pe_op op_add (pe_callB (call_max2 rfl) (by rfl) B.max bo_max (pa_cons pe_int (pa_cons (pe_op op_sub (pv 2) (pe_callB (k_len (K := K) rfl) (by rfl) B.len bo_len (pa_cons (pv 5) pa_nil))) pa_nil))) pe_int) pa_nil))) pa_nil)) (pg_name (i := 7) sc__law_parts.nd rfl (.inl rfl))
    (pss_cons (ps_set (i := 8) sc__law_parts.nd rfl (.inl rfl) (pcall h_law_draw hr (by decide) (by rfl) (pa_cons (pv 0) (pa_cons pe_int pa_nil))))
  (pss_cons (ps_set (i := 9) sc__law_parts.nd rfl (.inl rfl) (pcall h_law_draw hr (by decide) (by rfl) (pa_cons (pv 0) (pa_cons (pv 3) pa_nil))))
  (pss_cons (ps_set (i := 10) sc__law_parts.nd rfl (.inl rfl) (pe_op op_mod (pe_op op_add (pe_op op_add (pv 9) pe_int) (pcall h_law_draw hr (by decide) (by rfl) (pa_cons (pv 0) (pa_cons (pe_op op_sub (pv 3) pe_int) pa_nil)))) (pv 3)))
  (C8.pss_cut (ps_if (pt_cmpR op_eq (pv 8) pe_int (nomark _))
    (pss_one (ps_asg (pe_ix (k_ixl (K := K) rfl) (pv 5) (pcall h_law_draw hr (by decide) (by rfl) (pa_cons (pv 0) (pa_cons (pe_callB (k_len (K := K) rfl) (by rfl) B.len bo_len (pa_cons (pv 5) pa_nil)) pa_nil))) (fun _ _ => rfl)) (pg_tup rfl (pgs_cons (pg_name (i := 9) sc__law_parts.nd rfl (.inl rfl)) (pgs_cons (pg_name (i := 10) sc__law_parts.nd rfl (.inl rfl)) pgs_nil)))))
    pss_nil)
  (C8.pss_cut (ps_if (pt_cmpR op_eq (pv 8) pe_int (nomark _))
    (pss_one (ps_asg (pe_ix (k_ixl (K := K) rfl) (pv 5) (pcall h_law_draw hr (by decide) (by rfl) (pa_cons (pv 0) (pa_cons (pe_callB (k_len (K := K) rfl) (by rfl) B.len bo_len (pa_cons (pv 5) pa_nil)) pa_nil))) (fun _ _ => rfl)) (pg_tup rfl (pgs_cons (pg_name (i := 10) sc__law_parts.nd rfl (.inl rfl)) (pgs_cons (pg_name (i := 9) sc__law_parts.nd rfl (.inl rfl)) pgs_nil)))))
    pss_nil)
  (pss_one (ps_expr (pe_bm PySem.F.plainAttrs_list PySem.F.slot_list_append PySem.F.type_list_append mt_append (pv 5) (pa_cons (pe_tup (pa_cons (pv 9) (pa_cons (pv 10) pa_nil))) pa_nil))))))))))
  (pss_one (ps_ret (pcall h_law_renamed hr (by decide) (by rfl) (pa_cons (pv 0) (pa_cons (pv 3) (pa_cons (pcall h_law_shuffled hr (by decide) (by rfl) (pa_cons (pv 0) (pa_cons (pv 5) pa_nil))) (pa_cons (pv 4) pa_nil))))))))))))), ?_⟩
    -- many
    refine ⟨_, rfl, _, rfl, _, _, rfl, rfl, h, (pl : Int) - 1, F0, rfl, by omega, small_log (by omega) (by omega), hF, hA, fun n0 H1 hn0 hn1 dd1 => ⟨_, _, rfl, rfl, ?_⟩⟩
    obtain ⟨k0, rfl⟩ : ∃ k : Nat, n0 = (k : Int) := ⟨n0.toNat, by omega⟩
    obtain ⟨n, hn⟩ : ∃ n : Nat, n = k0 + 2 := ⟨_, rfl⟩
    have hnv : (2 : Int) + (k0 : Int) = (n : Int) := by omega
    have hnpl : n ≤ pl := by omega
    change gName 3 (V.int ((2 : Int) + (k0 : Int))) _ _ _
    rw [hnv]
    have d1 := dd1.dr
    -- goals
    refine ⟨_, rfl, _, _, rfl, rfl, Nat.le_of_lt (small_lt (by decide : 1 ≤ 100000)), fun g ng => ?_⟩
    have ng0 : H g = none := d1.free ng
    have ngh : g ≠ h := hA.ne ng0
    have dg := d1.trans (Dr.of_same d1.hand d1.sub (same_new (o := .lst [.int ((n : Int) - 1)]) (Same.refl H1) ng))
    refine ⟨fun σ H' => ∃ (g : Addr) (gs : List Nat), σ = [some (.ref h), some (.int (pl : Int)), some (.int (ar : Int)), some (.int (n : Int)), some (.ref g), none, none, none, none, none, none] ∧ Dr F0 H H' h ∧ g ≠ h ∧ H g = none ∧ H' g = some (.lst (gs.map nV)) ∧ gs ≠ [] ∧ gs.Nodup ∧ (∀ x ∈ gs, x ≠ 0 ∧ x < n), ?_, ?_⟩
    · have e1 : V.int ((n : Int) - 1) = nV (n - 1) := by
        show V.int ((n : Int) - 1) = V.int ((n - 1 : Nat) : Int)
        congr 1
        omega
      have one : ∀ H2, Dr F0 (upd H1 g (.lst [.int ((n : Int) - 1)])) H2 h → ∃ (g' : Addr) (gs : List Nat), ([some (.ref h), some (.int (pl : Int)), some (.int (ar : Int)), some (.int (n : Int)), some (.ref g), none, none, none, none, none, none] : L2.St) = [some (.ref h), some (.int (pl : Int)), some (.int (ar : Int)), some (.int (n : Int)), some (.ref g'), none, none, none, none, none, none] ∧
          Dr F0 H H2 h ∧ g' ≠ h ∧ H g' = none ∧ H2 g' = some (.lst (gs.map nV)) ∧ gs ≠ [] ∧ gs.Nodup ∧ (∀ x ∈ gs, x ≠ 0 ∧ x < n) := fun H2 d2 =>
        ⟨g, [n - 1], rfl, dg.trans d2, ngh, ng0, by rw [List.map_cons, List.map_nil, ← e1]; exact d2.same g _ ngh upd_same, List.cons_ne_nil _ _, by simp, fun x hx => by rw [List.mem_singleton.mp hx]; omega⟩
      refine ⟨_, rfl, _, _, rfl, rfl, _, rfl, ?_⟩
      by_cases h3 : (3 : Int) < (n : Int)
      · rw [decide_eq_true h3]
        refine iteT ⟨_, rfl, h, 3, F0, rfl, by decide, small_log (by decide) (by omega), dg.sub, dg.hand, fun n1 H2 hn0 hn1 dd2 => ⟨rfl, _, rfl, ?_⟩⟩
        by_cases hz : n1 = 0
        · rw [hz, decide_eq_true (rfl : V.int 0 = V.int 0)]
          refine iteT ?_
          have d2 := dg.trans dd2.dr
          refine ⟨_, rfl, _, _, rfl, rfl, _, rfl, _, rfl, _, _, rfl, rfl, _, _, rfl, h, _, F0, rfl, ?_, ?_, d2.sub, d2.hand, fun n3 H3 hn30 hn31 dd3 => ?_⟩
          · show (0 : Int) < (if (n : Int) - 3 < 4 then (n : Int) - 3 else 4)
            split <;> omega
          · refine small_log ?_ ?_
            · show (0 : Int) < (if (n : Int) - 3 < 4 then (n : Int) - 3 else 4)
              split <;> omega
            · show (if (n : Int) - 3 < 4 then (n : Int) - 3 else 4) < 2 ^ 8999
              split <;> omega
          have hn32 : n3 < (n : Int) - 3 := by
            have : n3 < (if (n : Int) - 3 < 4 then (n : Int) - 3 else 4) := hn31
            split at this <;> omega
          obtain ⟨lo, hlo⟩ : ∃ lo : Nat, (n : Int) - 2 - n3 = (lo : Int) := ⟨((n : Int) - 2 - n3).toNat, by omega⟩
          refine ⟨_, _, rfl, rfl, _, rfl, _, _, rfl, rfl, ⟨by omega, by omega, by omega, by omega, by omega⟩, fun g2 ng2 => ?_⟩
          have d3 := d2.trans dd3.dr
          change gName 4 (.ref g2) _ (upd H3 g2 (.lst (rgV ((n : Int) - 2 - n3) (n : Int)))) _
          rw [hlo, rgVn]
          refine ⟨g2, (List.range (n - lo)).map (lo + ·), rfl, d3.trans (Dr.of_same d3.hand d3.sub (same_new (Same.refl H3) ng2)), hA.ne (d3.free ng2), d3.free ng2, upd_same, fun z => ?_, ?_, fun x hx => ?_⟩
          · have := congrArg List.length z
            rw [List.length_map, List.length_range] at this
            simp at this
            omega
          · exact nd_map (fun a b _ _ hab => by omega) List.nodup_range
          · obtain ⟨i, hi, rfl⟩ := List.mem_map.mp hx
            have := List.mem_range.mp hi
            omega
        · have : ¬ V.int n1 = V.int 0 := fun z => hz (by injection z)
          rw [decide_eq_false this]
          refine iteF ?_
          exact one H2 dd2.dr
      · rw [decide_eq_false h3]
        refine iteF ?_
        exact iteF (one _ (Dr.refl dg.hand dg.sub))
    · rintro σ H2 ⟨g, gs, rfl, d2, ngh, ng0, hg2, hne, hnd, hgn⟩
      -- pairs
      refine ⟨Nat.zero_le _, fun p np => ?_⟩
      have np0 : H p = none := d2.free np
      have nph : p ≠ h := hA.ne np0
      have npF : F0 p = none := Same.free hF np0
      have ngp : g ≠ p := ne_of_none hg2 np
      have ngF : F0 g = none := Same.free hF ng0
      have d3 := d2.trans (Dr.of_same d2.hand d2.sub (same_new (o := .lst []) (Same.refl H2) np))
      -- for place in range(1, many)
      refine ⟨_, rfl, 1, (n : Int), rfl, ⟨by omega, by omega, by omega, by omega⟩, ?_⟩
      refine for_range (lo := 1) (n := ((n : Int) - 1).toNat) (fun i σ H' => ∃ (x : Option V) (pvs : List V) (es : Es), σ = [some (.ref h), some (.int (pl : Int)), some (.int (ar : Int)), some (.int (n : Int)), some (.ref g), some (.ref p), x, none, none, none, none] ∧ Dr F0 H H' h ∧
        H' g = some (.lst (gs.map nV)) ∧ H' p = some (.lst pvs) ∧ Prs K H' pvs es ∧ Grown n i es gs)
        ⟨none, [], [], rfl, d3, by rw [upd_ne ngp]; exact hg2, upd_same, ⟨rfl, fun i v e a _ => by simp at a⟩, ⟨Nat.le_refl _, fun e he => (List.not_mem_nil he).elim, fun e he => (List.not_mem_nil he).elim, fun e he => (List.not_mem_nil he).elim, fun x hx hx0 => absurd (Nat.le_zero.mp hx0) (hgn x hx).1⟩⟩ ?_ ?_
      · rintro i σ H4 hi ⟨x, pvs, es, rfl, d4, hg4, hp4, hpr, gr⟩
        have hin : i + 1 < n := by omega
        have epl : V.int ((1 : Int) + (i : Int)) = nV (i + 1) := by
          show V.int ((1 : Int) + (i : Int)) = V.int ((i + 1 : Nat) : Int)
          congr 1
          omega
        refine ifs_split (fun H5 => Dr F0 H4 H5 h) (fun H5 => Dr F0 H4 H5 h ∧ i + 1 ∉ gs) (fun Kt kt kf => ?_) (fun H5 d45 => ?_) fun H5 ⟨d45, hng⟩ => ?_
        · refine ⟨_, rfl, _, rfl, g, _, rfl, .inl (sql hg4), rfl, flat_nats _, _, rfl, ?_⟩
          rw [if_neg Bool.false_ne_true, show V.int ((1 : Int) + (i : Int)) = nV (i + 1) from epl, inV_nats]
          by_cases hm : i + 1 ∈ gs
          · rw [decide_eq_true hm]
            exact iteT (kt _ (Dr.refl d4.hand d4.sub))
          · rw [decide_eq_false hm]
            refine iteF ⟨_, rfl, h, 6, F0, rfl, by decide, small_log (by decide) (by omega), d4.sub, d4.hand, fun n5 H5 hn50 hn51 dd5 => ⟨_, _, rfl, rfl, _, rfl, ?_⟩⟩
            by_cases h6 : (0 : Int) < n5
            · rw [decide_eq_true h6]
              exact kt _ dd5.dr
            · rw [decide_eq_false h6]
              exact kf _ ⟨dd5.dr, hm⟩
        · have d5 := d4.trans d45
          have hg5 := d45.same g _ ngh hg4
          have hp5 := d45.same p _ nph hp4
          have hpr5 := hpr.dr d45 d4.hand
          refine ⟨_, rfl, .inl ⟨rfl, _, sql hp5⟩, _, rfl, _, rfl, _, rfl, _, rfl, h, p, g, (1 : Int) + (i : Int), pvs, es, gs, F0, rfl, sql hp5, hpr5, sql hg5, fun z => (hgn 0 z).1 rfl, by have := gr.len; omega, d5.sub, d5.hand, fun v H6 hv d56 => ?_⟩
          have d6 := d5.trans d56
          have hg6 := d56.same g _ ngh hg5
          have hp6 := d56.same p _ nph hp5
          have hpr6 := hpr5.dr d56 d5.hand
          refine ⟨_, rfl, by show 2 ≤ sizeLine; decide, fun t nt => ⟨p, _, _, rfl, rfl, by rw [upd_ne (ne_of_none hp6 nt)]; exact hp6, ?_, ?_⟩⟩
          · have := hpr.len
            have := gr.len
            exact small_lt (by omega)
          have s7 := same_new (o := .tup [nV v, .int ((1 : Int) + (i : Int))]) (Same.refl H6) nt
          have npt : p ≠ t := ne_of_none hp6 nt
          have ngt : g ≠ t := ne_of_none hg6 nt
          have hp7 : (upd H6 t (.tup [nV v, .int ((1 : Int) + (i : Int))])) p = some (.lst pvs) := s7 _ _ hp6
          refine ⟨_, pvs ++ [.ref t], es ++ [(v, i + 1)], rfl, (d6.trans (Dr.of_same d6.hand d6.sub s7)).upd np0 nph npF, by rw [upd_ne ngp, upd_ne ngt]; exact hg6, upd_same, ?_, gr.add hv hin⟩
          · refine ((hpr6.same s7).keep fun t xs => sqt_upd hp7).snoc ⟨t, rfl, sqt ?_⟩
            rw [upd_ne npt.symm, upd_same, epl]
        · have hp5 := d45.same p _ nph hp4
          refine ⟨_, pvs, es, rfl, d4.trans d45, d45.same g _ ngh hg4, hp5, hpr.dr d45 d4.hand, gr.skip hng⟩
      · rintro σ H4 ⟨x, pvs, es, rfl, d4, hg4, hp4, hpr, gr⟩
        have hpl := hpr.len
        have hrch : ∀ g ∈ gs, Rch es [0] g := fun x hx => by
          obtain ⟨e, he, rfl⟩ := gr.gl x hx (by have := (hgn x hx).2; omega)
          exact gr.rch e he
        have hpos : 0 < es.length := by
          obtain ⟨x, hx⟩ := List.exists_mem_of_ne_nil gs hne
          obtain ⟨e, he, _⟩ := gr.gl x hx (by have := (hgn x hx).2; omega)
          exact List.length_pos_of_mem he
        have hlen0 : es.length ≤ n - 1 := by have := gr.len; omega
        generalize hL : es.length = L0 at hlen0 hpos
        have hmx : ∀ z : Int, (if z > (1 : Int) then z else 1) = max 1 z := fun z => by
          rw [Int.max_def]
          split <;> split <;> omega
        refine ⟨_, rfl, _, rfl, _, rfl, p, _, rfl, .inl (sql hp4), _, _, rfl, rfl, _, _, rfl, _, _, rfl, rfl, h, _, F0, rfl, ?_, ?_, d4.sub, d4.hand, fun nT H5 hT0 hT1 dd5 => ?_⟩
        · show (0 : Int) < (if (ar : Int) - (pvs.length : Int) > 1 then (ar : Int) - (pvs.length : Int) else 1) + 1
          split <;> omega
        · refine small_log ?_ ?_
          · show (0 : Int) < (if (ar : Int) - (pvs.length : Int) > 1 then (ar : Int) - (pvs.length : Int) else 1) + 1
            split <;> omega
          · show (if (ar : Int) - (pvs.length : Int) > 1 then (ar : Int) - (pvs.length : Int) else 1) + 1 < 2 ^ 8999
            split <;> omega
        have hT2 : nT.toNat + L0 ≤ max (L0 + 1) ar := by
          have h1 : nT < (if (ar : Int) - (pvs.length : Int) > 1 then (ar : Int) - (pvs.length : Int) else 1) + 1 := hT1
          rw [Nat.max_def]
          split at h1 <;> split <;> omega
        have hLa : max (L0 + 1) ar ≤ max pl ar := by
          rw [Nat.max_def, Nat.max_def]
          split <;> split <;> omega
        have hma : max pl ar ≤ 60 := by
          rw [Nat.max_def]
          split <;> omega
        refine ⟨nT, rfl, by omega, by omega, ?_⟩
        have d45 := dd5.dr
        have d5 := d4.trans d45
        refine for_range (lo := 0) (n := nT.toNat) (fun i σ H' => ∃ (x6 x7 x8 x9 x10 : Option V) (pvs : List V) (es : Es), σ = [some (.ref h), some (.int (pl : Int)), some (.int (ar : Int)), some (.int (n : Int)), some (.ref g), some (.ref p), x6, x7, x8, x9, x10] ∧ Dr F0 H H' h ∧
          H' g = some (.lst (gs.map nV)) ∧ H' p = some (.lst pvs) ∧ Prs K H' pvs es ∧ (∀ e ∈ es, e.1 < n ∧ e.2 < n ∧ e.1 ≠ e.2) ∧ es.length = L0 + i ∧ ∀ g ∈ gs, Rch es [0] g)
          ⟨_, _, _, _, _, pvs, es, rfl, d5, d45.same g _ ngh hg4, d45.same p _ nph hp4, hpr.dr d45 d4.hand, gr.ok, hL, hrch⟩ ?_ ?_
        · rintro i σ H6 hi ⟨x6, x7, x8, x9, x10, pvs, es, rfl, d6, hg6, hp6, hpr6, hok6, hel6, hrc6⟩
          have hpl6 := hpr6.len
          have hi' : i < nT.toNat := hi
          -- way, one, other
          refine ⟨_, rfl, h, 5, F0, rfl, by decide, small_log (by decide) (by omega), d6.sub, d6.hand, fun w H7 _ _ dd7 => ?_⟩
          have d7 := d6.trans dd7.dr
          refine ⟨_, rfl, _, rfl, h, _, F0, rfl, by omega, small_log (by omega) (by omega), d7.sub, d7.hand, fun u0 H8 hu0 hu1 dd8 => ?_⟩
          have d8 := d7.trans dd8.dr
          obtain ⟨u, rfl⟩ : ∃ u : Nat, u0 = (u : Int) := ⟨u0.toNat, by omega⟩
          refine ⟨_, rfl, _, _, rfl, rfl, _, rfl, _, rfl, _, _, rfl, rfl, h, _, F0, rfl, ?_, ?_, d8.sub, d8.hand, fun e0 H9 he0 he1 dd9 => ?_⟩
          · show (0 : Int) < (n : Int) - 1
            omega
          · exact small_log (by show (0 : Int) < (n : Int) - 1; omega) (by show (n : Int) - 1 < 2 ^ 8999; omega)
          have d9 := d8.trans dd9.dr
          have he2 : e0 < (n : Int) - 1 := he1
          obtain ⟨dd, rfl⟩ : ∃ dd : Nat, e0 = (dd : Int) := ⟨e0.toNat, by omega⟩
          refine ⟨_, _, rfl, rfl, _, rfl, _, _, rfl, rfl, by show (0 : Int) < (n : Int); omega, ?_⟩
          obtain ⟨v, hv⟩ : ∃ v : Nat, v = if u + 1 + dd < n then u + 1 + dd else u + 1 + dd - n := ⟨_, rfl⟩
          have hve : V.int (((u : Int) + 1 + (dd : Int)) % (n : Int)) = nV v := by
            show V.int _ = V.int (v : Int)
            congr 1
            rw [show (u : Int) + 1 + (dd : Int) = ((u + 1 + dd : Nat) : Int) by omega, mod_two (by omega), ← hv]
          have hv1 : v < n := by rw [hv]; split <;> omega
          have hv2 : u ≠ v := by rw [hv]; split <;> omega
          have dA : Dr F0 H6 H9 h := (dd7.dr.trans dd8.dr).trans dd9.dr
          change gName 10 (V.int (((u : Int) + 1 + (dd : Int)) % (n : Int))) _ _ _
          rw [hve]
          -- the arrow that is taken again
          have mid : ∀ (H' : Hp), Dr F0 H6 H' h → Dr F0 H H' h ∧ H' g = some (.lst (gs.map nV)) ∧ H' p = some (.lst pvs) ∧ Prs K H' pvs es := fun H' d =>
            ⟨d6.trans d, d.same g _ ngh hg6, d.same p _ nph hp6, hpr6.dr d d6.hand⟩
          have pick : ∀ (H' : Hp), Dr F0 H6 H' h → ∀ k : Nat, k < pvs.length → ∃ t e1 e2, pvs[k]? = some (.ref t) ∧ SqT K H' t [nV e1, nV e2] ∧ e1 < n ∧ e2 < n ∧ e1 ≠ e2 := fun H' d k hk => by
            obtain ⟨_, _, _, hpp⟩ := mid H' d
            obtain ⟨e, he, t, ht1, ht2⟩ := hpp.get (List.getElem?_eq_getElem hk)
            obtain ⟨o1, o2, o3⟩ := hok6 e (List.mem_of_getElem? he)
            exact ⟨t, e.1, e.2, by rw [← ht1]; exact List.getElem?_eq_getElem hk, ht2, o1, o2, o3⟩
          refine ⟨fun σ H' => ∃ (u v : Nat), σ = [some (.ref h), some (.int (pl : Int)), some (.int (ar : Int)), some (.int (n : Int)), some (.ref g), some (.ref p), x6, some (.int ((0 : Int) + (i : Int))), some (.int w), some (nV u), some (nV v)] ∧ Dr F0 H6 H' h ∧ u < n ∧ v < n ∧ u ≠ v, ?_, ?_⟩
          · refine ⟨_, rfl, rfl, _, rfl, ?_⟩
            by_cases hw : w = 0
            · rw [hw, decide_eq_true (rfl : V.int 0 = V.int 0)]
              refine iteT ?_
              obtain ⟨dm, _, hpm, _⟩ := mid H9 dA
              refine ⟨_, rfl, _, rfl, _, rfl, p, _, rfl, .inl (sql hpm), h, (pvs.length : Int), F0, rfl, by omega, small_log (by omega) (by omega), dm.sub, dm.hand, fun k0 H10 hk0 hk1 dd10 => ?_⟩
              obtain ⟨k, rfl⟩ : ∃ k : Nat, k0 = (k : Int) := ⟨k0.toNat, by omega⟩
              have dB := dA.trans dd10.dr
              obtain ⟨t, e1, e2, hk, ht, o1, o2, o3⟩ := pick H10 dB k (by omega)
              obtain ⟨_, _, hpm2, _⟩ := mid H10 dB
              refine ⟨p, pvs, (k : Int), _, rfl, rfl, sql hpm2, atI_nat hk, t, _, rfl, ht, rfl, _, _, rfl, _, _, rfl, rfl, ?_⟩
              exact ⟨e1, e2, rfl, dB, o1, o2, o3⟩
            · have : ¬ V.int w = V.int 0 := fun z => hw (by injection z)
              rw [decide_eq_false this]
              refine iteF ?_
              exact ⟨u, v, rfl, dA, by omega, hv1, hv2⟩
          rintro σ H10 ⟨u, v, rfl, dB, hu, hv, huv⟩
          refine ⟨fun σ H' => ∃ (u v : Nat), σ = [some (.ref h), some (.int (pl : Int)), some (.int (ar : Int)), some (.int (n : Int)), some (.ref g), some (.ref p), x6, some (.int ((0 : Int) + (i : Int))), some (.int w), some (nV u), some (nV v)] ∧ Dr F0 H6 H' h ∧ u < n ∧ v < n ∧ u ≠ v, ?_, ?_⟩
          · refine ⟨_, rfl, rfl, _, rfl, ?_⟩
            by_cases hw : w = 1
            · rw [hw, decide_eq_true (rfl : V.int 1 = V.int 1)]
              refine iteT ?_
              obtain ⟨dm, _, hpm, _⟩ := mid H10 dB
              refine ⟨_, rfl, _, rfl, _, rfl, p, _, rfl, .inl (sql hpm), h, (pvs.length : Int), F0, rfl, by omega, small_log (by omega) (by omega), dm.sub, dm.hand, fun k0 H11 hk0 hk1 dd11 => ?_⟩
              obtain ⟨k, rfl⟩ : ∃ k : Nat, k0 = (k : Int) := ⟨k0.toNat, by omega⟩
              have dC := dB.trans dd11.dr
              obtain ⟨t, e1, e2, hk, ht, o1, o2, o3⟩ := pick H11 dC k (by omega)
              obtain ⟨_, _, hpm2, _⟩ := mid H11 dC
              refine ⟨p, pvs, (k : Int), _, rfl, rfl, sql hpm2, atI_nat hk, t, _, rfl, ht, rfl, _, _, rfl, _, _, rfl, rfl, ?_⟩
              exact ⟨e2, e1, rfl, dC, o2, o1, o3.symm⟩
            · have : ¬ V.int w = V.int 1 := fun z => hw (by injection z)
              rw [decide_eq_false this]
              refine iteF ?_
              exact ⟨u, v, rfl, dB, hu, hv, huv⟩
          rintro σ H11 ⟨u, v, rfl, dC, hu, hv, huv⟩
          obtain ⟨d11, hg11, hp11, hpr11⟩ := mid H11 dC
          refine ⟨_, rfl, .inl ⟨rfl, _, sql hp11⟩, _, rfl, _, rfl, by show 2 ≤ sizeLine; decide, fun t nt => ⟨p, _, _, rfl, rfl, by rw [upd_ne (ne_of_none hp11 nt)]; exact hp11, small_lt (by omega), ?_⟩⟩
          have s12 := same_new (o := .tup [nV u, nV v]) (Same.refl H11) nt
          have npt : p ≠ t := ne_of_none hp11 nt
          have ngt : g ≠ t := ne_of_none hg11 nt
          have hp12 : (upd H11 t (.tup [nV u, nV v])) p = some (.lst pvs) := s12 _ _ hp11
          refine ⟨_, _, _, _, _, pvs ++ [.ref t], es ++ [(u, v)], rfl, (d11.trans (Dr.of_same d11.hand d11.sub s12)).upd np0 nph npF, by rw [upd_ne ngp, upd_ne ngt]; exact hg11, upd_same, ?_, fun e he => ?_, ?_, fun x hx => ?_⟩
          · refine ((hpr11.same s12).keep fun t xs => sqt_upd hp12).snoc ⟨t, rfl, sqt ?_⟩
            rw [upd_ne npt.symm, upd_same]
          · rcases List.mem_append.mp he with he | he
            · exact hok6 e he
            · rw [List.mem_singleton.mp he]
              exact ⟨hu, hv, huv⟩
          · rw [List.length_append, hel6]
            rfl
          · exact (hrc6 x hx).mono (fun e he => List.mem_append_left _ he) fun _ h => h
        · rintro σ H6 ⟨x6, x7, x8, x9, x10, pvs, es, rfl, d6, hg6, hp6, hpr6, hok6, hel6, hrc6⟩
          have hpl6 := hpr6.len
          have hel60 : es.length ≤ max pl ar := by omega
          refine ⟨_, rfl, _, rfl, _, rfl, _, rfl, h, p, pvs, F0, rfl, .inl (sql hp6), by omega, d6.sub, d6.hand, fun sh H7 ys hperm d67 nsh hsh => ?_⟩
          have d7 := d6.trans d67
          have hsh0 := d6.free nsh
          have hpr7 := hpr6.dr d67 d6.hand
          -- the pairs in their new order
          obtain ⟨es', hpe, hpr'⟩ := prs_perm hpr7 hperm
          refine ⟨_, rfl, h, sh, g, n, ys, es', gs, F0, rfl, hsh, hA.ne hsh0, hpr', d67.same g _ ngh hg6, ngh, ⟨by omega, by omega, by rw [hpe.length_eq]; omega, fun e he => hok6 e (hpe.mem_iff.mp he), hne, hnd, hgn, fun x hx => (hrc6 x hx).mono (fun e he => hpe.mem_iff.mpr he) fun _ h => h⟩, d7.sub, d7.hand, fun t a c pvs2 es2 gs2 H8 d78 hl2 pt => ?_⟩
          exact q t n a c pvs2 es2 gs2 H8 hnpl (by rw [hl2, hpe.length_eq]; exact hel60) (d7.trans d78) (pt.same (hv_sub fun b hb => d7.free hb))

theorem PtsAt.dr {K : PySem.W.Frag} {F H H' : Hp} {h t : Addr} {n : Nat} {a : Addr} {pvs : List V} {es : Es} {c : Addr} {gs : List Nat} (p : PtsAt K H t n a pvs es c gs) (d : Dr F H H' h) (hA : HandAt F H h) : PtsAt K H' t n a pvs es c gs :=
  ⟨d.sqt hA p.tp, d.sqt hA p.ar, p.pr.dr d hA, d.sqt hA p.go, p.gm⟩
theorem left_same {es : Es} {ls ls' : List Nat} (hl : ∀ x, x ∈ ls' ↔ x ∈ ls) {S : List Nat} {v : Nat} (h : Rch (left es ls) S v) : Rch (left es ls') S v :=
  h.mono (fun e he => by
    obtain ⟨k, h1, h2⟩ := mem_leftV.mp he
    exact mem_leftV.mpr ⟨k, h1, fun z => h2 ((hl k).mp z)⟩) fun _ h => h

abbrev s__law_tries : Stmt := topS 53
abbrev sl__law_tries : List Str := ["_law_parts_here", "_law_reached", "_law_rotten", "_law_arrows", "_law_found", "_law_k"]
theorem sc__law_tries : FnScope ["_law_parts_here", "_law_reached", "_law_rotten", "_law_arrows", "_law_found", "_law_k"] ["_law_parts_here", "_law_reached", "_law_rotten"] (defScope s__law_tries) := ⟨rfl, rfl, rfl, by decide +kernel, rfl, by decide +kernel, by decide +kernel⟩
/-- the law's own lots: a new list of numbers -/
def spLT (K : PySem.W.Frag) (R : Nat → Es → List Nat → List Nat → List Nat → List Nat → Prop) : Sp := fun vs H Q _ => ∃ (t : Addr) (n : Nat) (a : Addr) (pvs : List V) (es : Es) (c : Addr) (gs : List Nat) (x y : Addr) (rs ls : List Nat), vs = [.ref t, .ref x, .ref y] ∧ PtsAt K H t n a pvs es c gs ∧
  SqT K H x (rs.map nV) ∧ SqT K H y (ls.map nV) ∧ StdOk n es gs rs ls ∧ ∀ (z : Addr) (os : List Nat) (H' : Hp), Same H H' → H z = none → H' z = some (.lst (os.map nV)) → R n es gs rs ls os → Q (.ref z) H'
def LTries : Nat → Es → List Nat → List Nat → List Nat → List Nat → Prop := fun _ es _ rs ls os => os = triesL es rs ls
theorem ok__law_tries (B : Bt mg) (D0 : Df K mg "_law_tries" s__law_tries ["_law_parts_here", "_law_reached", "_law_rotten"]) : Has P w K mg base "_law_tries" 1 ["_law_parts_here", "_law_reached", "_law_rotten"] (spLT K LTries) := by
  refine D0.has fun f fd F => F.ok sc__law_tries (fun vs H Q E h => ?_) (fun cdv A outer s H vs Q E hr h => ?_)
  · obtain ⟨t, n, a, pvs, es, c, gs, x, y, rs, ls, rfl, _⟩ := h
    rfl
  · obtain ⟨t, n, a, pvs, es, c, gs, x, y, rs, ls, rfl, hp, hx, hy, o, q⟩ := h
    refine ⟨_, (pss_cons (ps_set (i := 3) sc__law_tries.nd rfl (.inr rfl) (pe_ix (k_ixt (K := K) rfl) (pv 0) pe_int (fun _ _ => rfl)))
  (pss_cons (ps_setLc (i := 4) (own := [("_law_k", 5)]) (g := gName 5) rfl sc__law_tries.nd rfl rfl (sw_true rfl rfl rfl (by decide +kernel)) (pi_range1 (by rfl) B.range (pa_cons (pe_callB (k_len (K := K) rfl) (by rfl) B.len bo_len (pa_cons (pv 3) pa_nil)) pa_nil)) (blkOk_by (N := sl__law_tries) (sc := defScope s__law_tries) (by decide +kernel)) (fun _ _ _ _ _ => (pg_name (i := 5) sc__law_tries.nd rfl (.inl rfl))) (fun _ _ _ _ _ => pts_one (PW.pt (pw_and (pt_cmpR (k_in (K := K) rfl) (pe_ix (k_ixt (K := K) rfl) (pe_ix (k_ixt (K := K) rfl) (pv 3) (pv 5) (fun _ _ => rfl)) pe_int (fun _ _ => rfl)) (pv 1) (by rfl)) (pw_and1 (pt_cmpR (k_notin (K := K) rfl) (pe_ix (k_ixt (K := K) rfl) (pe_ix (k_ixt (K := K) rfl) (pv 3) (pv 5) (fun _ _ => rfl)) pe_int (fun _ _ => rfl)) (pv 1) (by rfl)))))) (fun _ _ _ _ _ => (pv 5)))
  (pss_one (ps_ret (pe_lc (own := [("_law_k", 5)]) (g := gName 5) rfl sc__law_tries.nd (k_pil (K := K) rfl (pv 4)) (blkOk_by (N := sl__law_tries) (sc := defScope s__law_tries) (by decide +kernel)) (fun _ _ _ _ _ => (pg_name (i := 5) sc__law_tries.nd rfl (.inl rfl))) (fun _ _ _ _ _ => pts_one (pt_cmpR (k_notin (K := K) rfl) (pv 5) (pv 2) (by rfl))) (fun _ _ _ _ _ => (pv 5))))))), ?_⟩
    have hl := hp.pr.len
    have g60 := hp.gm.l60
    refine ⟨_, rfl, t, _, (1 : Nat), .ref a, rfl, rfl, hp.tp, atI_nat rfl, ?_⟩
    refine ⟨_, rfl, a, pvs, rfl, .inr hp.ar, pvs.length, rfl, by omega, by omega, fun D nD => ?_⟩
    refine lc_val walk_range calm_fn (fun i => (es[i]?).bind fun e => if e.1 ∈ rs ∧ e.2 ∉ rs then some (nV i) else none) (by show ((pvs.length : Nat) : Int).toNat ≤ 100000; omega) nD (fun _ _ => trivial) ?_ fun H1 s1 h1 => ?_
    · rintro i v H4 H5 hi s4 ⟨rfl, rfl⟩ Kt kt
      have hin : i < pvs.length := hi
      have e0 : (0 : Int) + (i : Int) = (i : Int) := Int.zero_add _
      have hiv : pvs[i]? = some pvs[i] := List.getElem?_eq_getElem hin
      obtain ⟨e, hie, tt, htt, ht⟩ := (hp.pr.same s4).get hiv
      obtain ⟨e1, e2⟩ := e
      have k0 := kt _ (Same.refl _)
      rw [hie] at k0
      simp only [Option.bind_some] at k0
      refine ⟨rfl, ?_⟩
      refine ⟨_, rfl, _, rfl, a, pvs, _, _, rfl, rfl, Same.sqt s4 hp.ar, by rw [e0]; exact atI_nat hiv, tt, _, (0 : Nat), nV e1, htt, rfl, ht, atI_nat rfl, _, rfl, x, _, rfl, .inr (Same.sqt s4 hx), rfl, flat_nats _, _, rfl, ?_⟩
      rw [if_neg Bool.false_ne_true, inV_nats]
      by_cases m1 : e1 ∈ rs
      · rw [decide_eq_true m1]
        refine iteT ⟨_, rfl, _, rfl, a, pvs, _, _, rfl, rfl, Same.sqt s4 hp.ar, by rw [e0]; exact atI_nat hiv, tt, _, (1 : Nat), nV e2, htt, rfl, ht, atI_nat rfl, _, rfl, x, _, rfl, .inr (Same.sqt s4 hx), rfl, flat_nats _, _, rfl, ?_⟩
        rw [if_pos rfl, inV_nats]
        by_cases m2 : e2 ∈ rs
        · rw [decide_eq_true m2]
          rw [if_neg (fun z => z.2 m2)] at k0
          exact iteF k0
        · rw [decide_eq_false m2]
          rw [if_pos ⟨m1, m2⟩] at k0
          refine iteT ⟨_, rfl, ?_⟩
          show Kt (some (V.int ((0 : Int) + (i : Int)))) _
          rw [e0]
          exact k0
      · rw [decide_eq_false m1]
        rw [if_neg (fun z => m1 z.1)] at k0
        refine iteF ?_
        exact iteF k0
    · obtain ⟨F1, hF1⟩ : ∃ F1 : List Nat, F1 = (List.range es.length).filterMap fun i => (es[i]?).bind fun e => if e.1 ∈ rs ∧ e.2 ∉ rs then some i else none := ⟨_, rfl⟩
      have e1 : ((List.range ((pvs.length : Nat) : Int).toNat).filterMap fun i => (es[i]?).bind fun e => if e.1 ∈ rs ∧ e.2 ∉ rs then some (nV i) else none) = F1.map nV := by
        rw [hF1, List.map_filterMap, show ((pvs.length : Nat) : Int).toNat = es.length by omega]
        congr 1
        funext i
        cases es[i]? with
        | none => rfl
        | some e =>
          simp only [Option.bind_some]
          split <;> rfl
      rw [e1] at h1
      have hFl : F1.length ≤ 60 := by
        rw [hF1]
        exact Nat.le_trans (List.length_filterMap_le _ _) (by rw [List.length_range]; exact g60)
      refine ⟨_, rfl, D, rfl, ⟨_, sql h1⟩, fun D2 nD2 => ?_⟩
      refine lc_val (walk_list (xs := F1.map nV)) calm_at (fun i => (F1[i]?).bind fun k => if k ∈ ls then none else some (nV k)) (by rw [List.length_map]; omega) nD2 (fun H5 s5 => sql (s5 _ _ h1)) ?_ fun H5 s5 h5 => ?_
      · rintro i v H5 H6 hi s5 ⟨rfl, hv⟩ Kt kt
        obtain ⟨u, hui, rfl⟩ := getmap hv
        refine ⟨rfl, ?_⟩
        refine ⟨_, rfl, _, rfl, y, _, rfl, .inr (Same.sqt (s1.trans s5) hy), rfl, flat_nats _, _, rfl, ?_⟩
        rw [if_pos rfl, inV_nats]
        have k0 := kt _ (Same.refl _)
        rw [hui] at k0
        simp only [Option.bind_some] at k0
        by_cases hm : u ∈ ls
        · rw [decide_eq_true hm]
          rw [if_pos hm] at k0
          exact iteF k0
        · rw [decide_eq_false hm]
          rw [if_neg hm] at k0
          exact iteT ⟨_, rfl, k0⟩
      rw [List.length_map, fm_range] at h5
      have e2 : (F1.filterMap fun k => if k ∈ ls then none else some (nV k)) = (triesL es rs ls).map nV := by
        unfold triesL
        rw [hF1, List.filterMap_filterMap, List.map_filterMap]
        congr 1
        funext i
        unfold isTry
        cases es[i]? with
        | none => rfl
        | some e =>
          simp only [Option.bind_some]
          by_cases h1 : e.1 ∈ rs ∧ e.2 ∉ rs
          · rw [if_pos h1]
            by_cases h2 : i ∈ ls
            · rw [if_neg (fun z => z.1 h2)]
              exact if_pos h2
            · rw [if_pos ⟨h2, h1⟩]
              exact if_neg h2
          · rw [if_neg h1, if_neg (fun z => h1 z.2)]
            rfl
      rw [e2] at h5
      exact q D2 _ H5 (s1.trans s5) (Same.free s1 nD2) h5 rfl

abbrev s__law_is_done : Stmt := topS 55
abbrev sl__law_is_done : List Str := ["_law_parts_here", "_law_reached", "_law_goal"]
theorem sc__law_is_done : FnScope ["_law_parts_here", "_law_reached", "_law_goal"] ["_law_parts_here", "_law_reached"] (defScope s__law_is_done) := ⟨rfl, rfl, rfl, by decide +kernel, rfl, by decide +kernel, by decide +kernel⟩
def spLDone (K : PySem.W.Frag) : Sp := fun vs H Q _ => ∃ (t : Addr) (n : Nat) (a : Addr) (pvs : List V) (es : Es) (c : Addr) (gs : List Nat) (x : Addr) (rs : List Nat), vs = [.ref t, .ref x] ∧ PtsAt K H t n a pvs es c gs ∧
  SqT K H x (rs.map nV) ∧ ∀ H', Same H H' → Q (.bl (decide (∀ g ∈ gs, g ∈ rs))) H'
theorem ok__law_is_done (B : Bt mg) (D0 : Df K mg "_law_is_done" s__law_is_done ["_law_parts_here", "_law_reached"]) : Has P w K mg base "_law_is_done" 1 ["_law_parts_here", "_law_reached"] (spLDone K) := by
  refine D0.has fun f fd F => F.ok sc__law_is_done (fun vs H Q E h => ?_) (fun cdv A outer s H vs Q E hr h => ?_)
  · obtain ⟨t, n, a, pvs, es, c, gs, x, rs, rfl, _⟩ := h
    rfl
  · obtain ⟨t, n, a, pvs, es, c, gs, x, rs, rfl, hp, hx, q⟩ := h
    refine ⟨_, (pss_one (ps_ret (pe_callB (k_all (K := K) rfl rfl) (by rfl) B.all bo_all (pa_cons (pe_lc (own := [("_law_goal", 2)]) (g := gName 2) rfl sc__law_is_done.nd (k_pit (K := K) rfl (pe_ix (k_ixt (K := K) rfl) (pv 0) pe_int (fun _ _ => rfl))) (blkOk_by (N := sl__law_is_done) (sc := defScope s__law_is_done) (by decide +kernel)) (fun _ _ _ _ _ => (pg_name (i := 2) sc__law_is_done.nd rfl (.inl rfl))) (fun _ _ _ _ _ => pts_nil) (fun _ _ _ _ _ => (pe_cmpR (k_in (K := K) rfl) (pv 2) (pv 1) (by rfl)))) pa_nil)))), ?_⟩
    have gn := hp.gm.n40
    have ggl := hp.gm.gl2
    refine ⟨_, rfl, t, _, (2 : Nat), .ref c, rfl, rfl, hp.tp, atI_nat rfl, c, rfl, ⟨_, hp.go⟩, fun D nD => ?_⟩
    refine lc_val walk_tup calm_at (fun i => (gs[i]?).bind fun g => some (V.bl (decide (g ∈ rs)))) (by rw [List.length_map]; omega) nD (fun H3 s3 => Same.sqt s3 hp.go) ?_ fun H3 s3 h3 => ?_
    · rintro i v H3 H4 hi s3 ⟨rfl, hv⟩ Kt kt
      obtain ⟨g, hgi, rfl⟩ := getmap hv
      refine ⟨rfl, tyes ?_⟩
      refine iteT ?_
      refine ⟨_, rfl, _, rfl, x, _, rfl, .inr (Same.sqt s3 hx), rfl, flat_nats _, ?_⟩
      rw [if_neg Bool.false_ne_true, inV_nats]
      have k0 := kt _ (Same.refl _)
      rw [hgi] at k0
      exact k0
    · rw [List.length_map, fm_range, fm_some] at h3
      refine ⟨D, gs.map fun g => decide (g ∈ rs), rfl, sql (by rw [h3, List.map_map]; rfl), ?_⟩
      have e : decide (∀ g ∈ gs, g ∈ rs) = (gs.map fun g => decide (g ∈ rs)).all id := by
        rw [Bool.eq_iff_iff, List.all_eq_true, decide_eq_true_eq]
        constructor
        · intro h z hz
          obtain ⟨g, hg, rfl⟩ := List.mem_map.mp hz
          exact decide_eq_true (h g hg)
        · intro h g hg
          exact of_decide_eq_true (h _ (List.mem_map.mpr ⟨g, hg, rfl⟩))
      have q1 := q H3 s3
      rw [e] at q1
      exact q1

abbrev s__law_alive : Stmt := topS 52
abbrev sl__law_alive : List Str := ["_law_parts_here", "_law_reached", "_law_rotten", "_law_many", "_law_arrows", "_law_goals", "_law_unreached", "_law_back", "_law_place", "_law_tail_here", "_law_head", "_law_goal"]
theorem sc__law_alive : FnScope ["_law_parts_here", "_law_reached", "_law_rotten", "_law_many", "_law_arrows", "_law_goals", "_law_unreached", "_law_back", "_law_place", "_law_tail_here", "_law_head", "_law_goal"] ["_law_parts_here", "_law_reached", "_law_rotten"] (defScope s__law_alive) := ⟨rfl, rfl, rfl, by decide +kernel, rfl, by decide +kernel, by decide +kernel⟩
def LAlive : Nat → Es → List Nat → List Nat → List Nat → List Nat → Prop := fun n es gs rs ls os => os.Pairwise (· < ·) ∧ ∀ u, u ∈ os ↔ u < n ∧ Alive es gs rs ls u
/-- going backward from the unreached goals, as the law does it -/
theorem led_alive {n : Nat} {es : Es} {gs rs ls U S : List Nat} (hU : ∀ v, v ∈ U ↔ v < n ∧ v ∉ rs) (hS : ∀ v, v ∈ S ↔ v ∈ gs ∧ v ∉ rs) (ok : ∀ e ∈ es, e.1 < n ∧ e.2 < n) {v : Nat} :
    Rch (ledE (es.filterMap fun e => some (swp e)) U ls) S v ↔ Alive es gs rs ls v := by
  have hsw : ∀ (k : Nat) (e : Nat × Nat), (es.filterMap fun e => some (swp e))[k]? = some e ↔ es[k]? = some (swp e) := fun k e => by
    rw [fm_some, List.getElem?_map]
    cases es[k]? with
    | none => simp
    | some x =>
      obtain ⟨x1, x2⟩ := x
      obtain ⟨e1, e2⟩ := e
      simp only [Option.map_some, swp, Option.some.injEq, Prod.mk.injEq]
      exact ⟨fun ⟨a, b⟩ => ⟨b, a⟩, fun ⟨a, b⟩ => ⟨b, a⟩⟩
  have hback : ∀ e : Nat × Nat, e ∈ backE es rs ls ↔ ∃ k, es[k]? = some (swp e) ∧ k ∉ ls ∧ e.1 ∉ rs ∧ e.2 ∉ rs := fun e => by
    constructor
    · intro h
      obtain ⟨e0, h6, h7⟩ := List.mem_filterMap.mp h
      cases h7
      obtain ⟨e1, h8, h9⟩ := List.mem_filterMap.mp h6
      unfold unrG at h9
      split at h9
      · rename_i hc
        cases h9
        obtain ⟨k, h10, h11⟩ := mem_leftV.mp h8
        exact ⟨k, h10, h11, hc.2, hc.1⟩
      · cases h9
    · rintro ⟨k, h1, h2, h3, h4⟩
      refine List.mem_filterMap.mpr ⟨swp e, List.mem_filterMap.mpr ⟨swp e, mem_leftV.mpr ⟨k, h1, h2⟩, ?_⟩, rfl⟩
      unfold unrG
      exact if_pos ⟨h4, h3⟩
  constructor
  · intro h
    refine (h.ind (P := fun v => v ∉ rs ∧ Rch (backE es rs ls) (openG gs rs) v) (fun v hv => ?_) fun u v ⟨hu, hr⟩ e => ?_).2
    · obtain ⟨h1, h2⟩ := (hS v).mp hv
      exact ⟨h2, .base (mem_openG.mpr ⟨h1, h2⟩)⟩
    · obtain ⟨k, h1, h2, h3⟩ := mem_ledE.mp e
      have h4 := ((hU v).mp h3).2
      exact ⟨h4, hr.edge ((hback _).mpr ⟨k, (hsw k _).mp h1, h2, hu, h4⟩)⟩
  · refine Rch.mono (fun e he => ?_) fun v hv => ?_
    · obtain ⟨k, h1, h2, h3, h4⟩ := (hback e).mp he
      exact mem_ledE.mpr ⟨k, (hsw k e).mpr h1, h2, (hU _).mpr ⟨(ok _ (List.mem_of_getElem? h1)).1, h4⟩⟩
    · exact (hS v).mpr (mem_openG.mp hv)
theorem ok__law_alive (B : Bt mg) (h_law_led : Has P w K mg base "_law_led" 1 ["_law_arrows", "_law_begun", "_law_let", "_law_barred"] (spLed K)) (D0 : Df K mg "_law_alive" s__law_alive ["_law_parts_here", "_law_reached", "_law_rotten"]) : Has P w K mg base "_law_alive" 2 ["_law_parts_here", "_law_reached", "_law_rotten"] (spLT K LAlive) := by
  refine D0.has fun f fd F => F.ok sc__law_alive (fun vs H Q E h => ?_) (fun cdv A outer s H vs Q E hr h => ?_)
  · obtain ⟨t, n, a, pvs, es, c, gs, x, y, rs, ls, rfl, _⟩ := h
    rfl
  · obtain ⟨t, n, a, pvs, es, c, gs, x, y, rs, ls, rfl, hp, hx, hy, o, q⟩ := h
    refine ⟨_, (pss_cons (ps_asg (pv 0) (pg_tup rfl (pgs_cons (pg_name (i := 3) sc__law_alive.nd rfl (.inl rfl)) (pgs_cons (pg_name (i := 4) sc__law_alive.nd rfl (.inl rfl)) (pgs_cons (pg_name (i := 5) sc__law_alive.nd rfl (.inl rfl)) pgs_nil)))))
  (pss_cons (ps_set (i := 6) sc__law_alive.nd rfl (.inr rfl) (pe_lc (own := [("_law_place", 8)]) (g := gName 8) rfl sc__law_alive.nd (pi_range1 (by rfl) B.range (pa_cons (pv 3) pa_nil)) (blkOk_by (N := sl__law_alive) (sc := defScope s__law_alive) (by decide +kernel)) (fun _ _ _ _ _ => (pg_name (i := 8) sc__law_alive.nd rfl (.inl rfl))) (fun _ _ _ _ _ => pts_one (pt_cmpR (k_notin (K := K) rfl) (pv 8) (pv 1) (by rfl))) (fun _ _ _ _ _ => (pv 8))))
  (pss_cons (ps_setLc (i := 7) (own := [("_law_tail_here", 9), ("_law_head", 10)]) (g := gTup K 2 (gCons (gName 9) (gCons (gName 10) gNil))) rfl sc__law_alive.nd rfl rfl (sw_true rfl rfl rfl (by decide +kernel)) (k_pit (K := K) rfl (pv 4)) (blkOk_by (N := sl__law_alive) (sc := defScope s__law_alive) (by decide +kernel)) (fun _ _ _ _ _ => (pg_tup rfl (pgs_cons (pg_name (i := 9) sc__law_alive.nd rfl (.inl rfl)) (pgs_cons (pg_name (i := 10) sc__law_alive.nd rfl (.inl rfl)) pgs_nil)))) (fun _ _ _ _ _ => pts_nil) (fun _ _ _ _ _ => (pe_tup (pa_cons (pv 10) (pa_cons (pv 9) pa_nil)))))
  (pss_one (ps_ret (pe_callB (k_sorted (K := K) rfl) (by rfl) B.sorted bo_sorted (pa_cons (pcall h_law_led hr (by decide) (by rfl) (pa_cons (pv 7) (pa_cons (pe_lc (own := [("_law_goal", 11)]) (g := gName 11) rfl sc__law_alive.nd (k_pit (K := K) rfl (pv 5)) (blkOk_by (N := sl__law_alive) (sc := defScope s__law_alive) (by decide +kernel)) (fun _ _ _ _ _ => (pg_name (i := 11) sc__law_alive.nd rfl (.inl rfl))) (fun _ _ _ _ _ => pts_one (pt_cmpR (k_in (K := K) rfl) (pv 11) (pv 6) (by rfl))) (fun _ _ _ _ _ => (pv 11))) (pa_cons (pv 6) (pa_cons (pv 2) pa_nil))))) pa_nil))))))), ?_⟩
    have hl := hp.pr.len
    have gn := hp.gm.n40
    have g2 := hp.gm.n2
    have g60 := hp.gm.l60
    have ggl := hp.gm.gl2
    refine ⟨_, rfl, t, _, rfl, hp.tp, rfl, _, _, rfl, _, _, rfl, _, _, rfl, rfl, ?_⟩
    -- unreached
    refine ⟨_, rfl, n, rfl, by omega, by omega, fun D nD => ?_⟩
    refine lc_val walk_range calm_fn (fun i => (if i ∈ rs then none else some i).map nV) (by show ((n : Nat) : Int).toNat ≤ 100000; omega) nD (fun _ _ => trivial) ?_ fun H1 s1 h1 => ?_
    · rintro i v H4 H5 hi s4 ⟨rfl, rfl⟩ Kt kt
      have e0 : (0 : Int) + (i : Int) = (i : Int) := Int.zero_add _
      have k0 := kt _ (Same.refl _)
      refine ⟨rfl, ?_⟩
      refine ⟨_, rfl, _, rfl, x, _, rfl, .inr (Same.sqt s4 hx), rfl, flat_nats _, _, rfl, ?_⟩
      have ei : inV (V.int ((0 : Int) + (i : Int))) (rs.map nV) = decide (i ∈ rs) := by rw [e0]; exact inV_nats i rs
      rw [if_pos rfl, ei]
      by_cases m : i ∈ rs
      · rw [decide_eq_true m]
        rw [if_pos m] at k0
        exact iteF k0
      · rw [decide_eq_false m]
        rw [if_neg m] at k0
        refine iteT ⟨_, rfl, ?_⟩
        show Kt (some (V.int ((0 : Int) + (i : Int)))) _
        rw [e0]
        exact k0
    obtain ⟨U, hUd⟩ : ∃ U : List Nat, U = (List.range n).filterMap fun i => if i ∈ rs then none else some i := ⟨_, rfl⟩
    have e1 : ((List.range ((n : Nat) : Int).toNat).filterMap fun i => (if i ∈ rs then none else some i).map nV) = U.map nV := by
      rw [hUd, List.map_filterMap]
      rfl
    rw [e1] at h1
    have hU : ∀ v, v ∈ U ↔ v < n ∧ v ∉ rs := fun v => by
      rw [hUd, List.mem_filterMap]
      constructor
      · rintro ⟨i, hi, h⟩
        split at h
        · cases h
        · rename_i hc
          cases h
          exact ⟨List.mem_range.mp hi, hc⟩
      · rintro ⟨h1, h2⟩
        exact ⟨v, List.mem_range.mpr h1, if_neg h2⟩
    -- back
    refine ⟨_, rfl, a, rfl, ⟨_, Same.sqt s1 hp.ar⟩, fun D2 nD2 => ?_⟩
    have hp1 := hp.same s1
    refine lc_rel walk_tup calm_at (RelG (fun e => some (swp e)) es) RelG.stay (by omega) nD2 (fun H4 s4 => Same.sqt s4 hp1.ar) ?_ fun H2 os s2 hol hos h2 => ?_
    · rintro i v H4 H5 hi s4 ⟨rfl, hv⟩ Kt kt
      obtain ⟨e, hei, tt, rfl, ht⟩ := hp1.pr.get hv
      obtain ⟨e1, e2⟩ := e
      refine ⟨tt, _, rfl, Same.sqt s4 ht, rfl, _, _, rfl, _, _, rfl, rfl, rfl, tyes ?_⟩
      refine iteT ?_
      exact ⟨_, rfl, _, rfl, by show 2 ≤ sizeLine; decide, fun t2 nt2 => kt _ _ (same_new (Same.refl _) nt2) ⟨(e1, e2), hei, .inl ⟨(e2, e1), _, rfl, rfl, t2, rfl, upd_same⟩⟩⟩
    have p2 := prs_rel (K := K) (hol.trans hl) hos
    have s12 := s1.trans s2
    have hp2 := hp.same s12
    have h12 := s2 _ _ h1
    -- the unreached goals
    refine ⟨_, rfl, _, rfl, c, rfl, ⟨_, hp2.go⟩, fun D3 nD3 => ?_⟩
    refine lc_val walk_tup calm_at (fun i => (gs[i]?).bind fun g => if g ∈ U then some (nV g) else none) (by rw [List.length_map]; omega) nD3 (fun H5 s5 => Same.sqt s5 hp2.go) ?_ fun H3 s3 h3 => ?_
    · rintro i v H5 H6 hi s5 ⟨rfl, hv⟩ Kt kt
      obtain ⟨g, hgi, rfl⟩ := getmap hv
      refine ⟨rfl, ?_⟩
      refine ⟨_, rfl, _, rfl, D, _, rfl, .inl (sql (s5 _ _ h12)), rfl, flat_nats _, _, rfl, ?_⟩
      rw [if_neg Bool.false_ne_true, inV_nats]
      have k0 := kt _ (Same.refl _)
      rw [hgi] at k0
      simp only [Option.bind_some] at k0
      by_cases hm : g ∈ U
      · rw [decide_eq_true hm]
        rw [if_pos hm] at k0
        exact iteT ⟨_, rfl, k0⟩
      · rw [decide_eq_false hm]
        rw [if_neg hm] at k0
        exact iteF k0
    rw [List.length_map, fm_range] at h3
    obtain ⟨S, hSd⟩ : ∃ S : List Nat, S = gs.filterMap fun g => if g ∈ U then some g else none := ⟨_, rfl⟩
    have e3 : (gs.filterMap fun g => if g ∈ U then some (nV g) else none) = S.map nV := by
      rw [hSd, List.map_filterMap]
      congr 1
      funext g
      split <;> rfl
    rw [e3] at h3
    have hS : ∀ v, v ∈ S ↔ v ∈ gs ∧ v ∉ rs := fun v => by
      rw [hSd, List.mem_filterMap]
      constructor
      · rintro ⟨g, hg, h⟩
        split at h
        · rename_i hc
          cases h
          exact ⟨hg, ((hU _).mp hc).2⟩
        · cases h
      · rintro ⟨h1, h2⟩
        exact ⟨v, h1, if_pos ((hU v).mpr ⟨(hp.gm.gl v h1).2, h2⟩)⟩
    have hSn : S.Nodup := by
      rw [hSd]
      refine (List.Pairwise.filterMap (R := fun a b : Nat => a < b) (S := fun a b : Nat => a < b) _ (fun a b hab x hx y hy => ?_) hp.gm.pw).imp fun h => Nat.ne_of_lt h
      · split at hx
        · cases hx
          split at hy
          · cases hy
            exact hab
          · cases hy
        · cases hx
    have hx3 := Same.sqt (s12.trans s3) hx
    have hy3 := Same.sqt (s12.trans s3) hy
    refine ⟨_, rfl, _, rfl, D2, D3, D, y, _, _, S, U, ls, n, rfl, .inl (sql (s3 _ _ h2)), p2.same s3, .inl (sql h3), .inl (sql (s3 _ _ h12)), .inr hy3, fun e he => ?_, fun s hs => (hp.gm.gl s ((hS s).mp hs).1).2, hSn, by omega, ?_, fun p H4 fs s4 np hp4 nd hfs => ?_⟩
    · obtain ⟨e0, he0, h⟩ := List.mem_filterMap.mp he
      cases h
      exact (hp.gm.ok e0 he0).1
    · exact Nat.le_trans (List.length_filterMap_le _ _) (by omega)
    have hiff : ∀ v, v ∈ fs ↔ Alive es gs rs ls v := fun v => (hfs v).trans (led_alive hU hS fun e he => ⟨(hp.gm.ok e he).1, (hp.gm.ok e he).2.1⟩)
    refine ⟨p, fs.map fun (n : Nat) => (n : Int), rfl, sql (by rw [hp4, List.map_map]; rfl), fun ns' z hperm hsrt nz => ?_⟩
    obtain ⟨os, e5, hos5, hpw⟩ := sort_nats hperm hsrt
    have sm : Same H H4 := (s12.trans s3).trans s4
    rw [e5]
    refine q z os _ (same_new sm nz) (Same.free sm nz) upd_same ⟨pw_lt hpw (hos5.nodup_iff.mpr nd), fun u => ?_⟩
    rw [hos5.mem_iff, hiff]
    refine ⟨fun h => ⟨?_, h⟩, fun h => h.2⟩
    exact ((hfs u).mp ((hiff u).mpr h)).lt (fun s hs => (hp.gm.gl s ((hS s).mp hs).1).2) fun e he => by
      obtain ⟨_, _, _, h9⟩ := mem_ledE.mp he
      exact ((hU _).mp h9).1

abbrev s__law_worth : Stmt := topS 54
abbrev sl__law_worth : List Str := ["_law_parts_here", "_law_reached", "_law_rotten", "_law_living", "_law_k"]
theorem sc__law_worth : FnScope ["_law_parts_here", "_law_reached", "_law_rotten", "_law_living", "_law_k"] ["_law_parts_here", "_law_reached", "_law_rotten"] (defScope s__law_worth) := ⟨rfl, rfl, rfl, by decide +kernel, rfl, by decide +kernel, by decide +kernel⟩
def LWorth : Nat → Es → List Nat → List Nat → List Nat → List Nat → Prop := fun n es gs rs ls os => os.Pairwise (· < ·) ∧ ∀ i, i ∈ os ↔ i ∈ triesL es rs ls ∧ ∃ e, es[i]? = some e ∧ Alive es gs rs ls e.2
theorem ok__law_worth (B : Bt mg) (h_law_alive : Has P w K mg base "_law_alive" 2 ["_law_parts_here", "_law_reached", "_law_rotten"] (spLT K LAlive)) (h_law_tries : Has P w K mg base "_law_tries" 1 ["_law_parts_here", "_law_reached", "_law_rotten"] (spLT K LTries))
    (D0 : Df K mg "_law_worth" s__law_worth ["_law_parts_here", "_law_reached", "_law_rotten"]) : Has P w K mg base "_law_worth" 3 ["_law_parts_here", "_law_reached", "_law_rotten"] (spLT K LWorth) := by
  refine D0.has fun f fd F => F.ok sc__law_worth (fun vs H Q E h => ?_) (fun cdv A outer s H vs Q E hr h => ?_)
  · obtain ⟨t, n, a, pvs, es, c, gs, x, y, rs, ls, rfl, _⟩ := h
    rfl
  · obtain ⟨t, n, a, pvs, es, c, gs, x, y, rs, ls, rfl, hp, hx, hy, o, q⟩ := h
    refine ⟨_, (pss_cons (ps_set (i := 3) sc__law_worth.nd rfl (.inr rfl) (pcall h_law_alive hr (by decide) (by rfl) (pa_cons (pv 0) (pa_cons (pv 1) (pa_cons (pv 2) pa_nil)))))
  (pss_one (ps_ret (pe_lc (own := [("_law_k", 4)]) (g := gName 4) rfl sc__law_worth.nd (k_pil (K := K) rfl (pcall h_law_tries hr (by decide) (by rfl) (pa_cons (pv 0) (pa_cons (pv 1) (pa_cons (pv 2) pa_nil))))) (blkOk_by (N := sl__law_worth) (sc := defScope s__law_worth) (by decide +kernel)) (fun _ _ _ _ _ => (pg_name (i := 4) sc__law_worth.nd rfl (.inl rfl))) (fun _ _ _ _ _ => pts_one (pt_cmpR (k_in (K := K) rfl) (pe_ix (k_ixt (K := K) rfl) (pe_ix (k_ixt (K := K) rfl) (pe_ix (k_ixt (K := K) rfl) (pv 0) pe_int (fun _ _ => rfl)) (pv 4) (fun _ _ => rfl)) pe_int (fun _ _ => rfl)) (pv 3) (by rfl))) (fun _ _ _ _ _ => (pv 4)))))), ?_⟩
    have hl := hp.pr.len
    have g60 := hp.gm.l60
    refine ⟨_, rfl, _, rfl, _, rfl, t, n, a, pvs, es, c, gs, x, y, rs, ls, rfl, hp, hx, hy, o, fun z as H1 s1 nz hz has => ?_⟩
    have hp1 := hp.same s1
    refine ⟨_, rfl, _, rfl, _, rfl, t, n, a, pvs, es, c, gs, x, y, rs, ls, rfl, hp1, Same.sqt s1 hx, Same.sqt s1 hy, o, fun w ts H2 s2 nw hw hts => ?_⟩
    have hts' : ts = triesL es rs ls := hts
    rw [hts'] at hw
    have hp2 := hp1.same s2
    have hz2 := s2 _ _ hz
    have hlt : (triesL es rs ls).length ≤ es.length - 0 := pw_len tries_pw fun z hz => ⟨Nat.zero_le _, by
      obtain ⟨e, he, _⟩ := mem_tries.mp hz
      exact (List.getElem?_eq_some_iff.mp he).1⟩
    refine ⟨w, rfl, ⟨_, sql hw⟩, fun D nD => ?_⟩
    refine lc_val (walk_list (xs := (triesL es rs ls).map nV)) calm_at (fun i => ((triesL es rs ls)[i]?).bind fun k => (es[k]?).bind fun e => if e.2 ∈ as then some (nV k) else none) (by rw [List.length_map]; omega) nD (fun H3 s3 => sql (s3 _ _ hw)) ?_ fun H3 s3 h3 => ?_
    · rintro i v H3 H4 hi s3 ⟨rfl, hv⟩ Kt kt
      obtain ⟨k, hki, rfl⟩ := getmap hv
      obtain ⟨e, hke, _⟩ := mem_tries.mp (List.mem_of_getElem? hki)
      have h3 := hp2.same s3
      have hkl : k < pvs.length := by rw [hl]; exact (List.getElem?_eq_some_iff.mp hke).1
      have hk : pvs[k]? = some pvs[k] := List.getElem?_eq_getElem hkl
      obtain ⟨tt, htt, ht⟩ := h3.pr.at_ k _ _ hk hke
      have k0 := kt _ (Same.refl _)
      rw [hki] at k0
      simp only [Option.bind_some] at k0
      rw [hke] at k0
      simp only [Option.bind_some] at k0
      refine ⟨rfl, ?_⟩
      refine ⟨_, rfl, t, _, (1 : Nat), .ref a, rfl, rfl, h3.tp, atI_nat rfl, _, rfl, a, pvs, (k : Int), _, rfl, rfl, h3.ar, atI_nat hk, tt, _, (1 : Nat), nV e.2, htt, rfl, ht, atI_nat rfl, _, rfl, z, _, rfl, .inl (sql (s3 _ _ hz2)), rfl, flat_nats _, _, rfl, ?_⟩
      rw [if_neg Bool.false_ne_true, inV_nats]
      by_cases hm : e.2 ∈ as
      · rw [decide_eq_true hm]
        rw [if_pos hm] at k0
        exact iteT ⟨_, rfl, k0⟩
      · rw [decide_eq_false hm]
        rw [if_neg hm] at k0
        exact iteF k0
    rw [List.length_map, fm_range] at h3
    obtain ⟨os, hos⟩ : ∃ os : List Nat, os = (triesL es rs ls).filterMap fun k => (es[k]?).bind fun e => if e.2 ∈ as then some k else none := ⟨_, rfl⟩
    have e1 : ((triesL es rs ls).filterMap fun k => (es[k]?).bind fun e => if e.2 ∈ as then some (nV k) else none) = os.map nV := by
      rw [hos, List.map_filterMap]
      congr 1
      funext k
      cases es[k]? with
      | none => rfl
      | some e =>
        simp only [Option.bind_some]
        split <;> rfl
    rw [e1] at h3
    have hF : ∀ (k j : Nat), ((es[k]?).bind fun (e : Nat × Nat) => if e.2 ∈ as then some k else none) = some j → j = k ∧ ∃ e : Nat × Nat, es[k]? = some e ∧ e.2 ∈ as := fun k j h => by
      cases e2 : es[k]? with
      | none => rw [e2] at h; cases h
      | some e =>
        rw [e2] at h
        simp only [Option.bind_some] at h
        split at h
        · rename_i hc
          exact ⟨(Option.some.inj h).symm, e, rfl, hc⟩
        · cases h
    have sm : Same H H3 := (s1.trans s2).trans s3
    refine q D os H3 sm (Same.free (s1.trans s2) nD) h3 ⟨?_, fun i => ?_⟩
    · rw [hos]
      refine List.Pairwise.filterMap _ (fun k j hkj u hu v hv => ?_) tries_pw
      rw [(hF k u hu).1, (hF j v hv).1]
      exact hkj
    · rw [hos, List.mem_filterMap]
      constructor
      · rintro ⟨k, hk, hj⟩
        obtain ⟨rfl, e, he, hs⟩ := hF k i hj
        exact ⟨hk, e, he, ((has.2 _).mp hs).2⟩
      · rintro ⟨hk, e, he, ha⟩
        refine ⟨i, hk, ?_⟩
        rw [he]
        exact if_pos ((has.2 _).mpr ⟨(hp.gm.ok _ (List.mem_of_getElem? he)).2.1, ha⟩)

/-- where a goal is not reached, an arrow is worth a try -/
theorem worth_ex {n : Nat} {es : Es} {gs rs ls : List Nat} (o : StdOk n es gs rs ls) {g : Nat} (hg : g ∈ gs) (hn : g ∉ rs) : Alive es gs rs ls g ∧ ∃ i, i ∈ triesL es rs ls ∧ ∃ e, es[i]? = some e ∧ Alive es gs rs ls e.2 := by
  have h0 : Alive es gs rs ls g := .base (mem_openG.mpr ⟨hg, hn⟩)
  refine ⟨h0, ?_⟩
  have key : g ∈ rs ∨ (Alive es gs rs ls g → ∃ i, i ∈ triesL es rs ls ∧ ∃ e, es[i]? = some e ∧ Alive es gs rs ls e.2) := by
    refine (o.opn g hg).ind (P := fun v => v ∈ rs ∨ (Alive es gs rs ls v → ∃ i, i ∈ triesL es rs ls ∧ ∃ e, es[i]? = some e ∧ Alive es gs rs ls e.2)) (fun v hv => ?_) fun u v ih e => ?_
    · rw [List.mem_singleton.mp hv]
      exact .inl o.r0
    · by_cases hv : v ∈ rs
      · exact .inl hv
      · refine .inr fun ha => ?_
        obtain ⟨k, hk, hkl⟩ := mem_leftV.mp e
        by_cases hu : u ∈ rs
        · exact ⟨k, mem_tries.mpr ⟨_, hk, hkl, hu, hv⟩, _, hk, ha⟩
        · rcases ih with ih | ih
          · exact absurd ih hu
          · refine ih (Rch.edge ha (List.mem_filterMap.mpr ⟨(u, v), List.mem_filterMap.mpr ⟨(u, v), e, ?_⟩, rfl⟩))
            unfold unrG
            exact if_pos ⟨hu, hv⟩
  rcases key with h | h
  · exact absurd h hn
  · exact h h0

theorem dp_prs {K : PySem.W.Frag} {H : Hp} : ∀ {pvs : List V} {es : Es}, Prs K H pvs es → DpAll K H pvs (es.map dE)
  | [], [], _ => .nil
  | [], _ :: _, p => absurd p.len (by simp)
  | _ :: _, [], p => absurd p.len (by simp)
  | v :: vs, e :: es, p => by
    obtain ⟨t, rfl, ht⟩ := p.at_ 0 v e rfl rfl
    refine .cons (.tup ht (.cons (.int _) (.cons (.int _) .nil))) (dp_prs ⟨?_, fun i v e a b => p.at_ (i + 1) v e ?_ ?_⟩)
    · have := p.len
      simpa using this
    · simpa using a
    · simpa using b
theorem MapOk.of {K : PySem.W.Frag} {C : Addr} {H : Hp} {p : Addr} {n : Nat} {a : Addr} {pvs : List V} {es : Es} {c : Addr} {gs : List Nat} (m : MapAt K C H p n a pvs c gs) (pr : Prs K H pvs es) (g : GoodMap n es gs) : MapOk K C H p n a pvs es c gs :=
  ⟨m, pr, by have := g.n2; omega, by have := g.n40; omega, by have := g.l60; omega, by have := g.gl2; have := g.n40; omega, fun e he => ⟨(g.ok e he).1, (g.ok e he).2.1⟩, fun x hx => (g.gl x hx).2⟩
theorem MapOk.dr {K : PySem.W.Frag} {C : Addr} {F H H' : Hp} {h p : Addr} {n : Nat} {a : Addr} {pvs : List V} {es : Es} {c : Addr} {gs : List Nat} (m : MapOk K C H p n a pvs es c gs) (d : Dr F H H' h) (hA : HandAt F H h) : MapOk K C H' p n a pvs es c gs := by
  obtain ⟨⟨dx, hp⟩, har, hgo⟩ := m.at_
  obtain ⟨cc, cells, i, r, s, k, h1, _⟩ := hA.ob
  exact ⟨⟨⟨dx, d.same _ _ (ne_of hp h1 (by intro z; cases z)) hp⟩, d.sqt hA har, d.sqt hA hgo⟩, m.pr.dr d hA, m.n0, m.n1, m.el, m.gn, m.ok, m.gl⟩

theorem StdAt.dr {K : PySem.W.Frag} {F H H' : Hp} {h t x y : Addr} {rs ls : List Nat} (s : StdAt K H t x y rs ls) (d : Dr F H H' h) (hA : HandAt F H h) : StdAt K H' t x y rs ls := ⟨d.sqt hA s.t, d.sqt hA s.x, d.sqt hA s.y⟩
theorem StdAt.upd {K : PySem.W.Frag} {H : Hp} {t x y p : Addr} {rs ls : List Nat} {ys : List V} {o : HO} (hp : H p = some (.lst ys)) (s : StdAt K H t x y rs ls) : StdAt K (upd H p o) t x y rs ls := ⟨sqt_upd hp s.t, sqt_upd hp s.x, sqt_upd hp s.y⟩
/-- a value that is a standing of the map -/
def IsSt (K : PySem.W.Frag) (H : Hp) (n : Nat) (es : Es) (gs : List Nat) (v : V) : Prop := ∃ (u x y : Addr) (rs ls : List Nat), v = .ref u ∧ StdAt K H u x y rs ls ∧ StdOk n es gs rs ls
theorem IsSt.same {K : PySem.W.Frag} {H H' : Hp} {n : Nat} {es : Es} {gs : List Nat} {v : V} (s : Same H H') (h : IsSt K H n es gs v) : IsSt K H' n es gs v := by
  obtain ⟨u, x, y, rs, ls, e, S, o⟩ := h
  exact ⟨u, x, y, rs, ls, e, S.same s, o⟩
theorem begin_ok {n : Nat} {es : Es} {gs : List Nat} (g : GoodMap n es gs) : StdOk n es gs [0] [] where
  rp := by simp
  lp := List.Pairwise.nil
  rn := fun r hr => by rw [List.mem_singleton.mp hr]; have := g.n2; omega
  ln := fun l hl => (List.not_mem_nil hl).elim
  r0 := List.mem_cons_self
  tl := fun l hl => (List.not_mem_nil hl).elim
  hold := fun r hr => .base hr
  opn := fun x hx => (g.rch x hx).mono (fun e he => by
    obtain ⟨k, hk⟩ := List.getElem?_of_mem he
    exact mem_leftV.mpr ⟨k, hk, List.not_mem_nil⟩) fun _ h => h

theorem mem_inner {es : Es} {rs ls : List Nat} {e : Nat × Nat} : e ∈ inner es rs ls ↔ ∃ k, es[k]? = some e ∧ k ∉ ls ∧ e.1 ∈ rs ∧ e.2 ∈ rs := by
  constructor
  · intro h
    obtain ⟨e1, h1, h2⟩ := List.mem_filterMap.mp h
    unfold innG at h2
    split at h2
    · rename_i hc
      cases h2
      obtain ⟨k, h3, h4⟩ := mem_leftV.mp h1
      exact ⟨k, h3, h4, hc⟩
    · cases h2
  · rintro ⟨k, h1, h2, h3⟩
    refine List.mem_filterMap.mpr ⟨e, mem_leftV.mpr ⟨k, h1, h2⟩, ?_⟩
    unfold innG
    exact if_pos h3

/-- values of known kinds, no tuples -/
inductive Kn0 (K : PySem.W.Frag) (H : Hp) : V → Prop
  | non : Kn0 K H .non
  | bl (b : Bool) : Kn0 K H (.bl b)
  | int (i : Int) : Kn0 K H (.int i)
  | str (x : Str) : Kn0 K H (.str x)
  | lst {a : Addr} {xs : List V} (e : H a = some (.lst xs)) : Kn0 K H (.ref a)
  | dic {a : Addr} {kvs : List (Key × V)} (e : H a = some (.dK kvs)) : Kn0 K H (.ref a)
theorem Kn0.kn {K : PySem.W.Frag} {H : Hp} {v : V} (h : Kn0 K H v) : ∃ s, Kn K H v s ∧ (s == "tuple") = false := by
  cases h with
  | non => exact ⟨"NoneType", ⟨.base .non, by simp⟩, by decide⟩
  | bl b => exact ⟨"bool", ⟨.base (.bl b), by simp⟩, by decide⟩
  | int i => exact ⟨"int", ⟨.base (.int i), by simp⟩, by decide⟩
  | str x => exact ⟨"str", ⟨.base (.str x), by simp⟩, by decide⟩
  | lst e => exact ⟨"list", ⟨.base (.lst e), by simp⟩, by decide⟩
  | dic e => exact ⟨"dict", ⟨.base (.dK e), by simp⟩, by decide⟩
theorem Kn0.same {K : PySem.W.Frag} {H H' : Hp} {v : V} (s : Same H H') (h : Kn0 K H v) : Kn0 K H' v := by
  cases h with
  | non => exact .non
  | bl b => exact .bl b
  | int i => exact .int i
  | str x => exact .str x
  | lst e => exact .lst (s _ _ e)
  | dic e => exact .dic (s _ _ e)
/-- an item of a tuple: of a known kind -/
def KnI (K : PySem.W.Frag) (H : Hp) (v : V) : Prop := Kn0 K H v ∨ ∃ a xs, v = .ref a ∧ SqT K H a xs
theorem KnI.kn {K : PySem.W.Frag} {H : Hp} {v : V} (h : KnI K H v) : ∃ s, Kn K H v s := by
  rcases h with h | ⟨a, xs, rfl, h⟩
  · obtain ⟨s, h1, _⟩ := h.kn
    exact ⟨s, h1⟩
  · exact ⟨"tuple", kn_of_tup h⟩
theorem KnI.same {K : PySem.W.Frag} {H H' : Hp} {v : V} (s : Same H H') (h : KnI K H v) : KnI K H' v := by
  rcases h with h | ⟨a, xs, rfl, h⟩
  · exact .inl (h.same s)
  · exact .inr ⟨a, xs, rfl, Same.sqt s h⟩
theorem knI_nat {K : PySem.W.Frag} {H : Hp} {ls : List Nat} : ∀ x ∈ ls.map nV, KnI K H x := fun x hx => by
  obtain ⟨z, _, rfl⟩ := List.mem_map.mp hx
  exact .inl (.int _)
/-- what may be handed in as a lot -/
def Thing (K : PySem.W.Frag) (H : Hp) (v : V) : Prop := (∃ a xs, v = .ref a ∧ SqT K H a xs ∧ xs.length ≤ 1000 ∧ ∀ x ∈ xs, KnI K H x) ∨ Kn0 K H v
theorem Thing.same {K : PySem.W.Frag} {H H' : Hp} {v : V} (s : Same H H') (h : Thing K H v) : Thing K H' v := by
  rcases h with ⟨a, xs, rfl, h1, h2, h3⟩ | h
  · exact .inl ⟨a, xs, rfl, Same.sqt s h1, h2, fun x hx => (h3 x hx).same s⟩
  · exact .inr (h.same s)
/-- the items are a lot of numbers below m -/
def LotX (m : Nat) (xs : List V) : Prop := ∃ ls : List Nat, xs = ls.map nV ∧ ls.Pairwise (· < ·) ∧ ∀ l ∈ ls, l < m
theorem lotX_iff {m : Nat} {xs : List V} : LotX m xs ↔ lotFrom (m : Int) (-1) xs = true := by
  constructor
  · rintro ⟨ls, rfl, h1, h2⟩
    exact lot_of (fun g hg => ⟨by have := h2 g hg; omega, by omega⟩) h1
  · intro h
    obtain ⟨ls, e, h1, h2⟩ := lot_nat (by omega) h
    exact ⟨ls, e, h2, fun l hl => by have := (h1 l hl).1; omega⟩
theorem map_nV_inj {as bs : List Nat} (h : as.map nV = bs.map nV) : as = bs :=
  (List.map_inj_right fun x y z => by
    have z' : V.int (x : Int) = V.int (y : Int) := z
    injection z' with z'
    omega).mp h
def WorldX (es : Es) (gs : List Nat) (xs : List V) : Prop := ∃ ls : List Nat, xs = ls.map nV ∧ ls.Pairwise (· < ·) ∧ (∀ l ∈ ls, l < es.length) ∧ ∀ g ∈ gs, Rch (left es ls) [0] g

abbrev s_is_world : Stmt := topS 22
abbrev sl_is_world : List Str := ["chart", "thing"]
theorem sc_is_world : FnScope ["chart", "thing"] ["chart", "thing"] (defScope s_is_world) := ⟨rfl, rfl, rfl, by decide +kernel, rfl, by decide +kernel, by decide +kernel⟩
def spWorldG (K : PySem.W.Frag) (C : Addr) : Sp := fun vs H Q _ => ∃ (p : Addr) (n : Nat) (a : Addr) (pvs : List V) (es : Es) (c : Addr) (gs : List Nat) (v : V), vs = [.ref p, v] ∧ MapOk K C H p n a pvs es c gs ∧
  ((∃ b xs, v = .ref b ∧ SqT K H b xs ∧ (∀ x ∈ xs, KnI K H x) ∧ ∀ H' (ok : Bool), Same H H' → (ok = true ↔ WorldX es gs xs) → Q (.bl ok) H') ∨ (Kn0 K H v ∧ ∀ H', Same H H' → Q (.bl false) H'))
theorem ok_is_world {CMap : Addr} (B : Bt mg) (C : MapC K mg CMap) (h_is_lot : Has P w K mg base "is_lot" 3 ["thing", "many"] (spIsLot K)) (h_goals_are_open : Has P w K mg base "goals_are_open" 3 ["chart", "rotten"] (spOpen K CMap))
    (h_arrows : HasM P w K mg base CMap "arrows" 1 ["self"] (spArrows K CMap)) (D0 : Df K mg "is_world" s_is_world ["chart", "thing"]) : Has P w K mg base "is_world" 4 ["chart", "thing"] (spWorldG K CMap) := by
  refine D0.has fun f fd F => F.ok sc_is_world (fun vs H Q E h => ?_) (fun cdv A outer s H vs Q E hr h => ?_)
  · obtain ⟨p, n, a, pvs, es, c, gs, v, rfl, _⟩ := h
    rfl
  · obtain ⟨p, n, a, pvs, es, c, gs, v, rfl, m, h⟩ := h
    refine ⟨_, (pss_one (ps_ret (pe_and (pcall h_is_lot hr (by decide) (by rfl) (pa_cons (pv 1) (pa_cons (pe_callB (k_len (K := K) rfl) (by rfl) B.len bo_len (pa_cons (pe_meth0 (pv 0) C.cl h_arrows.mt h_arrows.F (hr.mono (by decide)) h_arrows.b .nil pass0) pa_nil)) pa_nil))) (pe_one (pcall h_goals_are_open hr (by decide) (by rfl) (pa_cons (pv 0) (pa_cons (pv 1) pa_nil))))))), ?_⟩
    obtain ⟨dx, hp⟩ := m.at_.ob
    have hl := m.pr.len
    refine ⟨_, rfl, _, rfl, p, dx, _, rfl, hp, mapF_arrows _ _ _, p, n, a, pvs, c, gs, rfl, m.at_, a, pvs, rfl, .inr m.at_.ar, v, (pvs.length : Int), rfl, ?_⟩
    rcases h with ⟨b, xs, rfl, hb, hk, q⟩ | ⟨h0, q⟩
    · refine .inl ⟨b, xs, rfl, hb, fun x hx => (hk x hx).kn, _, rfl, ?_⟩
      rw [hl]
      cases e : lotFrom (es.length : Int) (-1) xs with
      | false =>
        refine iteF ?_
        refine q H false (Same.refl H) ⟨fun z => Bool.noConfusion z, fun ⟨ls, e1, e2, e3, _⟩ => ?_⟩
        rw [lotX_iff.mp ⟨ls, e1, e2, e3⟩] at e
        cases e
      | true =>
        refine iteT ?_
        obtain ⟨ls, rfl, e2, e3⟩ := lotX_iff.mpr e
        refine ⟨_, rfl, _, rfl, p, n, a, pvs, es, c, gs, b, ls, rfl, m, hb, e3, fun H' ok s' hok => q H' ok s' ?_⟩
        rw [hok]
        exact ⟨fun z => ⟨ls, rfl, e2, e3, z⟩, fun ⟨ls', e1', _, _, z⟩ => by rw [map_nV_inj e1']; exact z⟩
    · obtain ⟨s0, k1, k2⟩ := h0.kn
      refine .inr ⟨s0, k1, k2, _, rfl, ?_⟩
      exact iteF (q H (Same.refl H))

/-! what changes lists alone -/
def NotL (o : HO) : Prop := (∀ ys, o ≠ .lst ys) ∧ ∀ ps, o ≠ .tbl ps
/-- all but the lists (and the tables of code objects) stays -/
def Nl (H H' : Hp) : Prop := ∀ b o, NotL o → H b = some o → H' b = some o
theorem Same.nl {H H' : Hp} (s : Same H H') : Nl H H' := fun b o _ e => s b o e
theorem Nl.trans {H H1 H2 : Hp} (a : Nl H H1) (b : Nl H1 H2) : Nl H H2 := fun x o h e => b x o h (a x o h e)
theorem Nl.refl (H : Hp) : Nl H H := fun _ _ _ e => e
theorem notL_tup {xs : List V} : NotL (.tup xs) := ⟨fun _ z => (by cases z), fun _ z => (by cases z)⟩
theorem notL_ins {C dx : Addr} {fs : List (Str × V)} : NotL (.ins C dx fs) := ⟨fun _ z => (by cases z), fun _ z => (by cases z)⟩
theorem nl_upd {H : Hp} {p : Addr} {ys : List V} {o : HO} (hp : H p = some (.lst ys)) : Nl H (upd H p o) := fun b u n e => by
  rw [upd_ne fun z => n.1 ys (by rw [z, hp] at e; exact (Option.some.inj e).symm)]
  exact e
theorem Dr.nl {F H H' : Hp} {h : Addr} (d : Dr F H H' h) (hA : HandAt F H h) : Nl H H' := fun b o n e => by
  obtain ⟨c, cells, i, r, s, k, h1, _⟩ := hA.ob
  exact d.same b o (fun z => n.1 _ (by rw [z, h1] at e; exact (Option.some.inj e).symm)) e
theorem Nl.sqt {K : PySem.W.Frag} {H H' : Hp} {a : Addr} {xs : List V} (n : Nl H H') (h : SqT K H a xs) : SqT K H' a xs := by
  rcases h with (h | ⟨o, h⟩) | h
  · exact .inl (.inl (n _ _ notL_tup h))
  · exact .inl (.inr ⟨o, n _ _ ⟨fun _ z => (by cases z), fun _ z => (by cases z)⟩ h⟩)
  · exact .inr h
section
variable {K : PySem.W.Frag} {H H' : Hp} (s : Nl H H')
include s
theorem MapAt.nl {C p : Addr} {n : Nat} {a : Addr} {pvs : List V} {c : Addr} {gs : List Nat} (m : MapAt K C H p n a pvs c gs) : MapAt K C H' p n a pvs c gs :=
  ⟨m.ob.elim fun dx h => ⟨dx, s _ _ notL_ins h⟩, s.sqt m.ar, s.sqt m.go⟩
theorem Prs.nl {vs : List V} {es : Es} (p : Prs K H vs es) : Prs K H' vs es := ⟨p.len, fun i v e a b => (p.at_ i v e a b).elim fun t ⟨h1, h2⟩ => ⟨t, h1, s.sqt h2⟩⟩
theorem MapOk.nl {C p : Addr} {n : Nat} {a : Addr} {pvs : List V} {es : Es} {c : Addr} {gs : List Nat} (m : MapOk K C H p n a pvs es c gs) : MapOk K C H' p n a pvs es c gs :=
  ⟨m.at_.nl s, m.pr.nl s, m.n0, m.n1, m.el, m.gn, m.ok, m.gl⟩
theorem StdAt.nl {t x y : Addr} {rs ls : List Nat} (h : StdAt K H t x y rs ls) : StdAt K H' t x y rs ls := ⟨s.sqt h.t, s.sqt h.x, s.sqt h.y⟩
theorem PtsAt.nl {t : Addr} {n : Nat} {a : Addr} {pvs : List V} {es : Es} {c : Addr} {gs : List Nat} (p : PtsAt K H t n a pvs es c gs) : PtsAt K H' t n a pvs es c gs := ⟨s.sqt p.tp, s.sqt p.ar, p.pr.nl s, s.sqt p.go, p.gm⟩
end
/-- all but some objects stays -/
structure Kp (L : List Addr) (H H' : Hp) : Prop where
  same : ∀ b o, b ∉ L → H b = some o → H' b = some o
  live : ∀ b, H b ≠ none → H' b ≠ none
theorem Same.live {H H' : Hp} (s : Same H H') {b : Addr} (h : H b ≠ none) : H' b ≠ none := by
  cases e : H b with
  | none => exact absurd e h
  | some o =>
    rw [s b o e]
    exact fun z => by cases z
theorem Same.kp {L : List Addr} {H H' : Hp} (s : Same H H') : Kp L H H' := ⟨fun b o _ e => s b o e, fun _ h => Same.live s h⟩
theorem Kp.trans {L : List Addr} {H H1 H2 : Hp} (a : Kp L H H1) (b : Kp L H1 H2) : Kp L H H2 := ⟨fun x o h e => b.same x o h (a.same x o h e), fun x h => b.live x (a.live x h)⟩
theorem kp_upd {L : List Addr} {H : Hp} {p : Addr} {o : HO} (hp : p ∈ L) : Kp L H (upd H p o) where
  same := fun b u n e => by rw [upd_ne (fun z => n (by rw [z]; exact hp))]; exact e
  live := fun b h => by
    by_cases z : b = p
    · rw [z, upd_same]
      exact fun z => by cases z
    · rw [upd_ne z]
      exact h
theorem Kp.nl {L : List Addr} {H H' : Hp} (k : Kp L H H') (hl : ∀ b ∈ L, ∃ ys, H b = some (.lst ys)) : Nl H H' := fun b o n e => by
  refine k.same b o (fun z => ?_) e
  obtain ⟨ys, h⟩ := hl b z
  rw [h] at e
  exact n.1 ys (Option.some.inj e).symm
/-- what was new when a draw's account began may be changed -/
theorem Dr.kp {F H0 H H' : Hp} {h : Addr} {L : List Addr} (d : Dr F H0 H h) (k : Kp L H H') (hn : ∀ b ∈ L, H0 b = none) (nh : h ∉ L) (hF : Same F H0) : Dr F H0 H' h where
  hand := by
    obtain ⟨c, cells, i, r, s, k', h1, h2, h3⟩ := d.hand.ob
    exact ⟨⟨c, cells, i, r, s, k', k.same _ _ nh h1, h2, h3⟩, d.hand.nF⟩
  same := fun b o nb e => k.same b o (fun z => by rw [hn b z] at e; cases e) (d.same b o nb e)
  sub := fun b o e => k.same b o (fun z => by
    have := hF b o e
    rw [hn b z] at this
    cases this) (d.sub b o e)

/-! the course of a run, as objects -/
/-- what the top says of an own class: its fields are no attributes of the class -/
structure ClsC (K : PySem.W.Frag) (mg : Str → Option Value) (x : Str) (C : Addr) (fs : List Str) : Prop where
  cl : Cls K C
  na : ∀ f ∈ fs, NoAttr K C f
  mg : mg x = some (.ref C)
section
variable {K : PySem.W.Frag} {mg : Str → Option Value} {x f g k : Str} {C : Addr} {r : List Str}
theorem ClsC.n0 (h : ClsC K mg x C (f :: r)) : NoAttr K C f := h.na f List.mem_cons_self
theorem ClsC.n1 (h : ClsC K mg x C (f :: g :: r)) : NoAttr K C g := h.na g (List.mem_cons_of_mem _ List.mem_cons_self)
theorem ClsC.n2 (h : ClsC K mg x C (f :: g :: k :: r)) : NoAttr K C k := h.na k (List.mem_cons_of_mem _ (List.mem_cons_of_mem _ List.mem_cons_self))
end
def f3 (f g k : Str) (u v z : V) : List (Str × V) := putF k z (putF g v (putF f u []))
theorem f3_0 {f g k : Str} {u v z : V} (h1 : ¬ f = g) (h2 : ¬ f = k) : (f3 f g k u v z).lookup f = some u := by
  unfold f3
  rw [lookup_putF, if_neg h2, lookup_putF, if_neg h1, lookup_putF, if_pos rfl]
theorem f3_1 {f g k : Str} {u v z : V} (h2 : ¬ g = k) : (f3 f g k u v z).lookup g = some v := by
  unfold f3
  rw [lookup_putF, if_neg h2, lookup_putF, if_pos rfl]
theorem f3_2 {f g k : Str} {u v z : V} : (f3 f g k u v z).lookup k = some z := by
  unfold f3
  rw [lookup_putF, if_pos rfl]
theorem f3_no {f g k m : Str} {u v z : V} (h0 : ¬ m = f) (h1 : ¬ m = g) (h2 : ¬ m = k) : (f3 f g k u v z).lookup m = none := by
  unfold f3
  rw [lookup_putF, if_neg h2, lookup_putF, if_neg h1, lookup_putF, if_neg h0]
  rfl
abbrev Stg := List Nat × List Nat
abbrev Evn := List (Nat × Bool)
/-- an evening with its answers, as a value -/
def EvAt (K : PySem.W.Frag) (H : Hp) (v : V) (ev : Evn) : Prop := ∃ (e : Addr) (pts : List V), v = .ref e ∧ SqT K H e pts ∧ pts.length = ev.length ∧ ∀ (i : Nat) (pt : V) (kb : Nat × Bool), pts[i]? = some pt → ev[i]? = some kb → ∃ t, pt = .ref t ∧ SqT K H t [nV kb.1, .bl kb.2]
def EvsAt (K : PySem.W.Frag) (H : Hp) (vs : List V) (evs : List Evn) : Prop := vs.length = evs.length ∧ ∀ (i : Nat) (v : V) (ev : Evn), vs[i]? = some v → evs[i]? = some ev → EvAt K H v ev
def StsAt (K : PySem.W.Frag) (H : Hp) (vs : List V) (sts : List Stg) : Prop := vs.length = sts.length ∧ ∀ (i : Nat) (v : V) (st : Stg), vs[i]? = some v → sts[i]? = some st → ∃ u x y, v = .ref u ∧ StdAt K H u x y st.1 st.2
section
variable {K : PySem.W.Frag} {H H' : Hp} (s : Nl H H')
include s
theorem EvAt.nl {v : V} {ev : Evn} (h : EvAt K H v ev) : EvAt K H' v ev := by
  obtain ⟨e, pts, h1, h2, h3, h4⟩ := h
  exact ⟨e, pts, h1, s.sqt h2, h3, fun i pt kb a b => (h4 i pt kb a b).elim fun t ⟨x, y⟩ => ⟨t, x, s.sqt y⟩⟩
theorem EvsAt.nl {vs : List V} {evs : List Evn} (h : EvsAt K H vs evs) : EvsAt K H' vs evs := ⟨h.1, fun i v ev a b => (h.2 i v ev a b).nl s⟩
theorem StsAt.nl {vs : List V} {sts : List Stg} (h : StsAt K H vs sts) : StsAt K H' vs sts := ⟨h.1, fun i v st a b => by
  obtain ⟨u, x, y, e, h⟩ := h.2 i v st a b
  exact ⟨u, x, y, e, h.nl s⟩⟩
end
theorem EvsAt.snoc {K : PySem.W.Frag} {H : Hp} {vs : List V} {evs : List Evn} {v : V} {ev : Evn} (h : EvsAt K H vs evs) (h2 : EvAt K H v ev) : EvsAt K H (vs ++ [v]) (evs ++ [ev]) := by
  refine ⟨by rw [List.length_append, List.length_append, h.1]; rfl, fun i u e a b => ?_⟩
  rcases Nat.lt_trichotomy i vs.length with z | z | z
  · rw [List.getElem?_append_left z] at a
    rw [List.getElem?_append_left (h.1 ▸ z)] at b
    exact h.2 i u e a b
  · rw [z, List.getElem?_concat_length] at a
    rw [z, h.1, List.getElem?_concat_length] at b
    cases a
    cases b
    exact h2
  · rw [List.getElem?_eq_none (by rw [List.length_append]; show vs.length + 1 ≤ i; omega)] at a
    cases a
theorem StsAt.snoc {K : PySem.W.Frag} {H : Hp} {vs : List V} {sts : List Stg} {u x y : Addr} {st : Stg} (h : StsAt K H vs sts) (h2 : StdAt K H u x y st.1 st.2) : StsAt K H (vs ++ [.ref u]) (sts ++ [st]) := by
  refine ⟨by rw [List.length_append, List.length_append, h.1]; rfl, fun i w e a b => ?_⟩
  rcases Nat.lt_trichotomy i vs.length with z | z | z
  · rw [List.getElem?_append_left z] at a
    rw [List.getElem?_append_left (h.1 ▸ z)] at b
    exact h.2 i w e a b
  · rw [z, List.getElem?_concat_length] at a
    rw [z, h.1, List.getElem?_concat_length] at b
    cases a
    cases b
    exact ⟨u, x, y, rfl, h2⟩
  · rw [List.getElem?_eq_none (by rw [List.length_append]; show vs.length + 1 ≤ i; omega)] at a
    cases a
theorem EvsAt.front {K : PySem.W.Frag} {H : Hp} {vs : List V} {evs : List Evn} {ev : Evn} (h : EvsAt K H vs (evs ++ [ev])) : EvsAt K H vs.dropLast evs := by
  have hl := h.1
  rw [List.length_append, List.length_singleton] at hl
  refine ⟨by rw [List.length_dropLast]; omega, fun i v e a b => h.2 i v e ?_ ?_⟩
  · rw [List.getElem?_dropLast] at a
    split at a
    · exact a
    · cases a
  · rw [List.getElem?_append_left (List.getElem?_eq_some_iff.mp b).1]
    exact b
theorem StsAt.front {K : PySem.W.Frag} {H : Hp} {vs : List V} {sts : List Stg} {st : Stg} (h : StsAt K H vs (sts ++ [st])) : StsAt K H vs.dropLast sts := by
  have hl := h.1
  rw [List.length_append, List.length_singleton] at hl
  refine ⟨by rw [List.length_dropLast]; omega, fun i v e a b => h.2 i v e ?_ ?_⟩
  · rw [List.getElem?_dropLast] at a
    split at a
    · exact a
    · cases a
  · rw [List.getElem?_append_left (List.getElem?_eq_some_iff.mp b).1]
    exact b
/-- what a course holds: the map, the evenings with the standing at the begin of each, the standing of now -/
structure CS where
  p : Addr
  tl : Addr
  sl : Addr
  n : Nat
  a : Addr
  pvs : List V
  es : Es
  c : Addr
  gs : List Nat
  hist : List (Stg × Evn)
  cur : Stg
abbrev crsF (p tl sl : Addr) : List (Str × V) := f3 "_chart" "_told" "_stood" (.ref p) (.ref tl) (.ref sl)
structure CrsAt (K : PySem.W.Frag) (C CC : Addr) (H : Hp) (q : Addr) (s : CS) : Prop where
  ob : ∃ dx, H q = some (.ins CC dx (crsF s.p s.tl s.sl))
  m : MapOk K C H s.p s.n s.a s.pvs s.es s.c s.gs
  told : ∃ tvs, H s.tl = some (.lst tvs) ∧ EvsAt K H tvs (s.hist.map (·.2))
  stood : ∃ svs, H s.sl = some (.lst svs) ∧ StsAt K H svs (s.hist.map (·.1) ++ [s.cur])
  ne : s.tl ≠ s.sl
  ok : StdOk s.n s.es s.gs s.cur.1 s.cur.2
  oks : ∀ x ∈ s.hist, StdOk s.n s.es s.gs x.1.1 x.1.2
  n62 : s.n ≤ 62
  e62 : s.es.length ≤ 62
  few : s.hist.length ≤ 1000
  evs : ∀ x ∈ s.hist, x.2.length ≤ 1000
theorem CrsAt.keep {K : PySem.W.Frag} {C CC : Addr} {H H' : Hp} {q : Addr} {s : CS} (h : CrsAt K C CC H q s) (n : Nl H H') (k1 : ∀ o, H s.tl = some o → H' s.tl = some o) (k2 : ∀ o, H s.sl = some o → H' s.sl = some o) : CrsAt K C CC H' q s where
  ob := h.ob.elim fun dx e => ⟨dx, n _ _ notL_ins e⟩
  m := h.m.nl n
  told := h.told.elim fun tvs ⟨e, t⟩ => ⟨tvs, k1 _ e, t.nl n⟩
  stood := h.stood.elim fun svs ⟨e, t⟩ => ⟨svs, k2 _ e, t.nl n⟩
  ne := h.ne
  ok := h.ok
  oks := h.oks
  n62 := h.n62
  e62 := h.e62
  few := h.few
  evs := h.evs
theorem CrsAt.same {K : PySem.W.Frag} {C CC : Addr} {H H' : Hp} {q : Addr} {s : CS} (h : CrsAt K C CC H q s) (n : Same H H') : CrsAt K C CC H' q s := h.keep (Same.nl n) (fun o e => n _ o e) fun o e => n _ o e
/-- the objects of a course that change -/
abbrev CS.L (s : CS) : List Addr := [s.tl, s.sl]
theorem CrsAt.lists {K : PySem.W.Frag} {C CC : Addr} {H : Hp} {q : Addr} {s : CS} (h : CrsAt K C CC H q s) : ∀ b ∈ s.L, ∃ ys, H b = some (.lst ys) := fun b hb => by
  rcases List.mem_cons.mp hb with rfl | hb
  · exact h.told.elim fun _ e => ⟨_, e.1⟩
  · rw [List.mem_singleton.mp hb]
    exact h.stood.elim fun _ e => ⟨_, e.1⟩
/-- the standing behind an evening -/
structure BehindR (es : Es) (rs ls : List Nat) (ev : Evn) (rs' ls' : List Nat) : Prop where
  rp : rs'.Pairwise (· < ·)
  lp : ls'.Pairwise (· < ·)
  rm : ∀ v, v ∈ rs' ↔ v ∈ rs ∨ ∃ k e, (k, true) ∈ ev ∧ es[k]? = some e ∧ e.2 = v
  lm : ∀ l, l ∈ ls' ↔ l ∈ ls ∨ (l, false) ∈ ev
/-- the lost ones of an evening -/
def lostL (ev : Evn) : List Nat := ev.filterMap fun kb => if kb.2 then none else some kb.1
theorem mem_lost {ev : Evn} {k : Nat} : k ∈ lostL ev ↔ (k, false) ∈ ev := by
  unfold lostL
  rw [List.mem_filterMap]
  constructor
  · rintro ⟨⟨j, b⟩, h1, h2⟩
    cases b with
    | true => cases h2
    | false =>
      cases h2
      exact h1
  · intro h
    exact ⟨_, h, rfl⟩
theorem BehindR.std {n : Nat} {es : Es} {gs rs ls rs' ls' : List Nat} {ev : Evn} (h : BehindR es rs ls ev rs' ls') (o : StdOk n es gs rs ls) (ok : ∀ e ∈ es, e.1 < n ∧ e.2 < n) (ht : ∀ kb ∈ ev, kb.1 ∈ triesL es rs ls) (hu : ∀ k, (k, true) ∈ ev → (k, false) ∈ ev → False)
    (ho : ∀ g ∈ gs, Rch (left es (ls ++ lostL ev)) [0] g) : StdOk n es gs rs' ls' := by
  have sub : ∀ v ∈ rs, v ∈ rs' := fun v hv => (h.rm v).mpr (.inl hv)
  -- a sound arrow is not found rotten
  have snd : ∀ k, (k, true) ∈ ev → k ∉ ls' := fun k hk hl => by
    rcases (h.lm k).mp hl with z | z
    · obtain ⟨e, _, hkl, _⟩ := mem_tries.mp (ht _ hk)
      exact hkl z
    · exact hu k hk z
  have hold0 : ∀ r ∈ rs, Rch (inner es rs' ls') [0] r := fun r hr => (o.hold r hr).mono (fun x hx => by
    obtain ⟨j, a1, a2, a3, a4⟩ := mem_inner.mp hx
    refine mem_inner.mpr ⟨j, a1, fun z => ?_, sub _ a3, sub _ a4⟩
    rcases (h.lm j).mp z with z | z
    · exact a2 z
    · obtain ⟨e, he, _, _, h2⟩ := mem_tries.mp (ht _ z)
      rw [a1] at he
      cases he
      exact h2 a4) fun _ h => h
  refine ⟨h.rp, h.lp, fun r hr => ?_, fun l hl => ?_, sub _ o.r0, fun l hl x hx => ?_, fun r hr => ?_, fun g hg => left_same (fun x => by rw [h.lm, List.mem_append, mem_lost]) (ho g hg)⟩
  · rcases (h.rm r).mp hr with z | ⟨k, e, _, he, rfl⟩
    · exact o.rn r z
    · exact (ok e (List.mem_of_getElem? he)).2
  · rcases (h.lm l).mp hl with z | z
    · exact o.ln l z
    · obtain ⟨e, he, _⟩ := mem_tries.mp (ht _ z)
      exact (List.getElem?_eq_some_iff.mp he).1
  · rcases (h.lm l).mp hl with z | z
    · exact sub _ (o.tl l z x hx)
    · obtain ⟨e, he, _, h1, _⟩ := mem_tries.mp (ht _ z)
      rw [hx] at he
      cases he
      exact sub _ h1
  · rcases (h.rm r).mp hr with z | ⟨k, e, hk, he, rfl⟩
    · exact hold0 r z
    · obtain ⟨e', he', _, h1, _⟩ := mem_tries.mp (ht _ hk)
      rw [he] at he'
      cases he'
      exact (hold0 e.1 h1).edge (mem_inner.mpr ⟨k, he, snd k hk, sub _ h1, hr⟩)
/-- what a world answers to a lot -/
def evOf (W lot : List Nat) : Evn := lot.map fun k => (k, decide (k ∉ W))
theorem mem_evOf {W lot : List Nat} {kb : Nat × Bool} : kb ∈ evOf W lot ↔ kb.1 ∈ lot ∧ kb.2 = decide (kb.1 ∉ W) := by
  unfold evOf
  rw [List.mem_map]
  constructor
  · rintro ⟨k, h, rfl⟩
    exact ⟨h, rfl⟩
  · rintro ⟨h1, h2⟩
    exact ⟨kb.1, h1, by rw [← h2]⟩
theorem f3_meth {u v z : V} {m : Str} (h0 : ¬ m = "_chart") (h1 : ¬ m = "_told") (h2 : ¬ m = "_stood") : (f3 "_chart" "_told" "_stood" u v z).lookup m = none := f3_no h0 h1 h2

abbrev s_with_items : Stmt := topS 11
abbrev sl_with_items : List Str := ["lot", "fresh"]
theorem sc_with_items : FnScope ["lot", "fresh"] ["lot", "fresh"] (defScope s_with_items) := ⟨rfl, rfl, rfl, by decide +kernel, rfl, by decide +kernel, by decide +kernel⟩
def spWithItems (K : PySem.W.Frag) : Sp := fun vs H Q _ => ∃ (a b : Addr) (ls fs : List Nat), vs = [.ref a, .ref b] ∧ SqT K H a (ls.map nV) ∧ SqX K H b (fs.map nV) ∧ ls.length ≤ 400 ∧ fs.length ≤ 400 ∧ (∀ k ∈ ls, k < 63) ∧ (∀ k ∈ fs, k < 63) ∧
  ∀ (z : Addr) (os : List Nat) (H' : Hp), Same H H' → H z = none → H' z = some (.tup (os.map nV)) → os.Pairwise (· < ·) → (∀ x, x ∈ os ↔ x ∈ ls ∨ x ∈ fs) → Q (.ref z) H'
theorem nats_of {is : List Int} (h : ∀ k ∈ is, 0 ≤ k) : ∃ os : List Nat, is = os.map (fun (n : Nat) => (n : Int)) := by
  refine ⟨is.map Int.toNat, ?_⟩
  rw [List.map_map]
  refine (List.map_id is).symm.trans (List.map_congr_left fun k hk => ?_)
  show k = ((k.toNat : Nat) : Int)
  have := h k hk
  omega
theorem ok_with_items (B : Bt mg) (D0 : Df K mg "with_items" s_with_items ["lot", "fresh"]) : Has P w K mg base "with_items" 1 ["lot", "fresh"] (spWithItems K) := by
  refine D0.has fun f fd F => F.ok sc_with_items (fun vs H Q E h => ?_) (fun cdv A outer s H vs Q E hr h => ?_)
  · obtain ⟨a, b, ls, fs, rfl, _⟩ := h
    rfl
  · obtain ⟨a, b, ls, fs, rfl, hS, hX, h1, h2, b1, b2, q⟩ := h
    refine ⟨_, (pss_one (ps_ret (pe_callTy (k_tuple (K := K) rfl) (by rfl) B.tuple bo_tuple (pa_cons (pe_sortedSet rfl (by rfl) B.sorted (by rfl) B.set (pe_lst (StX.pa_star (pv 0) (StX.pa_star (pv 1) pa_nil)))) pa_nil)))), ?_⟩
    have e1 : ls.map nV ++ (fs.map nV ++ []) = ((ls ++ fs).map fun (n : Nat) => (n : Int)).map V.int := by
      rw [List.map_map, List.map_append, List.append_nil]
      rfl
    refine ⟨_, rfl, a, _, rfl, .inl hS, _, rfl, b, _, rfl, hX.symm, by rw [List.length_append, List.length_append, List.length_map, List.length_map]; exact small_sz (by show ls.length + (fs.length + 0) ≤ 100000; omega), fun l nl => ?_⟩
    refine ⟨l, (ls ++ fs).map fun (n : Nat) => (n : Int), rfl, sql (by rw [← e1]; exact upd_same), by rw [List.length_map, List.length_append]; omega, fun k hk => ?_, fun is z hs hm nz => ?_⟩
    · obtain ⟨j, hj, rfl⟩ := List.mem_map.mp hk
      have : j < 63 := (List.mem_append.mp hj).elim (b1 j) (b2 j)
      omega
    · obtain ⟨os, rfl⟩ := nats_of (is := is) fun k hk => by
        obtain ⟨j, _, rfl⟩ := List.mem_map.mp ((hm k).mp hk)
        omega
      have s1 := same_new (o := .lst (ls.map nV ++ (fs.map nV ++ []))) (Same.refl H) nl
      have s2 := same_new (o := .lst ((os.map fun (n : Nat) => (n : Int)).map V.int)) s1 nz
      refine ⟨z, _, rfl, .inl ⟨sql upd_same, fun z2 nz2 => ?_⟩⟩
      refine q z2 os _ (same_new s2 nz2) (Same.free s2 nz2) (by rw [upd_same, List.map_map]; rfl) ?_ fun x => ?_
      · rw [List.pairwise_map] at hs
        exact hs.imp fun h => by omega
      · have e := hm (x : Int)
        rw [List.mem_map, List.mem_map] at e
        constructor
        · intro hx
          obtain ⟨j, hj, ej⟩ := e.mp ⟨x, hx, rfl⟩
          have : j = x := by omega
          rw [← this]
          exact List.mem_append.mp hj
        · intro hx
          obtain ⟨j, hj, ej⟩ := e.mpr ⟨x, List.mem_append.mpr hx, rfl⟩
          have : j = x := by omega
          rw [← this]
          exact hj

abbrev s_begin : Stmt := topS 28
abbrev sl_begin : List Str := ["chart"]
theorem sc_begin : FnScope ["chart"] ["chart"] (defScope s_begin) := ⟨rfl, rfl, rfl, by decide +kernel, rfl, by decide +kernel, by decide +kernel⟩
def spBegin (K : PySem.W.Frag) : Sp := fun vs H Q _ => ∃ v, vs = [v] ∧ ∀ (u x y : Addr) (H' : Hp), Same H H' → H u = none → StdAt K H' u x y [0] [] → Q (.ref u) H'
theorem ok_begin (D0 : Df K mg "begin" s_begin ["chart"]) : Has P w K mg base "begin" 1 ["chart"] (spBegin K) := by
  refine D0.has fun f fd F => F.ok sc_begin (fun vs H Q E h => ?_) (fun cdv A outer s H vs Q E hr h => ?_)
  · obtain ⟨v, rfl, _⟩ := h
    rfl
  · obtain ⟨v, rfl, q⟩ := h
    refine ⟨_, (pss_one (ps_ret (pe_tup (pa_cons (pe_tup (pa_cons pe_int pa_nil)) (pa_cons (pe_tup pa_nil) pa_nil))))), ?_⟩
    refine ⟨by show 1 ≤ sizeLine; decide, fun x nx => ⟨Nat.zero_le _, fun y ny => ⟨by show 2 ≤ sizeLine; decide, fun u nu => ?_⟩⟩⟩
    have s1 := same_new (o := .tup [.int 0]) (Same.refl H) nx
    have s2 := same_new (o := .tup []) (Same.refl _) ny
    have s3 := same_new (o := .tup [.ref x, .ref y]) (Same.refl _) nu
    exact q u x y _ ((s1.trans s2).trans s3) (Same.free (s1.trans s2) nu) ⟨sqt upd_same, sqt (s3 _ _ (s2 _ _ upd_same)), sqt (s3 _ _ upd_same)⟩

abbrev s_are_tries : Stmt := topS 35
abbrev sl_are_tries : List Str := ["chart", "standing", "thing", "tried", "arrow"]
theorem sc_are_tries : FnScope ["chart", "standing", "thing", "tried", "arrow"] ["chart", "standing", "thing"] (defScope s_are_tries) := ⟨rfl, rfl, rfl, by decide +kernel, rfl, by decide +kernel, by decide +kernel⟩
/-- are_tries, of a lot of one or more tries -/
def spAreTries (K : PySem.W.Frag) (C : Addr) : Sp := fun vs H Q _ => ∃ (p : Addr) (n : Nat) (a : Addr) (pvs : List V) (es : Es) (c : Addr) (gs : List Nat) (t x y : Addr) (rs ls : List Nat) (b : Addr) (lot : List Nat), vs = [.ref p, .ref t, .ref b] ∧ At K C H p n a pvs es c gs t x y rs ls ∧
  SqT K H b (lot.map nV) ∧ lot.Pairwise (· < ·) ∧ lot ≠ [] ∧ (∀ k ∈ lot, k ∈ triesL es rs ls) ∧ ∀ H', Same H H' → Q (.bl true) H'
theorem ok_are_tries {CMap : Addr} (B : Bt mg) (C : MapC K mg CMap) (h_is_lot : Has P w K mg base "is_lot" 3 ["thing", "many"] (spIsLot K)) (h_tries_at : Has P w K mg base "tries_at" 3 ["chart", "standing"] (spOf K CMap RTries))
    (h_arrows : HasM P w K mg base CMap "arrows" 1 ["self"] (spArrows K CMap)) (D0 : Df K mg "are_tries" s_are_tries ["chart", "standing", "thing"]) : Has P w K mg base "are_tries" 4 ["chart", "standing", "thing"] (spAreTries K CMap) := by
  refine D0.has fun f fd F => F.ok sc_are_tries (fun vs H Q E h => ?_) (fun cdv A outer s H vs Q E hr h => ?_)
  · obtain ⟨p, n, a, pvs, es, c, gs, t, x, y, rs, ls, b, lot, rfl, _⟩ := h
    rfl
  · obtain ⟨p, n, a, pvs, es, c, gs, t, x, y, rs, ls, b, lot, rfl, h1, hb, hp, hne, ht, q⟩ := h
    refine ⟨_, (pss_cons (ps_if (PW.pt (pw_or (pt_not (pt_val (pcall h_is_lot hr (by decide) (by rfl) (pa_cons (pv 2) (pa_cons (pe_callB (k_len (K := K) rfl) (by rfl) B.len bo_len (pa_cons (pe_meth0 (pv 0) C.cl h_arrows.mt h_arrows.F (hr.mono (by decide)) h_arrows.b .nil pass0) pa_nil)) pa_nil))))) (pw_or1 (pt_cmpR op_eq (pe_callB (k_len (K := K) rfl) (by rfl) B.len bo_len (pa_cons (pv 2) pa_nil)) pe_int (nomark _)))))
    (pss_one (ps_ret pe_bl))
    pss_nil)
  (pss_cons (ps_set (i := 3) sc_are_tries.nd rfl (.inr rfl) (pcall h_tries_at hr (by decide) (by rfl) (pa_cons (pv 0) (pa_cons (pv 1) pa_nil))))
  (pss_one (ps_ret (pe_callB (k_all (K := K) rfl rfl) (by rfl) B.all bo_all (pa_cons (pe_lc (own := [("arrow", 4)]) (g := gName 4) rfl sc_are_tries.nd (k_pit (K := K) rfl (pv 2)) (blkOk_by (N := sl_are_tries) (sc := defScope s_are_tries) (by decide +kernel)) (fun _ _ _ _ _ => (pg_name (i := 4) sc_are_tries.nd rfl (.inl rfl))) (fun _ _ _ _ _ => pts_nil) (fun _ _ _ _ _ => (pe_cmpR (k_in (K := K) rfl) (pv 4) (pv 3) (by rfl)))) pa_nil)))))), ?_⟩
    obtain ⟨dx, hob⟩ := h1.m.at_.ob
    have hl := h1.m.pr.len
    have hln : ∀ k ∈ lot, k < es.length := fun k hk => by
      obtain ⟨e, he, _⟩ := mem_tries.mp (ht k hk)
      exact (List.getElem?_eq_some_iff.mp he).1
    refine ⟨_, rfl, _, rfl, p, dx, _, rfl, hob, mapF_arrows _ _ _, p, n, a, pvs, c, gs, rfl, h1.m.at_, a, pvs, rfl, .inr h1.m.at_.ar, .ref b, (pvs.length : Int), rfl, .inl ⟨b, _, rfl, hb, fun z hz => ?_, _, rfl, ?_⟩⟩
    · obtain ⟨k, _, rfl⟩ := List.mem_map.mp hz
      exact ⟨"int", kn_of_int⟩
    rw [lot_of (gs := lot) (fun k hk => ⟨by have := hln k hk; omega, by omega⟩) hp]
    refine iteF ?_
    refine ⟨_, rfl, b, _, rfl, .inr hb, rfl, _, rfl, ?_⟩
    have e0 : decide (V.int ((lot.map nV).length : Int) = V.int 0) = false := decide_eq_false fun z => by
      injection z with z
      rw [List.length_map] at z
      cases lot with
      | nil => exact hne rfl
      | cons _ _ => rw [List.length_cons] at z; omega
    rw [e0]
    refine iteF ?_
    refine ⟨_, rfl, _, rfl, p, n, a, pvs, es, c, gs, t, x, y, rs, ls, rfl, h1, fun v H1 s1 hv => ?_⟩
    obtain ⟨tr, rfl, ntr, htr⟩ := hv
    have hll : lot.length ≤ es.length - 0 := pw_len hp fun z hz => ⟨Nat.zero_le _, hln z hz⟩
    have := h1.m.el
    refine ⟨_, rfl, b, rfl, ⟨_, Same.sqt s1 hb⟩, fun D nD => ?_⟩
    refine lc_val walk_tup calm_at (fun i => (lot[i]?).bind fun _ => some (V.bl true)) (by rw [List.length_map]; omega) nD (fun H3 s3 => Same.sqt (s1.trans s3) hb) ?_ fun H3 s3 h3 => ?_
    · rintro i v H3 H4 hi s3 ⟨rfl, hv⟩ Kt kt
      obtain ⟨k, hki, rfl⟩ := getmap hv
      have k0 := kt _ (Same.refl _)
      rw [hki] at k0
      refine ⟨rfl, tyes ?_⟩
      refine iteT ?_
      refine ⟨_, rfl, _, rfl, tr, _, rfl, .inr (sqt (s3 _ _ htr)), rfl, flat_nats _, ?_⟩
      rw [if_neg Bool.false_ne_true, inV_nats, decide_eq_true (ht k (List.mem_of_getElem? hki))]
      exact k0
    · rw [List.length_map, fm_range, fm_some] at h3
      refine ⟨D, lot.map fun _ => true, rfl, sql (by rw [h3, List.map_map]; rfl), ?_⟩
      rw [show (lot.map fun _ => true).all id = true by rw [List.all_map]; exact List.all_eq_true.mpr fun _ _ => rfl]
      exact q H3 (s1.trans s3)

abbrev s_standing_behind : Stmt := topS 36
abbrev sl_standing_behind : List Str := ["chart", "standing", "pairs", "reached", "rotten", "heads", "lost", "behind", "arrow", "sound"]
theorem sc_standing_behind : FnScope ["chart", "standing", "pairs", "reached", "rotten", "heads", "lost", "behind", "arrow", "sound"] ["chart", "standing", "pairs"] (defScope s_standing_behind) := ⟨rfl, rfl, rfl, by decide +kernel, rfl, by decide +kernel, by decide +kernel⟩
def spBehind (K : PySem.W.Frag) (C : Addr) : Sp := fun vs H Q _ => ∃ (p : Addr) (n : Nat) (a : Addr) (pvs : List V) (es : Es) (c : Addr) (gs : List Nat) (t x y : Addr) (rs ls : List Nat) (v : V) (ev : Evn), vs = [.ref p, .ref t, v] ∧ At K C H p n a pvs es c gs t x y rs ls ∧
  n ≤ 62 ∧ es.length ≤ 62 ∧ EvAt K H v ev ∧ ev.length ≤ 400 ∧ (∀ kb ∈ ev, kb.1 ∈ triesL es rs ls) ∧
  (∀ (z x' y' : Addr) (rs' ls' : List Nat) (H' : Hp), Same H H' → StdAt K H' z x' y' rs' ls' → BehindR es rs ls ev rs' ls' → (∀ g ∈ gs, Rch (left es (ls ++ lostL ev)) [0] g) → Q (.ref z) H') ∧
  ((¬ ∀ g ∈ gs, Rch (left es (ls ++ lostL ev)) [0] g) → ∀ H', Same H H' → Q .non H')
/-- the heads of the sound ones -/
def headsL (es : Es) (ev : Evn) : List Nat := ev.filterMap fun kb => (es[kb.1]?).bind fun e => if kb.2 then some e.2 else none
theorem mem_heads {es : Es} {ev : Evn} {v : Nat} : v ∈ headsL es ev ↔ ∃ k e, (k, true) ∈ ev ∧ es[k]? = some e ∧ e.2 = v := by
  unfold headsL
  rw [List.mem_filterMap]
  constructor
  · rintro ⟨⟨j, b⟩, h1, h2⟩
    cases h3 : es[j]? with
    | none => rw [h3] at h2; cases h2
    | some e =>
      rw [h3] at h2
      cases b with
      | false => cases h2
      | true =>
        cases h2
        exact ⟨j, e, h1, h3, rfl⟩
  · rintro ⟨k, e, h1, h2, rfl⟩
    exact ⟨_, h1, by rw [h2]; rfl⟩
theorem ok_standing_behind {CMap : Addr} (C : MapC K mg CMap) (h_with_items : Has P w K mg base "with_items" 1 ["lot", "fresh"] (spWithItems K)) (h_goals_are_open : Has P w K mg base "goals_are_open" 3 ["chart", "rotten"] (spOpen K CMap))
    (h_arrows : HasM P w K mg base CMap "arrows" 1 ["self"] (spArrows K CMap)) (D0 : Df K mg "standing_behind" s_standing_behind ["chart", "standing", "pairs"]) : Has P w K mg base "standing_behind" 4 ["chart", "standing", "pairs"] (spBehind K CMap) := by
  refine D0.has fun f fd F => F.ok sc_standing_behind (fun vs H Q E h => ?_) (fun cdv A outer s H vs Q E hr h => ?_)
  · obtain ⟨p, n, a, pvs, es, c, gs, t, x, y, rs, ls, v, ev, rfl, _⟩ := h
    rfl
  · obtain ⟨p, n, a, pvs, es, c, gs, t, x, y, rs, ls, v, ev, rfl, h1, n62, e62, hE, hlen, ht, q, qn⟩ := h
    obtain ⟨eA, pts, rfl, hpt, hpl, hpp⟩ := hE
    refine ⟨_, (pss_cons (ps_asg (pv 1) (pg_tup rfl (pgs_cons (pg_name (i := 3) sc_standing_behind.nd rfl (.inl rfl)) (pgs_cons (pg_name (i := 4) sc_standing_behind.nd rfl (.inl rfl)) pgs_nil))))
  (pss_cons (ps_setLc (i := 5) (own := [("arrow", 8), ("sound", 9)]) (g := gTup K 2 (gCons (gName 8) (gCons (gName 9) gNil))) rfl sc_standing_behind.nd rfl rfl (sw_true rfl rfl rfl (by decide +kernel)) (k_pit (K := K) rfl (pv 2)) (blkOk_by (N := sl_standing_behind) (sc := defScope s_standing_behind) (by decide +kernel)) (fun _ _ _ _ _ => (pg_tup rfl (pgs_cons (pg_name (i := 8) sc_standing_behind.nd rfl (.inl rfl)) (pgs_cons (pg_name (i := 9) sc_standing_behind.nd rfl (.inl rfl)) pgs_nil)))) (fun _ _ _ _ _ => pts_one (pt_val (pv 9))) (fun _ _ _ _ _ => (pe_ix (k_ixt (K := K) rfl) (pe_ix (k_ixt (K := K) rfl) (pe_meth0 (pv 0) C.cl h_arrows.mt h_arrows.F (hr.mono (by decide)) h_arrows.b .nil pass0) (pv 8) (fun _ _ => rfl)) pe_int (fun _ _ => rfl))))
  (pss_cons (ps_setLc (i := 6) (own := [("arrow", 8), ("sound", 9)]) (g := gTup K 2 (gCons (gName 8) (gCons (gName 9) gNil))) rfl sc_standing_behind.nd rfl rfl (sw_true rfl rfl rfl (by decide +kernel)) (k_pit (K := K) rfl (pv 2)) (blkOk_by (N := sl_standing_behind) (sc := defScope s_standing_behind) (by decide +kernel)) (fun _ _ _ _ _ => (pg_tup rfl (pgs_cons (pg_name (i := 8) sc_standing_behind.nd rfl (.inl rfl)) (pgs_cons (pg_name (i := 9) sc_standing_behind.nd rfl (.inl rfl)) pgs_nil)))) (fun _ _ _ _ _ => pts_one (pt_not (pt_val (pv 9)))) (fun _ _ _ _ _ => (pv 8)))
  (pss_cons (ps_set (i := 7) sc_standing_behind.nd rfl (.inl rfl) (pe_tup (pa_cons (pcall h_with_items hr (by decide) (by rfl) (pa_cons (pv 3) (pa_cons (pv 5) pa_nil))) (pa_cons (pcall h_with_items hr (by decide) (by rfl) (pa_cons (pv 4) (pa_cons (pv 6) pa_nil))) pa_nil))))
  (pss_cons (ps_if (PW.pt (pw_and (k_tru (K := K) rfl (pv 6) (by intro _; rfl)) (pw_and1 (pt_not (pt_val (pcall h_goals_are_open hr (by decide) (by rfl) (pa_cons (pv 0) (pa_cons (pe_ix (k_ixt (K := K) rfl) (pv 7) pe_int (fun _ _ => rfl)) pa_nil))))))))
    (pss_one (ps_ret pe_non))
    pss_nil)
  (pss_one (ps_ret (pv 7)))))))), ?_⟩
    have hl := h1.m.pr.len
    have ok := h1.m.ok
    refine ⟨_, rfl, t, _, rfl, h1.S.t, rfl, _, _, rfl, _, _, rfl, rfl, ?_⟩
    -- the heads
    refine ⟨_, rfl, eA, rfl, ⟨_, hpt⟩, fun D nD => ?_⟩
    refine lc_val walk_tup calm_at (fun i => (ev[i]?).bind fun kb => (es[kb.1]?).bind fun e => if kb.2 then some (nV e.2) else none) (by omega) nD (fun H3 s3 => Same.sqt s3 hpt) ?_ fun H3 s3 h3 => ?_
    · rintro i v H3 H4 hi s3 ⟨rfl, hv⟩ Kt kt
      have hie : i < ev.length := by omega
      obtain ⟨tt, rfl, htt⟩ := hpp i v ev[i] hv (List.getElem?_eq_getElem hie)
      have k0 := kt _ (Same.refl _)
      rw [List.getElem?_eq_getElem hie] at k0
      simp only [Option.bind_some] at k0
      obtain ⟨e, hke, _⟩ := mem_tries.mp (ht ev[i] (List.getElem_mem hie))
      rw [hke] at k0
      simp only [Option.bind_some] at k0
      have h13 := h1.same s3
      refine ⟨tt, _, rfl, Same.sqt s3 htt, rfl, _, _, rfl, _, _, rfl, rfl, rfl, _, rfl, ev[i].2, rfl, ?_⟩
      cases hb : ev[i].2 with
      | false =>
        rw [hb] at k0
        exact iteF k0
      | true =>
        rw [hb] at k0
        refine iteT ?_
        obtain ⟨dx, hob⟩ := h13.m.at_.ob
        have hkl : ev[i].1 < pvs.length := by rw [hl]; exact (List.getElem?_eq_some_iff.mp hke).1
        have hkv : pvs[ev[i].1]? = some (pvs[ev[i].1]) := List.getElem?_eq_getElem hkl
        obtain ⟨t2, ht2, ht3⟩ := h13.m.pr.at_ _ _ _ hkv hke
        exact ⟨_, rfl, p, dx, _, rfl, hob, mapF_arrows _ _ _, p, n, a, pvs, c, gs, rfl, h13.m.at_, _, rfl, a, pvs, (ev[i].1 : Int), _, rfl, rfl, h13.m.at_.ar, atI_nat hkv, t2, _, (1 : Nat), nV e.2, ht2, rfl, ht3, atI_nat rfl, k0⟩
    have eh : (List.range pts.length).filterMap (fun i => (ev[i]?).bind fun kb => (es[kb.1]?).bind fun e => if kb.2 then some (nV e.2) else none) = (headsL es ev).map nV := by
      rw [hpl, fm_range]
      unfold headsL
      rw [List.map_filterMap]
      congr 1
      funext kb
      cases es[kb.1]? with
      | none => rfl
      | some e => cases kb.2 <;> rfl
    rw [eh] at h3
    have h13 := h1.same s3
    have hpt3 := Same.sqt s3 hpt
    -- the lost ones
    refine ⟨_, rfl, eA, rfl, ⟨_, hpt3⟩, fun D2 nD2 => ?_⟩
    refine lc_val walk_tup calm_at (fun i => (ev[i]?).bind fun kb => if kb.2 then none else some (nV kb.1)) (by omega) nD2 (fun H4 s4 => Same.sqt s4 hpt3) ?_ fun H4 s4 h4 => ?_
    · rintro i v H4 H5 hi s4 ⟨rfl, hv⟩ Kt kt
      have hie : i < ev.length := by omega
      obtain ⟨tt, rfl, htt⟩ := hpp i v ev[i] hv (List.getElem?_eq_getElem hie)
      have k0 := kt _ (Same.refl _)
      rw [List.getElem?_eq_getElem hie] at k0
      simp only [Option.bind_some] at k0
      refine ⟨tt, _, rfl, Same.sqt (s3.trans s4) htt, rfl, _, _, rfl, _, _, rfl, rfl, rfl, _, rfl, ev[i].2, rfl, ?_⟩
      cases hb : ev[i].2 with
      | false =>
        rw [hb] at k0
        exact iteT ⟨_, rfl, k0⟩
      | true =>
        rw [hb] at k0
        exact iteF k0
    have el : (List.range pts.length).filterMap (fun i => (ev[i]?).bind fun kb => if kb.2 then none else some (nV kb.1)) = (lostL ev).map nV := by
      rw [hpl, fm_range]
      unfold lostL
      rw [List.map_filterMap]
      congr 1
      funext kb
      cases kb.2 <;> rfl
    rw [el] at h4
    have h14 := h13.same s4
    have s14 := s3.trans s4
    have hrl := h14.rl
    have hll := h14.ll
    have lh : (headsL es ev).length ≤ ev.length := List.length_filterMap_le _ _
    have lL : (lostL ev).length ≤ ev.length := List.length_filterMap_le _ _
    have rl62 : rs.length ≤ n - 0 := pw_len h1.o.rp fun z hz => ⟨Nat.zero_le _, h1.o.rn z hz⟩
    have ll62 : ls.length ≤ es.length - 0 := pw_len h1.o.lp fun z hz => ⟨Nat.zero_le _, h1.o.ln z hz⟩
    have lostn : ∀ k ∈ lostL ev, k < es.length := fun k hk => by
      obtain ⟨e, he, _⟩ := mem_tries.mp (ht _ (mem_lost.mp hk))
      exact (List.getElem?_eq_some_iff.mp he).1
    refine ⟨_, rfl, _, rfl, x, D, rs, headsL es ev, rfl, h14.S.x, .inl (sql (s4 _ _ h3)), by omega, by omega, fun k hk => by have := h1.o.rn k hk; omega, fun k hk => ?_, fun z1 os1 H5 s5 nz1 hz1 hp1 hm1 => ?_⟩
    · obtain ⟨j, e, _, he, rfl⟩ := mem_heads.mp hk
      have := (ok e (List.mem_of_getElem? he)).2
      omega
    refine ⟨_, rfl, _, rfl, y, D2, ls, lostL ev, rfl, Same.sqt s5 h14.S.y, .inl (sql (s5 _ _ h4)), by omega, by omega, fun k hk => by have := h1.o.ln k hk; omega, fun k hk => by have := lostn k hk; omega, fun z2 os2 H6 s6 nz2 hz2 hp2 hm2 => ?_⟩
    refine ⟨by show 2 ≤ sizeLine; decide, fun r nr => ?_⟩
    have s7 := same_new (o := .tup [.ref z1, .ref z2]) (Same.refl H6) nr
    have s57 := (s5.trans s6).trans s7
    have hS : StdAt K (upd H6 r (.tup [.ref z1, .ref z2])) r z1 z2 os1 os2 := ⟨sqt upd_same, sqt (s7 _ _ (s6 _ _ hz1)), sqt (s7 _ _ hz2)⟩
    have hR : BehindR es rs ls ev os1 os2 := ⟨hp1, hp2, fun v => by rw [hm1, mem_heads], fun l => by rw [hm2, mem_lost]⟩
    have h17 := h14.same s57
    have hiff : ∀ k, k ∈ os2 ↔ k ∈ ls ++ lostL ev := fun k => by rw [hm2, List.mem_append]
    generalize upd H6 r (.tup [.ref z1, .ref z2]) = H7 at s7 s57 hS h17
    have h47 := s57 _ _ h4
    have sAll := s14.trans s57
    refine ⟨_, rfl, _, .inl ⟨(lostL ev).map nV, sql h47, rfl⟩, ?_⟩
    cases hE : ((lostL ev).map nV).isEmpty with
    | true =>
      have e0 : lostL ev = [] := by
        cases h : lostL ev with
        | nil => rfl
        | cons _ _ => rw [h] at hE; cases hE
      refine iteF (iteF ?_)
      refine ⟨_, rfl, q r z1 z2 os1 os2 _ sAll hS hR fun g hg => ?_⟩
      rw [e0, List.append_nil]
      exact h1.o.opn g hg
    | false =>
      refine iteT ?_
      refine ⟨_, rfl, _, rfl, r, _, (1 : Nat), .ref z2, rfl, rfl, hS.t, atI_nat rfl, p, n, a, pvs, es, c, gs, z2, os2, rfl, h17.m, hS.y, fun l hl => ?_, fun H8 ok' s8 hok => ⟨_, rfl, ?_⟩⟩
      · rcases (hm2 l).mp hl with z | z
        · exact h1.o.ln l z
        · exact lostn l z
      cases ok' with
      | true =>
        refine iteF ?_
        exact ⟨_, rfl, q r z1 z2 os1 os2 _ (sAll.trans s8) (hS.same s8) hR fun g hg => left_same (fun k => (hiff k).symm) (hok.mp rfl g hg)⟩
      | false =>
        refine iteT ?_
        exact qn (fun hf => Bool.noConfusion (hok.mpr fun g hg => left_same hiff (hf g hg))) H8 (sAll.trans s8)

abbrev s_Course___init__ : Stmt := inClass (topS 39) 0
abbrev sl_Course___init__ : List Str := ["self", "chart"]
theorem sc_Course___init__ : FnScope ["self", "chart"] ["self", "chart"] (defScope s_Course___init__) := ⟨rfl, rfl, rfl, by decide +kernel, rfl, by decide +kernel, by decide +kernel⟩
def spCrsInit (K : PySem.W.Frag) (C CC : Addr) : Sp := fun vs H Q _ => ∃ (q dx p : Addr) (n : Nat) (a : Addr) (pvs : List V) (es : Es) (c : Addr) (gs : List Nat), vs = [.ref q, .ref p] ∧ H q = some (.ins CC dx []) ∧ MapOk K C H p n a pvs es c gs ∧ n ≤ 62 ∧ es.length ≤ 62 ∧ StdOk n es gs [0] [] ∧
  ∀ (tl sl : Addr) (H' : Hp), (∀ b o, b ≠ q → H b = some o → H' b = some o) → H tl = none → H sl = none → CrsAt K C CC H' q ⟨p, tl, sl, n, a, pvs, es, c, gs, [], ([0], [])⟩ → Q .non H'
theorem ok_Course_init {CMap CCourse : Addr} (C_Course : ClsC K mg "Course" CCourse ["_chart", "_told", "_stood"]) (h_begin : Has P w K mg base "begin" 1 ["chart"] (spBegin K)) (D0 : DfI K CCourse "Course.__init__" s_Course___init__ ["self", "chart"]) : HasI P w K mg base CCourse 2 ["self", "chart"] (spCrsInit K CMap CCourse) := by
  refine D0.has fun f fd F => F.ok sc_Course___init__ (fun vs H Q E h => ?_) (fun cdv A outer s H vs Q E hr h => ?_)
  · obtain ⟨q, dx, p, n, a, pvs, es, c, gs, rfl, _⟩ := h
    rfl
  · obtain ⟨q, dx, p, n, a, pvs, es, c, gs, rfl, hq, m, n62, e62, o, k⟩ := h
    refine ⟨_, (pss_cons (ps_fld (pv 0) (pv 1) rfl)
  (pss_cons (ps_fld (pv 0) (pe_lst pa_nil) rfl)
  (pss_one (ps_fld (pv 0) (pe_lst (pa_cons (pcall h_begin hr (by decide) (by rfl) (pa_cons (pv 1) pa_nil)) pa_nil)) rfl)))), ?_⟩
    refine ⟨_, rfl, _, rfl, q, CCourse, dx, _, rfl, hq, C_Course.cl, C_Course.n0, by show 0 < 1000; decide, ?_⟩
    refine ⟨Nat.zero_le _, fun tl ntl => ?_⟩
    have t0 : H tl = none := by
      by_cases z : tl = q
      · rw [z, upd_same] at ntl
        cases ntl
      · rw [upd_ne z] at ntl
        exact ntl
    have tq : tl ≠ q := fun z => by
      rw [z, upd_same] at ntl
      cases ntl
    refine ⟨_, rfl, q, CCourse, dx, _, rfl, by rw [upd_ne tq.symm]; exact upd_same, C_Course.cl, C_Course.n1, by show 1 < 1000; decide, ?_⟩
    refine ⟨_, rfl, _, rfl, fun u x y H3 s3 nu S3 => ?_⟩
    refine ⟨Nat.le_of_lt (small_lt (by decide : 1 ≤ 100000)), fun sl nsl => ?_⟩
    have sq : sl ≠ q := fun z => by
      have e := s3 q _ upd_same
      rw [← z, nsl] at e
      cases e
    have s0 : H sl = none := by
      cases e : H sl with
      | none => rfl
      | some o =>
        have e1 := s3 sl o (by rw [upd_ne sq, upd_ne (ne_of_none e t0), upd_ne sq]; exact e)
        rw [nsl] at e1
        cases e1
    have st : tl ≠ sl := fun z => by
      have e := s3 tl (.lst []) (by rw [upd_ne tq]; exact upd_same)
      rw [z, nsl] at e
      cases e
    have hq3 := s3 q _ upd_same
    refine ⟨_, rfl, q, CCourse, dx, _, rfl, by rw [upd_ne sq.symm]; exact hq3, C_Course.cl, C_Course.n2, Nat.lt_of_le_of_lt (putF_len _ _ _) (by show 1 + 1 < 1000; decide), ?_⟩
    have kp : ∀ b o, b ≠ q → H b = some o → upd (upd H3 sl (.lst [.ref u])) q (.ins CCourse dx (crsF p tl sl)) b = some o := fun b o nb e => by
      rw [upd_ne nb, upd_ne (ne_of_none e s0)]
      exact s3 b o (by rw [upd_ne nb, upd_ne (ne_of_none e t0), upd_ne nb]; exact e)
    have nl : Nl (upd H3 sl (.lst [.ref u])) (upd (upd H3 sl (.lst [.ref u])) q (.ins CCourse dx (crsF p tl sl))) → True := fun _ => trivial
    have kt : ∀ {b : Addr} {xs : List V}, SqT K H3 b xs → SqT K (upd (upd H3 sl (.lst [.ref u])) q (.ins CCourse dx (crsF p tl sl))) b xs := fun {b xs} h => by
      rcases h with (h | ⟨o, h⟩) | h
      · exact .inl (.inl (by rw [upd_ne (ne_of h hq3 (by intro z; cases z)), upd_ne (ne_of_none h nsl)]; exact h))
      · exact .inl (.inr ⟨o, by rw [upd_ne (ne_of h hq3 (by intro z; cases z)), upd_ne (ne_of_none h nsl)]; exact h⟩)
      · exact .inr h
    have hk : ∀ {b : Addr} {xs : List V}, SqT K H b xs → SqT K (upd (upd H3 sl (.lst [.ref u])) q (.ins CCourse dx (crsF p tl sl))) b xs := fun {b xs} h => by
      rcases h with (h | ⟨o, h⟩) | h
      · exact .inl (.inl (kp _ _ (ne_of h hq (by intro z; cases z)) h))
      · exact .inl (.inr ⟨o, kp _ _ (ne_of h hq (by intro z; cases z)) h⟩)
      · exact .inr h
    have mm : MapOk K CMap (upd (upd H3 sl (.lst [.ref u])) q (.ins CCourse dx (crsF p tl sl))) p n a pvs es c gs := by
      obtain ⟨d1, hd1⟩ := m.at_.ob
      have npq : p ≠ q := fun z => by
        rw [z, hq] at hd1
        have hd1 := Option.some.inj hd1
        injection hd1 with _ _ e3
        have e4 := mapF_m n a c
        rw [← e3] at e4
        cases e4
      exact ⟨⟨⟨d1, kp _ _ npq hd1⟩, hk m.at_.ar, hk m.at_.go⟩, ⟨m.pr.len, fun i v e g1 g2 => (m.pr.at_ i v e g1 g2).elim fun t ⟨h1, h2⟩ => ⟨t, h1, hk h2⟩⟩, m.n0, m.n1, m.el, m.gn, m.ok, m.gl⟩
    refine k tl sl _ kp t0 s0 ⟨⟨dx, upd_same⟩, mm, ⟨[], ?_, rfl, fun i v ev h => by simp at h⟩, ⟨[.ref u], ?_, rfl, fun i v st h1 h2 => ?_⟩, st, o, fun x hx => (List.not_mem_nil hx).elim, n62, e62, Nat.zero_le _, fun x hx => (List.not_mem_nil hx).elim⟩
    · show upd (upd H3 sl (.lst [.ref u])) q (.ins CCourse dx (crsF p tl sl)) tl = some (.lst [])
      rw [upd_ne tq, upd_ne st]
      exact s3 tl _ (by rw [upd_ne tq]; exact upd_same)
    · show upd (upd H3 sl (.lst [.ref u])) q (.ins CCourse dx (crsF p tl sl)) sl = some (.lst [.ref u])
      rw [upd_ne sq, upd_same]
    · cases i with
      | zero =>
        cases h1
        cases h2
        exact ⟨u, x, y, rfl, kt S3.t, kt S3.x, kt S3.y⟩
      | succ i => simp at h1

abbrev s_Course_here : Stmt := inClass (topS 39) 1
abbrev sl_Course_here : List Str := ["self"]
theorem sc_Course_here : FnScope ["self"] ["self"] (defScope s_Course_here) := ⟨rfl, rfl, rfl, by decide +kernel, rfl, by decide +kernel, by decide +kernel⟩
def spHere (K : PySem.W.Frag) (C CC : Addr) : Sp := fun vs H Q _ => ∃ (q : Addr) (s : CS), vs = [.ref q] ∧ CrsAt K C CC H q s ∧ ∀ u x y, StdAt K H u x y s.cur.1 s.cur.2 → Q (.ref u) H
theorem at_back {α : Type} {xs : List α} {n : Nat} {v : α} (hl : xs.length = n + 1) (h : xs[n]? = some v) : atI xs (-1) = some v := by
  have e : xs = xs.take n ++ [v] := by
    conv => lhs; rw [← List.take_append_drop n xs]
    rw [drop_cons_of h, List.drop_eq_nil_of_le (by omega)]
  rw [e]
  exact atI_last _ _
theorem ok_Course_here {CMap CCourse : Addr} (C_Course : ClsC K mg "Course" CCourse ["_chart", "_told", "_stood"]) (D0 : DfM K CCourse "here" "Course.here" s_Course_here ["self"]) : HasM P w K mg base CCourse "here" 1 ["self"] (spHere K CMap CCourse) := by
  refine D0.has fun f fd F => F.ok sc_Course_here (fun vs H Q E h => ?_) (fun cdv A outer s H vs Q E hr h => ?_)
  · obtain ⟨q, s, rfl, _⟩ := h
    rfl
  · obtain ⟨q, s, rfl, h, k⟩ := h
    refine ⟨_, (pss_one (ps_ret (pe_ix (k_ixl (K := K) rfl) (k_fld (K := K) rfl (pv 0) rfl) (pe_un un_neg pe_int) (fun _ _ => rfl)))), ?_⟩
    obtain ⟨dx, hq⟩ := h.ob
    obtain ⟨svs, hs, h1, h2⟩ := h.stood
    rw [List.length_append, List.length_singleton, List.length_map] at h1
    have hv : svs[s.hist.length]? = some (svs[s.hist.length]'(by omega)) := List.getElem?_eq_getElem _
    obtain ⟨u, x, y, hu, S⟩ := h2 _ _ s.cur hv (by rw [List.getElem?_append_right (by rw [List.length_map]; exact Nat.le_refl _), List.length_map, Nat.sub_self]; rfl)
    refine ⟨_, rfl, q, CCourse, dx, _, _, rfl, hq, C_Course.cl, C_Course.n2, f3_2, 1, rfl, s.sl, svs, _, _, rfl, rfl, sql hs, at_back h1 hv, ?_⟩
    rw [hu]
    exact k u x y S

abbrev s_Course_told : Stmt := inClass (topS 39) 2
abbrev sl_Course_told : List Str := ["self"]
theorem sc_Course_told : FnScope ["self"] ["self"] (defScope s_Course_told) := ⟨rfl, rfl, rfl, by decide +kernel, rfl, by decide +kernel, by decide +kernel⟩
def spToldL (K : PySem.W.Frag) (C CC : Addr) : Sp := fun vs H Q _ => ∃ (q : Addr) (s : CS), vs = [.ref q] ∧ CrsAt K C CC H q s ∧ ∀ l tvs, H l = none → EvsAt K H tvs (s.hist.map (·.2)) → Q (.ref l) (upd H l (.lst tvs))
theorem ok_Course_told {CMap CCourse : Addr} (B : Bt mg) (C_Course : ClsC K mg "Course" CCourse ["_chart", "_told", "_stood"]) (D0 : DfM K CCourse "told" "Course.told" s_Course_told ["self"]) : HasM P w K mg base CCourse "told" 1 ["self"] (spToldL K CMap CCourse) := by
  refine D0.has fun f fd F => F.ok sc_Course_told (fun vs H Q E h => ?_) (fun cdv A outer s H vs Q E hr h => ?_)
  · obtain ⟨q, s, rfl, _⟩ := h
    rfl
  · obtain ⟨q, s, rfl, h, k⟩ := h
    refine ⟨_, (pss_one (ps_ret (pe_callTy (k_list (K := K) rfl) (by rfl) B.list bo_list (pa_cons (k_fld (K := K) rfl (pv 0) rfl) pa_nil)))), ?_⟩
    obtain ⟨dx, hq⟩ := h.ob
    obtain ⟨tvs, ht, h1⟩ := h.told
    exact ⟨_, rfl, q, CCourse, dx, _, _, rfl, hq, C_Course.cl, C_Course.n1, f3_1 (by decide +kernel), s.tl, tvs, rfl, .inl (sql ht), fun l nl => k l tvs nl h1⟩

abbrev s_Course_check_lot : Stmt := inClass (topS 39) 3
abbrev sl_Course_check_lot : List Str := ["self", "thing"]
theorem sc_Course_check_lot : FnScope ["self", "thing"] ["self", "thing"] (defScope s_Course_check_lot) := ⟨rfl, rfl, rfl, by decide +kernel, rfl, by decide +kernel, by decide +kernel⟩
def spCheckLot (K : PySem.W.Frag) (C CC : Addr) : Sp := fun vs H Q _ => ∃ (q : Addr) (s : CS) (b : Addr) (lot : List Nat), vs = [.ref q, .ref b] ∧ CrsAt K C CC H q s ∧ (¬ ∀ g ∈ s.gs, g ∈ s.cur.1) ∧ SqT K H b (lot.map nV) ∧ lot.Pairwise (· < ·) ∧ lot ≠ [] ∧ (∀ k ∈ lot, k ∈ triesL s.es s.cur.1 s.cur.2) ∧
  ∀ H', Same H H' → Q .non H'
theorem f3_here {u v z : V} : (f3 "_chart" "_told" "_stood" u v z).lookup ("here" : Str) = none := f3_no (by decide +kernel) (by decide +kernel) (by decide +kernel)
theorem CrsAt.chart {K : PySem.W.Frag} {CC C : Addr} {H : Hp} {q : Addr} {s : CS} (h : CrsAt K C CC H q s) : ∃ dx, H q = some (.ins CC dx (crsF s.p s.tl s.sl)) ∧ (crsF s.p s.tl s.sl).lookup ("_chart" : Str) = some (.ref s.p) := by
  obtain ⟨dx, hq⟩ := h.ob
  exact ⟨dx, hq, f3_0 (by decide +kernel) (by decide +kernel)⟩
theorem ok_Course_check_lot {CMap CCourse : Addr} (C_Course : ClsC K mg "Course" CCourse ["_chart", "_told", "_stood"]) (h_done_at : Has P w K mg base "done_at" 2 ["chart", "standing"] (spOf K CMap RDone)) (h_are_tries : Has P w K mg base "are_tries" 4 ["chart", "standing", "thing"] (spAreTries K CMap))
    (h_Course_here : HasM P w K mg base CCourse "here" 1 ["self"] (spHere K CMap CCourse)) (D0 : DfM K CCourse "check_lot" "Course.check_lot" s_Course_check_lot ["self", "thing"]) : HasM P w K mg base CCourse "check_lot" 5 ["self", "thing"] (spCheckLot K CMap CCourse) := by
  refine D0.has fun f fd F => F.ok sc_Course_check_lot (fun vs H Q E h => ?_) (fun cdv A outer s H vs Q E hr h => ?_)
  · obtain ⟨q, s, b, lot, rfl, _⟩ := h
    rfl
  · obtain ⟨q, s, b, lot, rfl, h, hd, hb, hp, hne, ht, k⟩ := h
    refine ⟨_, (pss_cons (ps_if (pt_val (pcall h_done_at hr (by decide) (by rfl) (pa_cons (k_fld (K := K) rfl (pv 0) rfl) (pa_cons (pe_meth0 (pv 0) C_Course.cl h_Course_here.mt h_Course_here.F (hr.mono (by decide)) h_Course_here.b .nil pass0) pa_nil))))
    (pss_one ps_never)
    pss_nil)
  (pss_one (ps_if (pt_not (pt_val (pcall h_are_tries hr (by decide) (by rfl) (pa_cons (k_fld (K := K) rfl (pv 0) rfl) (pa_cons (pe_meth0 (pv 0) C_Course.cl h_Course_here.mt h_Course_here.F (hr.mono (by decide)) h_Course_here.b .nil pass0) (pa_cons (pv 1) pa_nil))))))
    (pss_one ps_never)
    pss_nil))), ?_⟩
    obtain ⟨dx, hq, hc⟩ := h.chart
    refine ⟨_, rfl, q, CCourse, dx, _, _, rfl, hq, C_Course.cl, C_Course.n0, hc, _, rfl, q, dx, _, rfl, hq, f3_here, q, s, rfl, h, fun u x y S => ?_⟩
    refine ⟨s.p, s.n, s.a, s.pvs, s.es, s.c, s.gs, u, x, y, s.cur.1, s.cur.2, rfl, ⟨h.m, S, h.ok⟩, fun v H1 s1 hv => ?_⟩
    have hv' : v = .bl (decide (∀ g ∈ s.gs, g ∈ s.cur.1)) := hv
    subst hv'
    rw [decide_eq_false hd]
    refine ⟨_, rfl, iteF ?_⟩
    have h1 := h.same s1
    obtain ⟨dx1, hq1, hc1⟩ := h1.chart
    refine ⟨_, rfl, q, CCourse, dx1, _, _, rfl, hq1, C_Course.cl, C_Course.n0, hc1, _, rfl, q, dx1, _, rfl, hq1, f3_here, q, s, rfl, h1, fun u x y S => ?_⟩
    refine ⟨_, rfl, s.p, s.n, s.a, s.pvs, s.es, s.c, s.gs, u, x, y, s.cur.1, s.cur.2, b, lot, rfl, ⟨h1.m, S, h.ok⟩, Same.sqt s1 hb, hp, hne, ht, fun H2 s2 => ⟨_, rfl, iteF ?_⟩⟩
    exact k H2 (s1.trans s2)

abbrev s_Course_go_on : Stmt := inClass (topS 39) 4
abbrev sl_Course_go_on : List Str := ["self", "pairs"]
theorem sc_Course_go_on : FnScope ["self", "pairs"] ["self", "pairs"] (defScope s_Course_go_on) := ⟨rfl, rfl, rfl, by decide +kernel, rfl, by decide +kernel, by decide +kernel⟩
def spGoOn (K : PySem.W.Frag) (C CC : Addr) : Sp := fun vs H Q _ => ∃ (q : Addr) (s : CS) (v : V) (ev : Evn), vs = [.ref q, v] ∧ CrsAt K C CC H q s ∧ s.hist.length < 1000 ∧ EvAt K H v ev ∧ ev.length ≤ 400 ∧ (∀ kb ∈ ev, kb.1 ∈ triesL s.es s.cur.1 s.cur.2) ∧ (∀ k, (k, true) ∈ ev → (k, false) ∈ ev → False) ∧
  (∀ g ∈ s.gs, Rch (left s.es (s.cur.2 ++ lostL ev)) [0] g) ∧
  ∀ (rs' ls' : List Nat) (H' : Hp), Kp s.L H H' → BehindR s.es s.cur.1 s.cur.2 ev rs' ls' → CrsAt K C CC H' q { s with hist := s.hist ++ [(s.cur, ev)], cur := (rs', ls') } → Q .non H'
theorem ok_Course_go_on {CMap CCourse : Addr} (C_Course : ClsC K mg "Course" CCourse ["_chart", "_told", "_stood"]) (h_standing_behind : Has P w K mg base "standing_behind" 4 ["chart", "standing", "pairs"] (spBehind K CMap))
    (h_Course_here : HasM P w K mg base CCourse "here" 1 ["self"] (spHere K CMap CCourse)) (D0 : DfM K CCourse "go_on" "Course.go_on" s_Course_go_on ["self", "pairs"]) : HasM P w K mg base CCourse "go_on" 5 ["self", "pairs"] (spGoOn K CMap CCourse) := by
  refine D0.has fun f fd F => F.ok sc_Course_go_on (fun vs H Q E h => ?_) (fun cdv A outer s H vs Q E hr h => ?_)
  · obtain ⟨q, s, v, ev, rfl, _⟩ := h
    rfl
  · obtain ⟨q, s, v, ev, rfl, h, few, hE, hlen, ht, hu, ho, k⟩ := h
    refine ⟨_, (pss_cons (ps_expr (pe_bm PySem.F.plainAttrs_list PySem.F.slot_list_append PySem.F.type_list_append mt_append (k_fld (K := K) rfl (pv 0) rfl) (pa_cons (pcall h_standing_behind hr (by decide) (by rfl) (pa_cons (k_fld (K := K) rfl (pv 0) rfl) (pa_cons (pe_meth0 (pv 0) C_Course.cl h_Course_here.mt h_Course_here.F (hr.mono (by decide)) h_Course_here.b .nil pass0) (pa_cons (pv 1) pa_nil)))) pa_nil)))
  (pss_one (ps_expr (pe_bm PySem.F.plainAttrs_list PySem.F.slot_list_append PySem.F.type_list_append mt_append (k_fld (K := K) rfl (pv 0) rfl) (pa_cons (pv 1) pa_nil))))), ?_⟩
    obtain ⟨dx, hq, hc⟩ := h.chart
    obtain ⟨svs, hs, hsv⟩ := h.stood
    obtain ⟨tvs, htl, htv⟩ := h.told
    have l1 := hsv.1
    rw [List.length_append, List.length_singleton, List.length_map] at l1
    have l2 := htv.1
    rw [List.length_map] at l2
    refine ⟨_, rfl, q, CCourse, dx, _, _, rfl, hq, C_Course.cl, C_Course.n2, f3_2, .inl ⟨rfl, _, sql hs⟩, ?_⟩
    refine ⟨_, rfl, q, CCourse, dx, _, _, rfl, hq, C_Course.cl, C_Course.n0, hc, _, rfl, q, dx, _, rfl, hq, f3_here, q, s, rfl, h, fun u x y S => ?_⟩
    refine ⟨_, rfl, s.p, s.n, s.a, s.pvs, s.es, s.c, s.gs, u, x, y, s.cur.1, s.cur.2, v, ev, rfl, ⟨h.m, S, h.ok⟩, h.n62, h.e62, hE, hlen, ht, fun z x' y' rs' ls' H1 s1 S1 R1 _ => ?_, fun hn => absurd ho hn⟩
    have h1 := h.same s1
    have hs1 := s1 _ _ hs
    have ht1 := s1 _ _ htl
    refine ⟨s.sl, svs, _, rfl, rfl, hs1, small_lt (by omega : svs.length ≤ 100000), ?_⟩
    have k1 : Kp s.L H1 (upd H1 s.sl (.lst (svs ++ [.ref z]))) := kp_upd (by simp)
    have n1 : Nl H1 (upd H1 s.sl (.lst (svs ++ [.ref z]))) := nl_upd hs1
    have ht2 : upd H1 s.sl (.lst (svs ++ [.ref z])) s.tl = some (.lst tvs) := by rw [upd_ne h.ne]; exact ht1
    obtain ⟨dx2, hq2⟩ := h1.ob
    refine ⟨_, rfl, q, CCourse, dx2, _, _, rfl, n1 _ _ notL_ins hq2, C_Course.cl, C_Course.n1, f3_1 (by decide +kernel), .inl ⟨rfl, _, sql ht2⟩, ?_⟩
    refine ⟨_, rfl, s.tl, tvs, _, rfl, rfl, ht2, small_lt (by omega : tvs.length ≤ 100000), ?_⟩
    have k2 : Kp s.L (upd H1 s.sl (.lst (svs ++ [.ref z]))) (upd (upd H1 s.sl (.lst (svs ++ [.ref z]))) s.tl (.lst (tvs ++ [v]))) := kp_upd (by simp)
    have n2 := n1.trans (nl_upd (o := .lst (tvs ++ [v])) ht2)
    have nA := (Same.nl s1).trans n2
    refine k rs' ls' _ ((Same.kp s1).trans (k1.trans k2)) R1 ?_
    have okn := R1.std h.ok h.m.ok ht hu ho
    refine ⟨⟨dx2, n2 _ _ notL_ins hq2⟩, h1.m.nl n2, ⟨tvs ++ [v], upd_same, ?_⟩, ⟨svs ++ [.ref z], ?_, ?_⟩, h.ne, okn, fun w hw => ?_, h.n62, h.e62, ?_, fun w hw => ?_⟩
    · show EvsAt K _ (tvs ++ [v]) ((s.hist ++ [(s.cur, ev)]).map (·.2))
      rw [List.map_append]
      exact (htv.nl nA).snoc (hE.nl nA)
    · show upd (upd H1 s.sl (.lst (svs ++ [.ref z]))) s.tl (.lst (tvs ++ [v])) s.sl = _
      rw [upd_ne h.ne.symm, upd_same]
    · show StsAt K _ (svs ++ [.ref z]) ((s.hist ++ [(s.cur, ev)]).map (·.1) ++ [(rs', ls')])
      rw [List.map_append]
      exact StsAt.snoc (st := (rs', ls')) (hsv.nl nA) (S1.nl n2)
    · rcases List.mem_append.mp hw with hw | hw
      · exact h.oks w hw
      · rw [List.mem_singleton.mp hw]
        exact h.ok
    · show (s.hist ++ [(s.cur, ev)]).length ≤ 1000
      rw [List.length_append]
      exact few
    · rcases List.mem_append.mp hw with hw | hw
      · exact h.evs w hw
      · rw [List.mem_singleton.mp hw]
        show ev.length ≤ 1000
        omega

abbrev s_Course_go_back : Stmt := inClass (topS 39) 5
abbrev sl_Course_go_back : List Str := ["self"]
theorem sc_Course_go_back : FnScope ["self"] ["self"] (defScope s_Course_go_back) := ⟨rfl, rfl, rfl, by decide +kernel, rfl, by decide +kernel, by decide +kernel⟩
def spGoBack (K : PySem.W.Frag) (C CC : Addr) : Sp := fun vs H Q _ => ∃ (q : Addr) (s : CS), vs = [.ref q] ∧ CrsAt K C CC H q s ∧
  ((s.hist = [] ∧ Q (.bl false) H) ∨ ∃ (h0 : List (Stg × Evn)) (x : Stg × Evn), s.hist = h0 ++ [x] ∧ ∀ H', Kp s.L H H' → CrsAt K C CC H' q { s with hist := h0, cur := x.1 } → Q (.bl true) H')
theorem ok_Course_go_back {CMap CCourse : Addr} (B : Bt mg) (C_Course : ClsC K mg "Course" CCourse ["_chart", "_told", "_stood"]) (D0 : DfM K CCourse "go_back" "Course.go_back" s_Course_go_back ["self"]) : HasM P w K mg base CCourse "go_back" 1 ["self"] (spGoBack K CMap CCourse) := by
  refine D0.has fun f fd F => F.ok sc_Course_go_back (fun vs H Q E h => ?_) (fun cdv A outer s H vs Q E hr h => ?_)
  · obtain ⟨q, s, rfl, _⟩ := h
    rfl
  · obtain ⟨q, s, rfl, h, k⟩ := h
    refine ⟨_, (pss_cons (ps_if (pt_cmpR op_eq (pe_callB (k_len (K := K) rfl) (by rfl) B.len bo_len (pa_cons (k_fld (K := K) rfl (pv 0) rfl) pa_nil)) pe_int (nomark _))
    (pss_one (ps_ret pe_bl))
    pss_nil)
  (pss_cons (ps_expr (pe_bm0 PySem.F.plainAttrs_list PySem.F.slot_list_pop PySem.F.type_list_pop mt_pop (k_fld (K := K) rfl (pv 0) rfl)))
  (pss_cons (ps_expr (pe_bm0 PySem.F.plainAttrs_list PySem.F.slot_list_pop PySem.F.type_list_pop mt_pop (k_fld (K := K) rfl (pv 0) rfl)))
  (pss_one (ps_ret pe_bl))))), ?_⟩
    obtain ⟨dx, hq⟩ := h.ob
    obtain ⟨svs, hs, hsv⟩ := h.stood
    obtain ⟨tvs, ht, htv⟩ := h.told
    have l1 := hsv.1
    rw [List.length_append, List.length_singleton, List.length_map] at l1
    have l2 := htv.1
    rw [List.length_map] at l2
    refine ⟨_, rfl, q, CCourse, dx, _, _, rfl, hq, C_Course.cl, C_Course.n1, f3_1 (by decide +kernel), s.tl, tvs, rfl, .inl (sql ht), rfl, _, rfl, ?_⟩
    rcases k with ⟨e0, k⟩ | ⟨h0, x, e0, k⟩
    · rw [show tvs.length = 0 by rw [l2, e0]; rfl]
      exact iteT k
    · rw [e0, List.length_append, List.length_singleton] at l1 l2
      rw [decide_eq_false (show ¬ (V.int (tvs.length : Int) = V.int 0) from fun z => by injection z with z; omega)]
      refine iteF ?_
      obtain ⟨yt, hyt⟩ : ∃ v, tvs[tvs.length - 1]? = some v := ⟨_, List.getElem?_eq_getElem (by omega)⟩
      refine ⟨_, rfl, q, CCourse, dx, _, _, rfl, hq, C_Course.cl, C_Course.n1, f3_1 (by decide +kernel), .inl ⟨rfl, _, sql ht⟩, s.tl, tvs, yt, rfl, rfl, ht, hyt, ?_⟩
      have k1 : Kp s.L H (upd H s.tl (.lst tvs.dropLast)) := kp_upd (by simp)
      have n1 : Nl H (upd H s.tl (.lst tvs.dropLast)) := nl_upd ht
      have hs1 : upd H s.tl (.lst tvs.dropLast) s.sl = some (.lst svs) := by rw [upd_ne h.ne.symm]; exact hs
      obtain ⟨ys, hys⟩ : ∃ v, svs[svs.length - 1]? = some v := ⟨_, List.getElem?_eq_getElem (by omega)⟩
      refine ⟨_, rfl, q, CCourse, dx, _, _, rfl, n1 _ _ notL_ins hq, C_Course.cl, C_Course.n2, f3_2, .inl ⟨rfl, _, sql hs1⟩, s.sl, svs, ys, rfl, rfl, hs1, hys, ?_⟩
      have k2 : Kp s.L (upd H s.tl (.lst tvs.dropLast)) (upd (upd H s.tl (.lst tvs.dropLast)) s.sl (.lst svs.dropLast)) := kp_upd (by simp)
      have n2 := n1.trans (nl_upd (o := .lst svs.dropLast) hs1)
      refine k _ (k1.trans k2) ?_
      rw [e0, List.map_append] at htv hsv
      refine ⟨⟨dx, n2 _ _ notL_ins hq⟩, h.m.nl n2, ⟨tvs.dropLast, ?_, (htv.nl n2).front⟩, ⟨svs.dropLast, upd_same, (hsv.nl n2).front⟩, h.ne, h.oks x (by rw [e0]; simp), fun w hw => h.oks w (by rw [e0]; exact List.mem_append_left _ hw), h.n62, h.e62, ?_, fun w hw => h.evs w (by rw [e0]; exact List.mem_append_left _ hw)⟩
      · show upd (upd H s.tl (.lst tvs.dropLast)) s.sl (.lst svs.dropLast) s.tl = _
        rw [upd_ne h.ne, upd_same]
      · have := h.few
        rw [e0, List.length_append] at this
        show h0.length ≤ 1000
        omega

/-- the arrow is worth a try -/
def IsWorth (es : Es) (gs rs ls : List Nat) (k : Nat) : Prop := k ∈ triesL es rs ls ∧ ∃ e, es[k]? = some e ∧ Alive es gs rs ls e.2
def Wise (es : Es) (gs : List Nat) (hist : List (Stg × Evn)) : Prop := ∀ x ∈ hist, ∀ kb ∈ x.2, IsWorth es gs x.1.1 x.1.2 kb.1

abbrev s_Course__was_worth : Stmt := inClass (topS 39) 9
abbrev sl_Course__was_worth : List Str := ["self", "k", "worthy", "arrow", "_"]
theorem sc_Course__was_worth : FnScope ["self", "k", "worthy", "arrow", "_"] ["self", "k"] (defScope s_Course__was_worth) := ⟨rfl, rfl, rfl, by decide +kernel, rfl, by decide +kernel, by decide +kernel⟩
def spWasWorth (K : PySem.W.Frag) (C CC : Addr) : Sp := fun vs H Q _ => ∃ (q : Addr) (s : CS) (k : Nat) (x : Stg × Evn), vs = [.ref q, nV k] ∧ CrsAt K C CC H q s ∧ s.hist[k]? = some x ∧ ∀ H' b, Same H H' → (b = true ↔ ∀ kb ∈ x.2, IsWorth s.es s.gs x.1.1 x.1.2 kb.1) → Q (.bl b) H'
theorem ok_Course__was_worth {CMap CCourse : Addr} (B : Bt mg) (C_Course : ClsC K mg "Course" CCourse ["_chart", "_told", "_stood"]) (h_worth_at : Has P w K mg base "worth_at" 5 ["chart", "standing"] (spOf K CMap RWorth)) (D0 : DfM K CCourse "_was_worth" "Course._was_worth" s_Course__was_worth ["self", "k"]) :
    HasM P w K mg base CCourse "_was_worth" 6 ["self", "k"] (spWasWorth K CMap CCourse) := by
  refine D0.has fun f fd F => F.ok sc_Course__was_worth (fun vs H Q E h => ?_) (fun cdv A outer s H vs Q E hr h => ?_)
  · obtain ⟨q, s, k, x, rfl, _⟩ := h
    rfl
  · obtain ⟨q, s, k, x, rfl, h, hx, k0⟩ := h
    refine ⟨_, (pss_cons (ps_set (i := 2) sc_Course__was_worth.nd rfl (.inr rfl) (pcall h_worth_at hr (by decide) (by rfl) (pa_cons (k_fld (K := K) rfl (pv 0) rfl) (pa_cons (pe_ix (k_ixl (K := K) rfl) (k_fld (K := K) rfl (pv 0) rfl) (pv 1) (fun _ _ => rfl)) pa_nil))))
  (pss_one (ps_ret (pe_callB (k_all (K := K) rfl rfl) (by rfl) B.all bo_all (pa_cons (pe_lc (own := [("arrow", 3), ("_", 4)]) (g := gTup K 2 (gCons (gName 3) (gCons (gName 4) gNil))) rfl sc_Course__was_worth.nd (k_pit (K := K) rfl (pe_ix (k_ixl (K := K) rfl) (k_fld (K := K) rfl (pv 0) rfl) (pv 1) (fun _ _ => rfl))) (blkOk_by (N := sl_Course__was_worth) (sc := defScope s_Course__was_worth) (by decide +kernel)) (fun _ _ _ _ _ => (pg_tup rfl (pgs_cons (pg_name (i := 3) sc_Course__was_worth.nd rfl (.inl rfl)) (pgs_cons (pg_name (i := 4) sc_Course__was_worth.nd rfl (.inl rfl)) pgs_nil)))) (fun _ _ _ _ _ => pts_nil) (fun _ _ _ _ _ => (pe_cmpR (k_in (K := K) rfl) (pv 3) (pv 2) (by rfl)))) pa_nil))))), ?_⟩
    obtain ⟨dx, hq, hc⟩ := h.chart
    obtain ⟨svs, hs, hsv⟩ := h.stood
    obtain ⟨tvs, ht, htv⟩ := h.told
    have hk := (List.getElem?_eq_some_iff.mp hx).1
    have l1 := hsv.1
    rw [List.length_append, List.length_singleton, List.length_map] at l1
    have l2 := htv.1
    rw [List.length_map] at l2
    have hv : svs[k]? = some (svs[k]'(by omega)) := List.getElem?_eq_getElem _
    obtain ⟨u, x1, y1, hu, S⟩ := hsv.2 k _ x.1 hv (by rw [List.getElem?_append_left (by rw [List.length_map]; exact hk), List.getElem?_map, hx]; rfl)
    refine ⟨_, rfl, q, CCourse, dx, _, _, rfl, hq, C_Course.cl, C_Course.n0, hc, _, rfl, q, CCourse, dx, _, _, rfl, hq, C_Course.cl, C_Course.n2, f3_2, _, rfl, s.sl, svs, (k : Int), _, rfl, rfl, sql hs, atI_nat hv, ?_⟩
    rw [hu]
    refine ⟨s.p, s.n, s.a, s.pvs, s.es, s.c, s.gs, u, x1, y1, x.1.1, x.1.2, rfl, ⟨h.m, S, h.oks x (List.mem_of_getElem? hx)⟩, fun v H1 s1 hw => ?_⟩
    obtain ⟨wA, ws, rfl, nw, hw1, hw2, hw3⟩ := hw
    obtain ⟨dx1, hq1⟩ := (h.same s1).ob
    have ht1 := s1 _ _ ht
    have hvt : tvs[k]? = some (tvs[k]'(by omega)) := List.getElem?_eq_getElem _
    obtain ⟨eA, pts, hee, hpt, hpl, hpp⟩ := (htv.nl (Same.nl s1)).2 k _ x.2 hvt (by rw [List.getElem?_map, hx]; rfl)
    have hevl := h.evs x (List.mem_of_getElem? hx)
    refine ⟨_, rfl, q, CCourse, dx1, _, _, rfl, hq1, C_Course.cl, C_Course.n1, f3_1 (by decide +kernel), _, rfl, s.tl, tvs, (k : Int), _, rfl, rfl, sql ht1, atI_nat hvt, eA, hee, ⟨_, hpt⟩, fun D nD => ?_⟩
    refine lc_val walk_tup calm_at (fun i => (x.2[i]?).bind fun kb => some (V.bl (decide (kb.1 ∈ ws)))) (by omega) nD (fun H3 s3 => Same.sqt s3 hpt) ?_ fun H3 s3 h3 => ?_
    · rintro i v H3 H4 hi s3 ⟨rfl, hv⟩ Kt kt
      have hie : i < x.2.length := by omega
      obtain ⟨tt, rfl, htt⟩ := hpp i v x.2[i] hv (List.getElem?_eq_getElem hie)
      have k1 := kt _ (Same.refl _)
      rw [List.getElem?_eq_getElem hie] at k1
      refine ⟨tt, _, rfl, Same.sqt s3 htt, rfl, _, _, rfl, _, _, rfl, rfl, rfl, tyes ?_⟩
      refine iteT ?_
      refine ⟨_, rfl, _, rfl, wA, _, rfl, .inr (sqt (s3 _ _ hw1)), rfl, flat_nats _, ?_⟩
      rw [if_neg Bool.false_ne_true, inV_nats]
      exact k1
    · rw [hpl, fm_range, fm_some] at h3
      refine ⟨D, x.2.map fun kb => decide (kb.1 ∈ ws), rfl, sql (by rw [h3, List.map_map]; rfl), ?_⟩
      refine k0 H3 _ (s1.trans s3) ?_
      rw [List.all_eq_true]
      constructor
      · intro h kb hkb
        exact (hw3 _).mp (of_decide_eq_true (h _ (List.mem_map.mpr ⟨kb, hkb, rfl⟩)))
      · intro h z hz
        obtain ⟨kb, hkb, rfl⟩ := List.mem_map.mp hz
        exact decide_eq_true ((hw3 _).mpr (h kb hkb))

abbrev s_Course_all_worth : Stmt := inClass (topS 39) 7
abbrev sl_Course_all_worth : List Str := ["self", "k"]
theorem sc_Course_all_worth : FnScope ["self", "k"] ["self"] (defScope s_Course_all_worth) := ⟨rfl, rfl, rfl, by decide +kernel, rfl, by decide +kernel, by decide +kernel⟩
def spAllWorth (K : PySem.W.Frag) (C CC : Addr) : Sp := fun vs H Q _ => ∃ (q : Addr) (s : CS), vs = [.ref q] ∧ CrsAt K C CC H q s ∧ ∀ H' b, Same H H' → (b = true ↔ Wise s.es s.gs s.hist) → Q (.bl b) H'
theorem f3_was {u v z : V} : (f3 "_chart" "_told" "_stood" u v z).lookup ("_was_worth" : Str) = none := f3_no (by decide +kernel) (by decide +kernel) (by decide +kernel)
theorem ok_Course_all_worth {CMap CCourse : Addr} (B : Bt mg) (C_Course : ClsC K mg "Course" CCourse ["_chart", "_told", "_stood"]) (h_Course__was_worth : HasM P w K mg base CCourse "_was_worth" 6 ["self", "k"] (spWasWorth K CMap CCourse)) (D0 : DfM K CCourse "all_worth" "Course.all_worth" s_Course_all_worth ["self"]) :
    HasM P w K mg base CCourse "all_worth" 7 ["self"] (spAllWorth K CMap CCourse) := by
  refine D0.has fun f fd F => F.ok sc_Course_all_worth (fun vs H Q E h => ?_) (fun cdv A outer s H vs Q E hr h => ?_)
  · obtain ⟨q, s, rfl, _⟩ := h
    rfl
  · obtain ⟨q, s, rfl, h, k0⟩ := h
    refine ⟨_, (pss_one (ps_ret (pe_callB (k_all (K := K) rfl rfl) (by rfl) B.all bo_all (pa_cons (pe_lc (own := [("k", 1)]) (g := gName 1) rfl sc_Course_all_worth.nd (pi_range1 (by rfl) B.range (pa_cons (pe_callB (k_len (K := K) rfl) (by rfl) B.len bo_len (pa_cons (k_fld (K := K) rfl (pv 0) rfl) pa_nil)) pa_nil)) (blkOk_by (N := sl_Course_all_worth) (sc := defScope s_Course_all_worth) (by decide +kernel)) (fun _ _ _ _ _ => (pg_name (i := 1) sc_Course_all_worth.nd rfl (.inl rfl))) (fun _ _ _ _ _ => pts_nil) (fun _ _ _ _ _ => (pe_meth (pv 0) C_Course.cl h_Course__was_worth.mt h_Course__was_worth.F (hr.mono (by decide)) h_Course__was_worth.b .nil pass0 (pa_cons (pv 1) pa_nil)))) pa_nil)))), ?_⟩
    obtain ⟨dx, hq⟩ := h.ob
    obtain ⟨tvs, ht, htv⟩ := h.told
    have l2 := htv.1
    rw [List.length_map] at l2
    have few := h.few
    refine ⟨_, rfl, q, CCourse, dx, _, _, rfl, hq, C_Course.cl, C_Course.n1, f3_1 (by decide +kernel), s.tl, tvs, rfl, .inl (sql ht), tvs.length, rfl, by omega, by omega, fun D nD => ?_⟩
    refine lc_rel walk_range calm_fn (fun i _ o => ∃ x b, s.hist[i]? = some x ∧ o = some (V.bl b) ∧ (b = true ↔ ∀ kb ∈ x.2, IsWorth s.es s.gs x.1.1 x.1.2 kb.1)) (fun i o H H' acc _ h _ => h) (by show ((tvs.length : Nat) : Int).toNat ≤ 100000; omega) nD (fun _ _ => trivial) ?_ fun H3 os s3 hl hr h3 => ?_
    · rintro i v H3 H4 hi s3 ⟨rfl, rfl⟩ Kt kt
      have hi' : i < s.hist.length := by
        have : i < ((tvs.length : Nat) : Int).toNat := hi
        omega
      have e0 : (0 : Int) + (i : Int) = (i : Int) := Int.zero_add _
      have h3 := h.same s3
      obtain ⟨dx3, hq3⟩ := h3.ob
      refine ⟨rfl, tyes ?_⟩
      refine iteT ?_
      refine ⟨_, rfl, q, dx3, _, rfl, hq3, f3_was, _, rfl, q, s, i, s.hist[i], by show [V.ref q, V.int ((0 : Int) + (i : Int))] = [V.ref q, nV i]; rw [e0]; rfl, h3, List.getElem?_eq_getElem hi', fun H5 b s5 hb => ?_⟩
      exact kt _ _ s5 ⟨_, b, List.getElem?_eq_getElem hi', rfl, hb⟩
    · have hln : os.length = s.hist.length := by
        have : os.length = ((tvs.length : Nat) : Int).toNat := hl
        omega
      have hbs : ∃ bs : List Bool, os = bs.map (fun b => some (V.bl b)) ∧ bs.length = s.hist.length ∧ ∀ (i : Nat) (b : Bool) (x : Stg × Evn), bs[i]? = some b → s.hist[i]? = some x → (b = true ↔ ∀ kb ∈ x.2, IsWorth s.es s.gs x.1.1 x.1.2 kb.1) := by
        refine ⟨os.map fun o => match o with | some (.bl b) => b | _ => false, ?_, by rw [List.length_map]; exact hln, fun i b x h1 h2 => ?_⟩
        · rw [List.map_map]
          refine (List.map_id os).symm.trans (List.map_congr_left fun o ho => ?_)
          obtain ⟨i, hi⟩ := List.mem_iff_getElem?.mp ho
          obtain ⟨x, b, _, e, _⟩ := hr i o hi
          rw [e]
          rfl
        · rw [List.getElem?_map] at h1
          obtain ⟨o, ho, e1⟩ := Option.map_eq_some_iff.mp h1
          obtain ⟨x', b', hx', e, hb'⟩ := hr i o ho
          rw [h2] at hx'
          cases hx'
          rw [e] at e1
          cases e1
          exact hb'
      obtain ⟨bs, rfl, hbl, hb⟩ := hbs
      rw [List.filterMap_map, show (id ∘ fun b : Bool => some (V.bl b)) = fun b => some (V.bl b) from rfl, fm_some] at h3
      refine ⟨D, bs, rfl, sql h3, k0 H3 _ s3 ?_⟩
      rw [List.all_eq_true]
      constructor
      · intro h x hx
        obtain ⟨i, hi⟩ := List.mem_iff_getElem?.mp hx
        have hil := (List.getElem?_eq_some_iff.mp hi).1
        have e1 : bs[i]? = some bs[i] := List.getElem?_eq_getElem (by omega)
        exact (hb i _ x e1 hi).mp (h _ (List.mem_of_getElem? e1))
      · intro h b hbm
        obtain ⟨i, hi⟩ := List.mem_iff_getElem?.mp hbm
        have hil := (List.getElem?_eq_some_iff.mp hi).1
        have e1 : s.hist[i]? = some s.hist[i] := List.getElem?_eq_getElem (by omega)
        exact (hb i b _ hi e1).mpr (h _ (List.mem_of_getElem? e1))

abbrev s_Party___init__ : Stmt := inClass (topS 41) 0
abbrev sl_Party___init__ : List Str := ["self", "chart", "world"]
theorem sc_Party___init__ : FnScope ["self", "chart", "world"] ["self", "chart", "world"] (defScope s_Party___init__) := ⟨rfl, rfl, rfl, by decide +kernel, rfl, by decide +kernel, by decide +kernel⟩
/-- a party in its world -/
structure PtyAt (K : PySem.W.Frag) (C CC CP : Addr) (H : Hp) (P w : Addr) (W : List Nat) (q : Addr) (s : CS) : Prop where
  ob : ∃ dx, H P = some (.ins CP dx (f3 "_chart" "_world" "_course" (.ref s.p) (.ref w) (.ref q)))
  wd : SqT K H w (W.map nV)
  crs : CrsAt K C CC H q s
  wl : W.length ≤ 1000
  opn : ∀ g ∈ s.gs, Rch (left s.es W) [0] g
  inw : ∀ l ∈ s.cur.2, l ∈ W
  inws : ∀ x ∈ s.hist, ∀ l ∈ x.1.2, l ∈ W
  ans : ∀ x ∈ s.hist, ∀ kb ∈ x.2, kb.2 = decide (kb.1 ∉ W)
theorem PtyAt.keep {K : PySem.W.Frag} {C CC CP : Addr} {H H' : Hp} {P w : Addr} {W : List Nat} {q : Addr} {s : CS} (h : PtyAt K C CC CP H P w W q s) (n : Nl H H') (k1 : ∀ o, H s.tl = some o → H' s.tl = some o) (k2 : ∀ o, H s.sl = some o → H' s.sl = some o) : PtyAt K C CC CP H' P w W q s :=
  ⟨h.ob.elim fun dx e => ⟨dx, n _ _ notL_ins e⟩, n.sqt h.wd, h.crs.keep n k1 k2, h.wl, h.opn, h.inw, h.inws, h.ans⟩
theorem PtyAt.same {K : PySem.W.Frag} {C CC CP : Addr} {H H' : Hp} {P w : Addr} {W : List Nat} {q : Addr} {s : CS} (h : PtyAt K C CC CP H P w W q s) (n : Same H H') : PtyAt K C CC CP H' P w W q s := h.keep (Same.nl n) (fun o e => n _ o e) fun o e => n _ o e
def spPtyInit (K : PySem.W.Frag) (C CC CP : Addr) : Sp := fun vs H Q _ => ∃ (P dx p : Addr) (n : Nat) (a : Addr) (pvs : List V) (es : Es) (c : Addr) (gs : List Nat) (w : Addr) (W : List Nat), vs = [.ref P, .ref p, .ref w] ∧ H P = some (.ins CP dx []) ∧ MapOk K C H p n a pvs es c gs ∧ n ≤ 62 ∧ es.length ≤ 62 ∧ StdOk n es gs [0] [] ∧
  SqT K H w (W.map nV) ∧ W.Pairwise (· < ·) ∧ (∀ l ∈ W, l < es.length) ∧ (∀ g ∈ gs, Rch (left es W) [0] g) ∧
  ∀ (q tl sl : Addr) (H' : Hp), (∀ b o, b ≠ P → H b = some o → H' b = some o) → H tl = none → H sl = none → PtyAt K C CC CP H' P w W q ⟨p, tl, sl, n, a, pvs, es, c, gs, [], ([0], [])⟩ → Q .non H'
theorem ok_Party_init {CMap CCourse CParty : Addr} (C_Course : ClsC K mg "Course" CCourse ["_chart", "_told", "_stood"]) (C_Party : ClsC K mg "Party" CParty ["_chart", "_world", "_course"]) (h_is_world : Has P w K mg base "is_world" 4 ["chart", "thing"] (spWorldG K CMap))
    (h_Course_init : HasI P w K mg base CCourse 2 ["self", "chart"] (spCrsInit K CMap CCourse)) (D0 : DfI K CParty "Party.__init__" s_Party___init__ ["self", "chart", "world"]) : HasI P w K mg base CParty 5 ["self", "chart", "world"] (spPtyInit K CMap CCourse CParty) := by
  refine D0.has fun f fd F => F.ok sc_Party___init__ (fun vs H Q E h => ?_) (fun cdv A outer s H vs Q E hr h => ?_)
  · obtain ⟨P, dx, p, n, a, pvs, es, c, gs, w, W, rfl, _⟩ := h
    rfl
  · obtain ⟨P, dx, p, n, a, pvs, es, c, gs, w, W, rfl, hP, m, n62, e62, o, hw, wp, wn, wo, k⟩ := h
    refine ⟨_, (pss_cons (ps_if (pt_not (pt_val (pcall h_is_world hr (by decide) (by rfl) (pa_cons (pv 1) (pa_cons (pv 2) pa_nil)))))
    (pss_one ps_never)
    pss_nil)
  (pss_cons (ps_fld (pv 0) (pv 1) rfl)
  (pss_cons (ps_fld (pv 0) (pv 2) rfl)
  (pss_one (ps_fld (pv 0) (pe_make h_Course_init.m h_Course_init.F (hr.mono (by decide)) (by rfl) C_Course.mg h_Course_init.b .nil pass0 (pa_cons (pv 1) pa_nil)) rfl))))), ?_⟩
    refine ⟨_, rfl, _, rfl, p, n, a, pvs, es, c, gs, .ref w, rfl, m, .inl ⟨w, _, rfl, hw, knI_nat, fun H1 ok s1 hok => ⟨_, rfl, ?_⟩⟩⟩
    rw [hok.mpr ⟨W, rfl, wp, wn, wo⟩]
    refine iteF ?_
    have hP1 := s1 _ _ hP
    refine ⟨_, rfl, _, rfl, P, CParty, dx, _, rfl, hP1, C_Party.cl, C_Party.n0, by show 0 < 1000; decide, ?_⟩
    refine ⟨_, rfl, _, rfl, P, CParty, dx, _, rfl, upd_same, C_Party.cl, C_Party.n1, by show 1 < 1000; decide, ?_⟩
    rw [upd_upd]
    refine ⟨_, rfl, fun q dq nq ndq neq => ?_⟩
    -- all but the party's own object stays
    have st : ∀ {H3 : Hp}, (∀ b o, b ≠ P → H1 b = some o → H3 b = some o) → ∀ {b : Addr} {xs : List V}, SqT K H b xs → SqT K H3 b xs := fun {H3} kk {b xs} h => by
      have h := Same.sqt s1 h
      rcases h with (h | ⟨o, h⟩) | h
      · exact .inl (.inl (kk _ _ (ne_of h hP1 (by intro z; cases z)) h))
      · exact .inl (.inr ⟨o, kk _ _ (ne_of h hP1 (by intro z; cases z)) h⟩)
      · exact .inr h
    have sm : ∀ {H3 : Hp}, (∀ b o, b ≠ P → H1 b = some o → H3 b = some o) → MapOk K CMap H3 p n a pvs es c gs := fun {H3} kk => by
      obtain ⟨d1, hd1⟩ := (m.same s1).at_.ob
      have npP : p ≠ P := fun z => by
        rw [z, hP1] at hd1
        have hd1 := Option.some.inj hd1
        injection hd1 with _ _ e3
        have e4 := mapF_m n a c
        rw [← e3] at e4
        cases e4
      exact ⟨⟨⟨d1, kk _ _ npP hd1⟩, st kk m.at_.ar, st kk m.at_.go⟩, ⟨m.pr.len, fun i v e g1 g2 => (m.pr.at_ i v e g1 g2).elim fun t ⟨h1, h2⟩ => ⟨t, h1, st kk h2⟩⟩, m.n0, m.n1, m.el, m.gn, m.ok, m.gl⟩
    have qP : q ≠ P := fun z => by
      rw [z, upd_same] at nq
      cases nq
    have dP : dq ≠ P := fun z => by
      rw [z, upd_same] at ndq
      cases ndq
    have nq1 : H1 q = none := by
      rw [upd_ne qP] at nq
      exact nq
    have nd1 : H1 dq = none := by
      rw [upd_ne dP] at ndq
      exact ndq
    have k2 : ∀ b o, b ≠ P → H1 b = some o → upd (upd (upd H1 P (.ins CParty dx (putF "_world" (.ref w) (putF "_chart" (.ref p) [])))) dq (.own q)) q (.ins CCourse dq []) b = some o := fun b o nb e => by
      rw [upd_ne (ne_of_none e nq1), upd_ne (ne_of_none e nd1), upd_ne nb]
      exact e
    refine ⟨q, dq, p, n, a, pvs, es, c, gs, rfl, upd_same, sm k2, n62, e62, o, fun tl sl H3 k3 ntl nsl h3 => ⟨rfl, ?_⟩⟩
    have P3 : H3 P = some (.ins CParty dx (putF "_world" (.ref w) (putF "_chart" (.ref p) []))) := k3 P _ qP.symm (by rw [upd_ne qP.symm, upd_ne dP.symm, upd_same])
    refine ⟨_, rfl, P, CParty, dx, _, rfl, P3, C_Party.cl, C_Party.n2, Nat.lt_of_le_of_lt (putF_len _ _ _) (by show 1 + 1 < 1000; decide), ?_⟩
    have gone : ∀ {b : Addr}, upd (upd (upd H1 P (.ins CParty dx (putF "_world" (.ref w) (putF "_chart" (.ref p) [])))) dq (.own q)) q (.ins CCourse dq []) b = none → H b = none := fun {b} e => by
      cases e1 : H b with
      | none => rfl
      | some u =>
        by_cases z : b = P
        · rw [z, upd_ne qP.symm, upd_ne dP.symm, upd_same] at e
          cases e
        · rw [k2 b u z (s1 _ _ e1)] at e
          cases e
    have tP : tl ≠ P := fun z => by
      rw [z, upd_ne qP.symm, upd_ne dP.symm, upd_same] at ntl
      cases ntl
    have sP : sl ≠ P := fun z => by
      rw [z, upd_ne qP.symm, upd_ne dP.symm, upd_same] at nsl
      cases nsl
    have k4 : ∀ b o, b ≠ P → H1 b = some o → upd H3 P (.ins CParty dx (f3 "_chart" "_world" "_course" (.ref p) (.ref w) (.ref q))) b = some o := fun b o nb e => by
      rw [upd_ne nb]
      exact k3 b o (ne_of_none e nq1) (k2 b o nb e)
    have hn : ∀ b o, b ≠ P → H3 b = some o → upd H3 P (.ins CParty dx (f3 "_chart" "_world" "_course" (.ref p) (.ref w) (.ref q))) b = some o := fun b o nb e => by
      rw [upd_ne nb]
      exact e
    have sq3 : ∀ {b : Addr} {xs : List V}, SqT K H3 b xs → SqT K (upd H3 P (.ins CParty dx (f3 "_chart" "_world" "_course" (.ref p) (.ref w) (.ref q)))) b xs := fun {b xs} h => by
      rcases h with (h | ⟨o, h⟩) | h
      · exact .inl (.inl (hn _ _ (ne_of h P3 (by intro z; cases z)) h))
      · exact .inl (.inr ⟨o, hn _ _ (ne_of h P3 (by intro z; cases z)) h⟩)
      · exact .inr h
    refine k q tl sl _ (fun b o nb e => k4 b o nb (s1 _ _ e)) (gone ntl) (gone nsl) ⟨⟨dx, upd_same⟩, st k4 hw, ?_, ?_, wo, fun l hl => (List.not_mem_nil hl).elim, fun x hx => (List.not_mem_nil hx).elim, fun x hx => (List.not_mem_nil hx).elim⟩
    · obtain ⟨dq3, hq3⟩ := h3.ob
      obtain ⟨tvs, t1, t2⟩ := h3.told
      obtain ⟨svs, u1, u2⟩ := h3.stood
      refine ⟨⟨dq3, hn _ _ qP hq3⟩, sm k4, ⟨tvs, hn _ _ tP t1, t2.1, fun i v ev _ h => (by simp at h)⟩, ⟨svs, hn _ _ sP u1, u2.1, fun i v st0 a1 a2 => ?_⟩, h3.ne, h3.ok, h3.oks, n62, e62, h3.few, h3.evs⟩
      obtain ⟨u, x, y, hu, S⟩ := u2.2 i v st0 a1 a2
      exact ⟨u, x, y, hu, sq3 S.t, sq3 S.x, sq3 S.y⟩
    · have := pw_len wp (l := 0) fun z hz => ⟨Nat.zero_le _, wn z hz⟩
      omega

abbrev s_Party_send : Stmt := inClass (topS 41) 1
abbrev sl_Party_send : List Str := ["self", "lot", "flags", "arrow"]
theorem sc_Party_send : FnScope ["self", "lot", "flags", "arrow"] ["self", "lot"] (defScope s_Party_send) := ⟨rfl, rfl, rfl, by decide +kernel, rfl, by decide +kernel, by decide +kernel⟩
def spSend (K : PySem.W.Frag) (C CC CP : Addr) : Sp := fun vs H Q _ => ∃ (P w : Addr) (W : List Nat) (q : Addr) (s : CS) (b : Addr) (lot : List Nat), vs = [.ref P, .ref b] ∧ PtyAt K C CC CP H P w W q s ∧ s.hist.length < 1000 ∧ (¬ ∀ g ∈ s.gs, g ∈ s.cur.1) ∧ SqT K H b (lot.map nV) ∧ lot.Pairwise (· < ·) ∧ lot ≠ [] ∧ (∀ k ∈ lot, k ∈ triesL s.es s.cur.1 s.cur.2) ∧
  ∀ (fl : Addr) (rs' ls' : List Nat) (H' : Hp), Kp s.L H H' → H fl = none → SqT K H' fl (lot.map fun k => V.bl (decide (k ∉ W))) → BehindR s.es s.cur.1 s.cur.2 (evOf W lot) rs' ls' → PtyAt K C CC CP H' P w W q { s with hist := s.hist ++ [(s.cur, evOf W lot)], cur := (rs', ls') } → Q (.ref fl) H'
theorem ok_Party_send {CMap CCourse CParty : Addr} (B : Bt mg) (C_Course : ClsC K mg "Course" CCourse ["_chart", "_told", "_stood"]) (C_Party : ClsC K mg "Party" CParty ["_chart", "_world", "_course"])
    (h_Course_check_lot : HasM P w K mg base CCourse "check_lot" 5 ["self", "thing"] (spCheckLot K CMap CCourse)) (h_Course_go_on : HasM P w K mg base CCourse "go_on" 5 ["self", "pairs"] (spGoOn K CMap CCourse))
    (D0 : DfM K CParty "send" "Party.send" s_Party_send ["self", "lot"]) : HasM P w K mg base CParty "send" 6 ["self", "lot"] (spSend K CMap CCourse CParty) := by
  refine D0.has fun f fd F => F.ok sc_Party_send (fun vs H Q E h => ?_) (fun cdv A outer s H vs Q E hr h => ?_)
  · obtain ⟨P, w, W, q, s, b, lot, rfl, _⟩ := h
    rfl
  · obtain ⟨P, w, W, q, s, b, lot, rfl, h, few, hd, hb, hp, hne, ht, k⟩ := h
    refine ⟨_, (pss_cons (ps_expr (pe_meth (k_fld (K := K) rfl (pv 0) rfl) C_Course.cl h_Course_check_lot.mt h_Course_check_lot.F (hr.mono (by decide)) h_Course_check_lot.b .nil pass0 (pa_cons (pv 1) pa_nil)))
  (pss_cons (ps_set (i := 2) sc_Party_send.nd rfl (.inl rfl) (pe_callTy (k_tuple (K := K) rfl) (by rfl) B.tuple bo_tuple (pa_cons (pe_lc (own := [("arrow", 3)]) (g := gName 3) rfl sc_Party_send.nd (k_pit (K := K) rfl (pv 1)) (blkOk_by (N := sl_Party_send) (sc := defScope s_Party_send) (by decide +kernel)) (fun _ _ _ _ _ => (pg_name (i := 3) sc_Party_send.nd rfl (.inl rfl))) (fun _ _ _ _ _ => pts_nil) (fun _ _ _ _ _ => (pe_cmpR (k_notin (K := K) rfl) (pv 3) (k_fld (K := K) rfl (pv 0) rfl) (by rfl)))) pa_nil)))
  (pss_cons (ps_expr (pe_meth (k_fld (K := K) rfl (pv 0) rfl) C_Course.cl h_Course_go_on.mt h_Course_go_on.F (hr.mono (by decide)) h_Course_go_on.b .nil pass0 (pa_cons (pe_tupZip rfl (by rfl) B.tuple (by rfl) B.zip (pa_cons (pv 1) (pa_cons (pv 2) pa_nil))) pa_nil)))
  (pss_one (ps_ret (pv 2)))))), ?_⟩
    obtain ⟨dx, hP⟩ := h.ob
    obtain ⟨dq, hq⟩ := h.crs.ob
    have hlt : lot.length ≤ s.es.length - 0 := pw_len hp fun z hz => ⟨Nat.zero_le _, by
      obtain ⟨e, he, _⟩ := mem_tries.mp (ht z hz)
      exact (List.getElem?_eq_some_iff.mp he).1⟩
    have e62 := h.crs.e62
    refine ⟨_, rfl, P, CParty, dx, _, _, rfl, hP, C_Party.cl, C_Party.n2, f3_2, q, dq, _, rfl, hq, f3_meth (by decide +kernel) (by decide +kernel) (by decide +kernel), _, rfl, q, s, b, lot, rfl, h.crs, hd, hb, hp, hne, ht, fun H1 s1 => ?_⟩
    have h1 := h.same s1
    have hb1 := Same.sqt s1 hb
    obtain ⟨dx1, hP1⟩ := h1.ob
    -- the flags
    refine ⟨_, rfl, b, rfl, ⟨_, hb1⟩, fun D nD => ?_⟩
    refine lc_val walk_tup calm_at (fun i => (lot[i]?).bind fun j => some (V.bl (decide (j ∉ W)))) (by rw [List.length_map]; omega) nD (fun H3 s3 => Same.sqt s3 hb1) ?_ fun H3 s3 h3 => ?_
    · rintro i v H3 H4 hi s3 ⟨rfl, hv⟩ Kt kt
      obtain ⟨j, hji, rfl⟩ := getmap hv
      have k0 := kt _ (Same.refl _)
      rw [hji] at k0
      have h13 := h1.same s3
      obtain ⟨dx3, hP3⟩ := h13.ob
      refine ⟨rfl, tyes ?_⟩
      refine iteT ?_
      refine ⟨_, rfl, _, rfl, P, CParty, dx3, _, _, rfl, hP3, C_Party.cl, C_Party.n1, f3_1 (by decide +kernel), w, _, rfl, .inr h13.wd, rfl, flat_nats _, ?_⟩
      rw [if_pos rfl, inV_nats]
      have e1 : (!decide (j ∈ W)) = decide (j ∉ W) := by
        by_cases z : j ∈ W
        · rw [decide_eq_true z, decide_eq_false (fun y => y z)]
          rfl
        · rw [decide_eq_false z, decide_eq_true z]
          rfl
      rw [e1]
      exact k0
    rw [List.length_map, fm_range, fm_some] at h3
    refine ⟨D, _, rfl, .inl ⟨sql h3, fun fl nfl => ?_⟩⟩
    have s4 := same_new (o := .tup (lot.map fun j => V.bl (decide (j ∉ W)))) (Same.refl H3) nfl
    have hfl : upd H3 fl (.tup (lot.map fun j => V.bl (decide (j ∉ W)))) fl = some (.tup (lot.map fun j => V.bl (decide (j ∉ W)))) := upd_same
    have nfl1 : H fl = none := Same.free (s1.trans s3) nfl
    generalize upd H3 fl (.tup (lot.map fun j => V.bl (decide (j ∉ W)))) = H4 at s4 hfl
    have s14 := (s1.trans s3).trans s4
    have h4 := h.same s14
    obtain ⟨dx4, hP4⟩ := h4.ob
    obtain ⟨dq4, hq4⟩ := h4.crs.ob
    -- the pairs
    refine ⟨_, rfl, P, CParty, dx4, _, _, rfl, hP4, C_Party.cl, C_Party.n2, f3_2, q, dq4, _, rfl, hq4, f3_meth (by decide +kernel) (by decide +kernel) (by decide +kernel), _, rfl, _, rfl, b, fl, _, _, rfl, Same.sqt s14 hb, sqt hfl, by rw [List.length_map, List.length_map], fun r ts H5 s5 nr hr htl hts => ?_⟩
    have h5 := h4.same s5
    rw [List.length_map] at htl
    have hE : EvAt K H5 (.ref r) (evOf W lot) := by
      refine ⟨r, ts.map V.ref, rfl, sqt hr, by rw [List.length_map]; unfold evOf; rw [List.length_map]; exact htl, fun i pt kb g1 g2 => ?_⟩
      unfold evOf at g2
      rw [List.getElem?_map] at g1 g2
      obtain ⟨t, ht1, rfl⟩ := Option.map_eq_some_iff.mp g1
      obtain ⟨j, hj1, rfl⟩ := Option.map_eq_some_iff.mp g2
      exact ⟨t, rfl, sqt (hts i t _ _ ht1 (by rw [List.getElem?_map, hj1]; rfl) (by rw [List.getElem?_map, hj1]; rfl)).2⟩
    refine ⟨q, s, .ref r, evOf W lot, rfl, h5.crs, few, hE, by unfold evOf; rw [List.length_map]; omega, fun kb hkb => ht _ (mem_evOf.mp hkb).1, fun j j1 j2 => ?_, fun g hg => ?_, fun rs' ls' H6 k6 R6 c6 => ?_⟩
    · have a1 := (mem_evOf.mp j1).2
      have a2 := (mem_evOf.mp j2).2
      rw [← a1] at a2
      cases a2
    · refine (h.opn g hg).mono (fun e he => ?_) fun _ h => h
      obtain ⟨j, j1, j2⟩ := mem_leftV.mp he
      refine mem_leftV.mpr ⟨j, j1, fun z => j2 ?_⟩
      rcases List.mem_append.mp z with z | z
      · exact h.inw j z
      · have a1 := (mem_evOf.mp (mem_lost.mp z)).2
        exact Classical.byContradiction fun y => by rw [decide_eq_true y] at a1; cases a1
    · have n6 : Nl H5 H6 := k6.nl h5.crs.lists
      obtain ⟨dx5, hP5⟩ := h5.ob
      refine ⟨_, rfl, k fl rs' ls' H6 ((Same.kp (s14.trans s5)).trans k6) nfl1 (n6.sqt (Same.sqt s5 (sqt hfl))) R6 ⟨⟨dx5, n6 _ _ notL_ins hP5⟩, n6.sqt h5.wd, c6, h.wl, h.opn, fun l hl => ?_, fun x hx => ?_, fun x hx => ?_⟩⟩
      · rcases (R6.lm l).mp hl with z | z
        · exact h.inw l z
        · have a1 := (mem_evOf.mp z).2
          exact Classical.byContradiction fun y => by rw [decide_eq_true y] at a1; cases a1
      · rcases List.mem_append.mp hx with z | z
        · exact h.inws x z
        · rw [List.mem_singleton.mp z]
          exact h.inw
      · rcases List.mem_append.mp hx with z | z
        · exact h.ans x z
        · rw [List.mem_singleton.mp z]
          exact fun kb hkb => (mem_evOf.mp hkb).2

abbrev s_Party_standing : Stmt := inClass (topS 41) 2
abbrev sl_Party_standing : List Str := ["self"]
theorem sc_Party_standing : FnScope ["self"] ["self"] (defScope s_Party_standing) := ⟨rfl, rfl, rfl, by decide +kernel, rfl, by decide +kernel, by decide +kernel⟩
def spPStand (K : PySem.W.Frag) (C CC CP : Addr) : Sp := fun vs H Q _ => ∃ (P w : Addr) (W : List Nat) (q : Addr) (s : CS), vs = [.ref P] ∧ PtyAt K C CC CP H P w W q s ∧ ∀ u x y, StdAt K H u x y s.cur.1 s.cur.2 → Q (.ref u) H
theorem ok_Party_standing {CMap CCourse CParty : Addr} (C_Course : ClsC K mg "Course" CCourse ["_chart", "_told", "_stood"]) (C_Party : ClsC K mg "Party" CParty ["_chart", "_world", "_course"])
    (h_Course_here : HasM P w K mg base CCourse "here" 1 ["self"] (spHere K CMap CCourse)) (D0 : DfM K CParty "standing" "Party.standing" s_Party_standing ["self"]) : HasM P w K mg base CParty "standing" 2 ["self"] (spPStand K CMap CCourse CParty) := by
  refine D0.has fun f fd F => F.ok sc_Party_standing (fun vs H Q E h => ?_) (fun cdv A outer s H vs Q E hr h => ?_)
  · obtain ⟨P, w, W, q, s, rfl, _⟩ := h
    rfl
  · obtain ⟨P, w, W, q, s, rfl, h, k⟩ := h
    refine ⟨_, (pss_one (ps_ret (pe_meth0 (k_fld (K := K) rfl (pv 0) rfl) C_Course.cl h_Course_here.mt h_Course_here.F (hr.mono (by decide)) h_Course_here.b .nil pass0))), ?_⟩
    obtain ⟨dx, hP⟩ := h.ob
    obtain ⟨dq, hq⟩ := h.crs.ob
    exact ⟨_, rfl, P, CParty, dx, _, _, rfl, hP, C_Party.cl, C_Party.n2, f3_2, q, dq, _, rfl, hq, f3_here, q, s, rfl, h.crs, k⟩

abbrev s_Party_sensible : Stmt := inClass (topS 41) 6
abbrev sl_Party_sensible : List Str := ["self"]
theorem sc_Party_sensible : FnScope ["self"] ["self"] (defScope s_Party_sensible) := ⟨rfl, rfl, rfl, by decide +kernel, rfl, by decide +kernel, by decide +kernel⟩
def spPSens (K : PySem.W.Frag) (C CC CP : Addr) : Sp := fun vs H Q _ => ∃ (P w : Addr) (W : List Nat) (q : Addr) (s : CS), vs = [.ref P] ∧ PtyAt K C CC CP H P w W q s ∧ ∀ H' b, Same H H' → (b = true ↔ Wise s.es s.gs s.hist) → Q (.bl b) H'
theorem ok_Party_sensible {CMap CCourse CParty : Addr} (C_Course : ClsC K mg "Course" CCourse ["_chart", "_told", "_stood"]) (C_Party : ClsC K mg "Party" CParty ["_chart", "_world", "_course"])
    (h_Course_all_worth : HasM P w K mg base CCourse "all_worth" 7 ["self"] (spAllWorth K CMap CCourse)) (D0 : DfM K CParty "sensible" "Party.sensible" s_Party_sensible ["self"]) : HasM P w K mg base CParty "sensible" 8 ["self"] (spPSens K CMap CCourse CParty) := by
  refine D0.has fun f fd F => F.ok sc_Party_sensible (fun vs H Q E h => ?_) (fun cdv A outer s H vs Q E hr h => ?_)
  · obtain ⟨P, w, W, q, s, rfl, _⟩ := h
    rfl
  · obtain ⟨P, w, W, q, s, rfl, h, k⟩ := h
    refine ⟨_, (pss_one (ps_ret (pe_meth0 (k_fld (K := K) rfl (pv 0) rfl) C_Course.cl h_Course_all_worth.mt h_Course_all_worth.F (hr.mono (by decide)) h_Course_all_worth.b .nil pass0))), ?_⟩
    obtain ⟨dx, hP⟩ := h.ob
    obtain ⟨dq, hq⟩ := h.crs.ob
    exact ⟨_, rfl, P, CParty, dx, _, _, rfl, hP, C_Party.cl, C_Party.n2, f3_2, q, dq, _, rfl, hq, f3_meth (by decide +kernel) (by decide +kernel) (by decide +kernel), q, s, rfl, h.crs, k⟩

abbrev s_Party_back : Stmt := inClass (topS 41) 7
abbrev sl_Party_back : List Str := ["self"]
theorem sc_Party_back : FnScope ["self"] ["self"] (defScope s_Party_back) := ⟨rfl, rfl, rfl, by decide +kernel, rfl, by decide +kernel, by decide +kernel⟩
def spPBack (K : PySem.W.Frag) (C CC CP : Addr) : Sp := fun vs H Q _ => ∃ (P w : Addr) (W : List Nat) (q : Addr) (s : CS), vs = [.ref P] ∧ PtyAt K C CC CP H P w W q s ∧
  ((s.hist = [] ∧ Q (.bl false) H) ∨ ∃ (h0 : List (Stg × Evn)) (x : Stg × Evn), s.hist = h0 ++ [x] ∧ ∀ H', Kp s.L H H' → PtyAt K C CC CP H' P w W q { s with hist := h0, cur := x.1 } → Q (.bl true) H')
theorem ok_Party_back {CMap CCourse CParty : Addr} (C_Course : ClsC K mg "Course" CCourse ["_chart", "_told", "_stood"]) (C_Party : ClsC K mg "Party" CParty ["_chart", "_world", "_course"])
    (h_Course_go_back : HasM P w K mg base CCourse "go_back" 1 ["self"] (spGoBack K CMap CCourse)) (D0 : DfM K CParty "back" "Party.back" s_Party_back ["self"]) : HasM P w K mg base CParty "back" 2 ["self"] (spPBack K CMap CCourse CParty) := by
  refine D0.has fun f fd F => F.ok sc_Party_back (fun vs H Q E h => ?_) (fun cdv A outer s H vs Q E hr h => ?_)
  · obtain ⟨P, w, W, q, s, rfl, _⟩ := h
    rfl
  · obtain ⟨P, w, W, q, s, rfl, h, k⟩ := h
    refine ⟨_, (pss_one (ps_ret (pe_meth0 (k_fld (K := K) rfl (pv 0) rfl) C_Course.cl h_Course_go_back.mt h_Course_go_back.F (hr.mono (by decide)) h_Course_go_back.b .nil pass0))), ?_⟩
    obtain ⟨dx, hP⟩ := h.ob
    obtain ⟨dq, hq⟩ := h.crs.ob
    refine ⟨_, rfl, P, CParty, dx, _, _, rfl, hP, C_Party.cl, C_Party.n2, f3_2, q, dq, _, rfl, hq, f3_meth (by decide +kernel) (by decide +kernel) (by decide +kernel), q, s, rfl, h.crs, ?_⟩
    rcases k with ⟨e0, k⟩ | ⟨h0, x, e0, k⟩
    · exact .inl ⟨e0, k⟩
    · refine .inr ⟨h0, x, e0, fun H' kp c' => k H' kp ?_⟩
      have n := kp.nl h.crs.lists
      have hx : x ∈ s.hist := by rw [e0]; simp
      exact ⟨⟨dx, n _ _ notL_ins hP⟩, n.sqt h.wd, c', h.wl, h.opn, h.inws x hx, fun y hy => h.inws y (by rw [e0]; exact List.mem_append_left _ hy), fun y hy => h.ans y (by rw [e0]; exact List.mem_append_left _ hy)⟩

abbrev s_Course_forked : Stmt := inClass (topS 39) 8
abbrev sl_Course_forked : List Str := ["self", "other"]
theorem sc_Course_forked : FnScope ["self", "other"] ["self"] (defScope s_Course_forked) := ⟨rfl, rfl, rfl, by decide +kernel, rfl, by decide +kernel, by decide +kernel⟩
def spForked (K : PySem.W.Frag) (C CC : Addr) : Sp := fun vs H Q _ => ∃ (q : Addr) (s : CS), vs = [.ref q] ∧ CrsAt K C CC H q s ∧ StdOk s.n s.es s.gs [0] [] ∧
  ∀ (q2 t2 s2 : Addr) (H' : Hp), Same H H' → H q2 = none → H t2 = none → H s2 = none → t2 ≠ s2 → (∃ dy, H' q2 = some (.ins CC dy (crsF s.p t2 s2))) → (∀ o, H s.tl = some o → H' t2 = some o) → (∀ o, H s.sl = some o → H' s2 = some o) → Q (.ref q2) H'
theorem CrsAt.forked {K : PySem.W.Frag} {C CC : Addr} {H H' : Hp} {q q2 t2 s2 : Addr} {s : CS} (h : CrsAt K C CC H q s) (sm : Same H H') (ts : t2 ≠ s2) (ob : ∃ dy, H' q2 = some (.ins CC dy (crsF s.p t2 s2))) (k1 : ∀ o, H s.tl = some o → H' t2 = some o) (k2 : ∀ o, H s.sl = some o → H' s2 = some o) : CrsAt K C CC H' q2 { s with tl := t2, sl := s2 } :=
  ⟨ob, h.m.same sm, h.told.elim fun tvs ⟨e, t⟩ => ⟨tvs, k1 _ e, t.nl (Same.nl sm)⟩, h.stood.elim fun svs ⟨e, t⟩ => ⟨svs, k2 _ e, t.nl (Same.nl sm)⟩, ts, h.ok, h.oks, h.n62, h.e62, h.few, h.evs⟩
theorem ok_Course_forked {CMap CCourse : Addr} (B : Bt mg) (C_Course : ClsC K mg "Course" CCourse ["_chart", "_told", "_stood"]) (h_Course_init : HasI P w K mg base CCourse 2 ["self", "chart"] (spCrsInit K CMap CCourse)) (D0 : DfM K CCourse "forked" "Course.forked" s_Course_forked ["self"]) : HasM P w K mg base CCourse "forked" 4 ["self"] (spForked K CMap CCourse) := by
  refine D0.has fun f fd F => F.ok sc_Course_forked (fun vs H Q E h => ?_) (fun cdv A outer s H vs Q E hr h => ?_)
  · obtain ⟨q, s, rfl, _⟩ := h
    rfl
  · obtain ⟨q, s, rfl, h, o0, k⟩ := h
    refine ⟨_, (pss_cons (ps_set (i := 1) sc_Course_forked.nd rfl (.inl rfl) (pe_make h_Course_init.m h_Course_init.F (hr.mono (by decide)) (by rfl) C_Course.mg h_Course_init.b .nil pass0 (pa_cons (k_fld (K := K) rfl (pv 0) rfl) pa_nil)))
  (pss_cons (ps_fld (pv 1) (pe_callTy (k_list (K := K) rfl) (by rfl) B.list bo_list (pa_cons (k_fld (K := K) rfl (pv 0) rfl) pa_nil)) rfl)
  (pss_cons (ps_fld (pv 1) (pe_callTy (k_list (K := K) rfl) (by rfl) B.list bo_list (pa_cons (k_fld (K := K) rfl (pv 0) rfl) pa_nil)) rfl)
  (pss_one (ps_ret (pv 1)))))), ?_⟩
    obtain ⟨dx, hq⟩ := h.ob
    obtain ⟨tvs, ht, h1⟩ := h.told
    obtain ⟨svs, hs, h2⟩ := h.stood
    refine ⟨_, rfl, q, CCourse, dx, _, _, rfl, hq, C_Course.cl, C_Course.n0, f3_0 (by decide +kernel) (by decide +kernel), ?_⟩
    intro q2 d2 nq2 nd2 ne2
    have s1 : Same H (upd (upd H d2 (.own q2)) q2 (.ins CCourse d2 [])) := fun b o e => by
      rw [upd_ne (ne_of_none e nq2), upd_ne (ne_of_none e nd2)]
      exact e
    refine ⟨q2, d2, s.p, s.n, s.a, s.pvs, s.es, s.c, s.gs, rfl, upd_same, h.m.same s1, h.n62, h.e62, o0, fun tl0 sl0 H1 keep ntl0 nsl0 hC => ⟨rfl, ?_⟩⟩
    have s2 : Same H H1 := fun b o e => keep b o (ne_of_none e nq2) (s1 b o e)
    obtain ⟨dy, hq2⟩ := hC.ob
    refine ⟨_, rfl, q, CCourse, dx, _, _, rfl, s2 _ _ hq, C_Course.cl, C_Course.n1, f3_1 (by decide +kernel), s.tl, tvs, rfl, .inl (sql (s2 _ _ ht)), fun t2 nt2 => ?_⟩
    have nt0 : H t2 = none := Same.free s2 nt2
    have tq : q2 ≠ t2 := ne_of_none hq2 nt2
    refine ⟨_, rfl, q2, CCourse, dy, _, rfl, by rw [upd_ne tq]; exact hq2, C_Course.cl, C_Course.n1, by show 3 < 1000; decide, ?_⟩
    have hq2b : upd (upd H1 t2 (.lst tvs)) q2 (.ins CCourse dy (crsF s.p t2 sl0)) q2 = some (.ins CCourse dy (crsF s.p t2 sl0)) := upd_same
    have keep2 : ∀ b o, b ≠ q2 → H1 b = some o → upd (upd H1 t2 (.lst tvs)) q2 (.ins CCourse dy (crsF s.p t2 sl0)) b = some o := fun b o nb e => by
      rw [upd_ne nb, upd_ne (ne_of_none e nt2)]
      exact e
    have ht2 : upd (upd H1 t2 (.lst tvs)) q2 (.ins CCourse dy (crsF s.p t2 sl0)) t2 = some (.lst tvs) := by rw [upd_ne tq.symm, upd_same]
    have gone2 : ∀ b, upd (upd H1 t2 (.lst tvs)) q2 (.ins CCourse dy (crsF s.p t2 sl0)) b = none → H1 b = none := fun b e => by
      by_cases z1 : b = q2
      · rw [z1, upd_same] at e
        cases e
      · rw [upd_ne z1] at e
        by_cases z2 : b = t2
        · rw [z2, upd_same] at e
          cases e
        · rw [upd_ne z2] at e
          exact e
    show tSeq _ _ _ _ (upd (upd H1 t2 (.lst tvs)) q2 (.ins CCourse dy (crsF s.p t2 sl0)))
    generalize upd (upd H1 t2 (.lst tvs)) q2 (.ins CCourse dy (crsF s.p t2 sl0)) = H2 at hq2b keep2 ht2 gone2 ⊢
    have s02 : Same H H2 := fun b o e => keep2 b o (ne_of_none e nq2) (s2 b o e)
    refine ⟨_, rfl, q, CCourse, dx, _, _, rfl, s02 _ _ hq, C_Course.cl, C_Course.n2, f3_2, s.sl, svs, rfl, .inl (sql (s02 _ _ hs)), fun s2' ns2 => ?_⟩
    have ns0 : H s2' = none := Same.free s02 ns2
    have sq : q2 ≠ s2' := ne_of_none hq2b ns2
    have ts : t2 ≠ s2' := ne_of_none ht2 ns2
    refine ⟨_, rfl, q2, CCourse, dy, _, rfl, by rw [upd_ne sq]; exact hq2b, C_Course.cl, C_Course.n2, by show 3 < 1000; decide, ?_⟩
    have keep3 : ∀ b o, b ≠ q2 → H2 b = some o → upd (upd H2 s2' (.lst svs)) q2 (.ins CCourse dy (crsF s.p t2 s2')) b = some o := fun b o nb e => by
      rw [upd_ne nb, upd_ne (ne_of_none e ns2)]
      exact e
    have s03 : Same H (upd (upd H2 s2' (.lst svs)) q2 (.ins CCourse dy (crsF s.p t2 s2'))) := fun b o e => keep3 b o (ne_of_none e nq2) (s02 b o e)
    have hq3 : upd (upd H2 s2' (.lst svs)) q2 (.ins CCourse dy (crsF s.p t2 s2')) q2 = some (.ins CCourse dy (crsF s.p t2 s2')) := upd_same
    have ht3 := keep3 _ _ tq.symm ht2
    have hs3 : upd (upd H2 s2' (.lst svs)) q2 (.ins CCourse dy (crsF s.p t2 s2')) s2' = some (.lst svs) := by rw [upd_ne sq.symm, upd_same]
    refine ⟨_, rfl, ?_⟩
    exact k q2 t2 s2' _ s03 nq2 nt0 ns0 ts ⟨dy, hq3⟩ (fun o e => by rw [ht] at e; rw [← e]; exact ht3) fun o e => by rw [hs] at e; rw [← e]; exact hs3

abbrev s_Party_copy : Stmt := inClass (topS 41) 8
abbrev sl_Party_copy : List Str := ["self", "other"]
theorem sc_Party_copy : FnScope ["self", "other"] ["self"] (defScope s_Party_copy) := ⟨rfl, rfl, rfl, by decide +kernel, rfl, by decide +kernel, by decide +kernel⟩
def spPCopy (K : PySem.W.Frag) (C CC CP : Addr) : Sp := fun vs H Q _ => ∃ (P w : Addr) (W : List Nat) (q : Addr) (s : CS), vs = [.ref P] ∧ PtyAt K C CC CP H P w W q s ∧ StdOk s.n s.es s.gs [0] [] ∧ W.Pairwise (· < ·) ∧ (∀ l ∈ W, l < s.es.length) ∧
  ∀ (P2 q2 t2 s2 : Addr) (H' : Hp), Same H H' → H P2 = none → H t2 = none → H s2 = none → PtyAt K C CC CP H' P2 w W q2 { s with tl := t2, sl := s2 } → Q (.ref P2) H'
theorem ok_Party_copy {CMap CCourse CParty : Addr} (C_Course : ClsC K mg "Course" CCourse ["_chart", "_told", "_stood"]) (C_Party : ClsC K mg "Party" CParty ["_chart", "_world", "_course"]) (h_Party_init : HasI P w K mg base CParty 5 ["self", "chart", "world"] (spPtyInit K CMap CCourse CParty))
    (h_Course_forked : HasM P w K mg base CCourse "forked" 4 ["self"] (spForked K CMap CCourse)) (D0 : DfM K CParty "copy" "Party.copy" s_Party_copy ["self"]) : HasM P w K mg base CParty "copy" 7 ["self"] (spPCopy K CMap CCourse CParty) := by
  refine D0.has fun f fd F => F.ok sc_Party_copy (fun vs H Q E h => ?_) (fun cdv A outer s H vs Q E hr h => ?_)
  · obtain ⟨P, w, W, q, s, rfl, _⟩ := h
    rfl
  · obtain ⟨P, w, W, q, s, rfl, h, o0, Wp, Wn, k⟩ := h
    refine ⟨_, (pss_cons (ps_set (i := 1) sc_Party_copy.nd rfl (.inl rfl) (pe_make h_Party_init.m h_Party_init.F (hr.mono (by decide)) (by rfl) C_Party.mg h_Party_init.b .nil pass0 (pa_cons (k_fld (K := K) rfl (pv 0) rfl) (pa_cons (k_fld (K := K) rfl (pv 0) rfl) pa_nil))))
  (pss_cons (ps_fld (pv 1) (pe_meth0 (k_fld (K := K) rfl (pv 0) rfl) C_Course.cl h_Course_forked.mt h_Course_forked.F (hr.mono (by decide)) h_Course_forked.b .nil pass0) rfl)
  (pss_one (ps_ret (pv 1))))), ?_⟩
    obtain ⟨dx, hP⟩ := h.ob
    refine ⟨_, rfl, P, CParty, dx, _, _, rfl, hP, C_Party.cl, C_Party.n0, f3_0 (by decide +kernel) (by decide +kernel), _, rfl, P, CParty, dx, _, _, rfl, hP, C_Party.cl, C_Party.n1, f3_1 (by decide +kernel), ?_⟩
    intro P2 d2 nP2 nd2 ne2
    have s1 : Same H (upd (upd H d2 (.own P2)) P2 (.ins CParty d2 [])) := fun b o e => by
      rw [upd_ne (ne_of_none e nP2), upd_ne (ne_of_none e nd2)]
      exact e
    refine ⟨P2, d2, s.p, s.n, s.a, s.pvs, s.es, s.c, s.gs, w, W, rfl, upd_same, h.crs.m.same s1, h.crs.n62, h.crs.e62, o0, Same.sqt s1 h.wd, Wp, Wn, h.opn, fun q0 tl0 sl0 H1 keep ntl0 nsl0 h1 => ⟨rfl, ?_⟩⟩
    have s2 : Same H H1 := fun b o e => keep b o (ne_of_none e nP2) (s1 b o e)
    obtain ⟨dy, hP2⟩ := h1.ob
    obtain ⟨dq, hq⟩ := h.crs.ob
    refine ⟨_, rfl, P, CParty, dx, _, _, rfl, s2 _ _ hP, C_Party.cl, C_Party.n2, f3_2, q, dq, _, rfl, s2 _ _ hq, f3_meth (by decide +kernel) (by decide +kernel) (by decide +kernel), q, s, rfl, (h.crs.same s2), o0, fun q2 t2 sl2 H2 s12 nq2 nt2 ns2 ts hq2 kt ks => ?_⟩
    have hP2b := s12 _ _ hP2
    refine ⟨_, rfl, P2, CParty, dy, _, rfl, hP2b, C_Party.cl, C_Party.n2, by show 3 < 1000; decide, ?_⟩
    have keep3 : ∀ b o, b ≠ P2 → H2 b = some o → upd H2 P2 (.ins CParty dy (f3 "_chart" "_world" "_course" (.ref s.p) (.ref w) (.ref q2))) b = some o := fun b o nb e => by
      rw [upd_ne nb]
      exact e
    have s02 := s2.trans s12
    have s03 : Same H (upd H2 P2 (.ins CParty dy (f3 "_chart" "_world" "_course" (.ref s.p) (.ref w) (.ref q2)))) := fun b o e => keep3 b o (ne_of_none e nP2) (s02 b o e)
    have ne : ∀ {b : Addr} {o : HO}, H1 b = none → b ≠ P2 := fun {b o} e z => by
      rw [z, hP2] at e
      cases e
    obtain ⟨dz, hz⟩ := hq2
    refine ⟨_, rfl, ?_⟩
    exact k P2 q2 t2 sl2 _ s03 nP2 (Same.free s2 nt2) (Same.free s2 ns2) ⟨⟨dy, upd_same⟩, Same.sqt s03 h.wd, h.crs.forked s03 ts ⟨dz, keep3 _ _ (ne (o := .own P2) nq2) hz⟩ (fun o e => keep3 _ _ (ne (o := .own P2) nt2) (kt o (s2 _ _ e))) fun o e => keep3 _ _ (ne (o := .own P2) ns2) (ks o (s2 _ _ e)), h.wl, h.opn, h.inw, h.inws, h.ans⟩

abbrev s_lost_in : Stmt := topS 37
abbrev sl_lost_in : List Str := ["pairs", "arrow", "sound"]
theorem sc_lost_in : FnScope ["pairs", "arrow", "sound"] ["pairs"] (defScope s_lost_in) := ⟨rfl, rfl, rfl, by decide +kernel, rfl, by decide +kernel, by decide +kernel⟩
def spLostIn (K : PySem.W.Frag) : Sp := fun vs H Q _ => ∃ (v : V) (ev : Evn), vs = [v] ∧ EvAt K H v ev ∧ ev.length ≤ 1000 ∧ ∀ H', Same H H' → Q (nV (lostL ev).length) H'
theorem ok_lost_in (B : Bt mg) (D0 : Df K mg "lost_in" s_lost_in ["pairs"]) : Has P w K mg base "lost_in" 1 ["pairs"] (spLostIn K) := by
  refine D0.has fun f fd F => F.ok sc_lost_in (fun vs H Q E h => ?_) (fun cdv A outer s H vs Q E hr h => ?_)
  · obtain ⟨v, ev, rfl, _⟩ := h
    rfl
  · obtain ⟨v, ev, rfl, hE, hlen, q⟩ := h
    obtain ⟨eA, pts, rfl, hpt, hpl, hpp⟩ := hE
    refine ⟨_, (pss_one (ps_ret (pe_callB (k_len (K := K) rfl) (by rfl) B.len bo_len (pa_cons (pe_lc (own := [("arrow", 1), ("sound", 2)]) (g := gTup K 2 (gCons (gName 1) (gCons (gName 2) gNil))) rfl sc_lost_in.nd (k_pit (K := K) rfl (pv 0)) (blkOk_by (N := sl_lost_in) (sc := defScope s_lost_in) (by decide +kernel)) (fun _ _ _ _ _ => (pg_tup rfl (pgs_cons (pg_name (i := 1) sc_lost_in.nd rfl (.inl rfl)) (pgs_cons (pg_name (i := 2) sc_lost_in.nd rfl (.inl rfl)) pgs_nil)))) (fun _ _ _ _ _ => pts_one (pt_not (pt_val (pv 2)))) (fun _ _ _ _ _ => (pv 1))) pa_nil)))), ?_⟩
    refine ⟨_, rfl, eA, rfl, ⟨_, hpt⟩, fun D nD => ?_⟩
    refine lc_val walk_tup calm_at (fun i => (ev[i]?).bind fun kb => if kb.2 then none else some (nV kb.1)) (by omega) nD (fun H3 s3 => Same.sqt s3 hpt) ?_ fun H3 s3 h3 => ?_
    · rintro i v H4 H5 hi s4 ⟨rfl, hv⟩ Kt kt
      have hie : i < ev.length := by omega
      obtain ⟨tt, rfl, htt⟩ := hpp i v ev[i] hv (List.getElem?_eq_getElem hie)
      have k0 := kt _ (Same.refl _)
      rw [List.getElem?_eq_getElem hie] at k0
      simp only [Option.bind_some] at k0
      refine ⟨tt, _, rfl, Same.sqt s4 htt, rfl, _, _, rfl, _, _, rfl, rfl, rfl, _, rfl, ev[i].2, rfl, ?_⟩
      cases hb : ev[i].2 with
      | false =>
        rw [hb] at k0
        exact iteT ⟨_, rfl, k0⟩
      | true =>
        rw [hb] at k0
        exact iteF k0
    have el : (List.range pts.length).filterMap (fun i => (ev[i]?).bind fun kb => if kb.2 then none else some (nV kb.1)) = (lostL ev).map nV := by
      rw [hpl, fm_range]
      unfold lostL
      rw [List.map_filterMap]
      congr 1
      funext kb
      cases kb.2 <;> rfl
    rw [el] at h3
    refine ⟨D, _, rfl, .inl (sql h3), ?_⟩
    rw [List.length_map]
    exact q H3 s3

abbrev s_Course_count_lost : Stmt := inClass (topS 39) 6
abbrev sl_Course_count_lost : List Str := ["self", "pairs"]
theorem sc_Course_count_lost : FnScope ["self", "pairs"] ["self"] (defScope s_Course_count_lost) := ⟨rfl, rfl, rfl, by decide +kernel, rfl, by decide +kernel, by decide +kernel⟩
/-- how many are lost in all the evenings -/
def lostSum (hist : List (Stg × Evn)) : Nat := (hist.map fun x => (lostL x.2).length).sum
def spCount (K : PySem.W.Frag) (C CC : Addr) : Sp := fun vs H Q _ => ∃ (q : Addr) (s : CS), vs = [.ref q] ∧ CrsAt K C CC H q s ∧ ∀ H', Same H H' → Q (nV (lostSum s.hist)) H'
theorem ok_Course_count_lost {CMap CCourse : Addr} (B : Bt mg) (C_Course : ClsC K mg "Course" CCourse ["_chart", "_told", "_stood"]) (h_lost_in : Has P w K mg base "lost_in" 1 ["pairs"] (spLostIn K)) (D0 : DfM K CCourse "count_lost" "Course.count_lost" s_Course_count_lost ["self"]) : HasM P w K mg base CCourse "count_lost" 2 ["self"] (spCount K CMap CCourse) := by
  refine D0.has fun f fd F => F.ok sc_Course_count_lost (fun vs H Q E h => ?_) (fun cdv A outer s H vs Q E hr h => ?_)
  · obtain ⟨q, s, rfl, _⟩ := h
    rfl
  · obtain ⟨q, s, rfl, h, k⟩ := h
    refine ⟨_, (pss_one (ps_ret (pe_callB (cr_sum rfl) (by rfl) B.sum bo_sum (pa_cons (pe_lc (own := [("pairs", 1)]) (g := gName 1) rfl sc_Course_count_lost.nd (k_pil (K := K) rfl (k_fld (K := K) rfl (pv 0) rfl)) (blkOk_by (N := sl_Course_count_lost) (sc := defScope s_Course_count_lost) (by decide +kernel)) (fun _ _ _ _ _ => (pg_name (i := 1) sc_Course_count_lost.nd rfl (.inl rfl))) (fun _ _ _ _ _ => pts_nil) (fun _ _ _ _ _ => (pcall h_lost_in hr (by decide) (by rfl) (pa_cons (pv 1) pa_nil)))) pa_nil)))), ?_⟩
    obtain ⟨dx, hq⟩ := h.ob
    obtain ⟨tvs, ht, h1⟩ := h.told
    have few := h.few
    have hl := h1.1
    rw [List.length_map] at hl
    refine ⟨_, rfl, q, CCourse, dx, _, _, rfl, hq, C_Course.cl, C_Course.n1, f3_1 (by decide +kernel), s.tl, rfl, ⟨_, sql ht⟩, fun D nD => ?_⟩
    refine lc_val walk_list calm_at (fun i => (s.hist[i]?).bind fun x => some (nV (lostL x.2).length)) (by omega) nD (fun H3 s3 => sql (s3 _ _ ht)) ?_ fun H3 s3 h3 => ?_
    · rintro i v H4 H5 hi s4 ⟨rfl, hv⟩ Kt kt
      have hih : i < s.hist.length := by omega
      have k0 := fun H' (z : Same H5 H') => kt H' z
      rw [List.getElem?_eq_getElem hih] at k0
      simp only [Option.bind_some] at k0
      have hE := h1.2 i v s.hist[i].2 hv (by rw [List.getElem?_map, List.getElem?_eq_getElem hih]; rfl)
      exact ⟨rfl, tyes ⟨_, rfl, v, s.hist[i].2, rfl, hE.nl (Same.nl s4), h.evs _ (List.getElem_mem hih), fun H6 s6 => k0 H6 s6⟩⟩
    have el : (List.range tvs.length).filterMap (fun i => (s.hist[i]?).bind fun x => some (nV (lostL x.2).length)) = (s.hist.map fun x => ((lostL x.2).length : Int)).map V.int := by
      rw [hl, fm_range, fm_some, List.map_map]
      rfl
    rw [el] at h3
    refine ⟨D, _, rfl, sql h3, ?_⟩
    have e : (s.hist.map fun x => ((lostL x.2).length : Int)).sum = ((lostSum s.hist : Nat) : Int) := by
      unfold lostSum
      induction s.hist with
      | nil => rfl
      | cons x r ih =>
        rw [List.map_cons, List.sum_cons, List.map_cons, List.sum_cons, ih]
        rfl
    rw [e]
    exact k H3 s3

abbrev s_Party_run : Stmt := inClass (topS 41) 3
abbrev sl_Party_run : List Str := ["self"]
theorem sc_Party_run : FnScope ["self"] ["self"] (defScope s_Party_run) := ⟨rfl, rfl, rfl, by decide +kernel, rfl, by decide +kernel, by decide +kernel⟩
def spPRun (K : PySem.W.Frag) (C CC CP : Addr) : Sp := fun vs H Q _ => ∃ (P w : Addr) (W : List Nat) (q : Addr) (s : CS), vs = [.ref P] ∧ PtyAt K C CC CP H P w W q s ∧ ∀ l tvs, H l = none → EvsAt K H tvs (s.hist.map (·.2)) → Q (.ref l) (upd H l (.lst tvs))
theorem ok_Party_run {CMap CCourse CParty : Addr} (C_Course : ClsC K mg "Course" CCourse ["_chart", "_told", "_stood"]) (C_Party : ClsC K mg "Party" CParty ["_chart", "_world", "_course"])
    (h_Course_told : HasM P w K mg base CCourse "told" 1 ["self"] (spToldL K CMap CCourse)) (D0 : DfM K CParty "run" "Party.run" s_Party_run ["self"]) : HasM P w K mg base CParty "run" 2 ["self"] (spPRun K CMap CCourse CParty) := by
  refine D0.has fun f fd F => F.ok sc_Party_run (fun vs H Q E h => ?_) (fun cdv A outer s H vs Q E hr h => ?_)
  · obtain ⟨P, w, W, q, s, rfl, _⟩ := h
    rfl
  · obtain ⟨P, w, W, q, s, rfl, h, k⟩ := h
    refine ⟨_, (pss_one (ps_ret (pe_meth0 (k_fld (K := K) rfl (pv 0) rfl) C_Course.cl h_Course_told.mt h_Course_told.F (hr.mono (by decide)) h_Course_told.b .nil pass0))), ?_⟩
    obtain ⟨dx, hP⟩ := h.ob
    obtain ⟨dq, hq⟩ := h.crs.ob
    exact ⟨_, rfl, P, CParty, dx, _, _, rfl, hP, C_Party.cl, C_Party.n2, f3_2, q, dq, _, rfl, hq, f3_meth (by decide +kernel) (by decide +kernel) (by decide +kernel), q, s, rfl, h.crs, k⟩

abbrev s_Party_lost : Stmt := inClass (topS 41) 4
abbrev sl_Party_lost : List Str := ["self"]
theorem sc_Party_lost : FnScope ["self"] ["self"] (defScope s_Party_lost) := ⟨rfl, rfl, rfl, by decide +kernel, rfl, by decide +kernel, by decide +kernel⟩
def spPLost (K : PySem.W.Frag) (C CC CP : Addr) : Sp := fun vs H Q _ => ∃ (P w : Addr) (W : List Nat) (q : Addr) (s : CS), vs = [.ref P] ∧ PtyAt K C CC CP H P w W q s ∧ ∀ H', Same H H' → Q (nV (lostSum s.hist)) H'
theorem ok_Party_lost {CMap CCourse CParty : Addr} (C_Course : ClsC K mg "Course" CCourse ["_chart", "_told", "_stood"]) (C_Party : ClsC K mg "Party" CParty ["_chart", "_world", "_course"])
    (h_Course_count_lost : HasM P w K mg base CCourse "count_lost" 2 ["self"] (spCount K CMap CCourse)) (D0 : DfM K CParty "lost" "Party.lost" s_Party_lost ["self"]) : HasM P w K mg base CParty "lost" 3 ["self"] (spPLost K CMap CCourse CParty) := by
  refine D0.has fun f fd F => F.ok sc_Party_lost (fun vs H Q E h => ?_) (fun cdv A outer s H vs Q E hr h => ?_)
  · obtain ⟨P, w, W, q, s, rfl, _⟩ := h
    rfl
  · obtain ⟨P, w, W, q, s, rfl, h, k⟩ := h
    refine ⟨_, (pss_one (ps_ret (pe_meth0 (k_fld (K := K) rfl (pv 0) rfl) C_Course.cl h_Course_count_lost.mt h_Course_count_lost.F (hr.mono (by decide)) h_Course_count_lost.b .nil pass0))), ?_⟩
    obtain ⟨dx, hP⟩ := h.ob
    obtain ⟨dq, hq⟩ := h.crs.ob
    exact ⟨_, rfl, P, CParty, dx, _, _, rfl, hP, C_Party.cl, C_Party.n2, f3_2, q, dq, _, rfl, hq, f3_meth (by decide +kernel) (by decide +kernel) (by decide +kernel), q, s, rfl, h.crs, k⟩

/-! evenings that a plan led in a world -/
inductive Led (es : Es) (gs W : List Nat) : List (Stg × Evn) → Stg → Prop
  | nil : Led es gs W [] ([0], [])
  | snoc {hist : List (Stg × Evn)} {st : Stg} {lot rs ls : List Nat} : Led es gs W hist st → (¬ ∀ g ∈ gs, g ∈ st.1) → lot ≠ [] → lot.Pairwise (· < ·) → (∀ k ∈ lot, k ∈ triesL es st.1 st.2) → BehindR es st.1 st.2 (evOf W lot) rs ls → Led es gs W (hist ++ [(st, evOf W lot)]) (rs, ls)
/-- the arrows that were sent -/
def keysOf (hist : List (Stg × Evn)) : List Nat := hist.flatMap fun x => x.2.map (·.1)
theorem keys_snoc {hist : List (Stg × Evn)} {x : Stg × Evn} : keysOf (hist ++ [x]) = keysOf hist ++ x.2.map (·.1) := by
  unfold keysOf
  rw [List.flatMap_append, List.flatMap_singleton]
theorem keys_evOf {W lot : List Nat} : (evOf W lot).map (·.1) = lot := by
  unfold evOf
  rw [List.map_map]
  exact (List.map_congr_left fun _ _ => rfl).trans (List.map_id _)
theorem sent_evOf {W lot : List Nat} {k : Nat} {b : Bool} : (k, b) ∈ evOf W lot ↔ k ∈ lot ∧ b = decide (k ∉ W) := mem_evOf
section
variable {es : Es} {gs W : List Nat} {hist : List (Stg × Evn)} {cur : Stg}
theorem Led.tried (h : Led es gs W hist cur) : ∀ k ∈ keysOf hist, ∃ e, es[k]? = some e := by
  induction h with
  | nil => exact fun k hk => (List.not_mem_nil hk).elim
  | snoc h hd hne hp ht hb ih =>
    intro k hk
    rw [keys_snoc, List.mem_append, keys_evOf] at hk
    rcases hk with hk | hk
    · exact ih k hk
    · obtain ⟨e, he, _⟩ := mem_tries.mp (ht k hk)
      exact ⟨e, he⟩
theorem Led.reach (h : Led es gs W hist cur) : ∀ v, v ∈ cur.1 ↔ v = 0 ∨ ∃ k e, k ∈ keysOf hist ∧ k ∉ W ∧ es[k]? = some e ∧ e.2 = v := by
  induction h with
  | nil =>
    intro v
    constructor
    · intro hv
      exact .inl (List.mem_singleton.mp hv)
    · rintro (rfl | ⟨k, e, hk, _⟩)
      · exact List.mem_cons_self
      · exact (List.not_mem_nil hk).elim
  | snoc h hd hne hp ht hb ih =>
    intro v
    rw [hb.rm, ih v, keys_snoc, keys_evOf]
    constructor
    · rintro ((rfl | ⟨k, e, a1, a2, a3⟩) | ⟨k, e, a1, a2⟩)
      · exact .inl rfl
      · exact .inr ⟨k, e, List.mem_append_left _ a1, a2, a3⟩
      · obtain ⟨b1, b2⟩ := sent_evOf.mp a1
        exact .inr ⟨k, e, List.mem_append_right _ b1, of_decide_eq_true b2.symm, a2⟩
    · rintro (rfl | ⟨k, e, a1, a2, a3⟩)
      · exact .inl (.inl rfl)
      · rcases List.mem_append.mp a1 with a1 | a1
        · exact .inl (.inr ⟨k, e, a1, a2, a3⟩)
        · exact .inr ⟨k, e, sent_evOf.mpr ⟨a1, (decide_eq_true a2).symm⟩, a3⟩
theorem Led.lost (h : Led es gs W hist cur) : ∀ l, l ∈ cur.2 ↔ l ∈ keysOf hist ∧ l ∈ W := by
  induction h with
  | nil => exact fun l => ⟨fun h => (List.not_mem_nil h).elim, fun h => (List.not_mem_nil h.1).elim⟩
  | snoc h hd hne hp ht hb ih =>
    intro l
    rw [hb.lm, ih l, keys_snoc, keys_evOf, List.mem_append]
    constructor
    · rintro (⟨a, b⟩ | a)
      · exact ⟨.inl a, b⟩
      · obtain ⟨b1, b2⟩ := sent_evOf.mp a
        exact ⟨.inr b1, Classical.byContradiction fun z => by rw [decide_eq_true z] at b2; cases b2⟩
    · rintro ⟨a | a, b⟩
      · exact .inl ⟨a, b⟩
      · exact .inr (sent_evOf.mpr ⟨a, (decide_eq_false fun z => z b).symm⟩)
theorem Led.rp (h : Led es gs W hist cur) : cur.1.Pairwise (· < ·) := by
  cases h with
  | nil => exact List.pairwise_singleton _ _
  | snoc h hd hne hp ht hb => exact hb.rp
theorem Led.lp (h : Led es gs W hist cur) : cur.2.Pairwise (· < ·) := by
  cases h with
  | nil => exact .nil
  | snoc h hd hne hp ht hb => exact hb.lp
/-- what is worth a try was not sent -/
theorem Led.fresh (h : Led es gs W hist cur) {k : Nat} (hk : k ∈ triesL es cur.1 cur.2) : k ∉ keysOf hist := fun z => by
  obtain ⟨e, he, h1, h2, h3⟩ := mem_tries.mp hk
  by_cases hw : k ∈ W
  · exact h1 ((h.lost k).mpr ⟨z, hw⟩)
  · exact h3 ((h.reach e.2).mpr (.inr ⟨k, e, z, hw, he, rfl⟩))
theorem pw_nodup {l : List Nat} (h : l.Pairwise (· < ·)) : l.Nodup := h.imp fun h => Nat.ne_of_lt h
theorem Led.nodup (h : Led es gs W hist cur) : (keysOf hist).Nodup := by
  induction h with
  | nil => exact .nil
  | snoc h hd hne hp ht hb ih =>
    rw [keys_snoc, keys_evOf]
    exact List.nodup_append.mpr ⟨ih, pw_nodup hp, fun a ha b hb z => h.fresh (ht b hb) (z ▸ ha)⟩
theorem lost_evOf {W lot : List Nat} : lostL (evOf W lot) = lot.filter fun k => decide (k ∈ W) := by
  unfold lostL evOf
  induction lot with
  | nil => rfl
  | cons k r ih =>
    rw [List.map_cons, List.filterMap_cons, List.filter_cons, ih]
    by_cases z : k ∈ W
    · rw [decide_eq_true z, decide_eq_false (fun y => y z)]
      rfl
    · rw [decide_eq_false z, decide_eq_true z]
      rfl
theorem Led.sum (h : Led es gs W hist cur) : lostSum hist = ((keysOf hist).filter fun k => decide (k ∈ W)).length := by
  induction h with
  | nil => rfl
  | snoc h hd hne hp ht hb ih =>
    rw [keys_snoc, keys_evOf, List.filter_append, List.length_append, ← ih, ← lost_evOf]
    unfold lostSum
    rw [List.map_append, List.sum_append]
    rfl
abbrev stsOf (hist : List (Stg × Evn)) (cur : Stg) : List Stg := hist.map (·.1) ++ [cur]
theorem Led.zero (h : Led es gs W hist cur) : (stsOf hist cur)[0]? = some ([0], []) := by
  induction h with
  | nil => rfl
  | @snoc hist st lot rs ls h hd hne hp ht hb ih =>
    unfold stsOf at ih ⊢
    rw [List.map_append, List.map_singleton]
    rw [List.getElem?_append_left (by rw [List.length_append]; show 0 < _ + 1; omega)]
    exact ih
theorem Led.at (h : Led es gs W hist cur) : ∀ i, i < hist.length → ∃ st lot st', hist[i]? = some (st, evOf W lot) ∧ (stsOf hist cur)[i]? = some st ∧ (stsOf hist cur)[i + 1]? = some st' ∧ Led es gs W (hist.take i) st ∧ (¬ ∀ g ∈ gs, g ∈ st.1) ∧ lot ≠ [] ∧ lot.Pairwise (· < ·) ∧ (∀ k ∈ lot, k ∈ triesL es st.1 st.2) ∧ BehindR es st.1 st.2 (evOf W lot) st'.1 st'.2 := by
  induction h with
  | nil => exact fun i hi => (Nat.not_lt_zero _ hi).elim
  | @snoc hist st lot rs ls h hd hne hp ht hb ih =>
    intro i hi
    rw [List.length_append, List.length_singleton] at hi
    have e0 : stsOf (hist ++ [(st, evOf W lot)]) (rs, ls) = stsOf hist st ++ [(rs, ls)] := by
      unfold stsOf
      rw [List.map_append, List.map_singleton]
    have l0 : (stsOf hist st).length = hist.length + 1 := by
      unfold stsOf
      rw [List.length_append, List.length_map]
      rfl
    rcases Nat.lt_or_ge i hist.length with z | z
    · obtain ⟨st0, lot0, st', a1, a2, a3, a4, a5⟩ := ih i z
      refine ⟨st0, lot0, st', ?_, ?_, ?_, ?_, a5⟩
      · rw [List.getElem?_append_left z]
        exact a1
      · rw [e0, List.getElem?_append_left (by omega)]
        exact a2
      · rw [e0, List.getElem?_append_left (by omega)]
        exact a3
      · rw [List.take_append_of_le_length (by omega)]
        exact a4
    · have e : i = hist.length := by omega
      subst e
      refine ⟨st, lot, (rs, ls), ?_, ?_, ?_, ?_, hd, hne, hp, ht, hb⟩
      · rw [List.getElem?_concat_length]
      · rw [e0, List.getElem?_append_left (by omega)]
        unfold stsOf
        have := List.getElem?_concat_length (l := hist.map (·.1)) (a := st)
        rw [List.length_map] at this
        exact this
      · rw [e0, ← l0, List.getElem?_concat_length]
      · rw [List.take_append_of_le_length (Nat.le_refl _), List.take_length]
        exact h
theorem Led.std {n : Nat} (h : Led es gs W hist cur) (o : StdOk n es gs [0] []) (ok : ∀ e ∈ es, e.1 < n ∧ e.2 < n) (hg : ∀ g ∈ gs, Rch (left es W) [0] g) : StdOk n es gs cur.1 cur.2 := by
  induction h with
  | nil => exact o
  | snoc h hd hne hp ht hb ih =>
    refine hb.std ih ok (fun kb hk => ht _ (mem_evOf.mp hk).1) (fun k h1 h2 => ?_) fun g hg0 => (hg g hg0).mono (fun e he => ?_) fun _ h => h
    · have a1 := (mem_evOf.mp h1).2
      have a2 := (mem_evOf.mp h2).2
      rw [← a1] at a2
      cases a2
    · obtain ⟨j, j1, j2⟩ := mem_leftV.mp he
      refine mem_leftV.mpr ⟨j, j1, fun z => j2 ?_⟩
      rcases List.mem_append.mp z with z | z
      · exact ((h.lost j).mp z).2
      · have a1 := (mem_evOf.mp (mem_lost.mp z)).2
        exact Classical.byContradiction fun y => by rw [decide_eq_true y] at a1; cases a1
theorem Led.open_ {lot : List Nat} (h : Led es gs W hist cur) (hg : ∀ g ∈ gs, Rch (left es W) [0] g) : ∀ g ∈ gs, Rch (left es (cur.2 ++ lostL (evOf W lot))) [0] g := fun g hg0 => (hg g hg0).mono (fun e he => by
    obtain ⟨j, j1, j2⟩ := mem_leftV.mp he
    refine mem_leftV.mpr ⟨j, j1, fun z => j2 ?_⟩
    rcases List.mem_append.mp z with z | z
    · exact ((h.lost j).mp z).2
    · have a1 := (mem_evOf.mp (mem_lost.mp z)).2
      exact Classical.byContradiction fun y => by rw [decide_eq_true y] at a1; cases a1) fun _ h => h
end

/-- what repr asks of data -/
structure Shw (d : PyData) : Prop where
  s : d.showable = true
  n : d.hasDict = false
  d8 : d.depth ≤ 8
  z : d.shown.length ≤ sizeLine
theorem int64 : ∀ k : Fin 64, (PyData.shown (.int ((k : Nat) : Int))).length ≤ 8 ∧ PyData.showable (.int ((k : Nat) : Int)) = true ∧ PyData.weight (.int ((k : Nat) : Int)) ≤ 7 := by decide +kernel
theorem shw_nats : ∀ {ls : List Nat}, (∀ k ∈ ls, k < 64) → PyData.showableAll (ls.map dN) = true ∧ PyData.hasDictAll (ls.map dN) = false ∧ PyData.leavesShortAll 8 (ls.map dN) = true ∧ PyData.weightAll (ls.map dN) ≤ 8 * ls.length
  | [], _ => ⟨rfl, rfl, rfl, Nat.le_refl _⟩
  | k :: r, h => by
    obtain ⟨h1, h2, h3⟩ := int64 ⟨k, h k List.mem_cons_self⟩
    obtain ⟨i1, i2, i3, i4⟩ := shw_nats (ls := r) fun j hj => h j (List.mem_cons_of_mem _ hj)
    rw [List.map_cons]
    refine ⟨?_, ?_, ?_, ?_⟩
    · rw [PyData.showableAll, i1, Bool.and_true]
      exact h2
    · rw [PyData.hasDictAll, i2, Bool.or_false]
      unfold dN
      rw [PyData.hasDict]
    · rw [PyData.leavesShortAll, i3, Bool.and_true]
      unfold dN
      rw [PyData.leavesShort]
      exact decide_eq_true h1
    · rw [PyData.weightAll, List.length_cons]
      have : PyData.weight (dN k) ≤ 7 := h3
      omega
def stdD (rs ls : List Nat) : PyData := .tuple [.tuple (rs.map dN), .tuple (ls.map dN)]
theorem StdAt.dpD {K : PySem.W.Frag} {H : Hp} {u x y : Addr} {rs ls : List Nat} (S : StdAt K H u x y rs ls) : Dp K H (.ref u) (stdD rs ls) := .tup S.t (.cons (.tup S.x dp_nats) (.cons (.tup S.y dp_nats) .nil))
theorem shw_stdD {rs ls : List Nat} (hr : ∀ k ∈ rs, k < 64) (hl : ∀ k ∈ ls, k < 64) (h1 : rs.length ≤ 1000) (h2 : ls.length ≤ 1000) : Shw (stdD rs ls) := by
  obtain ⟨a1, a2, a3, a4⟩ := shw_nats hr
  obtain ⟨b1, b2, b3, b4⟩ := shw_nats hl
  have c3 : (stdD rs ls).leavesShort 8 = true := by
    simp only [stdD, PyData.leavesShort, PyData.leavesShortAll, a3, b3, Bool.and_true]
  have c4 : (stdD rs ls).weight ≤ 16002 := by
    simp only [stdD, PyData.weight, PyData.weightAll]
    omega
  refine ⟨?_, ?_, ?_, ?_⟩
  · simp only [stdD, PyData.showable, PyData.showableAll, a1, b1, Bool.and_true]
  · simp only [stdD, PyData.hasDict, PyData.hasDictAll, a2, b2, Bool.or_false]
  · simp only [stdD, PyData.depth, PyData.depthAll, dep_nats]
    decide
  · have hs : (100000000 : Nat) ≤ 10 * sizeLine := by decide
    have := PyData.shown_le 8 (Nat.le_refl _) (stdD rs ls) c3
    omega
/-! runs, as repr shows them -/
def pbD (kb : Nat × Bool) : PyData := .tuple [.int (kb.1 : Int), .bool kb.2]
def evD (ev : Evn) : PyData := .tuple (ev.map pbD)
def runD (evs : List Evn) : PyData := .list (evs.map evD)
theorem pb64 : ∀ (k : Fin 64) (b : Bool), (pbD ((k : Nat), b)).showable = true ∧ (pbD ((k : Nat), b)).hasDict = false ∧ (pbD ((k : Nat), b)).leavesShort 8 = true ∧ (pbD ((k : Nat), b)).weight ≤ 30 ∧ (pbD ((k : Nat), b)).depth ≤ 1 := by decide +kernel
theorem shw_pbs : ∀ {ev : Evn}, (∀ kb ∈ ev, kb.1 < 64) → PyData.showableAll (ev.map pbD) = true ∧ PyData.hasDictAll (ev.map pbD) = false ∧ PyData.leavesShortAll 8 (ev.map pbD) = true ∧ PyData.weightAll (ev.map pbD) ≤ 31 * ev.length ∧ PyData.depthAll (ev.map pbD) ≤ 2
  | [], _ => ⟨rfl, rfl, rfl, Nat.le_refl _, Nat.zero_le _⟩
  | (k, b) :: r, h => by
    obtain ⟨h1, h2, h3, h4, h5⟩ := pb64 ⟨k, h _ List.mem_cons_self⟩ b
    obtain ⟨i1, i2, i3, i4, i5⟩ := shw_pbs (ev := r) fun j hj => h j (List.mem_cons_of_mem _ hj)
    rw [List.map_cons]
    refine ⟨?_, ?_, ?_, ?_, ?_⟩
    · rw [PyData.showableAll, i1, Bool.and_true]
      exact h1
    · rw [PyData.hasDictAll, i2, Bool.or_false]
      exact h2
    · rw [PyData.leavesShortAll, i3, Bool.and_true]
      exact h3
    · rw [PyData.weightAll, List.length_cons]
      have h4' : (pbD (k, b)).weight ≤ 30 := h4
      omega
    · rw [PyData.depthAll]
      have h5' : (pbD (k, b)).depth ≤ 1 := h5
      omega
theorem shw_evs : ∀ {evs : List Evn}, (∀ ev ∈ evs, ev.length ≤ 62 ∧ ∀ kb ∈ ev, kb.1 < 64) → PyData.showableAll (evs.map evD) = true ∧ PyData.hasDictAll (evs.map evD) = false ∧ PyData.leavesShortAll 8 (evs.map evD) = true ∧ PyData.weightAll (evs.map evD) ≤ 2000 * evs.length ∧ PyData.depthAll (evs.map evD) ≤ 4
  | [], _ => ⟨rfl, rfl, rfl, Nat.le_refl _, Nat.zero_le _⟩
  | ev :: r, h => by
    obtain ⟨hl, hk⟩ := h _ List.mem_cons_self
    obtain ⟨h1, h2, h3, h4, h5⟩ := shw_pbs hk
    obtain ⟨i1, i2, i3, i4, i5⟩ := shw_evs (evs := r) fun j hj => h j (List.mem_cons_of_mem _ hj)
    rw [List.map_cons]
    refine ⟨?_, ?_, ?_, ?_, ?_⟩
    · simp only [PyData.showableAll, evD, PyData.showable, h1, i1, Bool.and_true]
    · simp only [PyData.hasDictAll, evD, PyData.hasDict, h2, i2, Bool.or_false]
    · simp only [PyData.leavesShortAll, evD, PyData.leavesShort, h3, i3, Bool.and_true]
    · simp only [PyData.weightAll, evD, PyData.weight, List.length_cons]
      omega
    · simp only [PyData.depthAll, evD, PyData.depth]
      omega
theorem shw_run {evs : List Evn} (few : evs.length ≤ 62) (h : ∀ ev ∈ evs, ev.length ≤ 62 ∧ ∀ kb ∈ ev, kb.1 < 64) : Shw (runD evs) := by
  obtain ⟨h1, h2, h3, h4, h5⟩ := shw_evs h
  refine ⟨?_, ?_, ?_, ?_⟩
  · simp only [runD, PyData.showable, h1]
  · simp only [runD, PyData.hasDict, h2]
  · simp only [runD, PyData.depth]
    omega
  · have hs : (100000000 : Nat) ≤ 10 * sizeLine := by decide
    have c3 : (runD evs).leavesShort 8 = true := by simp only [runD, PyData.leavesShort, h3]
    have c4 : (runD evs).weight ≤ 130000 := by
      simp only [runD, PyData.weight]
      omega
    have := PyData.shown_le 8 (Nat.le_refl _) (runD evs) c3
    omega
theorem dp_of {K : PySem.W.Frag} {H : Hp} {α : Type} {f : α → PyData} : ∀ {vs : List V} {xs : List α}, vs.length = xs.length → (∀ (i : Nat) (v : V) (x : α), vs[i]? = some v → xs[i]? = some x → Dp K H v (f x)) → DpAll K H vs (xs.map f)
  | [], [], _, _ => .nil
  | v :: vs, x :: xs, hl, h => .cons (h 0 v x rfl rfl) (dp_of (by simpa using hl) fun i v x a b => h (i + 1) v x (by simpa using a) (by simpa using b))
theorem EvAt.dp {K : PySem.W.Frag} {H : Hp} {v : V} {ev : Evn} (h : EvAt K H v ev) : Dp K H v (evD ev) := by
  obtain ⟨e, pts, rfl, h1, h2, h3⟩ := h
  refine .tup h1 (dp_of h2 fun i v kb a b => ?_)
  obtain ⟨t, rfl, ht⟩ := h3 i v kb a b
  exact .tup ht (.cons (.int _) (.cons (.bl _) .nil))
theorem EvsAt.dp {K : PySem.W.Frag} {H : Hp} {l : Addr} {vs : List V} {evs : List Evn} (hl : H l = some (.lst vs)) (h : EvsAt K H vs evs) : Dp K H (.ref l) (runD evs) := .lst (sql hl) (dp_of h.1 fun i v ev a b => (h.2 i v ev a b).dp)

/-! what laws of parties share -/
theorem law_size3 {t1 t2 t3 : Addr} {H : Hp} {p1 a1 p2 a2 p3 a3 : Nat} (h1 : H t1 = some (.tup [.int (p1 : Int), .int (a1 : Int)])) (h2 : H t2 = some (.tup [.int (p2 : Int), .int (a2 : Int)])) (h3 : H t3 = some (.tup [.int (p3 : Int), .int (a3 : Int)]))
    (b : (2 ≤ p1 ∧ p1 ≤ 40 ∧ a1 ≤ 60) ∧ (2 ≤ p2 ∧ p2 ≤ 40 ∧ a2 ≤ 60) ∧ (2 ≤ p3 ∧ p3 ≤ 40 ∧ a3 ≤ 60)) {k : Int} (k0 : 0 ≤ k) (k3 : k < 3) :
    ∃ (t : Addr) (pl ar : Nat), atI [V.ref t1, .ref t2, .ref t3] k = some (.ref t) ∧ H t = some (.tup [.int (pl : Int), .int (ar : Int)]) ∧ 2 ≤ pl ∧ pl ≤ 40 ∧ ar ≤ 60 := by
  obtain ⟨j, rfl⟩ : ∃ j : Nat, k = (j : Int) := ⟨k.toNat, by omega⟩
  have hj : j = 0 ∨ j = 1 ∨ j = 2 := by omega
  rcases hj with rfl | rfl | rfl
  · exact ⟨t1, p1, a1, atI_nat rfl, h1, b.1⟩
  · exact ⟨t2, p2, a2, atI_nat rfl, h2, b.2.1⟩
  · exact ⟨t3, p3, a3, atI_nat rfl, h3, b.2.2⟩
def dS (rs ls : List Nat) : PyData := .tuple [.tuple (rs.map dN), .tuple (ls.map dN)]
theorem shp_std {rs ls : List Nat} : SeqAt.shaped (dS rs ls) = true := by
  unfold SeqAt.shaped dS
  simp only [PyData.canLay0, PyData.canLayAll0, PyData.depth, PyData.depthAll, lay_nats, dep_nats]
  rfl
theorem StdAt.dp {K : PySem.W.Frag} {H : Hp} {u x y : Addr} {rs ls : List Nat} (S : StdAt K H u x y rs ls) : Dp K H (.ref u) (dS rs ls) := .tup S.t (.cons (.tup S.x dp_nats) (.cons (.tup S.y dp_nats) .nil))
theorem BehindR.uniq {es : Es} {rs ls rs1 ls1 rs2 ls2 : List Nat} {ev : Evn} (h1 : BehindR es rs ls ev rs1 ls1) (h2 : BehindR es rs ls ev rs2 ls2) : rs1 = rs2 ∧ ls1 = ls2 :=
  ⟨lot_eq h1.rp h2.rp fun v => by rw [h1.rm, h2.rm], lot_eq h1.lp h2.lp fun v => by rw [h1.lm, h2.lm]⟩
theorem BehindR.nil {es : Es} {rs ls : List Nat} (hr : rs.Pairwise (· < ·)) (hl : ls.Pairwise (· < ·)) : BehindR es rs ls [] rs ls :=
  ⟨hr, hl, fun v => ⟨.inl, fun h => h.elim id fun ⟨_, _, z, _⟩ => (List.not_mem_nil z).elim⟩, fun l => ⟨.inl, fun h => h.elim id fun z => (List.not_mem_nil z).elim⟩⟩
theorem BehindR.snoc {es : Es} {rs ls rs1 ls1 rs2 ls2 : List Nat} {ev : Evn} {kb : Nat × Bool} (h1 : BehindR es rs ls ev rs1 ls1) (h2 : BehindR es rs1 ls1 [kb] rs2 ls2) : BehindR es rs ls (ev ++ [kb]) rs2 ls2 where
  rp := h2.rp
  lp := h2.lp
  rm := fun v => by
    rw [h2.rm, h1.rm]
    constructor
    · rintro ((h | ⟨k, e, a, b⟩) | ⟨k, e, a, b⟩)
      · exact .inl h
      · exact .inr ⟨k, e, List.mem_append_left _ a, b⟩
      · exact .inr ⟨k, e, List.mem_append_right _ a, b⟩
    · rintro (h | ⟨k, e, a, b⟩)
      · exact .inl (.inl h)
      · rcases List.mem_append.mp a with a | a
        · exact .inl (.inr ⟨k, e, a, b⟩)
        · exact .inr ⟨k, e, a, b⟩
  lm := fun l => by
    rw [h2.lm, h1.lm, List.mem_append]
    exact or_assoc

abbrev s__law_world : Stmt := topS 51
abbrev sl__law_world : List Str := ["_law_hand_here", "_law_parts_here", "_law_share", "_law_found", "_law_k"]
theorem sc__law_world : FnScope ["_law_hand_here", "_law_parts_here", "_law_share", "_law_found", "_law_k"] ["_law_hand_here", "_law_parts_here"] (defScope s__law_world) := ⟨rfl, rfl, rfl, by decide +kernel, rfl, by decide +kernel, by decide +kernel⟩
def spLWorld (K : PySem.W.Frag) : Sp := fun vs H Q _ => ∃ (h t : Addr) (n : Nat) (a : Addr) (pvs : List V) (es : Es) (c : Addr) (gs : List Nat) (F : Hp), vs = [.ref h, .ref t] ∧ PtsAt K H t n a pvs es c gs ∧ Same F H ∧ HandAt F H h ∧
  ∀ (z : Addr) (W : List Nat) (H' : Hp), Dr F H H' h → H z = none → H' z = some (.tup (W.map nV)) → W.Pairwise (· < ·) → (∀ l ∈ W, l < es.length) → (∀ g ∈ gs, Rch (left es W) [0] g) → Q (.ref z) H'
theorem ok__law_world (B : Bt mg) (h_law_draw : Has P w K mg base "_law_draw" 1 ["_law_hand_here", "_law_many"] spDraw) (h_law_shuffled : Has P w K mg base "_law_shuffled" 2 ["_law_hand_here", "_law_things"] (spShuffled K))
    (h_law_is_world : Has P w K mg base "_law_is_world" 2 ["_law_parts_here", "_law_rotten"] (spIsWorld K)) (D0 : Df K mg "_law_world" s__law_world ["_law_hand_here", "_law_parts_here"]) : Has P w K mg base "_law_world" 3 ["_law_hand_here", "_law_parts_here"] (spLWorld K) := by
  refine D0.has fun f fd F => F.ok sc__law_world (fun vs H Q E h => ?_) (fun cdv A outer s H vs Q E hr h => ?_)
  · obtain ⟨h, t, n, a, pvs, es, c, gs, F, rfl, _⟩ := h
    rfl
  · obtain ⟨h, t, n, a, pvs, es, c, gs, F0, rfl, pt, hF, hA, q⟩ := h
    refine ⟨_, (pss_cons (ps_set (i := 2) sc__law_world.nd rfl (.inl rfl) (pe_op op_add pe_int (pcall h_law_draw hr (by decide) (by rfl) (pa_cons (pv 0) (pa_cons pe_int pa_nil)))))
  (pss_cons (ps_set (i := 3) sc__law_world.nd rfl (.inl rfl) (pe_lst pa_nil))
  (pss_cons (ps_for PassesOwn.never rfl (k_pil (K := K) rfl (pcall h_law_shuffled hr (by decide) (by rfl) (pa_cons (pv 0) (pa_cons (pe_listRg rfl (by rfl) B.list (prg_1 (by rfl) B.range (pe_callB (k_len (K := K) rfl) (by rfl) B.len bo_len (pa_cons (pe_ix (k_ixt (K := K) rfl) (pv 1) pe_int (fun _ _ => rfl)) pa_nil)))) pa_nil)))) (pg_name (i := 4) sc__law_world.nd rfl (.inl rfl))
    (pss_one (ps_if (PW.pt (pw_and (pt_cmpR op_eq (pcall h_law_draw hr (by decide) (by rfl) (pa_cons (pv 0) (pa_cons (pv 2) pa_nil))) pe_int (nomark _)) (pw_and1 (pt_val (pcall h_law_is_world hr (by decide) (by rfl) (pa_cons (pv 1) (pa_cons (pe_op op_cat (pv 3) (pe_lst (pa_cons (pv 4) pa_nil))) pa_nil)))))))
    (pss_one (ps_expr (pe_bm PySem.F.plainAttrs_list PySem.F.slot_list_append PySem.F.type_list_append mt_append (pv 3) (pa_cons (pv 4) pa_nil))))
    pss_nil)))
  (pss_one (ps_ret (pe_callTy (k_tuple (K := K) rfl) (by rfl) B.tuple bo_tuple (pa_cons (pe_callB (k_sorted (K := K) rfl) (by rfl) B.sorted bo_sorted (pa_cons (pv 3) pa_nil)) pa_nil))))))), ?_⟩
    have hl := pt.pr.len
    have g60 := pt.gm.l60
    -- the share
    refine ⟨_, rfl, h, 4, F0, rfl, by decide, small_log (by decide) (by omega), hF, hA, fun d0 H1 hd0 hd1 dd1 => ⟨_, _, rfl, rfl, ?_⟩⟩
    have d1 := dd1.dr
    refine ⟨Nat.zero_le _, fun l nl => ?_⟩
    have nl0 : H l = none := d1.free nl
    have nlh : l ≠ h := hA.ne nl0
    have nlF : F0 l = none := Same.free hF nl0
    have s2 := same_new (o := .lst []) (Same.refl H1) nl
    have d2 := d1.trans (Dr.of_same d1.hand d1.sub s2)
    have hl2 : upd H1 l (.lst []) l = some (.lst []) := upd_same
    generalize upd H1 l (.lst []) = H2 at s2 d2 hl2
    have pt2 := pt.dr d2 hA
    -- the arrows in a drawn order
    refine ⟨_, rfl, _, rfl, t, _, (1 : Nat), .ref a, rfl, rfl, pt2.tp, atI_nat rfl, a, pvs, rfl, .inr pt2.ar, (pvs.length : Int), rfl, ⟨by omega, by omega, by omega, by omega, by omega⟩, fun r nr => ?_⟩
    have s3 := same_new (o := .lst (rgV 0 (pvs.length : Int))) (Same.refl H2) nr
    have d3 := d2.trans (Dr.of_same d2.hand d2.sub s3)
    refine ⟨h, r, _, F0, rfl, .inl (sql upd_same), by rw [rgV_length]; omega, d3.sub, d3.hand, fun p H4 ysv hperm d4' np hp4 => ?_⟩
    have hl3 := s3 _ _ hl2
    have d4 := d3.trans d4'
    rw [rgV0] at hperm
    obtain ⟨ys, rfl, hys⟩ := perm_nats hperm
    have nph : p ≠ h := hA.ne (d3.free np)
    have npl : p ≠ l := fun z => by rw [z, hl3] at np; cases np
    have hl4 := d4'.same l _ nlh hl3
    have ynd : ys.Nodup := hys.nodup_iff.mpr List.nodup_range
    have yl : ys.length = pvs.length := by rw [hys.length_eq, List.length_range]
    refine ⟨p, rfl, ⟨_, sql hp4⟩, ?_⟩
    refine for_list (xs := ys.map nV) (fun i σ H' => ∃ (x4 : Option V) (fs : List Nat), σ = [some (.ref h), some (.ref t), some (.int (1 + d0)), some (.ref l), x4] ∧ Dr F0 H H' h ∧ H' p = some (.lst (ys.map nV)) ∧ H' l = some (.lst (fs.map nV)) ∧ fs.Sublist (ys.take i) ∧ ∀ g ∈ gs, Rch (left es fs) [0] g)
      ⟨none, [], rfl, d4, hp4, hl4, List.nil_sublist _, fun g hg => (pt.gm.rch g hg).mono (fun e he => by
        obtain ⟨k, hk⟩ := List.getElem?_of_mem he
        exact mem_leftV.mpr ⟨k, hk, List.not_mem_nil⟩) fun _ h => h⟩ ?_ ?_ ?_
    · rintro i σ H' _ ⟨_, _, rfl, _, hp, _⟩
      exact sql hp
    · rintro i v σ H5 hv ⟨x4, fs, rfl, d5, hp5, hl5, hsub, hopn⟩
      obtain ⟨k, hki, rfl⟩ := getmap hv
      have hkm : k ∈ List.range pvs.length := hys.mem_iff.mp (List.mem_of_getElem? hki)
      rw [List.mem_range] at hkm
      have hit : ys.take (i + 1) = ys.take i ++ [k] := by rw [List.take_add_one, hki]; rfl
      have stay : fs.Sublist (ys.take (i + 1)) := by rw [hit]; exact hsub.trans (List.sublist_append_left _ _)
      have fl : fs.length ≤ ys.length := Nat.le_trans hsub.length_le (by rw [List.length_take]; exact Nat.min_le_right _ _)
      refine ⟨_, rfl, _, rfl, h, 1 + d0, F0, rfl, by omega, small_log (by omega) (by omega), d5.sub, d5.hand, fun e0 H6 he0 he1 dd6 => ⟨rfl, _, rfl, ?_⟩⟩
      have d6' := dd6.dr
      have d6 := d5.trans d6'
      have hp6 := d6'.same p _ nph hp5
      have hl6 := d6'.same l _ nlh hl5
      by_cases hz : e0 = 0
      · rw [hz, decide_eq_true (rfl : V.int 0 = V.int 0)]
        refine iteT ?_
        refine ⟨_, rfl, _, rfl, _, rfl, Nat.le_of_lt (small_lt (by decide : 1 ≤ 100000)), fun u nu => ?_⟩
        have s7 := same_new (o := .lst [nV k]) (Same.refl H6) nu
        refine ⟨l, u, _, _, rfl, rfl, s7 _ _ hl6, upd_same, small_sz (by rw [List.length_map]; show fs.length + 1 ≤ 100000; omega), fun u2 nu2 => ?_⟩
        have s8 := same_new (o := .lst (fs.map nV ++ [nV k])) (Same.refl _) nu2
        have s68 := s7.trans s8
        have d8 := d6.trans (Dr.of_same d6.hand d6.sub s68)
        have hu2 : upd (upd H6 u (.lst [nV k])) u2 (.lst (fs.map nV ++ [nV k])) u2 = some (.lst ((fs ++ [k]).map nV)) := by rw [upd_same, List.map_append]; rfl
        generalize upd (upd H6 u (.lst [nV k])) u2 (.lst (fs.map nV ++ [nV k])) = H8 at s68 d8 hu2
        have pt8 := pt.dr d8 hA
        refine ⟨t, n, a, pvs, es, c, gs, u2, fs ++ [k], rfl, pt8, .inl (sql hu2), fun H9 ok s9 hok => ⟨_, rfl, ?_⟩⟩
        have s69 := s68.trans s9
        have d9 := d6.trans (Dr.of_same d6.hand d6.sub s69)
        cases ok with
        | true =>
          refine iteT ?_
          refine ⟨_, rfl, .inl ⟨rfl, _, sql (s69 _ _ hl6)⟩, _, rfl, l, _, _, rfl, rfl, s69 _ _ hl6, by rw [List.length_map]; exact small_lt (by omega), ?_⟩
          refine ⟨_, fs ++ [k], rfl, d9.upd nl0 nlh nlF, by rw [upd_ne npl]; exact s69 _ _ hp6, by rw [upd_same, List.map_append]; rfl, by rw [hit]; exact hsub.append (List.Sublist.refl _), hok.mp rfl⟩
        | false =>
          refine iteF ?_
          exact ⟨_, fs, rfl, d9, s69 _ _ hp6, s69 _ _ hl6, stay, hopn⟩
      · rw [decide_eq_false (show ¬ V.int e0 = V.int 0 from fun z => hz (by injection z))]
        refine iteF (iteF ?_)
        exact ⟨_, fs, rfl, d6, hp6, hl6, stay, hopn⟩
    · rintro σ H5 ⟨x4, fs, rfl, d5, hp5, hl5, hsub, hopn⟩
      have hsub' : fs.Sublist ys := hsub.trans (List.take_sublist _ _)
      have fnd := hsub'.nodup ynd
      refine ⟨_, rfl, l, fs.map fun (n : Nat) => (n : Int), rfl, sql (by rw [List.map_map]; exact hl5), fun ns' z hperm2 hsrt nz => ?_⟩
      obtain ⟨os, e5, hos, hpw⟩ := sort_nats hperm2 hsrt
      rw [e5]
      have s6 := same_new (o := .lst (os.map nV)) (Same.refl H5) nz
      refine ⟨z, _, rfl, .inl ⟨sql upd_same, fun z2 nz2 => ?_⟩⟩
      have s7 := same_new (o := .tup (os.map nV)) s6 nz2
      refine q z2 os _ (d5.trans (Dr.of_same d5.hand d5.sub s7)) (d5.free (Same.free s6 nz2)) upd_same (pw_lt hpw (hos.nodup_iff.mpr fnd)) (fun x hx => ?_) fun g hg => left_same (fun x => hos.mem_iff) (hopn g hg)
      have h1 := hys.mem_iff.mp (hsub'.subset (hos.mem_iff.mp hx))
      rw [List.mem_range] at h1
      omega

abbrev s__law_behind : Stmt := topS 56
abbrev sl__law_behind : List Str := ["_law_parts_here", "_law_reached", "_law_rotten", "_law_arrow", "_law_sound", "_law_place", "_law_one"]
theorem sc__law_behind : FnScope ["_law_parts_here", "_law_reached", "_law_rotten", "_law_arrow", "_law_sound", "_law_place", "_law_one"] ["_law_parts_here", "_law_reached", "_law_rotten", "_law_arrow", "_law_sound"] (defScope s__law_behind) := ⟨rfl, rfl, rfl, by decide +kernel, rfl, by decide +kernel, by decide +kernel⟩
theorem cat_one {K : PySem.W.Frag} {H : Hp} {a b : Addr} {ls : List Nat} {k : Nat} {Q : VK} (ha : SqT K H a (ls.map nV)) (hb : SqT K H b [nV k]) (hl : ls.length ≤ 1000) (h : ∀ d H', Same H H' → SqT K H' d ((ls ++ [k]).map nV) → Q (.ref d) H') : rCatA K (.ref a) (.ref b) H Q := by
  refine ⟨a, b, _, _, rfl, rfl, ha, hb, small_sz (by rw [List.length_map]; show ls.length + 1 ≤ 100000; omega), fun e => ?_, fun _ e => absurd e (by simp), fun _ _ p np => ?_⟩
  · have e2 : ls = [] := List.map_eq_nil_iff.mp e
    refine h b H (Same.refl H) ?_
    rw [e2]
    exact hb
  · refine h p _ (same_new (Same.refl H) np) (sqt ?_)
    rw [upd_same, List.map_append]
    rfl
/-- what one piece of news makes of a standing, whatever the arrow's head is -/
def spBehindW (K : PySem.W.Frag) : Sp := fun vs H Q _ => ∃ (t : Addr) (n : Nat) (a : Addr) (pvs : List V) (es : Es) (c : Addr) (gs : List Nat) (x y : Addr) (rs ls : List Nat) (k : Nat) (b : Bool), vs = [.ref t, .ref x, .ref y, nV k, .bl b] ∧ PtsAt K H t n a pvs es c gs ∧ SqT K H x (rs.map nV) ∧ SqT K H y (ls.map nV) ∧
  rs.Pairwise (· < ·) ∧ (∀ r ∈ rs, r < n) ∧ ls.Pairwise (· < ·) ∧ (∀ l ∈ ls, l < es.length) ∧ k < es.length ∧ k ∉ ls ∧ ∀ (z x' y' : Addr) (rs' ls' : List Nat) (H' : Hp), Same H H' → StdAt K H' z x' y' rs' ls' → BehindR es rs ls [(k, b)] rs' ls' → Q (.ref z) H'
theorem ok__law_behind (B : Bt mg) (D0 : Df K mg "_law_behind" s__law_behind ["_law_parts_here", "_law_reached", "_law_rotten", "_law_arrow", "_law_sound"]) : Has P w K mg base "_law_behind" 1 ["_law_parts_here", "_law_reached", "_law_rotten", "_law_arrow", "_law_sound"] (spBehindW K) := by
  refine D0.has fun f fd F => F.ok sc__law_behind (fun vs H Q E h => ?_) (fun cdv A outer s H vs Q E hr h => ?_)
  · obtain ⟨t, n, a, pvs, es, c, gs, x, y, rs, ls, k, b, rfl, _⟩ := h
    rfl
  · obtain ⟨t, n, a, pvs, es, c, gs, x, y, rs, ls, k, b, rfl, hP, hx, hy, rp, rn, lp, ln, hkn, hkl, q⟩ := h
    refine ⟨_, (pss_cons (ps_if (pt_val (pv 4))
    (pss_cons (ps_set (i := 5) sc__law_behind.nd rfl (.inr rfl) (pe_ix (k_ixt (K := K) rfl) (pe_ix (k_ixt (K := K) rfl) (pe_ix (k_ixt (K := K) rfl) (pv 0) pe_int (fun _ _ => rfl)) (pv 3) (fun _ _ => rfl)) pe_int (fun _ _ => rfl)))
  (pss_one (ps_ret (pe_tup (pa_cons (pe_callTy (k_tuple (K := K) rfl) (by rfl) B.tuple bo_tuple (pa_cons (pe_callB (k_sorted (K := K) rfl) (by rfl) B.sorted bo_sorted (pa_cons (pe_op op_cat (pe_lc (own := [("_law_one", 6)]) (g := gName 6) rfl sc__law_behind.nd (k_pit (K := K) rfl (pv 1)) (blkOk_by (N := sl__law_behind) (sc := defScope s__law_behind) (by decide +kernel)) (fun _ _ _ _ _ => (pg_name (i := 6) sc__law_behind.nd rfl (.inl rfl))) (fun _ _ _ _ _ => pts_one (pt_cmpR op_ne (pv 6) (pv 5) (nomark _))) (fun _ _ _ _ _ => (pv 6))) (pe_lst (pa_cons (pv 5) pa_nil))) pa_nil)) pa_nil)) (pa_cons (pv 2) pa_nil))))))
    pss_nil)
  (pss_one (ps_ret (pe_tup (pa_cons (pv 1) (pa_cons (pe_callTy (k_tuple (K := K) rfl) (by rfl) B.tuple bo_tuple (pa_cons (pe_callB (k_sortedT (K := K) rfl) (by rfl) B.sorted bo_sorted (pa_cons (pe_op (k_cat (K := K) rfl) (pv 2) (pe_tup (pa_cons (pv 3) pa_nil))) pa_nil)) pa_nil)) pa_nil)))))), ?_⟩
    have hl := hP.pr.len
    have gn := hP.gm.n40
    have g60 := hP.gm.l60
    obtain ⟨⟨e1, e2⟩, hke⟩ : ∃ e, es[k]? = some e := ⟨_, List.getElem?_eq_getElem hkn⟩
    have hrl : rs.length ≤ n - 0 := pw_len rp fun z hz => ⟨Nat.zero_le _, rn z hz⟩
    have hll : ls.length ≤ es.length - 0 := pw_len lp fun z hz => ⟨Nat.zero_le _, ln z hz⟩
    refine ⟨_, rfl, b, rfl, ?_⟩
    cases b with
    | true =>
      refine iteT ?_
      have hkv : pvs[k]? = some (pvs[k]'(by omega)) := List.getElem?_eq_getElem _
      obtain ⟨tt, htt, ht⟩ := hP.pr.at_ k _ _ hkv hke
      refine ⟨_, rfl, t, _, (1 : Nat), .ref a, rfl, rfl, hP.tp, atI_nat rfl, _, rfl, a, pvs, (k : Int), _, rfl, rfl, hP.ar, atI_nat hkv, tt, _, (1 : Nat), nV e2, htt, rfl, ht, atI_nat rfl, ?_⟩
      refine ⟨_, rfl, x, rfl, ⟨_, hx⟩, fun D nD => ?_⟩
      refine lc_val walk_tup calm_at (fun i => (rs[i]?).bind fun g => if g = e2 then none else some (nV g)) (by rw [List.length_map]; omega) nD (fun H3 s3 => Same.sqt s3 hx) ?_ fun H1 s1 h1 => ?_
      · rintro i v H3 H4 hi s3 ⟨rfl, hv⟩ Kt kt
        obtain ⟨g, hgi, rfl⟩ := getmap hv
        have k0 := kt _ (Same.refl _)
        rw [hgi] at k0
        simp only [Option.bind_some] at k0
        refine ⟨rfl, ?_⟩
        refine ⟨_, rfl, _, rfl, rfl, _, rfl, ?_⟩
        by_cases hg : g = e2
        · rw [if_pos hg] at k0
          subst hg
          rw [decide_eq_true (rfl : nV g = nV g)]
          exact iteF k0
        · rw [if_neg hg] at k0
          rw [decide_eq_false (show ¬ nV g = nV e2 from fun z => hg (by
            have z' : V.int (g : Int) = V.int (e2 : Int) := z
            injection z' with z'
            omega))]
          exact iteT ⟨_, rfl, k0⟩
      rw [List.length_map, fm_range] at h1
      obtain ⟨S, hSd⟩ : ∃ S : List Nat, S = rs.filterMap fun g => if g = e2 then none else some g := ⟨_, rfl⟩
      have e3 : (rs.filterMap fun g => if g = e2 then none else some (nV g)) = S.map nV := by
        rw [hSd, List.map_filterMap]
        congr 1
        funext g
        split <;> rfl
      rw [e3] at h1
      have hS : ∀ v, v ∈ S ↔ v ∈ rs ∧ v ≠ e2 := fun v => by
        rw [hSd, List.mem_filterMap]
        constructor
        · rintro ⟨g, hg, h⟩
          split at h
          · cases h
          · rename_i hc
            cases h
            exact ⟨hg, hc⟩
        · rintro ⟨h1, h2⟩
          exact ⟨v, h1, if_neg h2⟩
      have hSn : S.Nodup := by
        rw [hSd]
        refine (List.Pairwise.filterMap (R := fun a b : Nat => a < b) (S := fun a b : Nat => a < b) _ (fun a b hab x hx y hy => ?_) rp).imp fun h => Nat.ne_of_lt h
        · split at hx
          · cases hx
          · cases hx
            split at hy
            · cases hy
            · cases hy
              exact hab
      have hSl : S.length ≤ n := by
        rw [hSd]
        exact Nat.le_trans (List.length_filterMap_le _ _) (by omega)
      refine ⟨_, rfl, by show 1 ≤ sizeLine; decide, fun l nl => ?_⟩
      have s2 := same_new (o := .lst [nV e2]) (Same.refl H1) nl
      refine ⟨D, l, _, _, rfl, rfl, s2 _ _ h1, upd_same, small_sz (by rw [List.length_map]; show S.length + 1 ≤ 100000; omega), fun r nr => ?_⟩
      have s3 := same_new (o := .lst (S.map nV ++ [nV e2])) (Same.refl _) nr
      refine ⟨r, (S ++ [e2]).map fun (n : Nat) => (n : Int), rfl, sql (by rw [upd_same, List.map_map, List.map_append]; rfl), fun ns' z hperm hsrt nz => ?_⟩
      obtain ⟨os, e5, hos5, hpw⟩ := sort_nats hperm hsrt
      have hnd : (S ++ [e2]).Nodup := by
        rw [List.nodup_append]
        refine ⟨hSn, by simp, fun x hx y hy => ?_⟩
        rw [List.mem_singleton.mp hy]
        exact fun z => ((hS x).mp hx).2 z
      rw [e5]
      have s4 := same_new (o := .lst (os.map nV)) (Same.refl _) nz
      refine ⟨z, _, rfl, .inl ⟨sql upd_same, fun q1 nq1 => ⟨_, rfl, by show 2 ≤ sizeLine; decide, fun q3 nq3 => ?_⟩⟩⟩
      have s5 := same_new (o := .tup (os.map nV)) (Same.refl _) nq1
      have s6 := same_new (o := .tup [.ref q1, .ref y]) (Same.refl _) nq3
      have sm := ((((s1.trans s2).trans s3).trans s4).trans s5).trans s6
      refine q q3 q1 y os ls _ sm ⟨sqt upd_same, sqt (s6 _ _ upd_same), Same.sqt sm hy⟩ ⟨pw_lt hpw (hos5.nodup_iff.mpr hnd), lp, fun v => ?_, fun l => ⟨.inl, fun h => h.elim id fun z => (by cases List.mem_singleton.mp z)⟩⟩
      rw [hos5.mem_iff, List.mem_append, List.mem_singleton, hS]
      constructor
      · rintro (⟨h, _⟩ | h)
        · exact .inl h
        · exact .inr ⟨k, _, List.mem_cons_self, hke, h.symm⟩
      · rintro (h | ⟨j, e, hj, he, rfl⟩)
        · by_cases z : v = e2
          · exact .inr z
          · exact .inl ⟨h, z⟩
        · cases List.mem_singleton.mp hj
          rw [hke] at he
          cases he
          exact .inr rfl
    | false =>
      refine iteF ?_
      refine ⟨_, rfl, _, rfl, _, rfl, by show 1 ≤ sizeLine; decide, fun l nl => ?_⟩
      have s1 := same_new (o := .tup [nV k]) (Same.refl H) nl
      refine cat_one (Same.sqt s1 hy) (sqt upd_same) (by omega) fun d H2 s2 hd => ?_
      refine ⟨d, (ls ++ [k]).map fun (n : Nat) => (n : Int), rfl, by rw [List.map_map]; exact hd, fun ns' z hperm hsrt nz => ?_⟩
      obtain ⟨os, e5, hos5, hpw⟩ := sort_nats hperm hsrt
      have hnd : (ls ++ [k]).Nodup := by
        rw [List.nodup_append]
        refine ⟨lp.imp fun h => Nat.ne_of_lt h, by simp, fun x hx y hy => ?_⟩
        rw [List.mem_singleton.mp hy]
        exact fun z => hkl (z ▸ hx)
      rw [e5]
      have s3 := same_new (o := .lst (os.map nV)) (Same.refl H2) nz
      refine ⟨z, _, rfl, .inl ⟨sql upd_same, fun q1 nq1 => ⟨by show 2 ≤ sizeLine; decide, fun q3 nq3 => ?_⟩⟩⟩
      have s5 := same_new (o := .tup (os.map nV)) (Same.refl _) nq1
      have s6 := same_new (o := .tup [.ref x, .ref q1]) (Same.refl _) nq3
      have sm := (((s1.trans s2).trans s3).trans s5).trans s6
      refine q q3 x q1 rs os _ sm ⟨sqt upd_same, Same.sqt sm hx, sqt (s6 _ _ upd_same)⟩ ⟨rp, pw_lt hpw (hos5.nodup_iff.mpr hnd), fun v => ⟨.inl, fun h => h.elim id fun ⟨j, e, z, _⟩ => (by cases List.mem_singleton.mp z)⟩, fun v => ?_⟩
      rw [hos5.mem_iff, List.mem_append, List.mem_singleton]
      constructor
      · rintro (h | h)
        · exact .inl h
        · rw [h]
          exact .inr List.mem_cons_self
      · rintro (h | h)
        · exact .inl h
        · cases List.mem_singleton.mp h
          exact .inr rfl

abbrev s__law_here : Stmt := topS 58
abbrev sl__law_here : List Str := ["_law_parts_here", "_law_run", "_law_here_here", "_law_evening", "_law_k", "_law_sound"]
theorem sc__law_here : FnScope ["_law_parts_here", "_law_run", "_law_here_here", "_law_evening", "_law_k", "_law_sound"] ["_law_parts_here", "_law_run"] (defScope s__law_here) := ⟨rfl, rfl, rfl, by decide +kernel, rfl, by decide +kernel, by decide +kernel⟩
def spHere15 (K : PySem.W.Frag) : Sp := fun vs H Q _ => ∃ (pt l : Addr) (n : Nat) (a : Addr) (pvs : List V) (es : Es) (c : Addr) (gs W : List Nat) (tvs : List V) (hist : List (Stg × Evn)) (cur : Stg), vs = [.ref pt, .ref l] ∧ PtsAt K H pt n a pvs es c gs ∧ StdOk n es gs [0] [] ∧ (∀ g ∈ gs, Rch (left es W) [0] g) ∧
  Led es gs W hist cur ∧ H l = some (.lst tvs) ∧ EvsAt K H tvs (hist.map (·.2)) ∧ ∀ (u x y : Addr) (H' : Hp), Same H H' → StdAt K H' u x y cur.1 cur.2 → Q (.ref u) H'
theorem ok__law_here (h_law_behind : Has P w K mg base "_law_behind" 1 ["_law_parts_here", "_law_reached", "_law_rotten", "_law_arrow", "_law_sound"] (spBehindW K)) (D0 : Df K mg "_law_here" s__law_here ["_law_parts_here", "_law_run"]) : Has P w K mg base "_law_here" 2 ["_law_parts_here", "_law_run"] (spHere15 K) := by
  refine D0.has fun f fd F => F.ok sc__law_here (fun vs H Q E h => ?_) (fun cdv A outer s H vs Q E hr h => ?_)
  · obtain ⟨pt, l, n, a, pvs, es, c, gs, W, tvs, hist, cur, rfl, _⟩ := h
    rfl
  · obtain ⟨pt, l, n, a, pvs, es, c, gs, W, tvs, hist, cur, rfl, hpt, o0, Wo, G, hl, hE, q⟩ := h
    refine ⟨_, (pss_cons (ps_set (i := 2) sc__law_here.nd rfl (.inl rfl) (pe_tup (pa_cons (pe_tup (pa_cons pe_int pa_nil)) (pa_cons (pe_tup pa_nil) pa_nil))))
  (pss_cons (ps_for PassesOwn.never rfl (k_pil (K := K) rfl (pv 1)) (pg_name (i := 3) sc__law_here.nd rfl (.inl rfl))
    (pss_one (ps_for PassesOwn.never rfl (k_pit (K := K) rfl (pv 3)) (pg_tup rfl (pgs_cons (pg_name (i := 4) sc__law_here.nd rfl (.inl rfl)) (pgs_cons (pg_name (i := 5) sc__law_here.nd rfl (.inl rfl)) pgs_nil)))
    (pss_one (ps_set (i := 2) sc__law_here.nd rfl (.inl rfl) (pcall h_law_behind hr (by decide) (by rfl) (pa_cons (pv 0) (pa_cons (pe_ix (k_ixt (K := K) rfl) (pv 2) pe_int (fun _ _ => rfl)) (pa_cons (pe_ix (k_ixt (K := K) rfl) (pv 2) pe_int (fun _ _ => rfl)) (pa_cons (pv 4) (pa_cons (pv 5) pa_nil)))))))))))
  (pss_one (ps_ret (pv 2))))), ?_⟩
    have hok : ∀ e ∈ es, e.1 < n ∧ e.2 < n := fun e he => ⟨(hpt.gm.ok e he).1, (hpt.gm.ok e he).2.1⟩
    have htl := hE.1
    rw [List.length_map] at htl
    refine ⟨by show 1 ≤ sizeLine; decide, fun x0 nx0 => ⟨Nat.zero_le _, fun y0 ny0 => ⟨by show 2 ≤ sizeLine; decide, fun u0 nu0 => ?_⟩⟩⟩
    have s1 := same_new (o := .tup [.int 0]) (Same.refl H) nx0
    have s2 := same_new (o := .tup []) (Same.refl _) ny0
    have s3 := same_new (o := .tup [.ref x0, .ref y0]) (Same.refl _) nu0
    have s13 := (s1.trans s2).trans s3
    have st0 : StdAt K _ u0 x0 y0 [0] [] := ⟨sqt upd_same, sqt (s3 _ _ (s2 _ _ upd_same)), sqt (s3 _ _ upd_same)⟩
    generalize upd (upd (upd H x0 (.tup [.int 0])) y0 (.tup [])) u0 (.tup [.ref x0, .ref y0]) = H3 at s13 st0
    have hl3 := s13 _ _ hl
    refine ⟨_, rfl, l, rfl, ⟨_, sql hl3⟩, ?_⟩
    refine for_it (walk_list (xs := tvs)) (fun i σ H' => ∃ (x3 x4 x5 : Option V) (u x y : Addr) (st : Stg), σ = [some (.ref pt), some (.ref l), some (.ref u), x3, x4, x5] ∧ Same H H' ∧ StdAt K H' u x y st.1 st.2 ∧ (stsOf hist cur)[i]? = some st)
      ⟨none, none, none, u0, x0, y0, ([0], []), rfl, s13, st0, G.zero⟩ (fun i σ H' hi ⟨_, _, _, _, _, _, _, _, sm, _⟩ => sql (sm _ _ hl)) ?_ ?_
    · rintro i v σ H0x H4 hi ⟨x3, x4, x5, u, x, y, st, rfl, s4, S4, e4⟩ ⟨rfl, hv⟩
      have hih : i < hist.length := by omega
      obtain ⟨st', lot, st2, a1, a2, a3, a4, a5, a6, a7, a8, a9⟩ := G.at i hih
      have es1 : st' = st := Option.some.inj (a2.symm.trans e4)
      subst es1
      have o := a4.std o0 hok Wo
      obtain ⟨eA, pts, rfl, hA, lA, cA⟩ := (hE.2 i v (evOf W lot) hv (by rw [List.getElem?_map, a1]; rfl)).nl (Same.nl s4)
      have tln : ∀ z ∈ lot, z < es.length := fun z hz => by
        obtain ⟨e, he, _⟩ := mem_tries.mp (a8 z hz)
        exact (List.getElem?_eq_some_iff.mp he).1
      refine ⟨_, rfl, eA, rfl, ⟨_, hA⟩, ?_⟩
      refine for_tup (xs := pts) (fun j σ H' => ∃ (x4 x5 : Option V) (u2 x2 y2 : Addr) (rs2 ls2 : List Nat), σ = [some (.ref pt), some (.ref l), some (.ref u2), some (.ref eA), x4, x5] ∧ Same H4 H' ∧ StdAt K H' u2 x2 y2 rs2 ls2 ∧ BehindR es st'.1 st'.2 (evOf W (lot.take j)) rs2 ls2)
        ⟨_, _, u, x, y, st'.1, st'.2, rfl, Same.refl _, S4, BehindR.nil o.rp o.lp⟩ ?_ ?_ ?_
      · rintro j σ H' _ ⟨_, _, _, _, _, _, _, rfl, sm, _⟩
        exact Same.sqt sm hA
      · rintro j v σ H5 hv ⟨x4, x5, u2, x2, y2, rs2, ls2, rfl, sm, S2, R2⟩
        have hjl : j < lot.length := by
          have := (List.getElem?_eq_some_iff.mp hv).1
          unfold evOf at lA
          rw [List.length_map] at lA
          omega
        have hkj : lot[j]? = some lot[j] := List.getElem?_eq_getElem hjl
        have hkm := List.getElem_mem hjl
        generalize lot[j] = k at hkj hkm
        obtain ⟨tt, rfl, htt⟩ := cA j v (k, decide (k ∉ W)) hv (by unfold evOf; rw [List.getElem?_map, hkj]; rfl)
        have lnd : lot.Nodup := a7.imp fun h => Nat.ne_of_lt h
        have kout : k ∉ lot.take j := fun z => by
          obtain ⟨m, hm⟩ := List.mem_iff_getElem?.mp z
          have hmj : m < j := by
            have := (List.getElem?_eq_some_iff.mp hm).1
            rw [List.length_take] at this
            omega
          rw [List.getElem?_take_of_lt hmj] at hm
          obtain ⟨c1, b1⟩ := List.getElem?_eq_some_iff.mp hm
          obtain ⟨c2, b2⟩ := List.getElem?_eq_some_iff.mp hkj
          exact List.pairwise_iff_getElem.mp lnd m j c1 c2 hmj (b1.trans b2.symm)
        refine ⟨tt, _, rfl, Same.sqt sm htt, rfl, _, _, rfl, _, _, rfl, rfl, ?_⟩
        refine ⟨_, rfl, _, rfl, u2, _, (0 : Nat), .ref x2, rfl, rfl, S2.t, atI_nat rfl, _, rfl, u2, _, (1 : Nat), .ref y2, rfl, rfl, S2.t, atI_nat rfl, _, rfl, _, rfl, ?_⟩
        refine ⟨pt, n, a, pvs, es, c, gs, x2, y2, rs2, ls2, k, decide (k ∉ W), rfl, (hpt.same s4).same sm, S2.x, S2.y, R2.rp, fun r hr => ?_, R2.lp, fun l hl => ?_, tln k hkm, fun hl => ?_, fun z2 x3 y3 rs3 ls3 H19 s19 S3 R3 => ?_⟩
        · rcases (R2.rm r).mp hr with z | ⟨k', e, _, he, rfl⟩
          · exact o.rn r z
          · exact (hok e (List.mem_of_getElem? he)).2
        · rcases (R2.lm l).mp hl with z | z
          · exact o.ln l z
          · exact tln l (List.mem_of_mem_take (mem_evOf.mp z).1)
        · rcases (R2.lm k).mp hl with z | z
          · obtain ⟨e, _, hkl, _⟩ := mem_tries.mp (a8 k hkm)
            exact hkl z
          · exact kout (mem_evOf.mp z).1
        · refine ⟨_, _, z2, x3, y3, rs3, ls3, rfl, sm.trans s19, S3, ?_⟩
          have e : evOf W (lot.take (j + 1)) = evOf W (lot.take j) ++ [(k, decide (k ∉ W))] := by
            unfold evOf
            rw [List.take_add_one, hkj, List.map_append]
            rfl
          rw [e]
          exact R2.snoc R3
      rintro σ H5 ⟨x4, x5, u2, x2, y2, rs2, ls2, rfl, sm, S2, R2⟩
      have e : evOf W (lot.take pts.length) = evOf W lot := by
        rw [List.take_of_length_le (by unfold evOf at lA; rw [List.length_map] at lA; omega)]
      rw [e] at R2
      obtain ⟨e5, e6⟩ := R2.uniq a9
      refine ⟨_, _, _, u2, x2, y2, st2, rfl, s4.trans sm, by rw [← e5, ← e6]; exact S2, a3⟩
    · rintro σ H4 ⟨x3, x4, x5, u, x, y, st, rfl, s4, S4, e4⟩
      have e : st = cur := by
        have := List.getElem?_concat_length (l := hist.map (·.1)) (a := cur)
        rw [List.length_map, ← htl] at this
        exact Option.some.inj (e4.symm.trans this)
      subst e
      exact ⟨_, rfl, q u x y _ s4 S4⟩

abbrev s__law_is_wise : Stmt := topS 59
abbrev sl__law_is_wise : List Str := ["_law_parts_here", "_law_run", "_law_at", "_law_here_here", "_law_good", "_law_k", "_law_sound"]
theorem sc__law_is_wise : FnScope ["_law_parts_here", "_law_run", "_law_at", "_law_here_here", "_law_good", "_law_k", "_law_sound"] ["_law_parts_here", "_law_run"] (defScope s__law_is_wise) := ⟨rfl, rfl, rfl, by decide +kernel, rfl, by decide +kernel, by decide +kernel⟩
abbrev sc1_law_is_wise : Scope := { kind := .function, names := [(".0", .local), ("_law_k", .local), ("_law_sound", .local), ("_law_good", .cell)], isGenerator := false, isCoroutine := false, more := [] }
theorem cut_pre15 {xs : List V} {j : Nat} : cutV xs none (some ((0 : Int) + (j : Int))) = xs.take j := by
  unfold cutV
  rw [show ((0 : Int) + (j : Int)) = (j : Int) by omega, HT.sIx_nat, HT.sIx_none, List.drop_zero, Nat.sub_zero]
  rw [List.take_eq_take_min (i := j)]
theorem EvsAt.take15 {K : PySem.W.Frag} {H : Hp} {vs : List V} {evs : List Evn} (h : EvsAt K H vs evs) (j : Nat) : EvsAt K H (vs.take j) (evs.take j) := by
  refine ⟨by rw [List.length_take, List.length_take, h.1], fun i v ev a b => ?_⟩
  have hi : i < j := by
    have := (List.getElem?_eq_some_iff.mp a).1
    rw [List.length_take] at this
    omega
  rw [List.getElem?_take_of_lt hi] at a b
  exact h.2 i v ev a b
def spIsWise (K : PySem.W.Frag) : Sp := fun vs H Q _ => ∃ (pt l : Addr) (n : Nat) (a : Addr) (pvs : List V) (es : Es) (c : Addr) (gs W : List Nat) (tvs : List V) (hist : List (Stg × Evn)) (cur : Stg), vs = [.ref pt, .ref l] ∧ PtsAt K H pt n a pvs es c gs ∧ StdOk n es gs [0] [] ∧ (∀ g ∈ gs, Rch (left es W) [0] g) ∧
  Led es gs W hist cur ∧ H l = some (.lst tvs) ∧ EvsAt K H tvs (hist.map (·.2)) ∧ hist.length ≤ 62 ∧ (∀ x ∈ hist, x.2.length ≤ 62) ∧ ∀ (H' : Hp) (b : Bool), Same H H' → (b = true ↔ Wise es gs hist) → Q (.bl b) H'
theorem ok__law_is_wise (B : Bt mg) (h_law_here : Has P w K mg base "_law_here" 2 ["_law_parts_here", "_law_run"] (spHere15 K)) (h_law_worth : Has P w K mg base "_law_worth" 3 ["_law_parts_here", "_law_reached", "_law_rotten"] (spLT K LWorth)) (D0 : Df K mg "_law_is_wise" s__law_is_wise ["_law_parts_here", "_law_run"]) : Has P w K mg base "_law_is_wise" 4 ["_law_parts_here", "_law_run"] (spIsWise K) := by
  refine D0.has fun f fd F => F.ok sc__law_is_wise (fun vs H Q E h => ?_) (fun cdv A outer s H vs Q E hr h => ?_)
  · obtain ⟨pt, l, n, a, pvs, es, c, gs, W, tvs, hist, cur, rfl, _⟩ := h
    rfl
  · obtain ⟨pt, l, n, a, pvs, es, c, gs, W, tvs, hist, cur, rfl, hpt, o0, Wo, G, hl, hE, few, ev62, q⟩ := h
    refine ⟨_, (pss_cons (ps_for PassesOwn.never rfl (pi_range1 (by rfl) B.range (pa_cons (pe_callB (k_len (K := K) rfl) (by rfl) B.len bo_len (pa_cons (pv 1) pa_nil)) pa_nil)) (pg_name (i := 2) sc__law_is_wise.nd rfl (.inl rfl))
    (pss_cons (ps_set (i := 3) sc__law_is_wise.nd rfl (.inl rfl) (pcall h_law_here hr (by decide) (by rfl) (pa_cons (pv 0) (pa_cons (pe_slice (k_sll (K := K) rfl) (pv 1) po_none (po_some (pv 2))) pa_nil))))
  (pss_cons (ps_set (i := 4) sc__law_is_wise.nd rfl (.inr rfl) (pcall h_law_worth hr (by decide) (by rfl) (pa_cons (pv 0) (pa_cons (pe_ix (k_ixt (K := K) rfl) (pv 3) pe_int (fun _ _ => rfl)) (pa_cons (pe_ix (k_ixt (K := K) rfl) (pv 3) pe_int (fun _ _ => rfl)) pa_nil)))))
  (pss_one (ps_if (pt_not (pt_val (pe_callB (k_all (K := K) rfl rfl) (by rfl) B.all bo_all (pa_cons (pe_lc (own := [("_law_k", 5), ("_law_sound", 6)]) (g := gTup K 2 (gCons (gName 5) (gCons (gName 6) gNil))) rfl sc__law_is_wise.nd (k_pit (K := K) rfl (pe_ix (k_ixl (K := K) rfl) (pv 1) (pv 2) (fun _ _ => rfl))) (blkOk_by (N := sl__law_is_wise) (sc := defScope s__law_is_wise) (by decide +kernel)) (fun _ _ _ _ _ => (pg_tup rfl (pgs_cons (pg_name (i := 5) sc__law_is_wise.nd rfl (.inl rfl)) (pgs_cons (pg_name (i := 6) sc__law_is_wise.nd rfl (.inl rfl)) pgs_nil)))) (fun _ _ _ _ _ => pts_nil) (fun _ _ _ _ _ => (pe_cmpR (k_in (K := K) rfl) (pv 5) (pv 4) (by rfl)))) pa_nil))))
    (pss_one (ps_ret pe_bl))
    pss_nil)))))
  (pss_one (ps_ret pe_bl))), ?_⟩
    have hok : ∀ e ∈ es, e.1 < n ∧ e.2 < n := fun e he => ⟨(hpt.gm.ok e he).1, (hpt.gm.ok e he).2.1⟩
    have htl := hE.1
    rw [List.length_map] at htl
    refine ⟨_, rfl, l, _, rfl, .inl (sql hl), _, rfl, by omega, by omega, ?_⟩
    refine for_range (lo := 0) (n := ((tvs.length : Nat) : Int).toNat) (fun i σ H' => ∃ (x2 x3 x4 : Option V), σ = [some (.ref pt), some (.ref l), x2, x3, x4, none, none] ∧ Same H H' ∧ ∀ x ∈ hist.take i, ∀ kb ∈ x.2, IsWorth es gs x.1.1 x.1.2 kb.1)
      ⟨none, none, none, rfl, Same.refl _, fun x hx => by simp at hx⟩ ?_ ?_
    · rintro i σ H1 hi ⟨x2, x3, x4, rfl, sm, hw⟩
      have hih : i < hist.length := by omega
      obtain ⟨st, lot, st2, a1, a2, a3, a4, a5, a6, a7, a8, a9⟩ := G.at i hih
      have o := a4.std o0 hok Wo
      refine ⟨_, rfl, _, rfl, _, rfl, _, rfl, l, tvs, rfl, sql (sm _ _ hl), fun l2 nl2 => ?_⟩
      rw [cut_pre15]
      have s2 := same_new (o := .lst (tvs.take i)) (Same.refl H1) nl2
      have hl2 := upd_same (H := H1) (a := l2) (o := .lst (tvs.take i))
      generalize upd H1 l2 (.lst (tvs.take i)) = H2 at s2 hl2
      have sm2 := sm.trans s2
      refine ⟨pt, l2, n, a, pvs, es, c, gs, W, tvs.take i, hist.take i, st, rfl, hpt.same sm2, o0, Wo, a4, hl2, by rw [List.map_take]; exact (hE.nl (Same.nl sm2)).take15 i, fun u x y H3 s3 S3 => ?_⟩
      have sm3 := sm2.trans s3
      refine ⟨_, rfl, _, rfl, u, _, (0 : Nat), .ref x, rfl, rfl, S3.t, atI_nat rfl, _, rfl, u, _, (1 : Nat), .ref y, rfl, rfl, S3.t, atI_nat rfl, pt, n, a, pvs, es, c, gs, x, y, st.1, st.2, rfl, hpt.same sm3, S3.x, S3.y, o, fun g ws H4 s4 ng hg hws => ?_⟩
      have sm4 := sm3.trans s4
      obtain ⟨v, hv⟩ : ∃ v, tvs[i]? = some v := ⟨_, List.getElem?_eq_getElem (by omega)⟩
      obtain ⟨eA, pts, rfl, hA, lA, cA⟩ := (hE.2 i v (evOf W lot) hv (by rw [List.getElem?_map, a1]; rfl)).nl (Same.nl sm4)
      have ei : ((0 : Int) + (i : Int)) = (i : Int) := Int.zero_add _
      have l62 : (evOf W lot).length ≤ 62 := ev62 _ (List.mem_of_getElem? a1)
      refine ⟨_, rfl, _, rfl, l, _, ((0 : Int) + (i : Int)), .ref eA, rfl, rfl, sql (sm4 _ _ hl), by rw [ei]; exact atI_nat hv, eA, rfl, ⟨_, hA⟩, fun D nD => ?_⟩
      refine lc_val walk_tup calm_at (fun j => ((evOf W lot)[j]?).bind fun kb => some (V.bl (decide (kb.1 ∈ ws)))) (by omega) nD (fun H5 s5 => Same.sqt s5 hA) ?_ fun H5 s5 hD => ?_
      · rintro j v H6 H7 hj s6 ⟨rfl, hv'⟩ Kt2 kt2
        have hie : j < (evOf W lot).length := by omega
        obtain ⟨tt, rfl, htt⟩ := cA j v (evOf W lot)[j] hv' (List.getElem?_eq_getElem hie)
        have k1 := kt2 _ (Same.refl _)
        rw [List.getElem?_eq_getElem hie] at k1
        simp only [Option.bind_some] at k1
        refine ⟨tt, _, rfl, Same.sqt s6 htt, rfl, _, _, rfl, _, _, rfl, rfl, rfl, tyes ⟨_, rfl, _, rfl, g, _, rfl, .inl (sql (s6 _ _ hg)), rfl, flat_nats _, ?_⟩⟩
        rw [inV_nats]
        exact k1
      have el : (List.range pts.length).filterMap (fun j => ((evOf W lot)[j]?).bind fun kb => some (V.bl (decide (kb.1 ∈ ws)))) = ((evOf W lot).map fun kb => decide (kb.1 ∈ ws)).map V.bl := by
        rw [lA, fm_range, fm_some, List.map_map]
        rfl
      rw [el] at hD
      have worth : ∀ k, k ∈ ws ↔ IsWorth es gs st.1 st.2 k := hws.2
      refine ⟨D, _, rfl, sql hD, _, rfl, ?_⟩
      by_cases hb : ∀ kb ∈ evOf W lot, IsWorth es gs st.1 st.2 kb.1
      · rw [show (((evOf W lot).map fun kb => decide (kb.1 ∈ ws)).all id) = true by
          rw [List.all_map]
          exact List.all_eq_true.mpr fun kb hkb => decide_eq_true ((worth _).mpr (hb kb hkb))]
        refine iteF ?_
        refine ⟨_, _, _, rfl, sm4.trans s5, fun x hx kb hkb => ?_⟩
        rw [List.take_add_one, a1] at hx
        rcases List.mem_append.mp hx with z | z
        · exact hw x z kb hkb
        · have e : x = (st, evOf W lot) := by simpa using z
          subst e
          exact hb kb hkb
      · rw [show (((evOf W lot).map fun kb => decide (kb.1 ∈ ws)).all id) = false by
          refine Bool.eq_false_iff.mpr fun z => hb fun kb hkb => ?_
          rw [List.all_map] at z
          exact (worth _).mp (of_decide_eq_true (List.all_eq_true.mp z kb hkb))]
        refine iteT ?_
        refine q _ false (sm4.trans s5) ⟨fun z => (by cases z), fun z => absurd (fun kb hkb => z (st, evOf W lot) (List.mem_of_getElem? a1) kb hkb) hb⟩
    · rintro σ H1 ⟨x2, x3, x4, rfl, sm, hw⟩
      refine q _ _ sm ⟨fun _ => ?_, fun _ => rfl⟩
      rw [List.take_of_length_le (by omega)] at hw
      exact hw

abbrev s__law_crowd : Stmt := topS 57
abbrev sl__law_crowd : List Str := ["_law_hand_here", "_law_every", "_law_share", "_law_lot", "_law_k"]
theorem sc__law_crowd : FnScope ["_law_hand_here", "_law_every", "_law_share", "_law_lot", "_law_k"] ["_law_hand_here", "_law_every"] (defScope s__law_crowd) := ⟨rfl, rfl, rfl, by decide +kernel, rfl, by decide +kernel, by decide +kernel⟩
def spCrowd : Sp := fun vs H Q _ => ∃ (h l : Addr) (ts : List Nat) (F : Hp), vs = [.ref h, .ref l] ∧ H l = some (.lst (ts.map nV)) ∧ l ≠ h ∧ ts ≠ [] ∧ ts.Pairwise (· < ·) ∧ ts.length ≤ 1000 ∧ Same F H ∧ HandAt F H h ∧
  ∀ (z : Addr) (lot : List Nat) (H' : Hp), Dr F H H' h → H z = none → H' z = some (.tup (lot.map nV)) → lot.Pairwise (· < ·) → lot ≠ [] → (∀ k ∈ lot, k ∈ ts) → Q (.ref z) H'
theorem ok__law_crowd (B : Bt mg) (h_law_draw : Has P w K mg base "_law_draw" 1 ["_law_hand_here", "_law_many"] spDraw) (D0 : Df K mg "_law_crowd" s__law_crowd ["_law_hand_here", "_law_every"]) : Has P w K mg base "_law_crowd" 2 ["_law_hand_here", "_law_every"] spCrowd := by
  refine D0.has fun f fd F => F.ok sc__law_crowd (fun vs H Q E h => ?_) (fun cdv A outer s H vs Q E hr h => ?_)
  · obtain ⟨h, l, ts, F, rfl, _⟩ := h
    rfl
  · obtain ⟨h, l, ts, F0, rfl, hl, nlh, hne, tp, tl, hF, hA, q⟩ := h
    refine ⟨_, (pss_cons (ps_set (i := 2) sc__law_crowd.nd rfl (.inr rfl) (pe_op op_add pe_int (pcall h_law_draw hr (by decide) (by rfl) (pa_cons (pv 0) (pa_cons pe_int pa_nil)))))
  (pss_cons (ps_setLc (i := 3) (own := [("_law_k", 4)]) (g := gName 4) rfl sc__law_crowd.nd rfl rfl (sw_true rfl rfl rfl (by decide +kernel)) (k_pil (K := K) rfl (pv 1)) (blkOk_by (N := sl__law_crowd) (sc := defScope s__law_crowd) (by decide +kernel)) (fun _ _ _ _ _ => (pg_name (i := 4) sc__law_crowd.nd rfl (.inl rfl))) (fun _ _ _ _ _ => pts_one (pt_cmpR op_eq (pcall h_law_draw hr (by decide) (by rfl) (pa_cons (pv 0) (pa_cons (pv 2) pa_nil))) pe_int (nomark _))) (fun _ _ _ _ _ => (pv 4)))
  (pss_cons (ps_if (pt_cmpR op_eq (pe_callB (k_len (K := K) rfl) (by rfl) B.len bo_len (pa_cons (pv 3) pa_nil)) pe_int (nomark _))
    (pss_one (ps_set (i := 3) sc__law_crowd.nd rfl (.inl rfl) (pe_lst (pa_cons (pe_ix (k_ixl (K := K) rfl) (pv 1) (pcall h_law_draw hr (by decide) (by rfl) (pa_cons (pv 0) (pa_cons (pe_callB (k_len (K := K) rfl) (by rfl) B.len bo_len (pa_cons (pv 1) pa_nil)) pa_nil))) (fun _ _ => rfl)) pa_nil))))
    pss_nil)
  (pss_one (ps_ret (pe_callTy (k_tuple (K := K) rfl) (by rfl) B.tuple bo_tuple (pa_cons (pv 3) pa_nil))))))), ?_⟩
    refine ⟨_, rfl, h, 4, F0, rfl, by decide, small_log (by decide) (by omega), hF, hA, fun d0 H1 hd0 hd1 dd1 => ⟨_, _, rfl, rfl, ?_⟩⟩
    have d1 := dd1.dr
    have hl1 := d1.same l _ nlh hl
    refine ⟨_, rfl, l, rfl, ⟨_, sql hl1⟩, fun D nD => ?_⟩
    have nD0 : H D = none := d1.free nD
    have nDh : D ≠ h := hA.ne nD0
    have nDF : F0 D = none := Same.free hF nD0
    have nlD : l ≠ D := fun z => by rw [← z, hl1] at nD; cases nD
    -- what is behind the drawing
    have fin : ∀ (H' : Hp) (D' : Addr) (lot : List Nat), Dr F0 H H' h → H' D' = some (.lst (lot.map nV)) → lot.Pairwise (· < ·) → lot ≠ [] → (∀ k ∈ lot, k ∈ ts) → rTupleOf K [.ref D'] H' Q := fun H' D' lot d hD' h1 h2 h3 =>
      ⟨D', _, rfl, .inl ⟨sql hD', fun z nz => q z lot _ (d.trans (Dr.of_same d.hand d.sub (same_new (Same.refl H') nz))) (d.free nz) upd_same h1 h2 h3⟩⟩
    refine lc_it (walk_list (xs := ts.map nV)) (fun i H' => ∃ ks : List Nat, Dr F0 H H' h ∧ H' D = some (.lst (ks.map nV)) ∧ ks.Sublist (ts.take i)) ⟨[], d1.trans (Dr.of_same d1.hand d1.sub (same_new (Same.refl H1) nD)), upd_same, List.nil_sublist _⟩ (fun i H' _ ⟨ks, d, _⟩ => sql (d.same l _ nlh hl)) ?_ ?_
    · rintro i x H3 H4 hi ⟨ks, d3, hD3, hsub⟩ ⟨rfl, hx⟩
      obtain ⟨k, hki, rfl⟩ := getmap hx
      have hit : ts.take (i + 1) = ts.take i ++ [k] := by rw [List.take_add_one, hki]; rfl
      have kl : ks.length ≤ ts.length := Nat.le_trans hsub.length_le (by rw [List.length_take]; exact Nat.min_le_right _ _)
      refine ⟨rfl, ?_⟩
      refine ⟨_, rfl, _, rfl, h, 1 + d0, F0, rfl, by omega, small_log (by omega) (by omega), d3.sub, d3.hand, fun e0 H5 he0 he1 dd5 => ⟨rfl, _, rfl, ?_⟩⟩
      have d5 := d3.trans dd5.dr
      have hD5 := dd5.dr.same D _ nDh hD3
      by_cases hz : e0 = 0
      · rw [hz, decide_eq_true (rfl : V.int 0 = V.int 0)]
        refine iteT ⟨_, rfl, _, hD5, by rw [List.length_map]; exact small_lt (by omega), ks ++ [k], d5.upd nD0 nDh nDF, by rw [upd_same, List.map_append]; rfl, by rw [hit]; exact hsub.append (List.Sublist.refl _)⟩
      · rw [decide_eq_false (show ¬ V.int e0 = V.int 0 from fun z => hz (by injection z))]
        exact iteF ⟨ks, d5, hD5, by rw [hit]; exact hsub.trans (List.sublist_append_left _ _)⟩
    · rintro H3 ⟨ks, d3, hD3, hsub⟩
      have hsub' : ks.Sublist ts := hsub.trans (List.take_sublist _ _)
      have kl := hsub'.length_le
      refine ⟨_, rfl, D, _, rfl, .inl (sql hD3), rfl, _, rfl, ?_⟩
      rw [List.length_map]
      by_cases h0 : ks = []
      · subst h0
        refine iteT ?_
        have tpos : 0 < ts.length := List.length_pos_iff.mpr hne
        have hl3 := d3.same l _ nlh hl
        refine ⟨_, rfl, _, rfl, _, rfl, l, _, rfl, .inl (sql hl3), h, (ts.length : Int), F0, by rw [List.length_map]; rfl, by omega, small_log (by omega) (by omega), d3.sub, d3.hand, fun k0 H4 hk0 hk1 dd4 => ?_⟩
        obtain ⟨k, rfl⟩ : ∃ k : Nat, k0 = (k : Int) := ⟨k0.toNat, by omega⟩
        have hk : k < ts.length := by omega
        have hkv : ts[k]? = some ts[k] := List.getElem?_eq_getElem hk
        generalize ts[k] = v at hkv
        have d4 := d3.trans dd4.dr
        have hl4 := d4.same l _ nlh hl
        refine ⟨l, _, (k : Int), nV v, rfl, rfl, sql hl4, atI_nat (by rw [List.getElem?_map, hkv]; rfl), Nat.le_of_lt (small_lt (by decide : 1 ≤ 100000)), fun u nu => ?_⟩
        have s5 := same_new (o := .lst [nV v]) (Same.refl H4) nu
        exact ⟨_, rfl, fin _ u [v] (d4.trans (Dr.of_same d4.hand d4.sub s5)) upd_same (by simp) (by simp) fun x hx => by rw [List.mem_singleton.mp hx]; exact List.mem_of_getElem? hkv⟩
      · rw [decide_eq_false (show ¬ V.int (ks.length : Int) = V.int 0 from fun z => by
          injection z with z
          exact h0 (List.length_eq_zero_iff.mp (by omega)))]
        refine iteF ?_
        exact ⟨_, rfl, fin H3 D ks d3 hD3 (tp.sublist hsub') h0 fun x hx => hsub'.subset hx⟩

/-! plans -/
theorem Led.len' {es : Es} {gs W : List Nat} {hist : List (Stg × Evn)} {cur : Stg} (h : Led es gs W hist cur) : hist.length ≤ (keysOf hist).length := by
  induction h with
  | nil => exact Nat.le_refl _
  | @snoc hist st lot rs ls h hd hne hp ht hb ih =>
    rw [keys_snoc, keys_evOf, List.length_append, List.length_append]
    have : 0 < lot.length := List.length_pos_iff.mpr hne
    show hist.length + 1 ≤ _
    omega
theorem Led.keys_le' {es : Es} {gs W : List Nat} {hist : List (Stg × Evn)} {cur : Stg} (h : Led es gs W hist cur) : (keysOf hist).length ≤ es.length :=
  nodup_le h.nodup fun z hz => by
    obtain ⟨e, he⟩ := h.tried z hz
    exact (List.getElem?_eq_some_iff.mp he).1
/-- what a plan keeps: at a standing that is not done it gives the lot that L tells; it changes the lists M alone; I: what it keeps of the standings at which it was asked -/
structure PlanOk (K : PySem.W.Frag) (n : Nat) (es : Es) (gs : List Nat) (L : Stg → List Nat) (M : List Addr) (I : List Stg → Hp → Prop) (spp : Sp) : Prop where
  lists : ∀ acc H, I acc H → ∀ b ∈ M, ∃ ys, H b = some (.lst ys)
  stay : ∀ acc H H', I acc H → Nl H H' → (∀ b ∈ M, ∀ o, H b = some o → H' b = some o) → I acc H'
  lot : ∀ st : Stg, StdOk n es gs st.1 st.2 → (¬ ∀ g ∈ gs, g ∈ st.1) → (L st).Pairwise (· < ·) ∧ L st ≠ [] ∧ ∀ k ∈ L st, k ∈ triesL es st.1 st.2
  call : ∀ (acc : List Stg) (st : Stg) (u x y : Addr) (H : Hp) (Q : VK), acc.length < 1000 → I acc H → StdAt K H u x y st.1 st.2 → StdOk n es gs st.1 st.2 → (¬ ∀ g ∈ gs, g ∈ st.1) → (∀ (z : Addr) (H' : Hp), Kp M H H' → SqT K H' z ((L st).map nV) → I (acc ++ [st]) H' → Q (.ref z) H') → spp [.ref u] H Q E0
def spAsked (K : PySem.W.Frag) (C : Addr) : Addr → HO → Addr → HO → Sp → Sp := fun fp O co Oc spp vs H Q _ => ∃ (p : Addr) (n : Nat) (a : Addr) (pvs : List V) (es : Es) (c : Addr) (gs : List Nat) (u x y : Addr) (st : Stg) (L : Stg → List Nat) (M : List Addr) (I : List Stg → Hp → Prop) (acc : List Stg), vs = [.ref p, .ref fp, .ref u] ∧ At K C H p n a pvs es c gs u x y st.1 st.2 ∧
  (¬ ∀ g ∈ gs, g ∈ st.1) ∧ PlanOk K n es gs L M I spp ∧ acc.length < 1000 ∧ I acc H ∧ ∀ (z : Addr) (H' : Hp), Kp M H H' → SqT K H' z ((L st).map nV) → I (acc ++ [st]) H' → Q (.ref z) H'
def spWalk (K : PySem.W.Frag) (C : Addr) : Addr → HO → Addr → HO → Sp → Sp := fun fp O co Oc spp vs H Q _ => ∃ (p : Addr) (n : Nat) (a : Addr) (pvs : List V) (es : Es) (c : Addr) (gs : List Nat) (wz : Addr) (W : List Nat) (L : Stg → List Nat) (M : List Addr) (I : List Stg → Hp → Prop), vs = [.ref p, .ref wz, .ref fp] ∧ MapOk K C H p n a pvs es c gs ∧
  n ≤ 62 ∧ es.length ≤ 62 ∧ StdOk n es gs [0] [] ∧ SqT K H wz (W.map nV) ∧ W.Pairwise (· < ·) ∧ (∀ l ∈ W, l < es.length) ∧ (∀ g ∈ gs, Rch (left es W) [0] g) ∧ PlanOk K n es gs L M I spp ∧ I [] H ∧ NotL O ∧ NotL Oc ∧
  ∀ (r l : Addr) (tvs : List V) (hist : List (Stg × Evn)) (cur : Stg) (H' : Hp), Kp M H H' → H l = none → H' r = some (.tup [nV (lostSum hist), .ref l]) → H' l = some (.lst tvs) → EvsAt K H' tvs (hist.map (·.2)) → Led es gs W hist cur → (∀ g ∈ gs, g ∈ cur.1) → (∀ x ∈ hist, x.2 = evOf W (L x.1)) → I (hist.map (·.1)) H' → Q (.ref r) H'

/-! one history for each plan and world; what repr asks of what walk tells -/
theorem Led.only_zero {es : Es} {gs W : List Nat} {cur : Stg} (h : Led es gs W [] cur) : cur = ([0], []) := by
  have := h.zero
  exact Option.some.inj this
theorem Led.pre {es : Es} {gs W : List Nat} {L : Stg → List Nat} {h1 : List (Stg × Evn)} {c1 : Stg} (l1 : Led es gs W h1 c1) (f1 : ∀ x ∈ h1, x.2 = evOf W (L x.1)) :
    ∀ {h2 : List (Stg × Evn)} {c2 : Stg}, Led es gs W h2 c2 → (∀ x ∈ h2, x.2 = evOf W (L x.1)) → h1.length ≤ h2.length → h2.take h1.length = h1 ∧ (stsOf h2 c2)[h1.length]? = some c1 := by
  induction l1 with
  | nil => exact fun {h2 c2} l2 f2 hl => ⟨rfl, l2.zero⟩
  | @snoc hist st lot rs ls h hd hne hp ht hb ih =>
    intro h2 c2 l2 f2 hl
    rw [List.length_append, List.length_singleton] at hl
    obtain ⟨i1, i2⟩ := ih (fun x hx => f1 x (List.mem_append_left _ hx)) l2 f2 (by omega)
    obtain ⟨st', lot', st'', a1, a2, a3, a4, a5, a6, a7, a8, a9⟩ := l2.at hist.length (by omega)
    have e1 : st' = st := Option.some.inj (a2.symm.trans i2)
    subst e1
    have e2 : evOf W lot' = evOf W lot := (f2 _ (List.mem_of_getElem? a1)).trans (f1 (st', evOf W lot) (List.mem_append_right _ List.mem_cons_self)).symm
    rw [e2] at a1 a9
    obtain ⟨e3, e4⟩ := a9.uniq hb
    rw [List.length_append, List.length_singleton]
    refine ⟨?_, ?_⟩
    · rw [List.take_add_one, i1, a1]
      rfl
    · rw [a3]
      exact congrArg some (Prod.ext e3 e4)
theorem Led.one {es : Es} {gs W : List Nat} {L : Stg → List Nat} {h1 h2 : List (Stg × Evn)} {c1 c2 : Stg} (l1 : Led es gs W h1 c1) (f1 : ∀ x ∈ h1, x.2 = evOf W (L x.1)) (d1 : ∀ g ∈ gs, g ∈ c1.1) (l2 : Led es gs W h2 c2) (f2 : ∀ x ∈ h2, x.2 = evOf W (L x.1)) (d2 : ∀ g ∈ gs, g ∈ c2.1) : h1 = h2 := by
  have not : ∀ {h1 h2 : List (Stg × Evn)} {c1 c2 : Stg}, Led es gs W h1 c1 → (∀ x ∈ h1, x.2 = evOf W (L x.1)) → (∀ g ∈ gs, g ∈ c1.1) → Led es gs W h2 c2 → (∀ x ∈ h2, x.2 = evOf W (L x.1)) → h2.length ≤ h1.length := fun {h1 h2 c1 c2} l1 f1 d1 l2 f2 => by
    rcases Nat.lt_or_ge h1.length h2.length with z | z
    · obtain ⟨_, i2⟩ := l1.pre f1 l2 f2 (by omega)
      obtain ⟨st', lot', st'', a1, a2, a3, a4, a5, _⟩ := l2.at h1.length z
      have e1 : st' = c1 := Option.some.inj (a2.symm.trans i2)
      subst e1
      exact absurd d1 a5
    · exact z
  have a := not l1 f1 d1 l2 f2
  have b := not l2 f2 d2 l1 f1
  obtain ⟨i1, _⟩ := l1.pre f1 l2 f2 b
  rw [List.take_of_length_le a] at i1
  exact i1.symm
theorem Led.few {es : Es} {gs W : List Nat} {hist : List (Stg × Evn)} {cur : Stg} (h : Led es gs W hist cur) (e62 : es.length ≤ 62) : hist.length ≤ 62 ∧ lostSum hist ≤ 62 ∧ ∀ x ∈ hist, x.2.length ≤ 62 ∧ ∀ kb ∈ x.2, kb.1 < 64 := by
  have a := h.len'
  have b := h.keys_le'
  refine ⟨by omega, ?_, fun x hx => ⟨?_, fun kb hkb => ?_⟩⟩
  · have : lostSum hist ≤ (keysOf hist).length := by
      rw [h.sum]
      exact List.length_filter_le _ _
    omega
  · have hs : (x.2.map (·.1)).Nodup := by
      have hn := h.nodup
      obtain ⟨s, t, e⟩ := List.append_of_mem hx
      unfold keysOf at hn
      rw [e, List.flatMap_append, List.flatMap_cons] at hn
      exact (List.nodup_append.mp (List.nodup_append.mp hn).2.1).1
    have := nodup_le (n := es.length) hs fun z hz => by
      obtain ⟨e, he⟩ := h.tried z (List.mem_flatMap.mpr ⟨x, hx, hz⟩)
      exact (List.getElem?_eq_some_iff.mp he).1
    rw [List.length_map] at this
    omega
  · obtain ⟨e, he⟩ := h.tried kb.1 (List.mem_flatMap.mpr ⟨x, hx, List.mem_map.mpr ⟨kb, hkb, rfl⟩⟩)
    have := (List.getElem?_eq_some_iff.mp he).1
    omega
abbrev toldD (k : Nat) (evs : List Evn) : PyData := .tuple [dN k, runD evs]
theorem shw_told {k : Nat} {evs : List Evn} (hk : k < 64) (few : evs.length ≤ 62) (h : ∀ ev ∈ evs, ev.length ≤ 62 ∧ ∀ kb ∈ ev, kb.1 < 64) : Shw (toldD k evs) := by
  obtain ⟨h1, h2, h3, h4, h5⟩ := shw_evs h
  obtain ⟨i1, i2, i3⟩ := int64 ⟨k, hk⟩
  refine ⟨?_, ?_, ?_, ?_⟩
  · simp only [toldD, runD, PyData.showable, PyData.showableAll, h1, dN, Bool.and_true]
    exact i2
  · simp only [toldD, runD, PyData.hasDict, PyData.hasDictAll, h2, dN, Bool.or_false]
  · simp only [toldD, runD, PyData.depth, PyData.depthAll, dN]
    omega
  · have hs : (100000000 : Nat) ≤ 10 * sizeLine := by decide
    have c3 : (toldD k evs).leavesShort 8 = true := by
      simp only [toldD, runD, PyData.leavesShort, PyData.leavesShortAll, h3, dN, Bool.and_true]
      exact decide_eq_true i1
    have c4 : (toldD k evs).weight ≤ 131000 := by
      have i3' : (dN k).weight ≤ 7 := i3
      simp only [toldD, runD, PyData.weight, PyData.weightAll]
      omega
    have := PyData.shown_le 8 (Nat.le_refl _) (toldD k evs) c3
    omega

/-! a party and the law's account of it -/
structure PD where
  P : Addr
  pa : Addr
  pt : Addr
  w : Addr
  rl : Addr
  wl : Addr
  q : Addr
  W : List Nat
  s : CS
abbrev PD.L (d : PD) : List Addr := [d.rl, d.wl, d.s.tl, d.s.sl]
structure PastAt (K : PySem.W.Frag) (C CC CP : Addr) (H : Hp) (d : PD) : Prop where
  pty : PtyAt K C CC CP H d.P d.w d.W d.q d.s
  pts : PtsAt K H d.pt d.s.n d.s.a d.s.pvs d.s.es d.s.c d.s.gs
  led : Led d.s.es d.s.gs d.W d.s.hist d.s.cur
  tup : SqT K H d.pa [.ref d.pt, .ref d.w, .ref d.rl, .ref d.wl]
  run : ∃ tvs, H d.rl = some (.lst tvs) ∧ EvsAt K H tvs (d.s.hist.map (·.2))
  fl : ∃ fs : List Bool, H d.wl = some (.lst (fs.map V.bl)) ∧ fs.length = d.s.hist.length + 1 ∧ ∀ (i : Nat) (b : Bool), fs[i]? = some b → (b = true ↔ Wise d.s.es d.s.gs (d.s.hist.take i))
  wp : d.W.Pairwise (· < ·)
  wn : ∀ l ∈ d.W, l < d.s.es.length
  o0 : StdOk d.s.n d.s.es d.s.gs [0] []
  nr : d.rl ≠ d.wl ∧ d.rl ≠ d.s.tl ∧ d.rl ≠ d.s.sl
  nw : d.wl ≠ d.s.tl ∧ d.wl ≠ d.s.sl
theorem PastAt.keep {K : PySem.W.Frag} {C CC CP : Addr} {H H' : Hp} {d : PD} (h : PastAt K C CC CP H d) (n : Nl H H') (k : ∀ b ∈ d.L, ∀ o, H b = some o → H' b = some o) : PastAt K C CC CP H' d where
  pty := h.pty.keep n (k _ (by simp)) (k _ (by simp))
  pts := h.pts.nl n
  led := h.led
  tup := n.sqt h.tup
  run := h.run.elim fun tvs ⟨a, b⟩ => ⟨tvs, k _ (by simp) _ a, b.nl n⟩
  fl := h.fl.elim fun fs ⟨a, b⟩ => ⟨fs, k _ (by simp) _ a, b⟩
  wp := h.wp
  wn := h.wn
  o0 := h.o0
  nr := h.nr
  nw := h.nw
theorem PastAt.lists {K : PySem.W.Frag} {C CC CP : Addr} {H : Hp} {d : PD} (h : PastAt K C CC CP H d) : ∀ b ∈ d.L, ∃ ys, H b = some (.lst ys) := fun b hb => by
  obtain ⟨t1, a1, _⟩ := h.run
  obtain ⟨t2, a2, _⟩ := h.fl
  obtain ⟨t3, a3, _⟩ := h.pty.crs.told
  obtain ⟨t4, a4, _⟩ := h.pty.crs.stood
  simp only [PD.L, List.mem_cons, List.not_mem_nil, or_false] at hb
  rcases hb with rfl | rfl | rfl | rfl
  · exact ⟨_, a1⟩
  · exact ⟨_, a2⟩
  · exact ⟨_, a3⟩
  · exact ⟨_, a4⟩
/-- one evening less -/
theorem Led.less {es : Es} {gs W : List Nat} {hist : List (Stg × Evn)} {x : Stg × Evn} {cur : Stg} (h : Led es gs W (hist ++ [x]) cur) : Led es gs W hist x.1 := by
  obtain ⟨st, lot, st', a1, a2, a3, a4, _⟩ := h.at hist.length (by rw [List.length_append]; exact Nat.lt_succ_self _)
  rw [List.getElem?_concat_length] at a1
  have e : x = (st, evOf W lot) := Option.some.inj a1
  rw [List.take_left] at a4
  rw [e]
  exact a4

abbrev s__law_is_back : Stmt := topS 63
abbrev sl__law_is_back : List Str := ["_law_party", "_law_past", "_law_told"]
theorem sc__law_is_back : FnScope ["_law_party", "_law_past", "_law_told"] ["_law_party", "_law_past"] (defScope s__law_is_back) := ⟨rfl, rfl, rfl, by decide +kernel, rfl, by decide +kernel, by decide +kernel⟩
def spIsBack (K : PySem.W.Frag) (C CC CP : Addr) : Sp := fun vs H Q _ => ∃ d : PD, vs = [.ref d.P, .ref d.pa] ∧ PastAt K C CC CP H d ∧ d.s.hist.length ≤ 62 ∧
  ∀ (H' : Hp) (d' : PD), Kp d.L H H' → PastAt K C CC CP H' d' → d'.P = d.P → d'.pa = d.pa → d'.L = d.L → d'.s.es = d.s.es → d'.s.hist = d.s.hist.dropLast → Q (.bl true) H'
theorem ok__law_is_back {CMap CCourse CParty : Addr} (B : Bt mg) (C_Party : ClsC K mg "Party" CParty ["_chart", "_world", "_course"]) (h_Party_back : HasM P w K mg base CParty "back" 2 ["self"] (spPBack K CMap CCourse CParty)) (D0 : Df K mg "_law_is_back" s__law_is_back ["_law_party", "_law_past"]) : Has P w K mg base "_law_is_back" 3 ["_law_party", "_law_past"] (spIsBack K CMap CCourse CParty) := by
  refine D0.has fun f fd F => F.ok sc__law_is_back (fun vs H Q E h => ?_) (fun cdv A outer s H vs Q E hr h => ?_)
  · obtain ⟨d, rfl, _⟩ := h
    rfl
  · obtain ⟨d, rfl, h, few, k⟩ := h
    refine ⟨_, (pss_cons (ps_set (i := 2) sc__law_is_back.nd rfl (.inl rfl) (pe_meth0 (pv 0) C_Party.cl h_Party_back.mt h_Party_back.F (hr.mono (by decide)) h_Party_back.b .nil pass0))
  (pss_cons (ps_if (pt_cmpR op_eq (pe_callB (k_len (K := K) rfl) (by rfl) B.len bo_len (pa_cons (pe_ix (k_ixt (K := K) rfl) (pv 1) pe_int (fun _ _ => rfl)) pa_nil)) pe_int (nomark _))
    (pss_one (ps_ret (pe_cmpR op_isBl (pv 2) pe_bl (nomark _))))
    pss_nil)
  (pss_cons (ps_expr (pe_bm0 PySem.F.plainAttrs_list PySem.F.slot_list_pop PySem.F.type_list_pop mt_pop (pe_ix (k_ixt (K := K) rfl) (pv 1) pe_int (fun _ _ => rfl))))
  (pss_cons (ps_expr (pe_bm0 PySem.F.plainAttrs_list PySem.F.slot_list_pop PySem.F.type_list_pop mt_pop (pe_ix (k_ixt (K := K) rfl) (pv 1) pe_int (fun _ _ => rfl))))
  (pss_one (ps_ret (pe_cmpR op_isBl (pv 2) pe_bl (nomark _)))))))), ?_⟩
    obtain ⟨dx, hP⟩ := h.pty.ob
    obtain ⟨tvs, hr0, hE⟩ := h.run
    obtain ⟨fs, hf0, fl, fw⟩ := h.fl
    have htl := hE.1
    rw [List.length_map] at htl
    refine ⟨_, rfl, d.P, dx, _, rfl, hP, f3_no (by decide +kernel) (by decide +kernel) (by decide +kernel), d.P, d.w, d.W, d.q, d.s, rfl, h.pty, ?_⟩
    by_cases e0 : d.s.hist = []
    · refine .inl ⟨e0, ?_⟩
      refine ⟨_, rfl, d.pa, _, (2 : Nat), .ref d.rl, rfl, rfl, h.tup, atI_nat rfl, d.rl, tvs, rfl, .inl (sql hr0), rfl, _, rfl, ?_⟩
      have tl0 : tvs.length = 0 := by rw [htl, e0]; rfl
      rw [tl0, decide_eq_true (show V.int ((0 : Nat) : Int) = V.int 0 from rfl)]
      refine iteT ?_
      refine ⟨_, rfl, false, false, rfl, rfl, ?_⟩
      exact k H d (Same.kp (Same.refl _)) h rfl rfl rfl rfl (by rw [e0]; rfl)
    · obtain ⟨h0, x, e1⟩ : ∃ h0 x, d.s.hist = h0 ++ [x] := ⟨_, _, (List.dropLast_concat_getLast e0).symm⟩
      refine .inr ⟨h0, x, e1, fun H1 kp h1 => ?_⟩
      have n1 : Nl H H1 := kp.nl h.pty.crs.lists
      have hl0 : h0.length + 1 = d.s.hist.length := by rw [e1, List.length_append]; rfl
      have hr1 : H1 d.rl = some (.lst tvs) := kp.same _ _ (by simp [h.nr.2.1, h.nr.2.2]) hr0
      have hf1 : H1 d.wl = some (.lst (fs.map V.bl)) := kp.same _ _ (by simp [h.nw.1, h.nw.2]) hf0
      have ht1 := n1.sqt h.tup
      refine ⟨_, rfl, d.pa, _, (2 : Nat), .ref d.rl, rfl, rfl, ht1, atI_nat rfl, d.rl, tvs, rfl, .inl (sql hr1), rfl, _, rfl, ?_⟩
      rw [decide_eq_false (show ¬ V.int ((tvs.length : Nat) : Int) = V.int 0 from fun z => by injection z with z; omega)]
      refine iteF ?_
      obtain ⟨yy, ly⟩ : ∃ y, tvs[tvs.length - 1]? = some y := ⟨_, List.getElem?_eq_getElem (by omega)⟩
      refine ⟨_, rfl, d.pa, _, (2 : Nat), .ref d.rl, rfl, rfl, ht1, atI_nat rfl, .inl ⟨rfl, _, sql hr1⟩, d.rl, tvs, _, rfl, rfl, hr1, ly, ?_⟩
      have n2 : Nl H1 (upd H1 d.rl (.lst tvs.dropLast)) := nl_upd hr1
      have hr2 : upd H1 d.rl (.lst tvs.dropLast) d.rl = some (.lst tvs.dropLast) := upd_same
      have hf2 : upd H1 d.rl (.lst tvs.dropLast) d.wl = some (.lst (fs.map V.bl)) := by rw [upd_ne h.nr.1.symm]; exact hf1
      have k2 : Kp d.L H1 (upd H1 d.rl (.lst tvs.dropLast)) := kp_upd (by simp)
      have o2 : ∀ b o, b ≠ d.rl → H1 b = some o → upd H1 d.rl (.lst tvs.dropLast) b = some o := fun b o nb e => by rw [upd_ne nb]; exact e
      generalize upd H1 d.rl (.lst tvs.dropLast) = H2 at n2 hr2 hf2 k2 o2 ⊢
      have ht2 := n2.sqt ht1
      obtain ⟨yz, lz⟩ : ∃ y, (fs.map V.bl)[(fs.map V.bl).length - 1]? = some y := ⟨_, List.getElem?_eq_getElem (by rw [List.length_map]; omega)⟩
      refine ⟨_, rfl, d.pa, _, (3 : Nat), .ref d.wl, rfl, rfl, ht2, atI_nat rfl, .inl ⟨rfl, _, sql hf2⟩, d.wl, _, _, rfl, rfl, hf2, lz, ?_⟩
      rw [← List.map_dropLast]
      have n3 : Nl H2 (upd H2 d.wl (.lst (fs.dropLast.map V.bl))) := nl_upd hf2
      have hf3 : upd H2 d.wl (.lst (fs.dropLast.map V.bl)) d.wl = some (.lst (fs.dropLast.map V.bl)) := upd_same
      have hr3 : upd H2 d.wl (.lst (fs.dropLast.map V.bl)) d.rl = some (.lst tvs.dropLast) := by rw [upd_ne h.nr.1]; exact hr2
      have k3 : Kp d.L H2 (upd H2 d.wl (.lst (fs.dropLast.map V.bl))) := kp_upd (by simp)
      have o3 : ∀ b o, b ≠ d.wl → H2 b = some o → upd H2 d.wl (.lst (fs.dropLast.map V.bl)) b = some o := fun b o nb e => by rw [upd_ne nb]; exact e
      generalize upd H2 d.wl (.lst (fs.dropLast.map V.bl)) = H3 at n3 hf3 hr3 k3 o3 ⊢
      refine ⟨_, rfl, true, true, rfl, rfl, ?_⟩
      have n13 := n2.trans n3
      have n03 := n1.trans n13
      have kL : Kp d.L H H1 := ⟨fun b o nb e => kp.same b o (fun z => nb (List.mem_cons_of_mem _ (List.mem_cons_of_mem _ z))) e, kp.live⟩
      refine k H3 { d with s := { d.s with hist := h0, cur := x.1 } } ((kL.trans k2).trans k3) ?_ rfl rfl rfl rfl (by rw [e1, List.dropLast_concat])
      refine ⟨h1.keep n13 (fun o e => o3 _ _ h.nw.1.symm (o2 _ _ h.nr.2.1.symm e)) (fun o e => o3 _ _ h.nw.2.symm (o2 _ _ h.nr.2.2.symm e)), h.pts.nl n03, Led.less (e1 ▸ h.led), n13.sqt ht1, ⟨tvs.dropLast, hr3, ?_⟩, ⟨fs.dropLast, hf3, by rw [List.length_dropLast, fl, ← hl0]; rfl, fun i b hb => ?_⟩, h.wp, h.wn, h.o0, h.nr, h.nw⟩
      · have e2 : tvs.dropLast = tvs.take h0.length := by rw [List.dropLast_eq_take, htl, ← hl0]; rfl
        have e3 : h0.map (·.2) = (d.s.hist.map (·.2)).take h0.length := by rw [e1, List.map_append, List.take_left' (by rw [List.length_map])]
        show EvsAt K H3 tvs.dropLast (h0.map (·.2))
        rw [e2, e3]
        exact (hE.nl n03).take15 _
      · have hi : i < fs.length - 1 := by
          have := (List.getElem?_eq_some_iff.mp hb).1
          rw [List.length_dropLast] at this
          exact this
        rw [List.dropLast_eq_take, List.getElem?_take_of_lt hi] at hb
        have := fw i b hb
        rw [e1, List.take_append_of_le_length (by omega)] at this
        exact this

abbrev s_Party_evenings : Stmt := inClass (topS 41) 5
abbrev sl_Party_evenings : List Str := ["self"]
theorem sc_Party_evenings : FnScope ["self"] ["self"] (defScope s_Party_evenings) := ⟨rfl, rfl, rfl, by decide +kernel, rfl, by decide +kernel, by decide +kernel⟩
def spPEvs (K : PySem.W.Frag) (C CC CP : Addr) : Sp := fun vs H Q _ => ∃ (P w : Addr) (W : List Nat) (q : Addr) (s : CS), vs = [.ref P] ∧ PtyAt K C CC CP H P w W q s ∧ ∀ H', Same H H' → Q (nV s.hist.length) H'
theorem ok_Party_evenings {CMap CCourse CParty : Addr} (B : Bt mg) (C_Course : ClsC K mg "Course" CCourse ["_chart", "_told", "_stood"]) (C_Party : ClsC K mg "Party" CParty ["_chart", "_world", "_course"])
    (h_Course_told : HasM P w K mg base CCourse "told" 1 ["self"] (spToldL K CMap CCourse)) (D0 : DfM K CParty "evenings" "Party.evenings" s_Party_evenings ["self"]) : HasM P w K mg base CParty "evenings" 2 ["self"] (spPEvs K CMap CCourse CParty) := by
  refine D0.has fun f fd F => F.ok sc_Party_evenings (fun vs H Q E h => ?_) (fun cdv A outer s H vs Q E hr h => ?_)
  · obtain ⟨P, w, W, q, s, rfl, _⟩ := h
    rfl
  · obtain ⟨P, w, W, q, s, rfl, h, k⟩ := h
    refine ⟨_, (pss_one (ps_ret (pe_callB (k_len (K := K) rfl) (by rfl) B.len bo_len (pa_cons (pe_meth0 (k_fld (K := K) rfl (pv 0) rfl) C_Course.cl h_Course_told.mt h_Course_told.F (hr.mono (by decide)) h_Course_told.b .nil pass0) pa_nil)))), ?_⟩
    obtain ⟨dx, hP⟩ := h.ob
    obtain ⟨dq, hq⟩ := h.crs.ob
    refine ⟨_, rfl, P, CParty, dx, _, _, rfl, hP, C_Party.cl, C_Party.n2, f3_2, q, dq, _, rfl, hq, f3_meth (by decide +kernel) (by decide +kernel) (by decide +kernel), q, s, rfl, h.crs, fun l tvs nl hE => ?_⟩
    have hl := hE.1
    rw [List.length_map] at hl
    refine ⟨l, tvs, rfl, .inl (sql upd_same), ?_⟩
    rw [hl]
    exact k _ (same_new (Same.refl H) nl)

abbrev s__law_is_told : Stmt := topS 60
abbrev sl__law_is_told : List Str := ["_law_party", "_law_parts_here", "_law_run", "_law_wise", "_law_lost", "_law_told", "_law_wisely", "_law_evening", "_law_k", "_law_sound"]
theorem sc__law_is_told : FnScope ["_law_party", "_law_parts_here", "_law_run", "_law_wise", "_law_lost", "_law_told", "_law_wisely", "_law_evening", "_law_k", "_law_sound"] ["_law_party", "_law_parts_here", "_law_run", "_law_wise"] (defScope s__law_is_told) := ⟨rfl, rfl, rfl, by decide +kernel, rfl, by decide +kernel, by decide +kernel⟩
abbrev sc1_law_is_told : Scope := { kind := .function, names := [(".0", .local), ("_law_evening", .local), ("len", .globalImplicit)], isGenerator := false, isCoroutine := false, more := [] }
theorem log15 {n : Nat} (h : n < 10000) : ((n : Int)).natAbs.log2 < 1920 := by
  rw [Int.natAbs_natCast]
  by_cases h0 : n = 0
  · subst h0
    decide
  · have := (Nat.log2_lt h0).mpr (show n < 2 ^ 14 by omega)
    omega
theorem scal_str {x y : Str} : scal (V.str x) (V.str y) = true := rfl
theorem f3_p3 {u v z : V} {m : Str} (h0 : ¬ m = "_chart") (h1 : ¬ m = "_world") (h2 : ¬ m = "_course") : (f3 "_chart" "_world" "_course" u v z).lookup m = none := f3_no h0 h1 h2
def spTold15 (K : PySem.W.Frag) (C CC CP : Addr) : Sp := fun vs H Q _ => ∃ (d : PD) (b : Bool), vs = [.ref d.P, .ref d.pt, .ref d.rl, .bl b] ∧ PastAt K C CC CP H d ∧ (b = true ↔ Wise d.s.es d.s.gs d.s.hist) ∧ ∀ H', Same H H' → Q (.bl true) H'
theorem ok__law_is_told {CMap CCourse CParty : Addr} (B : Bt mg) (C_Party : ClsC K mg "Party" CParty ["_chart", "_world", "_course"]) (h_Party_run : HasM P w K mg base CParty "run" 2 ["self"] (spPRun K CMap CCourse CParty)) (h_Party_standing : HasM P w K mg base CParty "standing" 2 ["self"] (spPStand K CMap CCourse CParty))
    (h_Party_lost : HasM P w K mg base CParty "lost" 3 ["self"] (spPLost K CMap CCourse CParty)) (h_Party_evenings : HasM P w K mg base CParty "evenings" 2 ["self"] (spPEvs K CMap CCourse CParty)) (h_Party_sensible : HasM P w K mg base CParty "sensible" 8 ["self"] (spPSens K CMap CCourse CParty))
    (h_law_here : Has P w K mg base "_law_here" 2 ["_law_parts_here", "_law_run"] (spHere15 K)) (D0 : Df K mg "_law_is_told" s__law_is_told ["_law_party", "_law_parts_here", "_law_run", "_law_wise"]) : HasG P w K mg base "_law_is_told" 9 ["_law_party", "_law_parts_here", "_law_run", "_law_wise"] (spTold15 K CMap CCourse CParty) := by
  refine D0.hasG fun f fd F => Fun.okG F sc__law_is_told (fun vs H Q E h => ?_) (fun cdv A outer s H vs Q E hgd hr h => ?_)
  · obtain ⟨d, b, rfl, _⟩ := h
    rfl
  · obtain ⟨⟨P, pa, pt, w, l, wl, q, W, s⟩, b0, rfl, h0, hb0, kq⟩ := h
    refine ⟨_, (pss_cons (ps_set (i := 4) sc__law_is_told.nd rfl (.inl rfl) (pe_callB (cr_sum rfl) (by rfl) B.sum bo_sum (pa_cons (pe_lc (own := [("_law_evening", 7)]) (g := gName 7) rfl sc__law_is_told.nd (k_pil (K := K) rfl (pv 2)) (blkOk_by (N := sl__law_is_told) (sc := defScope s__law_is_told) (by decide +kernel)) (fun _ _ _ _ _ => (pg_name (i := 7) sc__law_is_told.nd rfl (.inl rfl))) (fun _ _ _ _ _ => pts_nil) (fun _ _ _ _ _ => (pe_callB (k_len (K := K) rfl) (by rfl) B.len bo_len (pa_cons (pe_lc (own := [("_law_k", 8), ("_law_sound", 9)]) (g := gTup K 2 (gCons (gName 8) (gCons (gName 9) gNil))) rfl sc__law_is_told.nd (k_pit (K := K) rfl (pv 7)) (blkOk_by (N := sl__law_is_told) (sc := sc1_law_is_told) (by decide +kernel)) (fun _ _ _ _ _ => (pg_tup rfl (pgs_cons (pg_name (i := 8) sc__law_is_told.nd rfl (.inl rfl)) (pgs_cons (pg_name (i := 9) sc__law_is_told.nd rfl (.inl rfl)) pgs_nil)))) (fun _ _ _ _ _ => pts_one (pt_not (pt_val (pv 9)))) (fun _ _ _ _ _ => (pv 8))) pa_nil)))) pa_nil)))
  (pss_cons (ps_set (i := 5) sc__law_is_told.nd rfl (.inl rfl) (pe_meth0 (pv 0) C_Party.cl h_Party_run.mt h_Party_run.F (hr.mono (by decide)) h_Party_run.b .nil pass0))
  (pss_cons (ps_if (PW.pt (pw_or (pt_cmpR op_ne (pe_callB (k_repr (K := K) rfl hgd hr.units) (by rfl) B.repr bo_repr (pa_cons (pv 5) pa_nil)) (pe_callB (k_repr (K := K) rfl hgd hr.units) (by rfl) B.repr bo_repr (pa_cons (pv 2) pa_nil)) (nomark _)) (pw_or1 (pt_cmpR op_ne (pe_callB (k_repr (K := K) rfl hgd hr.units) (by rfl) B.repr bo_repr (pa_cons (pe_meth0 (pv 0) C_Party.cl h_Party_standing.mt h_Party_standing.F (hr.mono (by decide)) h_Party_standing.b .nil pass0) pa_nil)) (pe_callB (k_repr (K := K) rfl hgd hr.units) (by rfl) B.repr bo_repr (pa_cons (pcall h_law_here hr (by decide) (by rfl) (pa_cons (pv 1) (pa_cons (pv 2) pa_nil))) pa_nil)) (nomark _)))))
    (pss_one (ps_ret pe_bl))
    pss_nil)
  (pss_cons (ps_expr (pe_bm PySem.F.plainAttrs_list PySem.F.slot_list_append PySem.F.type_list_append mt_append (pv 5) (pa_cons (pe_tup (pa_cons (pe_tup (pa_cons pe_int (pa_cons pe_bl pa_nil))) pa_nil)) pa_nil)))
  (pss_cons (ps_if (PW.pt (pw_or (pt_cmpR op_ne (pe_callB SkE.call_repr_int (by rfl) B.repr bo_repr (pa_cons (pe_meth0 (pv 0) C_Party.cl h_Party_lost.mt h_Party_lost.F (hr.mono (by decide)) h_Party_lost.b .nil pass0) pa_nil)) (pe_callB SkE.call_repr_int (by rfl) B.repr bo_repr (pa_cons (pv 4) pa_nil)) (nomark _)) (pw_or1 (pt_cmpR op_ne (pe_callB SkE.call_repr_int (by rfl) B.repr bo_repr (pa_cons (pe_meth0 (pv 0) C_Party.cl h_Party_evenings.mt h_Party_evenings.F (hr.mono (by decide)) h_Party_evenings.b .nil pass0) pa_nil)) (pe_callB SkE.call_repr_int (by rfl) B.repr bo_repr (pa_cons (pe_callB (k_len (K := K) rfl) (by rfl) B.len bo_len (pa_cons (pv 2) pa_nil)) pa_nil)) (nomark _)))))
    (pss_one (ps_ret pe_bl))
    pss_nil)
  (pss_cons (ps_set (i := 6) sc__law_is_told.nd rfl (.inl rfl) (pe_meth0 (pv 0) C_Party.cl h_Party_sensible.mt h_Party_sensible.F (hr.mono (by decide)) h_Party_sensible.b .nil pass0))
  (pss_one (ps_ret (pe_and (pe_callB (k_isi (K := K) rfl) (by rfl) B.isinstance bo_isinstance (pa_cons (pv 6) (pa_cons (pe_bltn (v := .ty "bool") (by rfl) B.bool bo_bool rfl) pa_nil))) (pe_one (pe_cmpR op_eq (pv 6) (pv 3) (nomark _)))))))))))), ?_⟩
    have h := h0.pty
    obtain ⟨few, lost62, hev⟩ := h0.led.few h.crs.e62
    obtain ⟨tvs, hl, hE⟩ := h0.run
    dsimp only at h hl hE few lost62 hev hb0
    have htl := hE.1
    rw [List.length_map] at htl
    -- the lost ones
    refine ⟨_, rfl, l, rfl, ⟨_, sql hl⟩, fun D nD => ?_⟩
    refine lc_val walk_list calm_at (fun i => (s.hist[i]?).bind fun x => some (nV (lostL x.2).length)) (by omega) nD (fun H3 s3 => sql (s3 _ _ hl)) ?_ fun H1 s1 hD => ?_
    · rintro i v H4 H5 hi s4 ⟨rfl, hv⟩ Kt kt
      have hih : i < s.hist.length := by omega
      have k0 := fun H' (z : Same H5 H') => kt H' z
      rw [List.getElem?_eq_getElem hih] at k0
      simp only [Option.bind_some] at k0
      obtain ⟨eA, pts, rfl, hpt, hpl, hpp⟩ := (hE.2 i v s.hist[i].2 hv (by rw [List.getElem?_map, List.getElem?_eq_getElem hih]; rfl)).nl (Same.nl s4)
      have hl62 := (hev _ (List.getElem_mem hih)).1
      generalize s.hist[i] = xe at k0 hpl hpp hl62
      refine ⟨rfl, tyes ?_⟩
      refine ⟨_, rfl, eA, rfl, ⟨_, hpt⟩, fun D2 nD2 => ?_⟩
      refine lc_val walk_tup calm_at (fun i => (xe.2[i]?).bind fun kb => if kb.2 then none else some (nV kb.1)) (by omega) nD2 (fun H3 s3 => Same.sqt s3 hpt) ?_ fun H6 s6 h6 => ?_
      · rintro i v H6 H7 hi s6 ⟨rfl, hv⟩ Kt2 kt2
        have hie : i < xe.2.length := by omega
        obtain ⟨tt, rfl, htt⟩ := hpp i v xe.2[i] hv (List.getElem?_eq_getElem hie)
        have k1 := kt2 _ (Same.refl _)
        rw [List.getElem?_eq_getElem hie] at k1
        simp only [Option.bind_some] at k1
        refine ⟨tt, _, rfl, Same.sqt s6 htt, rfl, _, _, rfl, _, _, rfl, rfl, rfl, _, rfl, xe.2[i].2, rfl, ?_⟩
        cases hb : xe.2[i].2 with
        | false =>
          rw [hb] at k1
          exact iteT ⟨_, rfl, k1⟩
        | true =>
          rw [hb] at k1
          exact iteF k1
      have el : (List.range pts.length).filterMap (fun i => (xe.2[i]?).bind fun kb => if kb.2 then none else some (nV kb.1)) = (lostL xe.2).map nV := by
        rw [hpl, fm_range]
        unfold lostL
        rw [List.map_filterMap]
        congr 1
        funext kb
        cases kb.2 <;> rfl
      rw [el] at h6
      refine ⟨D2, _, rfl, .inl (sql h6), ?_⟩
      rw [List.length_map]
      exact k0 _ s6
    have el : (List.range tvs.length).filterMap (fun i => (s.hist[i]?).bind fun x => some (nV (lostL x.2).length)) = (s.hist.map fun x => ((lostL x.2).length : Int)).map V.int := by
      rw [htl, fm_range, fm_some, List.map_map]
      rfl
    rw [el] at hD
    refine ⟨D, _, rfl, sql hD, ?_⟩
    have e : (s.hist.map fun x => ((lostL x.2).length : Int)).sum = ((lostSum s.hist : Nat) : Int) := by
      unfold lostSum
      induction s.hist with
      | nil => rfl
      | cons x r ih =>
        rw [List.map_cons, List.sum_cons, List.map_cons, List.sum_cons, ih]
        rfl
    rw [e]
    have Wr : Shw (runD (s.hist.map (·.2))) := shw_run (by rw [List.length_map]; exact few) fun ev hv => by
      obtain ⟨z, hz, rfl⟩ := List.mem_map.mp hv
      exact hev z hz
    obtain ⟨rd, hrd⟩ : ∃ rd, rd = runD (s.hist.map (·.2)) := ⟨_, rfl⟩
    rw [← hrd] at Wr
    have dpr : ∀ {H' : Hp} {l' : Addr} {t' : List V}, H' l' = some (.lst t') → EvsAt K H' t' (s.hist.map (·.2)) → Dp K H' (.ref l') rd := fun a b => by
      rw [hrd]
      exact EvsAt.dp a b
    have Ws : Shw (stdD s.cur.1 s.cur.2) := by
      have o := h.crs.ok
      have n62 := h.crs.n62
      have e62 := h.crs.e62
      have := pw_len o.rp (l := 0) fun z hz => ⟨Nat.zero_le _, o.rn z hz⟩
      have := pw_len o.lp (l := 0) fun z hz => ⟨Nat.zero_le _, o.ln z hz⟩
      exact shw_stdD (fun k hk => by have := o.rn k hk; omega) (fun k hk => by have := o.ln k hk; omega) (by omega) (by omega)
    have hist62 : (((s.hist.length : Nat) : Int)).natAbs.log2 < 1920 := log15 (by omega)
    have lost1 : (((lostSum s.hist : Nat) : Int)).natAbs.log2 < 1920 := log15 (by omega)
    have h1 := h.same s1
    obtain ⟨dx1, hP1⟩ := h1.ob
    refine ⟨_, rfl, P, dx1, _, rfl, hP1, f3_p3 (by decide +kernel) (by decide +kernel) (by decide +kernel), P, w, W, q, _, rfl, h1, fun lt tvt nlt hEt => ?_⟩
    have s2 := same_new (o := .lst tvt) (Same.refl H1) nlt
    have hlt : upd H1 lt (.lst tvt) lt = some (.lst tvt) := upd_same
    have nlt0 : H lt = none := Same.free s1 nlt
    have hEt' : EvsAt K (upd H1 lt (.lst tvt)) tvt (s.hist.map (·.2)) := hEt.nl (Same.nl s2)
    generalize upd H1 lt (.lst tvt) = H2 at s2 hlt hEt'
    have s02 := s1.trans s2
    refine ⟨_, rfl, lt, rd, rfl, dpr hlt hEt', Wr.s, Wr.n, Wr.d8, Wr.z, ?_⟩
    refine ⟨_, rfl, l, rd, rfl, dpr (s02 _ _ hl) (hE.nl (Same.nl s02)), Wr.s, Wr.n, Wr.d8, Wr.z, ?_⟩
    refine ⟨scal_str, _, rfl, ?_⟩
    rw [decide_eq_true (rfl : V.str rd.shown = V.str rd.shown)]
    refine iteF ?_
    obtain ⟨dx2, hP2⟩ := (h.same s02).ob
    refine ⟨_, rfl, P, dx2, _, rfl, hP2, f3_p3 (by decide +kernel) (by decide +kernel) (by decide +kernel), P, w, W, q, _, rfl, h.same s02, fun u3 x3 y3 S3 => ?_⟩
    refine ⟨u3, stdD s.cur.1 s.cur.2, rfl, S3.dpD, Ws.s, Ws.n, Ws.d8, Ws.z, ?_⟩
    refine ⟨_, rfl, _, rfl, pt, l, s.n, s.a, s.pvs, s.es, s.c, s.gs, W, tvs, s.hist, s.cur, rfl, h0.pts.same s02, h0.o0, h.opn, h0.led, s02 _ _ hl, hE.nl (Same.nl s02), fun u x y H3 s3 S => ?_⟩
    refine ⟨u, stdD s.cur.1 s.cur.2, rfl, S.dpD, Ws.s, Ws.n, Ws.d8, Ws.z, ?_⟩
    refine ⟨scal_str, _, rfl, ?_⟩
    rw [decide_eq_true (rfl : V.str (stdD s.cur.1 s.cur.2).shown = V.str (stdD s.cur.1 s.cur.2).shown)]
    refine iteF ?_
    have s03 := s02.trans s3
    have hlt3 := s3 _ _ hlt
    refine ⟨_, rfl, .inl ⟨rfl, _, sql hlt3⟩, by show 2 ≤ sizeLine; decide, fun t1 nt1 => ⟨by show 1 ≤ sizeLine; decide, fun t2 nt2 => ?_⟩⟩
    have s6 := same_new (o := .tup [.int 0, .bl true]) (Same.refl H3) nt1
    have s7 := same_new (o := .tup [.ref t1]) (Same.refl _) nt2
    have hlt7 := s7 _ _ (s6 _ _ hlt3)
    have hEl := hEt'.1
    rw [List.length_map] at hEl
    refine ⟨lt, _, _, rfl, rfl, hlt7, small_lt (by omega), ?_⟩
    have s08 : Same H (upd (upd (upd H3 t1 (.tup [.int 0, .bl true])) t2 (.tup [.ref t1])) lt (.lst (tvt ++ [.ref t2]))) := same_mut ((s03.trans s6).trans s7) nlt0
    generalize upd (upd (upd H3 t1 (.tup [.int 0, .bl true])) t2 (.tup [.ref t1])) lt (.lst (tvt ++ [.ref t2])) = H8 at s08 ⊢
    -- how many are lost
    have h8 := h.same s08
    obtain ⟨dx8, hP8⟩ := h8.ob
    refine ⟨_, rfl, P, dx8, _, rfl, hP8, f3_p3 (by decide +kernel) (by decide +kernel) (by decide +kernel), P, w, W, q, _, rfl, h8, fun H9 s9 => ?_⟩
    have s09 := s08.trans s9
    refine ⟨((lostSum s.hist : Nat) : Int), rfl, lost1, ?_⟩
    refine ⟨_, rfl, ((lostSum s.hist : Nat) : Int), rfl, lost1, ?_⟩
    refine ⟨scal_str, _, rfl, ?_⟩
    rw [decide_eq_true rfl]
    refine iteF ?_
    obtain ⟨dx9, hP9⟩ := (h.same s09).ob
    refine ⟨_, rfl, P, dx9, _, rfl, hP9, f3_p3 (by decide +kernel) (by decide +kernel) (by decide +kernel), P, w, W, q, _, rfl, h.same s09, fun H10 s10 => ?_⟩
    have s010 := s09.trans s10
    refine ⟨((s.hist.length : Nat) : Int), rfl, hist62, ?_⟩
    refine ⟨_, rfl, l, _, rfl, .inl (sql (s010 _ _ hl)), ?_⟩
    rw [htl]
    refine ⟨((s.hist.length : Nat) : Int), rfl, hist62, ?_⟩
    refine ⟨scal_str, _, rfl, ?_⟩
    rw [decide_eq_true rfl]
    refine iteF ?_
    -- whether it was wise
    obtain ⟨dx10, hP10⟩ := (h.same s010).ob
    refine ⟨_, rfl, P, dx10, _, rfl, hP10, f3_p3 (by decide +kernel) (by decide +kernel) (by decide +kernel), P, w, W, q, _, rfl, h.same s010, fun H11 b s11 hb => ?_⟩
    have eb : b = b0 := by
      rw [Bool.eq_iff_iff, hb, hb0]
    subst eb
    refine ⟨_, rfl, _, .ty "bool", _, _, _, rfl, .ty "bool", (kn_of_bl (K := K) (H := H11) (b := b)).ty, kit_bool (K := K) (by simp), ?_⟩
    refine ⟨_, rfl, iteT ?_⟩
    refine ⟨_, rfl, _, rfl, rfl, ?_⟩
    rw [decide_eq_true rfl]
    exact kq _ (s010.trans s11)

abbrev s__law_are_told : Stmt := topS 61
abbrev sl__law_are_told : List Str := ["_law_parties", "_law_pasts", "_law_k"]
theorem sc__law_are_told : FnScope ["_law_parties", "_law_pasts", "_law_k"] ["_law_parties", "_law_pasts"] (defScope s__law_are_told) := ⟨rfl, rfl, rfl, by decide +kernel, rfl, by decide +kernel, by decide +kernel⟩
def spAreTold (K : PySem.W.Frag) (C CC CP : Addr) : Sp := fun vs H Q _ => ∃ (pl al : Addr) (ds : List PD), vs = [.ref pl, .ref al] ∧ H pl = some (.lst (ds.map fun d => V.ref d.P)) ∧ H al = some (.lst (ds.map fun d => V.ref d.pa)) ∧ (∀ d ∈ ds, PastAt K C CC CP H d) ∧ ds.length ≤ 5 ∧ ∀ H', Same H H' → Q (.bl true) H'
theorem PastAt.same {K : PySem.W.Frag} {C CC CP : Addr} {H H' : Hp} {d : PD} (h : PastAt K C CC CP H d) (s : Same H H') : PastAt K C CC CP H' d := h.keep (Same.nl s) fun b _ o e => s b o e
theorem ok__law_are_told {CMap CCourse CParty : Addr} (B : Bt mg) (h_law_is_told : HasG P w K mg base "_law_is_told" 9 ["_law_party", "_law_parts_here", "_law_run", "_law_wise"] (spTold15 K CMap CCourse CParty)) (D0 : Df K mg "_law_are_told" s__law_are_told ["_law_parties", "_law_pasts"]) : HasG P w K mg base "_law_are_told" 10 ["_law_parties", "_law_pasts"] (spAreTold K CMap CCourse CParty) := by
  refine D0.hasG fun f fd F => Fun.okG F sc__law_are_told (fun vs H Q E h => ?_) (fun cdv A outer s H vs Q E hgd hr h => ?_)
  · obtain ⟨pl, al, ds, rfl, _⟩ := h
    rfl
  · obtain ⟨pl, al, ds, rfl, hp, ha, hd, few, q⟩ := h
    refine ⟨_, (pss_one (ps_ret (pe_callB (k_all (K := K) rfl rfl) (by rfl) B.all bo_all (pa_cons (pe_lc (own := [("_law_k", 2)]) (g := gName 2) rfl sc__law_are_told.nd (pi_range1 (by rfl) B.range (pa_cons (pe_callB (k_len (K := K) rfl) (by rfl) B.len bo_len (pa_cons (pv 0) pa_nil)) pa_nil)) (blkOk_by (N := sl__law_are_told) (sc := defScope s__law_are_told) (by decide +kernel)) (fun _ _ _ _ _ => (pg_name (i := 2) sc__law_are_told.nd rfl (.inl rfl))) (fun _ _ _ _ _ => pts_nil) (fun _ _ _ _ _ => (pcallG h_law_is_told hgd hr (by decide) (by rfl) (pa_cons (pe_ix (k_ixl (K := K) rfl) (pv 0) (pv 2) (fun _ _ => rfl)) (pa_cons (pe_ix (k_ixt (K := K) rfl) (pe_ix (k_ixl (K := K) rfl) (pv 1) (pv 2) (fun _ _ => rfl)) pe_int (fun _ _ => rfl)) (pa_cons (pe_ix (k_ixt (K := K) rfl) (pe_ix (k_ixl (K := K) rfl) (pv 1) (pv 2) (fun _ _ => rfl)) pe_int (fun _ _ => rfl)) (pa_cons (pe_ix (k_ixl (K := K) rfl) (pe_ix (k_ixt (K := K) rfl) (pe_ix (k_ixl (K := K) rfl) (pv 1) (pv 2) (fun _ _ => rfl)) pe_int (fun _ _ => rfl)) (pe_un un_neg pe_int) (fun _ _ => rfl)) pa_nil))))))) pa_nil)))), ?_⟩
    refine ⟨_, rfl, pl, _, rfl, .inl (sql hp), ((ds.length : Nat) : Int), by rw [List.length_map], by omega, by omega, fun D nD => ?_⟩
    refine lc_val walk_range calm_fn (fun k => (ds[k]?).bind fun _ => some (V.bl true)) (by show (((ds.length : Nat) : Int)).toNat ≤ 100000; omega) nD (fun _ _ => trivial) ?_ fun H1 s1 hD => ?_
    · rintro k v H6 H7 hk s6 ⟨rfl, rfl⟩ Kt kt
      have hkn : k < ds.length := by
        have : k < (((ds.length : Nat) : Int)).toNat := hk
        omega
      have e0 : (0 : Int) + (k : Int) = (k : Int) := Int.zero_add _
      have hk0 := List.getElem?_eq_getElem hkn
      have h := (hd _ (List.getElem_mem hkn)).same s6
      rw [hk0] at kt
      simp only [Option.bind_some] at kt
      generalize ds[k] = d at hk0 h
      obtain ⟨fs, hf0, fl, fw⟩ := h.fl
      obtain ⟨f0, b, efs⟩ : ∃ f0 b, fs = f0 ++ [b] := by
        have ne : fs ≠ [] := fun z => by
          rw [z] at fl
          cases fl
        exact ⟨_, _, (List.dropLast_concat_getLast ne).symm⟩
      have fl0 : f0.length = d.s.hist.length := by
        rw [efs, List.length_append] at fl
        exact Nat.succ.inj fl
      have hb : b = true ↔ Wise d.s.es d.s.gs d.s.hist := by
        have := fw d.s.hist.length b (by rw [efs, ← fl0, List.getElem?_concat_length])
        rwa [List.take_length] at this
      have hpk : (ds.map fun d => V.ref d.P)[k]? = some (.ref d.P) := by
        rw [List.getElem?_map, hk0]
        rfl
      have hak : (ds.map fun d => V.ref d.pa)[k]? = some (.ref d.pa) := by
        rw [List.getElem?_map, hk0]
        rfl
      have el : atI (fs.map V.bl) (-1) = some (V.bl b) := by
        rw [efs, List.map_append]
        exact atI_last _ _
      refine ⟨rfl, tyes ?_⟩
      refine ⟨_, rfl, _, rfl, pl, _, ((0 : Int) + (k : Int)), .ref d.P, rfl, rfl, sql (s6 _ _ hp), by rw [e0]; exact atI_nat hpk, ?_⟩
      refine ⟨_, rfl, _, rfl, al, _, ((0 : Int) + (k : Int)), .ref d.pa, rfl, rfl, sql (s6 _ _ ha), by rw [e0]; exact atI_nat hak, d.pa, _, (0 : Nat), .ref d.pt, rfl, rfl, h.tup, atI_nat rfl, ?_⟩
      refine ⟨_, rfl, _, rfl, al, _, ((0 : Int) + (k : Int)), .ref d.pa, rfl, rfl, sql (s6 _ _ ha), by rw [e0]; exact atI_nat hak, d.pa, _, (2 : Nat), .ref d.rl, rfl, rfl, h.tup, atI_nat rfl, ?_⟩
      refine ⟨_, rfl, _, rfl, al, _, ((0 : Int) + (k : Int)), .ref d.pa, rfl, rfl, sql (s6 _ _ ha), by rw [e0]; exact atI_nat hak, d.pa, _, (3 : Nat), .ref d.wl, rfl, rfl, h.tup, atI_nat rfl, ?_⟩
      refine ⟨_, rfl, d.wl, _, (-1 : Int), V.bl b, rfl, rfl, sql hf0, el, ?_⟩
      exact ⟨d, b, rfl, h, hb, fun H9 s9 => kt _ s9⟩
    have er : (List.range (((ds.length : Nat) : Int)).toNat).filterMap (fun k => (ds[k]?).bind fun _ => some (V.bl true)) = (ds.map fun _ => true).map V.bl := by
      rw [Int.toNat_natCast, fm_range, fm_some, List.map_map]
      rfl
    refine ⟨D, _, rfl, sql (by rw [← er]; exact hD), ?_⟩
    rw [show (ds.map fun _ => true).all id = true by rw [List.all_map]; exact List.all_eq_true.mpr fun _ _ => rfl]
    exact q _ s1

abbrev s__law_is_sent : Stmt := topS 62
abbrev sl__law_is_sent : List Str := ["_law_hand_here", "_law_party", "_law_past", "_law_parts_here", "_law_rotten_ones", "_law_run", "_law_wise", "_law_here_here", "_law_every", "_law_good", "_law_pool", "_law_lot", "_law_told", "_law_k"]
theorem sc__law_is_sent : FnScope ["_law_hand_here", "_law_party", "_law_past", "_law_parts_here", "_law_rotten_ones", "_law_run", "_law_wise", "_law_here_here", "_law_every", "_law_good", "_law_pool", "_law_lot", "_law_told", "_law_k"] ["_law_hand_here", "_law_party", "_law_past"] (defScope s__law_is_sent) := ⟨rfl, rfl, rfl, by decide +kernel, rfl, by decide +kernel, by decide +kernel⟩
abbrev sc1_law_is_sent : Scope := { kind := .function, names := [(".0", .local), ("_law_k", .local), ("_law_rotten_ones", .cell)], isGenerator := false, isCoroutine := false, more := [] }
theorem notin_dec15 (k : Nat) (W : List Nat) : (!decide (k ∈ W)) = decide (k ∉ W) := by
  by_cases z : k ∈ W
  · rw [decide_eq_true z, decide_eq_false (fun y => y z)]
    rfl
  · rw [decide_eq_false z, decide_eq_true z]
    rfl
/-- behind draws and changes of some lists -/
structure DrL (F H H' : Hp) (h : Addr) (L : List Addr) : Prop where
  hand : HandAt F H' h
  same : ∀ b o, b ≠ h → b ∉ L → H b = some o → H' b = some o
  sub : Same F H'
  live : ∀ b, H b ≠ none → H' b ≠ none
theorem DrL.refl {F H : Hp} {h : Addr} {L : List Addr} (hA : HandAt F H h) (s : Same F H) : DrL F H H h L := ⟨hA, fun _ _ _ _ e => e, s, fun _ e => e⟩
theorem DrL.dr {F H H1 H2 : Hp} {h : Addr} {L : List Addr} (a : DrL F H H1 h L) (d : Dr F H1 H2 h) : DrL F H H2 h L := ⟨d.hand, fun b o nb nl e => d.same b o nb (a.same b o nb nl e), d.sub, fun b e => d.live (a.live b e)⟩
theorem DrL.kp {F H H1 H2 : Hp} {h : Addr} {L : List Addr} (a : DrL F H H1 h L) (k : Kp L H1 H2) (hL : ∀ b ∈ L, b ≠ h ∧ F b = none) : DrL F H H2 h L where
  hand := by
    obtain ⟨c, cells, i, r, s', k', h1, h2, h3⟩ := a.hand.ob
    exact ⟨⟨c, cells, i, r, s', k', k.same _ _ (fun z => (hL _ z).1 rfl) h1, h2, h3⟩, a.hand.nF⟩
  same := fun b o nb nl e => k.same b o nl (a.same b o nb nl e)
  sub := fun b o e => k.same b o (fun z => by rw [(hL b z).2] at e; cases e) (a.sub b o e)
  live := fun b e => k.live b (a.live b e)
/-- flags, as repr shows them -/
def flagsD (bs : List Bool) : PyData := .tuple (bs.map PyData.bool)
theorem shw_bls15 : ∀ {bs : List Bool}, PyData.showableAll (bs.map PyData.bool) = true ∧ PyData.hasDictAll (bs.map PyData.bool) = false ∧ PyData.leavesShortAll 8 (bs.map PyData.bool) = true ∧ PyData.weightAll (bs.map PyData.bool) ≤ 9 * bs.length ∧ PyData.depthAll (bs.map PyData.bool) = 0
  | [] => ⟨rfl, rfl, rfl, Nat.le_refl _, rfl⟩
  | b :: r => by
    obtain ⟨i1, i2, i3, i4, i5⟩ := shw_bls15 (bs := r)
    have hb : ∀ b : Bool, PyData.showable (.bool b) = true ∧ PyData.hasDict (.bool b) = false ∧ PyData.leavesShort 8 (.bool b) = true ∧ PyData.weight (.bool b) ≤ 8 ∧ PyData.depth (.bool b) = 0 := by decide +kernel
    obtain ⟨h1, h2, h3, h4, h5⟩ := hb b
    rw [List.map_cons]
    refine ⟨?_, ?_, ?_, ?_, ?_⟩
    · rw [PyData.showableAll, i1, h1]
      rfl
    · rw [PyData.hasDictAll, i2, h2]
      rfl
    · rw [PyData.leavesShortAll, i3, h3]
      rfl
    · rw [PyData.weightAll, List.length_cons]
      omega
    · rw [PyData.depthAll, i5, h5]
      rfl
theorem shw_flags {bs : List Bool} (few : bs.length ≤ 62) : Shw (flagsD bs) := by
  obtain ⟨h1, h2, h3, h4, h5⟩ := shw_bls15 (bs := bs)
  refine ⟨?_, ?_, ?_, ?_⟩
  · simp only [flagsD, PyData.showable, h1]
  · simp only [flagsD, PyData.hasDict, h2]
  · simp only [flagsD, PyData.depth, h5]
    decide
  · have hs : (100000000 : Nat) ≤ 10 * sizeLine := by decide
    have c3 : (flagsD bs).leavesShort 8 = true := by
      simp only [flagsD, PyData.leavesShort, h3]
    have c4 : (flagsD bs).weight ≤ 2000 := by
      simp only [flagsD, PyData.weight]
      omega
    have := PyData.shown_le 8 (Nat.le_refl _) (flagsD bs) c3
    omega
theorem dp_bls15 {K : PySem.W.Frag} {H : Hp} : ∀ {bs : List Bool}, DpAll K H (bs.map V.bl) (bs.map PyData.bool)
  | [] => .nil
  | b :: r => .cons (.bl b) (dp_bls15 (bs := r))
def spIsSent (K : PySem.W.Frag) (C CC CP : Addr) : Sp := fun vs H Q _ => ∃ (h : Addr) (d : PD) (F : Hp), vs = [.ref h, .ref d.P, .ref d.pa] ∧ PastAt K C CC CP H d ∧ Same F H ∧ HandAt F H h ∧ (∀ b ∈ d.L, b ≠ h ∧ F b = none) ∧
  ∀ (H' : Hp) (d' : PD), DrL F H H' h d.L → PastAt K C CC CP H' d' → d'.P = d.P → d'.pa = d.pa → d'.L = d.L → d'.s.es = d.s.es → Q (.bl true) H'
theorem ok__law_is_sent {CMap CCourse CParty : Addr} (B : Bt mg) (C_Party : ClsC K mg "Party" CParty ["_chart", "_world", "_course"]) (h_law_draw : Has P w K mg base "_law_draw" 1 ["_law_hand_here", "_law_many"] spDraw) (h_law_here : Has P w K mg base "_law_here" 2 ["_law_parts_here", "_law_run"] (spHere15 K))
    (h_law_is_done : Has P w K mg base "_law_is_done" 1 ["_law_parts_here", "_law_reached"] (spLDone K)) (h_law_tries : Has P w K mg base "_law_tries" 1 ["_law_parts_here", "_law_reached", "_law_rotten"] (spLT K LTries)) (h_law_worth : Has P w K mg base "_law_worth" 3 ["_law_parts_here", "_law_reached", "_law_rotten"] (spLT K LWorth))
    (h_law_crowd : Has P w K mg base "_law_crowd" 2 ["_law_hand_here", "_law_every"] spCrowd) (h_Party_send : HasM P w K mg base CParty "send" 6 ["self", "lot"] (spSend K CMap CCourse CParty)) (D0 : Df K mg "_law_is_sent" s__law_is_sent ["_law_hand_here", "_law_party", "_law_past"]) : HasG P w K mg base "_law_is_sent" 7 ["_law_hand_here", "_law_party", "_law_past"] (spIsSent K CMap CCourse CParty) := by
  refine D0.hasG fun f fd F => Fun.okG F sc__law_is_sent (fun vs H Q E h => ?_) (fun cdv A outer s H vs Q E hgd hr h => ?_)
  · obtain ⟨h, d, F, rfl, _⟩ := h
    rfl
  · obtain ⟨h, d, F0, rfl, h0, hF, hA, hL, k⟩ := h
    refine ⟨_, (pss_cons (ps_asg (pv 2) (pg_tup rfl (pgs_cons (pg_name (i := 3) sc__law_is_sent.nd rfl (.inl rfl)) (pgs_cons (pg_name (i := 4) sc__law_is_sent.nd rfl (.inr rfl)) (pgs_cons (pg_name (i := 5) sc__law_is_sent.nd rfl (.inl rfl)) (pgs_cons (pg_name (i := 6) sc__law_is_sent.nd rfl (.inl rfl)) pgs_nil))))))
  (pss_cons (ps_set (i := 7) sc__law_is_sent.nd rfl (.inl rfl) (pcall h_law_here hr (by decide) (by rfl) (pa_cons (pv 3) (pa_cons (pv 5) pa_nil))))
  (pss_cons (ps_if (pt_val (pcall h_law_is_done hr (by decide) (by rfl) (pa_cons (pv 3) (pa_cons (pe_ix (k_ixt (K := K) rfl) (pv 7) pe_int (fun _ _ => rfl)) pa_nil))))
    (pss_one (ps_ret pe_bl))
    pss_nil)
  (pss_cons (ps_set (i := 8) sc__law_is_sent.nd rfl (.inl rfl) (pcall h_law_tries hr (by decide) (by rfl) (pa_cons (pv 3) (pa_cons (pe_ix (k_ixt (K := K) rfl) (pv 7) pe_int (fun _ _ => rfl)) (pa_cons (pe_ix (k_ixt (K := K) rfl) (pv 7) pe_int (fun _ _ => rfl)) pa_nil)))))
  (pss_cons (ps_set (i := 9) sc__law_is_sent.nd rfl (.inr rfl) (pcall h_law_worth hr (by decide) (by rfl) (pa_cons (pv 3) (pa_cons (pe_ix (k_ixt (K := K) rfl) (pv 7) pe_int (fun _ _ => rfl)) (pa_cons (pe_ix (k_ixt (K := K) rfl) (pv 7) pe_int (fun _ _ => rfl)) pa_nil)))))
  (pss_cons (ps_set (i := 10) sc__law_is_sent.nd rfl (.inl rfl) (pe_ix (k_ixl (K := K) rfl) (pe_lst (pa_cons (pv 8) (pa_cons (pv 9) pa_nil))) (pcall h_law_draw hr (by decide) (by rfl) (pa_cons (pv 0) (pa_cons pe_int pa_nil))) (fun _ _ => rfl)))
  (pss_cons (ps_set (i := 11) sc__law_is_sent.nd rfl (.inl rfl) (pcall h_law_crowd hr (by decide) (by rfl) (pa_cons (pv 0) (pa_cons (pv 10) pa_nil))))
  (C8.pss_cut (ps_set (i := 12) sc__law_is_sent.nd rfl (.inl rfl) (pe_meth (pv 1) C_Party.cl h_Party_send.mt h_Party_send.F (hr.mono (by decide)) h_Party_send.b .nil pass0 (pa_cons (pv 11) pa_nil)))
  (pss_cons (ps_expr (pe_bm PySem.F.plainAttrs_list PySem.F.slot_list_append PySem.F.type_list_append mt_append (pv 5) (pa_cons (pe_callTy (k_tuple (K := K) rfl) (by rfl) B.tuple bo_tuple (pa_cons (pe_lc (own := [("_law_k", 13)]) (g := gName 13) rfl sc__law_is_sent.nd (k_pit (K := K) rfl (pv 11)) (blkOk_by (N := sl__law_is_sent) (sc := defScope s__law_is_sent) (by decide +kernel)) (fun _ _ _ _ _ => (pg_name (i := 13) sc__law_is_sent.nd rfl (.inl rfl))) (fun _ _ _ _ _ => pts_nil) (fun _ _ _ _ _ => (pe_tup (pa_cons (pv 13) (pa_cons (pe_cmpR (k_notin (K := K) rfl) (pv 13) (pv 4) (by rfl)) pa_nil))))) pa_nil)) pa_nil)))
  (C8.pss_cut (ps_expr (pe_bm PySem.F.plainAttrs_list PySem.F.slot_list_append PySem.F.type_list_append mt_append (pv 6) (pa_cons (pe_and (pe_ix (k_ixl (K := K) rfl) (pv 6) (pe_un un_neg pe_int) (fun _ _ => rfl)) (pe_one (pe_callB (k_all (K := K) rfl rfl) (by rfl) B.all bo_all (pa_cons (pe_lc (own := [("_law_k", 13)]) (g := gName 13) rfl sc__law_is_sent.nd (k_pit (K := K) rfl (pv 11)) (blkOk_by (N := sl__law_is_sent) (sc := defScope s__law_is_sent) (by decide +kernel)) (fun _ _ _ _ _ => (pg_name (i := 13) sc__law_is_sent.nd rfl (.inl rfl))) (fun _ _ _ _ _ => pts_nil) (fun _ _ _ _ _ => (pe_cmpR (k_in (K := K) rfl) (pv 13) (pv 9) (by rfl)))) pa_nil)))) pa_nil)))
  (pss_one (ps_ret (pe_cmpR op_eq (pe_callB (k_repr (K := K) rfl hgd hr.units) (by rfl) B.repr bo_repr (pa_cons (pv 12) pa_nil)) (pe_callB (k_repr (K := K) rfl hgd hr.units) (by rfl) B.repr bo_repr (pa_cons (pe_callTy (k_tuple (K := K) rfl) (by rfl) B.tuple bo_tuple (pa_cons (pe_lc (own := [("_law_k", 13)]) (g := gName 13) rfl sc__law_is_sent.nd (k_pit (K := K) rfl (pv 11)) (blkOk_by (N := sl__law_is_sent) (sc := defScope s__law_is_sent) (by decide +kernel)) (fun _ _ _ _ _ => (pg_name (i := 13) sc__law_is_sent.nd rfl (.inl rfl))) (fun _ _ _ _ _ => pts_nil) (fun _ _ _ _ _ => (pe_cmpR (k_notin (K := K) rfl) (pv 13) (pv 4) (by rfl)))) pa_nil)) pa_nil)) (nomark _)))))))))))))), ?_⟩
    obtain ⟨tvs, hr0, hE⟩ := h0.run
    obtain ⟨fs, hf0, fl, fw⟩ := h0.fl
    refine ⟨_, rfl, d.pa, _, rfl, h0.tup, rfl, _, _, rfl, _, _, rfl, _, _, rfl, _, _, rfl, rfl, ?_⟩
    refine ⟨_, rfl, _, rfl, d.pt, d.rl, d.s.n, d.s.a, d.s.pvs, d.s.es, d.s.c, d.s.gs, d.W, tvs, d.s.hist, d.s.cur, rfl, h0.pts, h0.o0, h0.pty.opn, h0.led, hr0, hE, fun u x y H1 s1 S1 => ?_⟩
    have o := h0.pty.crs.ok
    have hpt1 := h0.pts.same s1
    refine ⟨_, rfl, _, rfl, u, _, (0 : Nat), .ref x, rfl, rfl, S1.t, atI_nat rfl, d.pt, d.s.n, d.s.a, d.s.pvs, d.s.es, d.s.c, d.s.gs, x, d.s.cur.1, rfl, hpt1, S1.x, fun H2 s2 => ⟨_, rfl, ?_⟩⟩
    have s02 := s1.trans s2
    have S2 := S1.same s2
    have hpt2 := hpt1.same s2
    by_cases hd : ∀ g ∈ d.s.gs, g ∈ d.s.cur.1
    · rw [decide_eq_true hd]
      refine iteT ?_
      exact k H2 d ((DrL.refl hA hF).dr (Dr.of_same hA hF s02)) (h0.same s02) rfl rfl rfl rfl
    rw [decide_eq_false hd]
    refine iteF ?_
    refine ⟨_, rfl, _, rfl, u, _, (0 : Nat), .ref x, rfl, rfl, S2.t, atI_nat rfl, _, rfl, u, _, (1 : Nat), .ref y, rfl, rfl, S2.t, atI_nat rfl, d.pt, d.s.n, d.s.a, d.s.pvs, d.s.es, d.s.c, d.s.gs, x, y, d.s.cur.1, d.s.cur.2, rfl, hpt2, S2.x, S2.y, o, fun ev ts H3 s3 nev hev hts => ?_⟩
    have hts' : ts = triesL d.s.es d.s.cur.1 d.s.cur.2 := hts
    subst hts'
    have S3 := S2.same s3
    refine ⟨_, rfl, _, rfl, u, _, (0 : Nat), .ref x, rfl, rfl, S3.t, atI_nat rfl, _, rfl, u, _, (1 : Nat), .ref y, rfl, rfl, S3.t, atI_nat rfl, d.pt, d.s.n, d.s.a, d.s.pvs, d.s.es, d.s.c, d.s.gs, x, y, d.s.cur.1, d.s.cur.2, rfl, hpt2.same s3, S3.x, S3.y, o, fun gd ws H4 s4 ngd hgdl hws => ?_⟩
    have s24 := s3.trans s4
    have s04 := s02.trans s24
    have hev4 := s4 _ _ hev
    refine ⟨_, rfl, _, rfl, by show 2 ≤ sizeLine; decide, fun pl npl => ?_⟩
    have s5 := same_new (o := .lst [V.ref ev, V.ref gd]) (Same.refl H4) npl
    have hpl5 := upd_same (H := H4) (a := pl) (o := .lst [V.ref ev, V.ref gd])
    generalize upd H4 pl (.lst [V.ref ev, V.ref gd]) = H5 at s5 hpl5 ⊢
    have s05 := s04.trans s5
    have dl5 := (DrL.refl (L := d.L) hA hF).dr (Dr.of_same hA hF s05)
    have evh : ev ≠ h := by
      have := (Dr.of_same hA hF s02).hand
      exact this.ne nev
    have gdh : gd ≠ h := by
      have := (Dr.of_same hA hF (s02.trans s3)).hand
      exact this.ne ngd
    have plh : pl ≠ h := by
      have := (Dr.of_same hA hF s04).hand
      exact this.ne npl
    refine ⟨_, rfl, h, 2, F0, rfl, by decide, small_log (by decide) (by omega), dl5.sub, dl5.hand, fun k0 H6 k1 k2 dd6 => ?_⟩
    have dl6 := dl5.dr dd6.dr
    -- the pool
    have hpool : ∃ lst ts, atI [V.ref ev, V.ref gd] k0 = some (.ref lst) ∧ H6 lst = some (.lst (ts.map nV)) ∧ lst ≠ h ∧ ts ≠ [] ∧ ts.Pairwise (· < ·) ∧ ts.length ≤ 1000 ∧ ∀ x ∈ ts, x ∈ triesL d.s.es d.s.cur.1 d.s.cur.2 := by
      obtain ⟨j, rfl⟩ : ∃ j : Nat, k0 = (j : Int) := ⟨k0.toNat, by omega⟩
      have ne : triesL d.s.es d.s.cur.1 d.s.cur.2 ≠ [] := fun e0 => hd fun g hg => (o.opn g hg).ind (P := fun v => v ∈ d.s.cur.1) (fun v hv => by
        rw [List.mem_singleton.mp hv]
        exact o.r0) fun u v ih e => Classical.byContradiction fun hv => by
        obtain ⟨k, hk, hkl⟩ := mem_leftV.mp e
        have := mem_tries.mpr ⟨(u, v), hk, hkl, ih, hv⟩
        rw [e0] at this
        cases this
      have e62 := h0.pty.crs.e62
      rcases Nat.lt_or_ge j 1 with z | z
      · have : j = 0 := by omega
        subst this
        have tl := pw_len (tries_pw (es := d.s.es) (rs := d.s.cur.1) (ls := d.s.cur.2)) (l := 0) fun z hz => ⟨Nat.zero_le _, by
          obtain ⟨e, he, _⟩ := mem_tries.mp hz
          exact (List.getElem?_eq_some_iff.mp he).1⟩
        exact ⟨ev, _, atI_nat rfl, by rw [dd6.rest ev evh]; exact s5 _ _ hev4, evh, ne, tries_pw, by omega, fun x hx => hx⟩
      · have : j = 1 := by omega
        subst this
        have wn : ws ≠ [] := fun z => hd fun g hg => Classical.byContradiction fun hn => by
          obtain ⟨_, i, h1, h2⟩ := worth_ex o hg hn
          have := (hws.2 i).mpr ⟨h1, h2⟩
          rw [z] at this
          cases this
        have wlt : ws.length ≤ d.s.es.length - 0 := pw_len hws.1 fun z hz => ⟨Nat.zero_le _, by
          obtain ⟨e, he, _⟩ := mem_tries.mp ((hws.2 z).mp hz).1
          exact (List.getElem?_eq_some_iff.mp he).1⟩
        exact ⟨gd, ws, atI_nat rfl, by rw [dd6.rest gd gdh]; exact s5 _ _ hgdl, gdh, wn, hws.1, by omega, fun x hx => ((hws.2 x).mp hx).1⟩
    obtain ⟨lst, ts, hat, hlst, lsth, tne, tpw, tlen, tsub⟩ := hpool
    refine ⟨pl, _, k0, .ref lst, rfl, rfl, sql (by rw [dd6.rest pl plh]; exact hpl5), hat, ?_⟩
    refine ⟨_, rfl, _, rfl, h, lst, ts, F0, rfl, hlst, lsth, tne, tpw, tlen, dl6.sub, dl6.hand, fun z lot H7 d7 nz hz lp lne lsub => ?_⟩
    have dl7 := dl6.dr d7
    have h7 : PastAt K CMap CCourse CParty H7 d := by
      refine (h0.same s05).keep (Dr.nl (dd6.dr.trans d7) (dl5.hand)) fun b hb o' e => ?_
      have := (hL b hb).1
      exact d7.same b o' this (by rw [dd6.rest b this]; exact e)
    have hz7 : SqT K H7 z (lot.map nV) := sqt hz
    have hE7 : EvsAt K H7 tvs (d.s.hist.map (·.2)) := hE.nl ((Same.nl s05).trans (Dr.nl (dd6.dr.trans d7) dl5.hand))
    have lsub' : ∀ k ∈ lot, k ∈ triesL d.s.es d.s.cur.1 d.s.cur.2 := fun k hk => tsub k (lsub k hk)
    obtain ⟨few, lost62, hev62⟩ := h0.led.few h0.pty.crs.e62
    obtain ⟨dx7, hP7⟩ := h7.pty.ob
    have hgd6 : H7 gd = some (.lst (ws.map nV)) := d7.same _ _ gdh (by rw [dd6.rest gd gdh]; exact s5 _ _ hgdl)
    refine ⟨fun σ H8 => ∃ (fb : Addr) (rs' ls' : List Nat), σ = [some (.ref h), some (.ref d.P), some (.ref d.pa), some (.ref d.pt), some (.ref d.w), some (.ref d.rl), some (.ref d.wl), some (.ref u), some (.ref ev), some (.ref gd), some (.ref lst), some (.ref z), some (.ref fb), none] ∧
      Kp d.s.L H7 H8 ∧ H7 fb = none ∧ SqT K H8 fb (lot.map fun k => V.bl (decide (k ∉ d.W))) ∧ BehindR d.s.es d.s.cur.1 d.s.cur.2 (evOf d.W lot) rs' ls' ∧ PtyAt K CMap CCourse CParty H8 d.P d.w d.W d.q { d.s with hist := d.s.hist ++ [(d.s.cur, evOf d.W lot)], cur := (rs', ls') },
      ⟨_, rfl, d.P, dx7, _, rfl, hP7, f3_p3 (by decide +kernel) (by decide +kernel) (by decide +kernel), _, rfl, d.P, d.w, d.W, d.q, d.s, z, lot, rfl, h7.pty, by omega, hd, hz7, lp, lne, lsub', fun fb rs' ls' H8 k8 nfb hfb R8 h8 => ⟨fb, rs', ls', rfl, k8, nfb, hfb, R8, h8⟩⟩, ?_⟩
    rintro σ H8 ⟨fb, rs', ls', rfl, k8, nfb, hfb, R8, h8⟩
    have n8 : Nl H7 H8 := k8.nl h7.pty.crs.lists
    have hz8 := n8.sqt hz7
    have hw8 : SqT K H8 d.w (d.W.map nV) := n8.sqt h7.pty.wd
    have hr8 : H8 d.rl = some (.lst tvs) := k8.same _ _ (by simp [h0.nr.2.1, h0.nr.2.2]) (d7.same _ _ (hL _ (by simp)).1 (by rw [dd6.rest _ (hL _ (by simp)).1]; exact s05 _ _ hr0))
    have hf8 : H8 d.wl = some (.lst (fs.map V.bl)) := k8.same _ _ (by simp [h0.nw.1, h0.nw.2]) (d7.same _ _ (hL _ (by simp)).1 (by rw [dd6.rest _ (hL _ (by simp)).1]; exact s05 _ _ hf0))
    have gdL : gd ∉ d.L := fun z => by
      obtain ⟨ys, e⟩ := h0.lists gd z
      rw [(s02.trans s3) _ _ e] at ngd
      cases ngd
    have hgd8 : H8 gd = some (.lst (ws.map nV)) := k8.same _ _ (fun z => gdL (List.mem_cons_of_mem _ (List.mem_cons_of_mem _ z))) hgd6
    have htl := hE.1
    rw [List.length_map] at htl
    have lll : lot.length ≤ d.s.es.length - 0 := pw_len lp fun z hz => ⟨Nat.zero_le _, by
      obtain ⟨e, he, _⟩ := mem_tries.mp (lsub' z hz)
      exact (List.getElem?_eq_some_iff.mp he).1⟩
    have e62 := h0.pty.crs.e62
    -- the evening
    refine ⟨_, rfl, .inl ⟨rfl, _, sql hr8⟩, _, rfl, z, rfl, ⟨_, hz8⟩, fun D nD => ?_⟩
    refine lc_it (walk_tup (xs := lot.map nV)) (fun j H' => ∃ cs : List V, Same H8 H' ∧ H' D = some (.lst cs) ∧ cs.length = j ∧ ∀ (m : Nat) (pt : V) (k : Nat), cs[m]? = some pt → lot[m]? = some k → ∃ t, pt = .ref t ∧ H' t = some (.tup [nV k, .bl (decide (k ∉ d.W))]))
      ⟨[], same_new (Same.refl H8) nD, upd_same, rfl, fun m pt k e => by simp at e⟩ (fun j H' _ ⟨cs, sm, _⟩ => Same.sqt sm hz8) ?_ ?_
    · rintro j x' H3' H4' hj ⟨cs, sm, hD, hcl, hpr⟩ ⟨rfl, hx⟩
      obtain ⟨k, hkj, rfl⟩ := getmap hx
      rw [List.length_map] at hj
      refine ⟨rfl, tyes ?_⟩
      refine ⟨_, rfl, _, rfl, _, rfl, d.w, _, rfl, .inr (Same.sqt sm hw8), rfl, flat_nats _, ?_⟩
      rw [if_pos rfl, inV_nats, notin_dec15]
      refine ⟨by show 2 ≤ sizeLine; decide, fun p' np' => ?_⟩
      have sp := same_new (o := .tup [nV k, .bl (decide (k ∉ d.W))]) (Same.refl H4') np'
      have hDp := sp _ _ hD
      refine ⟨cs, hDp, small_lt (by omega), cs ++ [.ref p'], same_mut (sm.trans sp) nD, upd_same, by rw [List.length_append, hcl]; rfl, fun m pt' k' e1 e2 => ?_⟩
      rcases Nat.lt_trichotomy m cs.length with z | z | z
      · rw [List.getElem?_append_left z] at e1
        obtain ⟨t', e3, e4⟩ := hpr m pt' k' e1 e2
        have e5 := sp _ _ e4
        exact ⟨t', e3, by rw [upd_ne (ne_of e5 hDp (by intro z; cases z))]; exact e5⟩
      · rw [z, List.getElem?_concat_length] at e1
        rw [z, hcl, hkj] at e2
        cases e1
        cases e2
        have e5 := upd_same (H := H4') (a := p') (o := .tup [nV k, .bl (decide (k ∉ d.W))])
        exact ⟨p', rfl, by rw [upd_ne (ne_of e5 hDp (by intro z; cases z))]; exact e5⟩
      · rw [List.getElem?_eq_none (by rw [List.length_append]; show cs.length + 1 ≤ m; omega)] at e1
        cases e1
    rintro H9 ⟨cs, s9, hD9, hcl, hpr⟩
    rw [List.length_map] at hcl
    refine ⟨D, _, rfl, .inl ⟨sql hD9, fun ea nea => ?_⟩⟩
    have s10 := same_new (o := .tup cs) (Same.refl H9) nea
    have hea : upd H9 ea (.tup cs) ea = some (.tup cs) := upd_same
    have hEv : EvAt K (upd H9 ea (.tup cs)) (.ref ea) (evOf d.W lot) := ⟨ea, cs, rfl, sqt hea, by rw [hcl]; unfold evOf; rw [List.length_map], fun m pt kb e1 e2 => by
      unfold evOf at e2
      rw [List.getElem?_map] at e2
      obtain ⟨k, e3, rfl⟩ := Option.map_eq_some_iff.mp e2
      obtain ⟨t', e4, e5⟩ := hpr m pt k e1 e3
      exact ⟨t', e4, sqt (s10 _ _ e5)⟩⟩
    generalize upd H9 ea (.tup cs) = H10 at s10 hea hEv ⊢
    have s810 := s9.trans s10
    have hr10 := s810 _ _ hr8
    have hf10 := s810 _ _ hf8
    refine ⟨d.rl, tvs, _, rfl, rfl, hr10, small_lt (by omega), ?_⟩
    have n11 : Nl H10 (upd H10 d.rl (.lst (tvs ++ [.ref ea]))) := nl_upd hr10
    have hr11 : upd H10 d.rl (.lst (tvs ++ [.ref ea])) d.rl = some (.lst (tvs ++ [.ref ea])) := upd_same
    have hf11 : upd H10 d.rl (.lst (tvs ++ [.ref ea])) d.wl = some (.lst (fs.map V.bl)) := by rw [upd_ne h0.nr.1.symm]; exact hf10
    have k11 : Kp d.L H10 (upd H10 d.rl (.lst (tvs ++ [.ref ea]))) := kp_upd (by simp)
    have o11 : ∀ b o, b ≠ d.rl → H10 b = some o → upd H10 d.rl (.lst (tvs ++ [.ref ea])) b = some o := fun b o nb e => by rw [upd_ne nb]; exact e
    generalize upd H10 d.rl (.lst (tvs ++ [.ref ea])) = H11 at n11 hr11 hf11 k11 o11 ⊢
    have n811 := (Same.nl s810).trans n11
    have hgd11 := o11 _ _ (fun z => gdL (by simp [z])) (s810 _ _ hgd8)
    have hz11 := n811.sqt hz8
    have hw11 := n811.sqt hw8
    have hfb11 := n811.sqt hfb
    -- the flag
    obtain ⟨f0, b, efs⟩ : ∃ f0 b, fs = f0 ++ [b] := by
      have ne : fs ≠ [] := fun z => by
        rw [z] at fl
        cases fl
      exact ⟨_, _, (List.dropLast_concat_getLast ne).symm⟩
    have fl0 : f0.length = d.s.hist.length := by
      rw [efs, List.length_append] at fl
      exact Nat.succ.inj fl
    have hb : b = true ↔ Wise d.s.es d.s.gs d.s.hist := by
      have := fw d.s.hist.length b (by rw [efs, ← fl0, List.getElem?_concat_length])
      rwa [List.take_length] at this
    have el : atI (fs.map V.bl) (-1) = some (V.bl b) := by
      rw [efs, List.map_append]
      exact atI_last _ _
    have wise1 : Wise d.s.es d.s.gs (d.s.hist ++ [(d.s.cur, evOf d.W lot)]) ↔ Wise d.s.es d.s.gs d.s.hist ∧ ∀ k ∈ lot, k ∈ ws := by
      constructor
      · intro hW
        exact ⟨fun x hx => hW x (List.mem_append_left _ hx), fun k hk => (hws.2 k).mpr (hW _ (List.mem_append_right _ List.mem_cons_self) (k, decide (k ∉ d.W)) (sent_evOf.mpr ⟨hk, rfl⟩))⟩
      · rintro ⟨a, c⟩ x hx kb hkb
        rcases List.mem_append.mp hx with z | z
        · exact a x z kb hkb
        · rw [List.mem_singleton.mp z] at hkb ⊢
          exact (hws.2 _).mp (c _ (mem_evOf.mp hkb).1)
    refine ⟨fun σ H' => ∃ fb' : Bool, σ = [some (.ref h), some (.ref d.P), some (.ref d.pa), some (.ref d.pt), some (.ref d.w), some (.ref d.rl), some (.ref d.wl), some (.ref u), some (.ref ev), some (.ref gd), some (.ref lst), some (.ref z), some (.ref fb), none] ∧
      Kp d.L H11 H' ∧ Nl H11 H' ∧ H' d.wl = some (.lst ((fs ++ [fb']).map V.bl)) ∧ (∀ b o, b ≠ d.wl → H11 b = some o → H' b = some o) ∧ (fb' = true ↔ Wise d.s.es d.s.gs (d.s.hist ++ [(d.s.cur, evOf d.W lot)])), ?_, ?_⟩
    · refine ⟨_, rfl, .inl ⟨rfl, _, sql hf11⟩, _, rfl, _, rfl, d.wl, _, (-1 : Int), V.bl b, rfl, rfl, sql hf11, el, b, rfl, ?_⟩
      have app : ∀ (H' : Hp) (fb' : Bool), Same H11 H' → Kp d.L H11 (upd H' d.wl (.lst (fs.map V.bl ++ [V.bl fb']))) ∧ Nl H11 (upd H' d.wl (.lst (fs.map V.bl ++ [V.bl fb']))) ∧ upd H' d.wl (.lst (fs.map V.bl ++ [V.bl fb'])) d.wl = some (.lst ((fs ++ [fb']).map V.bl)) ∧ (∀ b o, b ≠ d.wl → H11 b = some o → upd H' d.wl (.lst (fs.map V.bl ++ [V.bl fb'])) b = some o) := fun H' fb' sm =>
        ⟨(Same.kp sm).trans (kp_upd (by simp)), (Same.nl sm).trans (nl_upd (sm _ _ hf11)), by rw [upd_same, List.map_append]; rfl, fun b o nb e => by rw [upd_ne nb]; exact sm _ _ e⟩
      have flen : (fs.map V.bl).length < sizeLine := small_lt (by rw [List.length_map]; omega)
      cases b with
      | false =>
        refine iteF ?_
        obtain ⟨q1, q2, q3, q4⟩ := app H11 false (Same.refl _)
        refine ⟨d.wl, _, _, rfl, rfl, hf11, flen, false, rfl, q1, q2, q3, q4, ⟨fun z => (by cases z), fun z => ?_⟩⟩
        exact absurd (hb.mpr (wise1.mp z).1) (by decide)
      | true =>
        refine iteT ?_
        refine ⟨_, rfl, z, rfl, ⟨_, hz11⟩, fun D2 nD2 => ?_⟩
        refine lc_val walk_tup calm_at (fun j => (lot[j]?).bind fun k => some (V.bl (decide (k ∈ ws)))) (by rw [List.length_map]; omega) nD2 (fun H5 s5 => Same.sqt s5 hz11) ?_ fun H12 s12 hD2 => ?_
        · rintro j v H6 H7 hj s6 ⟨rfl, hv'⟩ Kt2 kt2
          obtain ⟨kx, hkj, rfl⟩ := getmap hv'
          have k1 := kt2 _ (Same.refl _)
          rw [hkj] at k1
          simp only [Option.bind_some] at k1
          refine ⟨rfl, tyes ?_⟩
          refine ⟨_, rfl, _, rfl, gd, _, rfl, .inl (sql (s6 _ _ hgd11)), rfl, flat_nats _, ?_⟩
          rw [inV_nats]
          exact k1
        have el2 : (List.range (lot.map nV).length).filterMap (fun j => (lot[j]?).bind fun k => some (V.bl (decide (k ∈ ws)))) = (lot.map fun k => decide (k ∈ ws)).map V.bl := by
          rw [List.length_map, fm_range, fm_some, List.map_map]
          rfl
        rw [el2] at hD2
        obtain ⟨q1, q2, q3, q4⟩ := app H12 ((lot.map fun k => decide (k ∈ ws)).all id) s12
        refine ⟨D2, _, rfl, sql hD2, d.wl, _, _, rfl, rfl, s12 _ _ hf11, flen, _, rfl, q1, q2, q3, q4, ?_⟩
        rw [wise1, List.all_map, List.all_eq_true]
        exact ⟨fun z => ⟨hb.mp rfl, fun k hk => of_decide_eq_true (z k hk)⟩, fun z k hk => decide_eq_true (z.2 k hk)⟩
    · rintro σ H12 ⟨fb', rfl, k12, n12, hf12, o12, hfw⟩
      have n812 := n811.trans n12
      have nwl : d.rl ≠ d.wl := h0.nr.1
      have hz12 := n12.sqt hz11
      have hw12 := n12.sqt hw11
      have hfb12 := n12.sqt hfb11
      have hr12 := o12 _ _ nwl hr11
      have k8' : Kp d.L H7 H8 := ⟨fun b o nb e => k8.same b o (fun z => nb (List.mem_cons_of_mem _ (List.mem_cons_of_mem _ z))) e, k8.live⟩
      have dl12 := (((dl7.kp k8' hL).kp (Same.kp s810) hL).kp k11 hL).kp k12 hL
      obtain ⟨fd, hfd⟩ : ∃ fd, fd = flagsD (lot.map fun k => decide (k ∉ d.W)) := ⟨_, rfl⟩
      have Wf : Shw fd := by rw [hfd]; exact shw_flags (by rw [List.length_map]; omega)
      have dpf : ∀ {H' : Hp} {f' : Addr}, SqT K H' f' (lot.map fun k => V.bl (decide (k ∉ d.W))) → Dp K H' (.ref f') fd := fun {H' f'} e2 => by
        rw [hfd]
        refine .tup e2 ?_
        have := dp_bls15 (K := K) (H := H') (bs := lot.map fun k => decide (k ∉ d.W))
        rw [List.map_map] at this
        exact this
      refine ⟨_, rfl, fb, fd, rfl, dpf hfb12, Wf.s, Wf.n, Wf.d8, Wf.z, ?_⟩
      refine ⟨_, rfl, z, rfl, ⟨_, hz12⟩, fun D2 nD2 => ?_⟩
      refine lc_val walk_tup calm_at (fun m => (lot[m]?).bind fun k => some (V.bl (decide (k ∉ d.W)))) (by rw [List.length_map]; omega) nD2 (fun H3 s3 => Same.sqt s3 hz12) ?_ fun H20 s20 h20 => ?_
      · rintro m x' H3' H4' hm s3 ⟨rfl, hx⟩ Kt kt
        obtain ⟨kx, hkj, rfl⟩ := getmap hx
        have k1 := kt _ (Same.refl _)
        rw [hkj] at k1
        simp only [Option.bind_some] at k1
        refine ⟨rfl, tyes ?_⟩
        refine ⟨_, rfl, _, rfl, d.w, _, rfl, .inr (Same.sqt s3 hw12), rfl, flat_nats _, ?_⟩
        rw [if_pos rfl, inV_nats, notin_dec15]
        exact k1
      have ef : (List.range (lot.map nV).length).filterMap (fun m => (lot[m]?).bind fun k => some (V.bl (decide (k ∉ d.W)))) = lot.map fun k => V.bl (decide (k ∉ d.W)) := by
        rw [List.length_map, fm_range, fm_some]
      rw [ef] at h20
      refine ⟨D2, _, rfl, .inl ⟨sql h20, fun f2 nf2 => ?_⟩⟩
      have g1 := same_new (o := .tup (lot.map fun k => V.bl (decide (k ∉ d.W)))) (Same.refl H20) nf2
      have s1221 := s20.trans g1
      refine ⟨f2, fd, rfl, dpf (sqt upd_same), Wf.s, Wf.n, Wf.d8, Wf.z, ?_⟩
      generalize upd H20 f2 (.tup (lot.map fun k => V.bl (decide (k ∉ d.W)))) = H21 at s1221 ⊢
      refine ⟨scal_str, ?_⟩
      rw [decide_eq_true (rfl : V.str fd.shown = V.str fd.shown)]
      have tlwl : d.s.tl ≠ d.wl := h0.nw.1.symm
      have slwl : d.s.sl ≠ d.wl := h0.nw.2.symm
      have pty12 := h8.keep n812 (fun o e => o12 _ _ tlwl (o11 _ _ h0.nr.2.1.symm (s810 _ _ e))) (fun o e => o12 _ _ slwl (o11 _ _ h0.nr.2.2.symm (s810 _ _ e)))
      refine k H21 { d with s := { d.s with hist := d.s.hist ++ [(d.s.cur, evOf d.W lot)], cur := (rs', ls') } } (dl12.kp (Same.kp s1221) hL) ?_ rfl rfl rfl rfl
      refine PastAt.same ⟨pty12, (h7.pts.nl n8).nl n812, .snoc h0.led hd lne lp lsub' R8, n812.sqt (n8.sqt h7.tup), ⟨_, hr12, ?_⟩, ⟨fs ++ [fb'], hf12, ?_, fun i b hb => ?_⟩, h0.wp, h0.wn, h0.o0, h0.nr, h0.nw⟩ s1221
      · show EvsAt K H12 (tvs ++ [.ref ea]) ((d.s.hist ++ [(d.s.cur, evOf d.W lot)]).map (·.2))
        rw [List.map_append]
        exact (hE7.nl (n8.trans n812)).snoc ((hEv.nl n11).nl n12)
      · show (fs ++ [fb']).length = (d.s.hist ++ [(d.s.cur, evOf d.W lot)]).length + 1
        rw [List.length_append, List.length_append, fl]
        rfl
      · show b = true ↔ Wise d.s.es d.s.gs ((d.s.hist ++ [(d.s.cur, evOf d.W lot)]).take i)
        rcases Nat.lt_trichotomy i fs.length with z | z | z
        · rw [List.getElem?_append_left z] at hb
          rw [List.take_append_of_le_length (by omega)]
          exact fw i b hb
        · rw [z, List.getElem?_concat_length] at hb
          cases hb
          rw [z, List.take_of_length_le (by rw [List.length_append, fl]; exact Nat.le_refl _)]
          exact hfw
        · rw [List.getElem?_eq_none (by rw [List.length_append]; show fs.length + 1 ≤ i; omega)] at hb
          cases hb

/-! all parties of the law, with its accounts -/
theorem split_at {α : Type} {l : List α} {k : Nat} {x : α} (h : l[k]? = some x) : ∃ a b, l = a ++ x :: b ∧ a.length = k := by
  have hk := (List.getElem?_eq_some_iff.mp h).1
  exact ⟨l.take k, l.drop (k + 1), by rw [← drop_cons_of h, List.take_append_drop], by rw [List.length_take]; omega⟩
structure Sys (K : PySem.W.Frag) (C CC CP : Addr) (F : Hp) (h pl al : Addr) (H : Hp) (ds : List PD) : Prop where
  hand : HandAt F H h
  sub : Same F H
  p : H pl = some (.lst (ds.map fun d => V.ref d.P))
  a : H al = some (.lst (ds.map fun d => V.ref d.pa))
  all : ∀ d ∈ ds, PastAt K C CC CP H d
  own : ∀ b ∈ pl :: al :: ds.flatMap PD.L, b ≠ h ∧ F b = none
  nd : (pl :: al :: ds.flatMap PD.L).Nodup
section
variable {K : PySem.W.Frag} {C CC CP : Addr} {F H H' : Hp} {h pl al : Addr} {ds : List PD}
theorem Sys.ownL (S : Sys K C CC CP F h pl al H ds) {d : PD} (hd : d ∈ ds) : ∀ b ∈ d.L, b ≠ h ∧ F b = none := fun b hb => S.own b (List.mem_cons_of_mem _ (List.mem_cons_of_mem _ (List.mem_flatMap.mpr ⟨d, hd, hb⟩)))
theorem Sys.dr (S : Sys K C CC CP F h pl al H ds) (d : Dr F H H' h) : Sys K C CC CP F h pl al H' ds where
  hand := d.hand
  sub := d.sub
  p := d.same _ _ (S.own pl List.mem_cons_self).1 S.p
  a := d.same _ _ (S.own al (List.mem_cons_of_mem _ List.mem_cons_self)).1 S.a
  all := fun x hx => (S.all x hx).keep (d.nl S.hand) fun b hb o e => d.same b o (S.ownL hx b hb).1 e
  own := S.own
  nd := S.nd
theorem Sys.same (S : Sys K C CC CP F h pl al H ds) (s : Same H H') : Sys K C CC CP F h pl al H' ds := S.dr (Dr.of_same S.hand S.sub s)
theorem Sys.ne_p (S : Sys K C CC CP F h pl al H ds) {d : PD} (hd : d ∈ ds) : ∀ b ∈ d.L, b ≠ pl ∧ b ≠ al := fun b hb => by
  have n1 := List.nodup_cons.mp S.nd
  have n2 := List.nodup_cons.mp n1.2
  exact ⟨fun y => n1.1 (List.mem_cons_of_mem _ (List.mem_flatMap.mpr ⟨d, hd, y ▸ hb⟩)), fun y => n2.1 (List.mem_flatMap.mpr ⟨d, hd, y ▸ hb⟩)⟩
/-- one party does something -/
theorem Sys.step {l1 l2 : List PD} {d d' : PD} (S : Sys K C CC CP F h pl al H (l1 ++ d :: l2)) (dl : DrL F H H' h d.L) (hd : PastAt K C CC CP H' d') (eP : d'.P = d.P) (ea : d'.pa = d.pa) (eL : d'.L = d.L) : Sys K C CC CP F h pl al H' (l1 ++ d' :: l2) := by
  have hm : d ∈ l1 ++ d :: l2 := List.mem_append_right _ List.mem_cons_self
  have eF : (l1 ++ d' :: l2).flatMap PD.L = (l1 ++ d :: l2).flatMap PD.L := by
    rw [List.flatMap_append, List.flatMap_append, List.flatMap_cons, List.flatMap_cons]
    show l1.flatMap PD.L ++ (d'.L ++ l2.flatMap PD.L) = _
    rw [eL]
  have nd := S.nd
  have n1 := List.nodup_cons.mp nd
  have n2 := List.nodup_cons.mp n1.2
  have inF : ∀ b ∈ d.L, b ∈ (l1 ++ d :: l2).flatMap PD.L := fun b hb => List.mem_flatMap.mpr ⟨d, hm, hb⟩
  have nl : Nl H H' := fun b o n e => dl.same b o (fun z => by
    obtain ⟨c, cells, i, r, s, k, h1, _⟩ := S.hand.ob
    rw [z, h1] at e
    exact n.1 _ (Option.some.inj e).symm) (fun z => by
    obtain ⟨ys, h1⟩ := (S.all d hm).lists b z
    rw [h1] at e
    exact n.1 _ (Option.some.inj e).symm) e
  have n3 := n2.2
  rw [List.flatMap_append, List.flatMap_cons] at n3
  obtain ⟨q1, q2, q3⟩ := List.nodup_append.mp n3
  obtain ⟨q4, q5, q6⟩ := List.nodup_append.mp q2
  refine ⟨dl.hand, dl.sub, ?_, ?_, fun x hx => ?_, ?_, ?_⟩
  · rw [show ((l1 ++ d' :: l2).map fun d => V.ref d.P) = (l1 ++ d :: l2).map fun d => V.ref d.P by rw [List.map_append, List.map_append, List.map_cons, List.map_cons, eP]]
    exact dl.same _ _ (S.own pl List.mem_cons_self).1 (fun z => n1.1 (List.mem_cons_of_mem _ (inF _ z))) S.p
  · rw [show ((l1 ++ d' :: l2).map fun d => V.ref d.pa) = (l1 ++ d :: l2).map fun d => V.ref d.pa by rw [List.map_append, List.map_append, List.map_cons, List.map_cons, ea]]
    exact dl.same _ _ (S.own al (List.mem_cons_of_mem _ List.mem_cons_self)).1 (fun z => n2.1 (inF _ z)) S.a
  · rcases List.mem_append.mp hx with z | z
    · have hx0 : x ∈ l1 ++ d :: l2 := List.mem_append_left _ z
      exact (S.all x hx0).keep nl fun b hb o e => dl.same b o (S.ownL hx0 b hb).1 (fun y => q3 b (List.mem_flatMap.mpr ⟨x, z, hb⟩) b (List.mem_append_left _ y) rfl) e
    · rcases List.mem_cons.mp z with rfl | z
      · exact hd
      · have hx0 : x ∈ l1 ++ d :: l2 := List.mem_append_right _ (List.mem_cons_of_mem _ z)
        exact (S.all x hx0).keep nl fun b hb o e => dl.same b o (S.ownL hx0 b hb).1 (fun y => q6 b y b (List.mem_flatMap.mpr ⟨x, z, hb⟩) rfl) e
  · rw [eF]
    exact S.own
  · rw [eF]
    exact S.nd
theorem PastAt.nd {d : PD} (h : PastAt K C CC CP H d) : d.L.Nodup := by
  have a := h.nr
  have b := h.nw
  have c := h.pty.crs.ne
  simp only [PD.L, List.nodup_cons, List.mem_cons, List.not_mem_nil, or_false, not_or, not_false_eq_true, List.nodup_nil, and_true]
  exact ⟨⟨a.1, a.2.1, a.2.2⟩, ⟨b.1, b.2⟩, c⟩
/-- one party more -/
theorem Sys.add {d : PD} (S : Sys K C CC CP F h pl al H ds) (hA : HandAt F H' h) (sub : Same F H') (same : ∀ b o, b ≠ h → b ≠ pl → b ≠ al → H b = some o → H' b = some o)
    (hp : H' pl = some (.lst ((ds.map fun d => V.ref d.P) ++ [.ref d.P]))) (ha : H' al = some (.lst ((ds.map fun d => V.ref d.pa) ++ [.ref d.pa]))) (hd : PastAt K C CC CP H' d) (new : ∀ b ∈ d.L, H b = none) : Sys K C CC CP F h pl al H' (ds ++ [d]) := by
  have n1 := List.nodup_cons.mp S.nd
  have n2 := List.nodup_cons.mp n1.2
  have nl : Nl H H' := fun b o n e => same b o (fun z => by
    obtain ⟨c, cells, i, r, s, k, h1, _⟩ := S.hand.ob
    rw [z, h1] at e
    exact n.1 _ (Option.some.inj e).symm) (fun z => by
    rw [z, S.p] at e
    exact n.1 _ (Option.some.inj e).symm) (fun z => by
    rw [z, S.a] at e
    exact n.1 _ (Option.some.inj e).symm) e
  have old : ∀ b ∈ pl :: al :: ds.flatMap PD.L, H b ≠ none := fun b hb => by
    rcases List.mem_cons.mp hb with rfl | hb
    · rw [S.p]
      exact fun z => by cases z
    · rcases List.mem_cons.mp hb with rfl | hb
      · rw [S.a]
        exact fun z => by cases z
      · obtain ⟨x, hx, hb⟩ := List.mem_flatMap.mp hb
        obtain ⟨ys, e⟩ := (S.all x hx).lists b hb
        rw [e]
        exact fun z => by cases z
  have e1 : (ds ++ [d]).flatMap PD.L = ds.flatMap PD.L ++ d.L := by rw [List.flatMap_append, List.flatMap_cons, List.flatMap_nil, List.append_nil]
  refine ⟨hA, sub, by rw [List.map_append]; exact hp, by rw [List.map_append]; exact ha, fun x hx => ?_, fun b hb => ?_, ?_⟩
  · rcases List.mem_append.mp hx with z | z
    · refine (S.all x z).keep nl fun b hb o e => same b o (S.ownL z b hb).1 (fun y => n1.1 (List.mem_cons_of_mem _ (List.mem_flatMap.mpr ⟨x, z, y ▸ hb⟩))) (fun y => n2.1 (List.mem_flatMap.mpr ⟨x, z, y ▸ hb⟩)) e
    · rw [List.mem_singleton.mp z]
      exact hd
  · rw [e1] at hb
    rcases List.mem_cons.mp hb with z | z
    · exact S.own b (by rw [z]; exact List.mem_cons_self)
    · rcases List.mem_cons.mp z with z | z
      · exact S.own b (by rw [z]; exact List.mem_cons_of_mem _ List.mem_cons_self)
      · rcases List.mem_append.mp z with z | z
        · exact S.own b (List.mem_cons_of_mem _ (List.mem_cons_of_mem _ z))
        · exact ⟨S.hand.ne (new b z), Same.free S.sub (new b z)⟩
  · rw [e1]
    have := List.nodup_append.mpr ⟨S.nd, hd.nd, fun x hx y hy e => old x hx (by rw [e]; exact new y hy)⟩
    exact this
end

abbrev s_law : Stmt := topS 64
abbrev sl_law : List Str := ["_law_script", "_law_hand_here", "_law_parties", "_law_pasts", "_law_turn", "_law_parts_here", "_law_rotten_ones", "_law_at", "_law_way", "_law_run", "_law_wise", "_law_k"]
theorem sc_law : FnScope ["_law_script", "_law_hand_here", "_law_parties", "_law_pasts", "_law_turn", "_law_parts_here", "_law_rotten_ones", "_law_at", "_law_way", "_law_run", "_law_wise", "_law_k"] ["_law_script"] (defScope s_law) := ⟨rfl, rfl, rfl, by decide +kernel, rfl, by decide +kernel, by decide +kernel⟩
def spLaw (K : PySem.W.Frag) : Sp := fun vs H Q _ => ∃ (a : Addr) (ns : List Int), vs = [.ref a] ∧ SqL K H a (ns.map V.int) ∧ ns.length ≤ 63 ∧ ∀ H', Q (.bl true) H'
theorem ok_law {CMap CCourse CParty : Addr} (B : Bt mg) (C : MapC K mg CMap) (C_Party : ClsC K mg "Party" CParty ["_chart", "_world", "_course"]) (h_init : HasI P w K mg base CMap 5 ["self", "many", "arrows", "goals"] (spMapInit K CMap)) (h_law_hand : Has P w K mg base "_law_hand" 1 ["_law_script"] (spHand K))
    (h_law_draw : Has P w K mg base "_law_draw" 1 ["_law_hand_here", "_law_many"] spDraw) (h_law_parts : Has P w K mg base "_law_parts" 4 ["_law_hand_here", "_law_places", "_law_arrows"] (spParts K)) (h_law_world : Has P w K mg base "_law_world" 3 ["_law_hand_here", "_law_parts_here"] (spLWorld K))
    (h_Party_init : HasI P w K mg base CParty 5 ["self", "chart", "world"] (spPtyInit K CMap CCourse CParty)) (h_Party_copy : HasM P w K mg base CParty "copy" 7 ["self"] (spPCopy K CMap CCourse CParty))
    (h_law_is_sent : HasG P w K mg base "_law_is_sent" 7 ["_law_hand_here", "_law_party", "_law_past"] (spIsSent K CMap CCourse CParty)) (h_law_is_back : Has P w K mg base "_law_is_back" 3 ["_law_party", "_law_past"] (spIsBack K CMap CCourse CParty))
    (h_law_are_told : HasG P w K mg base "_law_are_told" 10 ["_law_parties", "_law_pasts"] (spAreTold K CMap CCourse CParty)) (h_law_is_wise : Has P w K mg base "_law_is_wise" 4 ["_law_parts_here", "_law_run"] (spIsWise K))
    {f : Addr} {fd : FuncData} (F : Fun K "law" "law" s_law f fd) : FnG P w K mg base 11 f fd ["_law_script"] (spLaw K) := by
  refine Fun.okG F sc_law (fun vs H Q E h => ?_) (fun cdv A outer s H vs Q E hgd hr h => ?_)
  · obtain ⟨a, ns, rfl, _⟩ := h
    rfl
  · obtain ⟨sc, ns, rfl, hS, hns, qq⟩ := h
    refine ⟨_, (pss_cons (ps_set (i := 1) sc_law.nd rfl (.inl rfl) (pcall h_law_hand hr (by decide) (by rfl) (pa_cons (pv 0) pa_nil)))
  (pss_cons (ps_par (i := 2) (j := 3) (by rfl) sc_law.nd rfl rfl (by decide) rfl rfl (pa_cons (pe_lst pa_nil) (pa_cons (pe_lst pa_nil) pa_nil)) (by rfl))
  (pss_cons (ps_for PassesOwn.never rfl (pi_range1 (by rfl) B.range (pa_cons pe_int pa_nil)) (pg_name (i := 4) sc_law.nd rfl (.inl rfl))
    (pss_cons (ps_set (i := 5) sc_law.nd rfl (.inl rfl) (pcall h_law_parts hr (by decide) (by rfl) (pa_cons (pv 1) (pa_cons pe_int (pa_cons pe_int pa_nil)))))
  (pss_cons (ps_set (i := 6) sc_law.nd rfl (.inl rfl) (pcall h_law_world hr (by decide) (by rfl) (pa_cons (pv 1) (pa_cons (pv 5) pa_nil))))
  (pss_cons (ps_expr (pe_bm PySem.F.plainAttrs_list PySem.F.slot_list_append PySem.F.type_list_append mt_append (pv 2) (pa_cons (pe_make h_Party_init.m h_Party_init.F (hr.mono (by decide)) (by rfl) C_Party.mg h_Party_init.b .nil pass0 (pa_cons (pe_make h_init.m h_init.F (hr.mono (by decide)) (by rfl) C.mgMap h_init.b .nil pass0 (pa_cons (pe_ix (k_ixt (K := K) rfl) (pv 5) pe_int (fun _ _ => rfl)) (pa_cons (pe_ix (k_ixt (K := K) rfl) (pv 5) pe_int (fun _ _ => rfl)) (pa_cons (pe_ix (k_ixt (K := K) rfl) (pv 5) pe_int (fun _ _ => rfl)) pa_nil)))) (pa_cons (pv 6) pa_nil))) pa_nil)))
  (pss_one (ps_expr (pe_bm PySem.F.plainAttrs_list PySem.F.slot_list_append PySem.F.type_list_append mt_append (pv 3) (pa_cons (pe_tup (pa_cons (pv 5) (pa_cons (pv 6) (pa_cons (pe_lst pa_nil) (pa_cons (pe_lst (pa_cons pe_bl pa_nil)) pa_nil))))) pa_nil))))))))
  (pss_cons (ps_for PassesOwn.never rfl (pi_range1 (by rfl) B.range (pa_cons pe_int pa_nil)) (pg_name (i := 4) sc_law.nd rfl (.inl rfl))
    (pss_cons (ps_set (i := 7) sc_law.nd rfl (.inl rfl) (pcall h_law_draw hr (by decide) (by rfl) (pa_cons (pv 1) (pa_cons (pe_callB (k_len (K := K) rfl) (by rfl) B.len bo_len (pa_cons (pv 2) pa_nil)) pa_nil))))
  (pss_cons (ps_set (i := 8) sc_law.nd rfl (.inl rfl) (pcall h_law_draw hr (by decide) (by rfl) (pa_cons (pv 1) (pa_cons pe_int pa_nil))))
  (C8.pss_cut (ps_if (pt_cmpR op_lt (pv 8) pe_int (nomark _))
    (pss_one (ps_if (pt_not (pt_val (pcallG h_law_is_sent hgd hr (by decide) (by rfl) (pa_cons (pv 1) (pa_cons (pe_ix (k_ixl (K := K) rfl) (pv 2) (pv 7) (fun _ _ => rfl)) (pa_cons (pe_ix (k_ixl (K := K) rfl) (pv 3) (pv 7) (fun _ _ => rfl)) pa_nil))))))
    (pss_one (ps_ret pe_bl))
    pss_nil))
    (pss_one (ps_if (pt_cmpR op_lt (pv 8) pe_int (nomark _))
    (pss_one (ps_if (pt_not (pt_val (pcall h_law_is_back hr (by decide) (by rfl) (pa_cons (pe_ix (k_ixl (K := K) rfl) (pv 2) (pv 7) (fun _ _ => rfl)) (pa_cons (pe_ix (k_ixl (K := K) rfl) (pv 3) (pv 7) (fun _ _ => rfl)) pa_nil)))))
    (pss_one (ps_ret pe_bl))
    pss_nil))
    (pss_one (ps_if (pt_cmpR op_lt (pe_callB (k_len (K := K) rfl) (by rfl) B.len bo_len (pa_cons (pv 2) pa_nil)) pe_int (nomark _))
    (pss_cons (ps_expr (pe_bm PySem.F.plainAttrs_list PySem.F.slot_list_append PySem.F.type_list_append mt_append (pv 2) (pa_cons (pe_meth0 (pe_ix (k_ixl (K := K) rfl) (pv 2) (pv 7) (fun _ _ => rfl)) C_Party.cl h_Party_copy.mt h_Party_copy.F (hr.mono (by decide)) h_Party_copy.b .nil pass0) pa_nil)))
  (pss_cons (ps_asg (pe_ix (k_ixl (K := K) rfl) (pv 3) (pv 7) (fun _ _ => rfl)) (pg_tup rfl (pgs_cons (pg_name (i := 5) sc_law.nd rfl (.inl rfl)) (pgs_cons (pg_name (i := 6) sc_law.nd rfl (.inl rfl)) (pgs_cons (pg_name (i := 9) sc_law.nd rfl (.inl rfl)) (pgs_cons (pg_name (i := 10) sc_law.nd rfl (.inl rfl)) pgs_nil))))))
  (pss_one (ps_expr (pe_bm PySem.F.plainAttrs_list PySem.F.slot_list_append PySem.F.type_list_append mt_append (pv 3) (pa_cons (pe_tup (pa_cons (pv 5) (pa_cons (pv 6) (pa_cons (pe_callTy (k_list (K := K) rfl) (by rfl) B.list bo_list (pa_cons (pv 9) pa_nil)) (pa_cons (pe_callTy (k_list (K := K) rfl) (by rfl) B.list bo_list (pa_cons (pv 10) pa_nil)) pa_nil))))) pa_nil))))))
    pss_nil)))))
  (pss_one (ps_if (pt_not (pt_val (pcallG h_law_are_told hgd hr (by decide) (by rfl) (pa_cons (pv 2) (pa_cons (pv 3) pa_nil)))))
    (pss_one (ps_ret pe_bl))
    pss_nil))))))
  (pss_cons (ps_for PassesOwn.never rfl (pi_range1 (by rfl) B.range (pa_cons (pe_callB (k_len (K := K) rfl) (by rfl) B.len bo_len (pa_cons (pv 2) pa_nil)) pa_nil)) (pg_name (i := 11) sc_law.nd rfl (.inl rfl))
    (pss_cons (ps_asg (pe_ix (k_ixl (K := K) rfl) (pv 3) (pv 11) (fun _ _ => rfl)) (pg_tup rfl (pgs_cons (pg_name (i := 5) sc_law.nd rfl (.inl rfl)) (pgs_cons (pg_name (i := 6) sc_law.nd rfl (.inl rfl)) (pgs_cons (pg_name (i := 9) sc_law.nd rfl (.inl rfl)) (pgs_cons (pg_name (i := 10) sc_law.nd rfl (.inl rfl)) pgs_nil))))))
  (pss_cons (ps_if (pt_cmpR op_ne (pe_ix (k_ixl (K := K) rfl) (pv 10) (pe_un un_neg pe_int) (fun _ _ => rfl)) (pcall h_law_is_wise hr (by decide) (by rfl) (pa_cons (pv 5) (pa_cons (pv 9) pa_nil))) (nomark _))
    (pss_one (ps_ret pe_bl))
    pss_nil)
  (pss_one (ps_for PassesOwn.never rfl (pi_range1 (by rfl) B.range (pa_cons (pe_op op_add (pe_callB (k_len (K := K) rfl) (by rfl) B.len bo_len (pa_cons (pv 9) pa_nil)) pe_int) pa_nil)) (pg_name (i := 4) sc_law.nd rfl (.inl rfl))
    (pss_one (ps_if (PW.pt (pw_or (pt_not (pt_val (pcall h_law_is_back hr (by decide) (by rfl) (pa_cons (pe_ix (k_ixl (K := K) rfl) (pv 2) (pv 11) (fun _ _ => rfl)) (pa_cons (pe_ix (k_ixl (K := K) rfl) (pv 3) (pv 11) (fun _ _ => rfl)) pa_nil))))) (pw_or1 (pt_not (pt_val (pcallG h_law_are_told hgd hr (by decide) (by rfl) (pa_cons (pv 2) (pa_cons (pv 3) pa_nil))))))))
    (pss_one (ps_ret pe_bl))
    pss_nil)))))))
  (pss_one (ps_ret pe_bl))))))), ?_⟩
    refine ⟨_, rfl, sc, ns, fun _ => none, rfl, hS, by omega, fun b o e => (by cases e), fun h F0 H1 g1 hA => ?_⟩
    have hF := g1.sub'
    refine ⟨Nat.zero_le _, fun pl npl => ⟨Nat.zero_le _, fun al nal => ⟨_, _, rfl, ?_⟩⟩⟩
    have s1 := same_new (o := .lst []) (Same.refl H1) npl
    have s2 := same_new (o := .lst []) (Same.refl _) nal
    have s12 := s1.trans s2
    have plal : pl ≠ al := fun z => by
      rw [← z, upd_same] at nal
      cases nal
    have S0 : Sys K CMap CCourse CParty F0 h pl al (upd (upd H1 pl (.lst [])) al (.lst [])) [] := by
      have d := Dr.of_same hA hF s12
      refine ⟨d.hand, d.sub, s2 _ _ upd_same, upd_same, fun d hd => (List.not_mem_nil hd).elim, fun b hb => ?_, ?_⟩
      · have hb' : b = pl ∨ b = al := by simpa using hb
        rcases hb' with z | z
        · rw [z]
          exact ⟨hA.ne npl, Same.free hF npl⟩
        · rw [z]
          exact ⟨hA.ne (Same.free s1 nal), Same.free hF (Same.free s1 nal)⟩
      · simpa using plal
    generalize upd (upd H1 pl (.lst [])) al (.lst []) = H2 at S0 ⊢
    -- two parties
    refine ⟨2, rfl, by decide, by decide, ?_⟩
    refine for_range (lo := 0) (n := 2) (fun i σ H' => ∃ (x4 x5 x6 : Option V) (ds : List PD), σ = [some (.ref sc), some (.ref h), some (.ref pl), some (.ref al), x4, x5, x6, none, none, none, none, none] ∧ Sys K CMap CCourse CParty F0 h pl al H' ds ∧ ds.length = i)
      ⟨none, none, none, [], rfl, S0, rfl⟩ ?_ ?_
    · rintro i σ H2 hi ⟨x4, x5, x6, ds, rfl, S2, dl⟩
      refine ⟨_, rfl, h, 9, 14, F0, rfl, by decide, by decide, by decide, S2.sub, S2.hand, fun pt n a c pvs es gs H3 _ _ d3 hpt0 => ?_⟩
      have hpt : PtsAt K H3 pt n a pvs es c gs := hpt0.same d3.hvG.sub'
      have gn := hpt.gm.n40
      have g60 := hpt.gm.l60
      have S3 := S2.dr d3
      refine ⟨_, rfl, _, rfl, h, pt, n, a, pvs, es, c, gs, F0, rfl, hpt, d3.sub, d3.hand, fun wz W H4 d4 nwz hwz Wp Wn Wo => ?_⟩
      have S4 := S3.dr d4
      have hpt4 := hpt.dr d4 d3.hand
      refine ⟨_, rfl, .inl ⟨rfl, _, sql S4.p⟩, ?_⟩
      refine ⟨_, rfl, pt, _, (0 : Nat), nV n, rfl, rfl, hpt4.tp, atI_nat rfl, _, rfl, pt, _, (1 : Nat), .ref a, rfl, rfl, hpt4.tp, atI_nat rfl, _, rfl, pt, _, (2 : Nat), .ref c, rfl, rfl, hpt4.tp, atI_nat rfl, ?_⟩
      intro p dx np ndx nedx
      have s5 : Same H4 (upd (upd H4 dx (.own p)) p (.ins CMap dx [])) := fun b o e => by
        rw [upd_ne (ne_of_none e np), upd_ne (ne_of_none e ndx)]
        exact e
      refine ⟨p, dx, n, a, pvs, es, c, gs, rfl, upd_same, Same.sqt s5 hpt4.ar, hpt4.pr.same s5, Same.sqt s5 hpt4.go, hpt.gm, fun H5 mp keep => ⟨rfl, ?_⟩⟩
      have s45 : Same H4 H5 := fun b o e => keep b o (ne_of_none e np) (s5 b o e)
      have hpt5 := hpt4.same s45
      have m5 := MapOk.of mp (hpt4.pr.same s45) hpt.gm
      have hwz5 := s45 _ _ hwz
      refine ⟨_, rfl, ?_⟩
      intro Py dP nP ndP neP
      have s6 : Same H5 (upd (upd H5 dP (.own Py)) Py (.ins CParty dP [])) := fun b o e => by
        rw [upd_ne (ne_of_none e nP), upd_ne (ne_of_none e ndP)]
        exact e
      refine ⟨Py, dP, p, n, a, pvs, es, c, gs, wz, W, rfl, upd_same, m5.same s6, by omega, by omega, begin_ok hpt.gm, sqt (s6 _ _ hwz5), Wp, Wn, Wo, fun q tl sl H6 keep6 ntl0 nsl0 h6 => ⟨rfl, ?_⟩⟩
      have s56 : Same H5 H6 := fun b o e => keep6 b o (ne_of_none e nP) (s6 b o e)
      have s46 := s45.trans s56
      have S6 := S4.same s46
      have ntl4 : H4 tl = none := Same.free s45 (Same.free s6 ntl0)
      have nsl4 : H4 sl = none := Same.free s45 (Same.free s6 nsl0)
      refine ⟨pl, _, _, rfl, rfl, S6.p, small_lt (by rw [List.length_map]; omega), ?_⟩
      have plh := (S6.own pl List.mem_cons_self).1
      have alh := (S6.own al (List.mem_cons_of_mem _ List.mem_cons_self)).1
      have tlpl : tl ≠ pl := fun z => by
        rw [z, S4.p] at ntl4
        cases ntl4
      have slpl : sl ≠ pl := fun z => by
        rw [z, S4.p] at nsl4
        cases nsl4
      have tlal : tl ≠ al := fun z => by
        rw [z, S4.a] at ntl4
        cases ntl4
      have slal : sl ≠ al := fun z => by
        rw [z, S4.a] at nsl4
        cases nsl4
      have o7 : ∀ b o, b ≠ pl → H6 b = some o → upd H6 pl (.lst ((ds.map fun d => V.ref d.P) ++ [.ref Py])) b = some o := fun b o nb e => by rw [upd_ne nb]; exact e
      have n67 : Nl H6 (upd H6 pl (.lst ((ds.map fun d => V.ref d.P) ++ [.ref Py]))) := nl_upd S6.p
      have hp7 : upd H6 pl (.lst ((ds.map fun d => V.ref d.P) ++ [.ref Py])) pl = some (.lst ((ds.map fun d => V.ref d.P) ++ [.ref Py])) := upd_same
      have f7 : ∀ b, upd H6 pl (.lst ((ds.map fun d => V.ref d.P) ++ [.ref Py])) b = none → H6 b = none := fun b e => by
        by_cases z : b = pl
        · rw [z, upd_same] at e
          cases e
        · rw [upd_ne z] at e
          exact e
      generalize upd H6 pl (.lst ((ds.map fun d => V.ref d.P) ++ [.ref Py])) = H7 at o7 n67 hp7 f7 ⊢
      have ha7 := o7 _ _ plal.symm S6.a
      refine ⟨_, rfl, .inl ⟨rfl, _, sql ha7⟩, _, rfl, _, rfl, Nat.zero_le _, fun rl nrl => ⟨by show 1 ≤ sizeLine; decide, fun wl nwl => ⟨by show 4 ≤ sizeLine; decide, fun pa npa => ?_⟩⟩⟩
      have s7a := same_new (o := .lst []) (Same.refl H7) nrl
      have s7b := same_new (o := .lst [.bl true]) (Same.refl _) nwl
      have s7c := same_new (o := .tup [.ref pt, .ref wz, .ref rl, .ref wl]) (Same.refl _) npa
      have s710 := (s7a.trans s7b).trans s7c
      have hrl : upd (upd (upd H7 rl (.lst [])) wl (.lst [.bl true])) pa (.tup [.ref pt, .ref wz, .ref rl, .ref wl]) rl = some (.lst ([] : List V)) := s7c _ _ (s7b _ _ upd_same)
      have hwl : upd (upd (upd H7 rl (.lst [])) wl (.lst [.bl true])) pa (.tup [.ref pt, .ref wz, .ref rl, .ref wl]) wl = some (.lst (([true] : List Bool).map V.bl)) := s7c _ _ upd_same
      have hpa : upd (upd (upd H7 rl (.lst [])) wl (.lst [.bl true])) pa (.tup [.ref pt, .ref wz, .ref rl, .ref wl]) pa = some (.tup [.ref pt, .ref wz, .ref rl, .ref wl]) := upd_same
      have rlwl : rl ≠ wl := fun z => by
        rw [← z, upd_same] at nwl
        cases nwl
      have nwl7 := Same.free s7a nwl
      have nrl6 := f7 _ nrl
      have nwl6 := f7 _ nwl7
      generalize upd (upd (upd H7 rl (.lst [])) wl (.lst [.bl true])) pa (.tup [.ref pt, .ref wz, .ref rl, .ref wl]) = H10 at s710 hrl hwl hpa ⊢
      have ha10 := s710 _ _ ha7
      refine ⟨al, _, _, rfl, rfl, ha10, small_lt (by rw [List.length_map]; omega), ?_⟩
      have rlal : rl ≠ al := fun z => by
        rw [z, S6.a] at nrl6
        cases nrl6
      have wlal : wl ≠ al := fun z => by
        rw [z, S6.a] at nwl6
        cases nwl6
      have lv6 : ∀ b, b = tl ∨ b = sl → H6 b ≠ none := fun b hb => by
        rcases hb with rfl | rfl
        · obtain ⟨_, e, _⟩ := h6.crs.told
          rw [show H6 b = some (.lst _) from e]
          exact fun z => by cases z
        · obtain ⟨_, e, _⟩ := h6.crs.stood
          rw [show H6 b = some (.lst _) from e]
          exact fun z => by cases z
      have ne6 : ∀ {b x : Addr}, H6 b = none → (x = tl ∨ x = sl) → b ≠ x := fun e hx z => lv6 _ hx (z ▸ e)
      have n611 : Nl H6 (upd H10 al (.lst ((ds.map fun d => V.ref d.pa) ++ [.ref pa]))) := (n67.trans (Same.nl s710)).trans (nl_upd ha10)
      have o611 : ∀ b o, b ≠ pl → b ≠ al → H6 b = some o → upd H10 al (.lst ((ds.map fun d => V.ref d.pa) ++ [.ref pa])) b = some o := fun b o n1 n2 e => by
        rw [upd_ne n2]
        exact s710 _ _ (o7 _ _ n1 e)
      have rl11 : upd H10 al (.lst ((ds.map fun d => V.ref d.pa) ++ [.ref pa])) rl = some (.lst []) := by rw [upd_ne rlal]; exact hrl
      have wl11 : upd H10 al (.lst ((ds.map fun d => V.ref d.pa) ++ [.ref pa])) wl = some (.lst (([true] : List Bool).map V.bl)) := by rw [upd_ne wlal]; exact hwl
      have pa11 := (nl_upd (o := .lst ((ds.map fun d => V.ref d.pa) ++ [.ref pa])) ha10) _ _ notL_tup hpa
      have hp11 : upd H10 al (.lst ((ds.map fun d => V.ref d.pa) ++ [.ref pa])) pl = some (.lst ((ds.map fun d => V.ref d.P) ++ [.ref Py])) := by rw [upd_ne plal]; exact s710 _ _ hp7
      have ha11 : upd H10 al (.lst ((ds.map fun d => V.ref d.pa) ++ [.ref pa])) al = some (.lst ((ds.map fun d => V.ref d.pa) ++ [.ref pa])) := upd_same
      generalize upd H10 al (.lst ((ds.map fun d => V.ref d.pa) ++ [.ref pa])) = H11 at n611 o611 rl11 wl11 pa11 hp11 ha11 ⊢
      have hd : PastAt K CMap CCourse CParty H11 ⟨Py, pa, pt, wz, rl, wl, q, W, ⟨p, tl, sl, n, a, pvs, es, c, gs, [], ([0], [])⟩⟩ := by
        refine ⟨h6.keep n611 (fun o e => o611 _ _ tlpl tlal e) (fun o e => o611 _ _ slpl slal e), (hpt5.same s56).nl n611, .nil, sqt pa11, ⟨[], rl11, rfl, fun i v ev e => by simp at e⟩, ⟨[true], wl11, rfl, fun i b e => ?_⟩, Wp, Wn, begin_ok hpt.gm, ⟨rlwl, ne6 nrl6 (.inl rfl), ne6 nrl6 (.inr rfl)⟩, ⟨ne6 nwl6 (.inl rfl), ne6 nwl6 (.inr rfl)⟩⟩
        show b = true ↔ Wise es gs (([] : List (Stg × Evn)).take i)
        rw [List.take_nil]
        cases i with
        | zero =>
          cases e
          exact ⟨fun _ x hx => (List.not_mem_nil hx).elim, fun _ => rfl⟩
        | succ i => simp at e
      have hand11 : HandAt F0 H11 h := by
        obtain ⟨cc, cells, i', r, s, k, h1, h2, h3⟩ := S6.hand.ob
        exact ⟨⟨cc, cells, i', r, s, k, o611 _ _ plh.symm alh.symm h1, h2, h3⟩, S6.hand.nF⟩
      have sub11 : Same F0 H11 := fun b o e => o611 b o (fun z => by rw [z, (S6.own pl List.mem_cons_self).2] at e; cases e) (fun z => by rw [z, (S6.own al (List.mem_cons_of_mem _ List.mem_cons_self)).2] at e; cases e) (S6.sub b o e)
      refine ⟨_, _, _, ds ++ [_], rfl, S4.add hand11 sub11 (fun b o _ n2 n3 e => o611 b o n2 n3 (s46 _ _ e)) hp11 ha11 hd fun b hb => ?_, by rw [List.length_append, dl]; rfl⟩
      simp only [PD.L, List.mem_cons, List.not_mem_nil, or_false] at hb
      rcases hb with z | z | z | z <;> rw [z]
      · exact Same.free s46 nrl6
      · exact Same.free s46 nwl6
      · exact ntl4
      · exact nsl4
    rintro σ H2 ⟨x4, x5, x6, ds, rfl, S2, dl⟩
    -- the turns
    refine ⟨24, rfl, by decide, by decide, ?_⟩
    refine for_range (lo := 0) (n := 24) (fun i σ H' => ∃ (x4 x5 x6 x7 x8 x9 x10 : Option V) (ds : List PD), σ = [some (.ref sc), some (.ref h), some (.ref pl), some (.ref al), x4, x5, x6, x7, x8, x9, x10, none] ∧ Sys K CMap CCourse CParty F0 h pl al H' ds ∧ 0 < ds.length ∧ ds.length ≤ 5)
      ⟨_, _, _, _, _, _, _, ds, rfl, S2, by rw [dl]; decide, by rw [dl]; decide⟩ ?_ ?_
    · rintro i σ H3 hi ⟨x4, x5, x6, x7, x8, x9, x10, ds, rfl, S3, d0, d5⟩
      refine ⟨_, rfl, _, rfl, pl, _, rfl, .inl (sql S3.p), ?_⟩
      rw [List.length_map]
      refine ⟨h, ((ds.length : Nat) : Int), F0, rfl, by omega, small_log (by omega) (by omega), S3.sub, S3.hand, fun k0 H4 hk0 hk1 dd4 => ?_⟩
      have S4 := S3.dr dd4.dr
      refine ⟨_, rfl, h, 7, F0, rfl, by decide, small_log (by decide) (by omega), S4.sub, S4.hand, fun k1 H5 hj0 hj1 dd5 => ?_⟩
      have S5 := S4.dr dd5.dr
      obtain ⟨j, rfl⟩ : ∃ j : Nat, k0 = (j : Int) := ⟨k0.toNat, by omega⟩
      have hj : ds[j]? = some ds[j] := List.getElem?_eq_getElem (by omega)
      generalize ds[j] = d at hj
      have hdm := List.mem_of_getElem? hj
      have hd := S5.all d hdm
      have hpj : (ds.map fun d => V.ref d.P)[j]? = some (.ref d.P) := by
        rw [List.getElem?_map, hj]
        rfl
      have haj : (ds.map fun d => V.ref d.pa)[j]? = some (.ref d.pa) := by
        rw [List.getElem?_map, hj]
        rfl
      obtain ⟨few, _, _⟩ := hd.led.few hd.pty.crs.e62
      refine ⟨fun σ H' => ∃ (x5 x6 x9 x10 : Option V) (ds : List PD), σ = [some (.ref sc), some (.ref h), some (.ref pl), some (.ref al), some (.int ((0 : Int) + (i : Int))), x5, x6, some (.int (j : Int)), some (.int k1), x9, x10, none] ∧ Sys K CMap CCourse CParty F0 h pl al H' ds ∧ 0 < ds.length ∧ ds.length ≤ 5, ?_, ?_⟩
      · refine ⟨_, rfl, _, _, rfl, rfl, _, rfl, ?_⟩
        by_cases w4 : k1 < 4
        · rw [decide_eq_true w4]
          refine iteT ?_
          refine ⟨_, rfl, _, rfl, _, rfl, pl, _, (j : Int), .ref d.P, rfl, rfl, sql S5.p, atI_nat hpj, _, rfl, _, rfl, al, _, (j : Int), .ref d.pa, rfl, rfl, sql S5.a, atI_nat haj, h, d, F0, rfl, hd, S5.sub, S5.hand, S5.ownL hdm, fun H' d' dl' hd' eP ea eL _ => ⟨_, rfl, iteF ?_⟩⟩
          obtain ⟨l1, l2, rfl, _⟩ := split_at hj
          exact ⟨_, _, _, _, _, rfl, S5.step dl' hd' eP ea eL, by rw [List.length_append, List.length_cons]; omega, by rw [List.length_append, List.length_cons] at d5 ⊢; exact d5⟩
        · rw [decide_eq_false w4]
          refine iteF ?_
          refine ⟨_, rfl, _, _, rfl, rfl, _, rfl, ?_⟩
          by_cases w6 : k1 < 6
          · rw [decide_eq_true w6]
            refine iteT ?_
            refine ⟨_, rfl, _, rfl, pl, _, (j : Int), .ref d.P, rfl, rfl, sql S5.p, atI_nat hpj, _, rfl, _, rfl, al, _, (j : Int), .ref d.pa, rfl, rfl, sql S5.a, atI_nat haj, d, rfl, hd, few, fun H' d' kp hd' eP ea eL _ _ => ⟨_, rfl, iteF ?_⟩⟩
            have dl' := (DrL.refl (L := d.L) S5.hand S5.sub).kp kp (S5.ownL hdm)
            obtain ⟨l1, l2, rfl, _⟩ := split_at hj
            exact ⟨_, _, _, _, _, rfl, S5.step dl' hd' eP ea eL, by rw [List.length_append, List.length_cons]; omega, by rw [List.length_append, List.length_cons] at d5 ⊢; exact d5⟩
          · rw [decide_eq_false w6]
            refine iteF ?_
            refine ⟨_, rfl, pl, _, rfl, .inl (sql S5.p), _, _, rfl, rfl, _, rfl, ?_⟩
            rw [List.length_map]
            by_cases w5 : ((ds.length : Nat) : Int) < 5
            · rw [decide_eq_true w5]
              refine iteT ?_
              obtain ⟨dxP, hdP⟩ := hd.pty.ob
              refine ⟨_, rfl, .inl ⟨rfl, _, sql S5.p⟩, _, rfl, _, rfl, pl, _, (j : Int), .ref d.P, rfl, rfl, sql S5.p, atI_nat hpj, d.P, dxP, _, rfl, hdP, f3_p3 (by decide +kernel) (by decide +kernel) (by decide +kernel), d.P, d.w, d.W, d.q, d.s, rfl, hd.pty, hd.o0, hd.wp, hd.wn, fun P2 q2 t2 sl2 H6 s6 nP2 nt2 ns2 h6 => ?_⟩
              have S6 := S5.same s6
              refine ⟨pl, _, _, rfl, rfl, S6.p, small_lt (by rw [List.length_map]; omega), ?_⟩
              obtain ⟨tvs, hr0, hE⟩ := (S6.all d hdm).run
              obtain ⟨fs, hf0, fl, fw⟩ := (S6.all d hdm).fl
              have hnp := S6.ne_p hdm
              have plh := (S6.own pl List.mem_cons_self).1
              have alh := (S6.own al (List.mem_cons_of_mem _ List.mem_cons_self)).1
              have lv5 : ∀ {b x : Addr} {o : HO}, H5 x = some o → H5 b = none → b ≠ x := fun e1 e2 z => by
                rw [z, e1] at e2
                cases e2
              have tpl := lv5 S5.p nt2
              have tal := lv5 S5.a nt2
              have spl := lv5 S5.p ns2
              have sal := lv5 S5.a ns2
              have o7 : ∀ b o, b ≠ pl → H6 b = some o → upd H6 pl (.lst ((ds.map fun d => V.ref d.P) ++ [.ref P2])) b = some o := fun b o nb e => by rw [upd_ne nb]; exact e
              have n67 : Nl H6 (upd H6 pl (.lst ((ds.map fun d => V.ref d.P) ++ [.ref P2]))) := nl_upd S6.p
              have hp7 : upd H6 pl (.lst ((ds.map fun d => V.ref d.P) ++ [.ref P2])) pl = some (.lst ((ds.map fun d => V.ref d.P) ++ [.ref P2])) := upd_same
              have f7 : ∀ b, upd H6 pl (.lst ((ds.map fun d => V.ref d.P) ++ [.ref P2])) b = none → H6 b = none := fun b e => by
                by_cases z : b = pl
                · rw [z, upd_same] at e
                  cases e
                · rw [upd_ne z] at e
                  exact e
              generalize upd H6 pl (.lst ((ds.map fun d => V.ref d.P) ++ [.ref P2])) = H7 at o7 n67 hp7 f7 ⊢
              have ha7 := o7 _ _ plal.symm S6.a
              have ht7 := n67.sqt (S6.all d hdm).tup
              have hr7 := o7 _ _ (hnp d.rl (by simp)).1 hr0
              have hf7 := o7 _ _ (hnp d.wl (by simp)).1 hf0
              refine ⟨_, rfl, _, rfl, al, _, (j : Int), .ref d.pa, rfl, rfl, sql ha7, atI_nat haj, d.pa, _, rfl, ht7, rfl, _, _, rfl, _, _, rfl, _, _, rfl, _, _, rfl, rfl, ?_⟩
              refine ⟨_, rfl, .inl ⟨rfl, _, sql ha7⟩, _, rfl, _, rfl, _, rfl, d.rl, _, rfl, .inl (sql hr7), fun rl nrl => ⟨_, rfl, d.wl, _, rfl, .inl (sql (same_new (Same.refl H7) nrl _ _ hf7)), fun wl nwl => ⟨by show 4 ≤ sizeLine; decide, fun pa npa => ?_⟩⟩⟩
              have s7a := same_new (o := .lst tvs) (Same.refl H7) nrl
              have s7b := same_new (o := .lst (fs.map V.bl)) (Same.refl _) nwl
              have s7c := same_new (o := .tup [.ref d.pt, .ref d.w, .ref rl, .ref wl]) (Same.refl _) npa
              have s710 := (s7a.trans s7b).trans s7c
              have hrl : upd (upd (upd H7 rl (.lst tvs)) wl (.lst (fs.map V.bl))) pa (.tup [.ref d.pt, .ref d.w, .ref rl, .ref wl]) rl = some (.lst tvs) := s7c _ _ (s7b _ _ upd_same)
              have hwl : upd (upd (upd H7 rl (.lst tvs)) wl (.lst (fs.map V.bl))) pa (.tup [.ref d.pt, .ref d.w, .ref rl, .ref wl]) wl = some (.lst (fs.map V.bl)) := s7c _ _ upd_same
              have hpa : upd (upd (upd H7 rl (.lst tvs)) wl (.lst (fs.map V.bl))) pa (.tup [.ref d.pt, .ref d.w, .ref rl, .ref wl]) pa = some (.tup [.ref d.pt, .ref d.w, .ref rl, .ref wl]) := upd_same
              have rlwl : rl ≠ wl := fun z => by
                rw [← z, upd_same] at nwl
                cases nwl
              have nrl6 := f7 _ nrl
              have nwl6 := f7 _ (Same.free s7a nwl)
              generalize upd (upd (upd H7 rl (.lst tvs)) wl (.lst (fs.map V.bl))) pa (.tup [.ref d.pt, .ref d.w, .ref rl, .ref wl]) = H10 at s710 hrl hwl hpa ⊢
              have ha10 := s710 _ _ ha7
              refine ⟨al, _, _, rfl, rfl, ha10, small_lt (by rw [List.length_map]; omega), ?_⟩
              have ne6a : ∀ {b x : Addr} {o : HO}, H6 x = some o → H6 b = none → b ≠ x := fun e1 e2 z => by
                rw [z, e1] at e2
                cases e2
              have rlal := ne6a S6.a nrl6
              have wlal := ne6a S6.a nwl6
              have lv6 : ∀ b, b = t2 ∨ b = sl2 → H6 b ≠ none := fun b hb => by
                rcases hb with rfl | rfl
                · obtain ⟨_, e, _⟩ := h6.crs.told
                  rw [show H6 b = some (.lst _) from e]
                  exact fun z => by cases z
                · obtain ⟨_, e, _⟩ := h6.crs.stood
                  rw [show H6 b = some (.lst _) from e]
                  exact fun z => by cases z
              have ne6 : ∀ {b x : Addr}, H6 b = none → (x = t2 ∨ x = sl2) → b ≠ x := fun e hx z => lv6 _ hx (z ▸ e)
              have n611 : Nl H6 (upd H10 al (.lst ((ds.map fun d => V.ref d.pa) ++ [.ref pa]))) := (n67.trans (Same.nl s710)).trans (nl_upd ha10)
              have o611 : ∀ b o, b ≠ pl → b ≠ al → H6 b = some o → upd H10 al (.lst ((ds.map fun d => V.ref d.pa) ++ [.ref pa])) b = some o := fun b o n1 n2 e => by
                rw [upd_ne n2]
                exact s710 _ _ (o7 _ _ n1 e)
              have rl11 : upd H10 al (.lst ((ds.map fun d => V.ref d.pa) ++ [.ref pa])) rl = some (.lst tvs) := by rw [upd_ne rlal]; exact hrl
              have wl11 : upd H10 al (.lst ((ds.map fun d => V.ref d.pa) ++ [.ref pa])) wl = some (.lst (fs.map V.bl)) := by rw [upd_ne wlal]; exact hwl
              have pa11 := (nl_upd (o := .lst ((ds.map fun d => V.ref d.pa) ++ [.ref pa])) ha10) _ _ notL_tup hpa
              have hp11 : upd H10 al (.lst ((ds.map fun d => V.ref d.pa) ++ [.ref pa])) pl = some (.lst ((ds.map fun d => V.ref d.P) ++ [.ref P2])) := by rw [upd_ne plal]; exact s710 _ _ hp7
              have ha11 : upd H10 al (.lst ((ds.map fun d => V.ref d.pa) ++ [.ref pa])) al = some (.lst ((ds.map fun d => V.ref d.pa) ++ [.ref pa])) := upd_same
              generalize upd H10 al (.lst ((ds.map fun d => V.ref d.pa) ++ [.ref pa])) = H11 at n611 o611 rl11 wl11 pa11 hp11 ha11 ⊢
              have hd11 : PastAt K CMap CCourse CParty H11 ⟨P2, pa, d.pt, d.w, rl, wl, q2, d.W, { d.s with tl := t2, sl := sl2 }⟩ :=
                ⟨h6.keep n611 (fun o e => o611 _ _ tpl tal e) (fun o e => o611 _ _ spl sal e), (S6.all d hdm).pts.nl n611, hd.led, sqt pa11, ⟨tvs, rl11, hE.nl n611⟩, ⟨fs, wl11, fl, fw⟩, hd.wp, hd.wn, hd.o0, ⟨rlwl, ne6 nrl6 (.inl rfl), ne6 nrl6 (.inr rfl)⟩, ⟨ne6 nwl6 (.inl rfl), ne6 nwl6 (.inr rfl)⟩⟩
              have hand11 : HandAt F0 H11 h := by
                obtain ⟨cc, cells, i', r, s, k, h1, h2, h3⟩ := S6.hand.ob
                exact ⟨⟨cc, cells, i', r, s, k, o611 _ _ plh.symm alh.symm h1, h2, h3⟩, S6.hand.nF⟩
              have sub11 : Same F0 H11 := fun b o e => o611 b o (fun z => by rw [z, (S6.own pl List.mem_cons_self).2] at e; cases e) (fun z => by rw [z, (S6.own al (List.mem_cons_of_mem _ List.mem_cons_self)).2] at e; cases e) (S6.sub b o e)
              refine ⟨_, _, _, _, ds ++ [_], rfl, S5.add hand11 sub11 (fun b o _ n2 n3 e => o611 b o n2 n3 (s6 _ _ e)) hp11 ha11 hd11 fun b hb => ?_, by rw [List.length_append]; omega, by rw [List.length_append]; show ds.length + 1 ≤ 5; omega⟩
              simp only [PD.L, List.mem_cons, List.not_mem_nil, or_false] at hb
              rcases hb with z | z | z | z <;> rw [z]
              · exact Same.free s6 nrl6
              · exact Same.free s6 nwl6
              · exact nt2
              · exact ns2
            · rw [decide_eq_false w5]
              refine iteF ?_
              exact ⟨_, _, _, _, ds, rfl, S5, d0, d5⟩
      · rintro σ H6 ⟨x5, x6, x9, x10, ds, rfl, S6, d0, d5⟩
        refine ⟨_, rfl, _, rfl, pl, al, ds, rfl, S6.p, S6.a, S6.all, d5, fun H7 s7 => ⟨_, rfl, iteF ?_⟩⟩
        exact ⟨_, _, _, _, _, _, _, ds, rfl, S6.same s7, d0, d5⟩
    · rintro σ H3 ⟨x4, x5, x6, x7, x8, x9, x10, ds, rfl, S3, d0, d5⟩
      -- back to the begins
      refine ⟨_, rfl, pl, _, rfl, .inl (sql S3.p), _, rfl, by rw [List.length_map]; omega, by rw [List.length_map]; omega, ?_⟩
      rw [List.length_map]
      refine for_range (lo := 0) (n := ((ds.length : Nat) : Int).toNat) (fun i σ H' => ∃ (x4 x5 x6 x9 x10 x11 : Option V) (ds' : List PD), σ = [some (.ref sc), some (.ref h), some (.ref pl), some (.ref al), x4, x5, x6, x7, x8, x9, x10, x11] ∧ Sys K CMap CCourse CParty F0 h pl al H' ds' ∧ ds'.length = ds.length)
        ⟨_, _, _, _, _, _, ds, rfl, S3, rfl⟩ ?_ ?_
      · rintro k σ H4 hk ⟨x4, x5, x6, x9, x10, x11, ds', rfl, S4, dl4⟩
        have hkn : k < ds'.length := by omega
        have hj : ds'[k]? = some ds'[k] := List.getElem?_eq_getElem hkn
        generalize ds'[k] = d at hj
        have hdm := List.mem_of_getElem? hj
        have hd := S4.all d hdm
        have e0 : (0 : Int) + (k : Int) = (k : Int) := Int.zero_add _
        have haj : (ds'.map fun d => V.ref d.pa)[k]? = some (.ref d.pa) := by
          rw [List.getElem?_map, hj]
          rfl
        obtain ⟨few, _, hev⟩ := hd.led.few hd.pty.crs.e62
        obtain ⟨tvs, hr0, hE⟩ := hd.run
        obtain ⟨fs, hf0, fl, fw⟩ := hd.fl
        obtain ⟨f0, b, efs⟩ : ∃ f0 b, fs = f0 ++ [b] := by
          have ne : fs ≠ [] := fun z => by
            rw [z] at fl
            cases fl
          exact ⟨_, _, (List.dropLast_concat_getLast ne).symm⟩
        have fl0 : f0.length = d.s.hist.length := by
          rw [efs, List.length_append] at fl
          exact Nat.succ.inj fl
        have hb : b = true ↔ Wise d.s.es d.s.gs d.s.hist := by
          have := fw d.s.hist.length b (by rw [efs, ← fl0, List.getElem?_concat_length])
          rwa [List.take_length] at this
        have el : atI (fs.map V.bl) (-1) = some (V.bl b) := by
          rw [efs, List.map_append]
          exact atI_last _ _
        have htl := hE.1
        rw [List.length_map] at htl
        refine ⟨_, rfl, _, rfl, al, _, ((0 : Int) + (k : Int)), .ref d.pa, rfl, rfl, sql S4.a, by rw [e0]; exact atI_nat haj, d.pa, _, rfl, hd.tup, rfl, _, _, rfl, _, _, rfl, _, _, rfl, _, _, rfl, rfl, ?_⟩
        refine ⟨_, rfl, _, rfl, d.wl, _, (-1 : Int), V.bl b, rfl, rfl, sql hf0, el, _, rfl, _, rfl, d.pt, d.rl, d.s.n, d.s.a, d.s.pvs, d.s.es, d.s.c, d.s.gs, d.W, tvs, d.s.hist, d.s.cur, rfl, hd.pts, hd.o0, hd.pty.opn, hd.led, hr0, hE, few, fun x hx => (hev x hx).1, fun H5 b' s5 hb' => ?_⟩
        have eb : b' = b := by rw [Bool.eq_iff_iff, hb', hb]
        subst eb
        refine ⟨rfl, _, rfl, ?_⟩
        rw [decide_eq_true rfl]
        refine iteF ?_
        have S5 := S4.same s5
        refine ⟨_, rfl, d.rl, _, rfl, .inl (sql (s5 _ _ hr0)), _, _, rfl, rfl, _, rfl, by omega, by omega, ?_⟩
        obtain ⟨l1, l2, eds, l1k⟩ := split_at hj
        rw [eds] at S5 dl4
        refine for_range (lo := 0) (n := (((tvs.length : Nat) : Int) + 1).toNat) (fun i σ H' => ∃ (x4 : Option V) (d' : PD), σ = [some (.ref sc), some (.ref h), some (.ref pl), some (.ref al), x4, some (.ref d.pt), some (.ref d.w), x7, x8, some (.ref d.rl), some (.ref d.wl), some (.int ((0 : Int) + (k : Int)))] ∧ Sys K CMap CCourse CParty F0 h pl al H' (l1 ++ d' :: l2))
          ⟨_, d, rfl, S5⟩ ?_ ?_
        · rintro i σ H6 hi ⟨x4, d', rfl, S6⟩
          have hdm' : d' ∈ l1 ++ d' :: l2 := List.mem_append_right _ List.mem_cons_self
          have hd' := S6.all d' hdm'
          obtain ⟨few', _, _⟩ := hd'.led.few hd'.pty.crs.e62
          have hk' : (l1 ++ d' :: l2)[k]? = some d' := by
            rw [← l1k, List.getElem?_append_right (Nat.le_refl _), Nat.sub_self]
            rfl
          have hpj' : ((l1 ++ d' :: l2).map fun d => V.ref d.P)[k]? = some (.ref d'.P) := by
            rw [List.getElem?_map, hk']
            rfl
          have haj' : ((l1 ++ d' :: l2).map fun d => V.ref d.pa)[k]? = some (.ref d'.pa) := by
            rw [List.getElem?_map, hk']
            rfl
          refine ⟨_, rfl, _, rfl, pl, _, ((0 : Int) + (k : Int)), .ref d'.P, rfl, rfl, sql S6.p, by rw [e0]; exact atI_nat hpj', _, rfl, _, rfl, al, _, ((0 : Int) + (k : Int)), .ref d'.pa, rfl, rfl, sql S6.a, by rw [e0]; exact atI_nat haj', d', rfl, hd', few', fun H7 d2 kp hd2 eP ea eL _ _ => ⟨_, rfl, ?_⟩⟩
          have dl' := (DrL.refl (L := d'.L) S6.hand S6.sub).kp kp (S6.ownL hdm')
          have S7 := S6.step dl' hd2 eP ea eL
          refine iteF ?_
          have l5 : (l1 ++ d2 :: l2).length ≤ 5 := by
            have : (l1 ++ d2 :: l2).length = (l1 ++ d :: l2).length := by simp
            omega
          refine ⟨_, rfl, _, rfl, pl, al, _, rfl, S7.p, S7.a, S7.all, l5, fun H8 s8 => ⟨_, rfl, ?_⟩⟩
          refine iteF ?_
          exact ⟨_, d2, rfl, S7.same s8⟩
        · rintro σ H6 ⟨x4, d', rfl, S6⟩
          refine ⟨_, _, _, _, _, _, l1 ++ d' :: l2, rfl, S6, ?_⟩
          rw [← dl4]
          simp
      · rintro σ H4 ⟨x4, x5, x6, x9, x10, x11, ds', rfl, S4, dl4⟩
        exact qq _

end
end U
namespace U
open PySem PySem.Spec PyProof.Rows L2
section
variable {P : Program} {w : World} {K : PySem.W.Frag} {mg : Str → Option Value} {base : Heap}
theorem bd_is_integer : ∀ (kV doc pm : Value) (an : Option Addr) (cdv ct : Value) (us : List Value), us.length = (["thing"] : List Str).length → bindArgs (PySem.W.fnOf "is_integer" "is_integer" (defArgs s_is_integer) (defBody s_is_integer) (defScope s_is_integer) .none kV doc pm an cdv ct) ⟨us, []⟩ = pure ((["thing"] : List Str).zip us) := fun _ _ _ _ _ _ us hl => match us, hl with | [_], _ => rfl
theorem bd_is_index : ∀ (kV doc pm : Value) (an : Option Addr) (cdv ct : Value) (us : List Value), us.length = (["thing", "many"] : List Str).length → bindArgs (PySem.W.fnOf "is_index" "is_index" (defArgs s_is_index) (defBody s_is_index) (defScope s_is_index) .none kV doc pm an cdv ct) ⟨us, []⟩ = pure ((["thing", "many"] : List Str).zip us) := fun _ _ _ _ _ _ us hl => match us, hl with | [_, _], _ => rfl
theorem bd_is_any_lot : ∀ (kV doc pm : Value) (an : Option Addr) (cdv ct : Value) (us : List Value), us.length = (["thing"] : List Str).length → bindArgs (PySem.W.fnOf "is_any_lot" "is_any_lot" (defArgs s_is_any_lot) (defBody s_is_any_lot) (defScope s_is_any_lot) .none kV doc pm an cdv ct) ⟨us, []⟩ = pure ((["thing"] : List Str).zip us) := fun _ _ _ _ _ _ us hl => match us, hl with | [_], _ => rfl
theorem bd_is_lot : ∀ (kV doc pm : Value) (an : Option Addr) (cdv ct : Value) (us : List Value), us.length = (["thing", "many"] : List Str).length → bindArgs (PySem.W.fnOf "is_lot" "is_lot" (defArgs s_is_lot) (defBody s_is_lot) (defScope s_is_lot) .none kV doc pm an cdv ct) ⟨us, []⟩ = pure ((["thing", "many"] : List Str).zip us) := fun _ _ _ _ _ _ us hl => match us, hl with | [_, _], _ => rfl
theorem bd_marks : ∀ (kV doc pm : Value) (an : Option Addr) (cdv ct : Value) (us : List Value), us.length = (["many", "lot"] : List Str).length → bindArgs (PySem.W.fnOf "marks" "marks" (defArgs s_marks) (defBody s_marks) (defScope s_marks) .none kV doc pm an cdv ct) ⟨us, []⟩ = pure ((["many", "lot"] : List Str).zip us) := fun _ _ _ _ _ _ us hl => match us, hl with | [_, _], _ => rfl
theorem bd_pairs_left : ∀ (kV doc pm : Value) (an : Option Addr) (cdv ct : Value) (us : List Value), us.length = (["arrows", "rotten"] : List Str).length → bindArgs (PySem.W.fnOf "pairs_left" "pairs_left" (defArgs s_pairs_left) (defBody s_pairs_left) (defScope s_pairs_left) .none kV doc pm an cdv ct) ⟨us, []⟩ = pure ((["arrows", "rotten"] : List Str).zip us) := fun _ _ _ _ _ _ us hl => match us, hl with | [_, _], _ => rfl
theorem bd_steps_from : ∀ (kV doc pm : Value) (an : Option Addr) (cdv ct : Value) (us : List Value), us.length = (["many", "pairs", "sources"] : List Str).length → bindArgs (PySem.W.fnOf "steps_from" "steps_from" (defArgs s_steps_from) (defBody s_steps_from) (defScope s_steps_from) .none kV doc pm an cdv ct) ⟨us, []⟩ = pure ((["many", "pairs", "sources"] : List Str).zip us) := fun _ _ _ _ _ _ us hl => match us, hl with | [_, _, _], _ => rfl
theorem bd_leads_to_all : ∀ (kV doc pm : Value) (an : Option Addr) (cdv ct : Value) (us : List Value), us.length = (["many", "pairs", "places"] : List Str).length → bindArgs (PySem.W.fnOf "leads_to_all" "leads_to_all" (defArgs s_leads_to_all) (defBody s_leads_to_all) (defScope s_leads_to_all) .none kV doc pm an cdv ct) ⟨us, []⟩ = pure ((["many", "pairs", "places"] : List Str).zip us) := fun _ _ _ _ _ _ us hl => match us, hl with | [_, _, _], _ => rfl
theorem bd_Map_many : ∀ (kV doc pm : Value) (an : Option Addr) (cdv ct : Value) (us : List Value), us.length = (["self"] : List Str).length → bindArgs (PySem.W.fnOf "many" "Map.many" (defArgs s_Map_many) (defBody s_Map_many) (defScope s_Map_many) .none kV doc pm an cdv ct) ⟨us, []⟩ = pure ((["self"] : List Str).zip us) := fun _ _ _ _ _ _ us hl => match us, hl with | [_], _ => rfl
theorem bd_Map_arrows : ∀ (kV doc pm : Value) (an : Option Addr) (cdv ct : Value) (us : List Value), us.length = (["self"] : List Str).length → bindArgs (PySem.W.fnOf "arrows" "Map.arrows" (defArgs s_Map_arrows) (defBody s_Map_arrows) (defScope s_Map_arrows) .none kV doc pm an cdv ct) ⟨us, []⟩ = pure ((["self"] : List Str).zip us) := fun _ _ _ _ _ _ us hl => match us, hl with | [_], _ => rfl
theorem bd_Map_goals : ∀ (kV doc pm : Value) (an : Option Addr) (cdv ct : Value) (us : List Value), us.length = (["self"] : List Str).length → bindArgs (PySem.W.fnOf "goals" "Map.goals" (defArgs s_Map_goals) (defBody s_Map_goals) (defScope s_Map_goals) .none kV doc pm an cdv ct) ⟨us, []⟩ = pure ((["self"] : List Str).zip us) := fun _ _ _ _ _ _ us hl => match us, hl with | [_], _ => rfl
theorem bd_is_pair : ∀ (kV doc pm : Value) (an : Option Addr) (cdv ct : Value) (us : List Value), us.length = (["thing", "many"] : List Str).length → bindArgs (PySem.W.fnOf "is_pair" "is_pair" (defArgs s_is_pair) (defBody s_is_pair) (defScope s_is_pair) .none kV doc pm an cdv ct) ⟨us, []⟩ = pure ((["thing", "many"] : List Str).zip us) := fun _ _ _ _ _ _ us hl => match us, hl with | [_, _], _ => rfl
theorem bd_check_pairs : ∀ (kV doc pm : Value) (an : Option Addr) (cdv ct : Value) (us : List Value), us.length = (["many", "pairs", "most"] : List Str).length → bindArgs (PySem.W.fnOf "check_pairs" "check_pairs" (defArgs s_check_pairs) (defBody s_check_pairs) (defScope s_check_pairs) .none kV doc pm an cdv ct) ⟨us, []⟩ = pure ((["many", "pairs", "most"] : List Str).zip us) := fun _ _ _ _ _ _ us hl => match us, hl with | [_, _, _], _ => rfl
theorem bd_are_goals : ∀ (kV doc pm : Value) (an : Option Addr) (cdv ct : Value) (us : List Value), us.length = (["thing", "many", "arrows"] : List Str).length → bindArgs (PySem.W.fnOf "are_goals" "are_goals" (defArgs s_are_goals) (defBody s_are_goals) (defScope s_are_goals) .none kV doc pm an cdv ct) ⟨us, []⟩ = pure ((["thing", "many", "arrows"] : List Str).zip us) := fun _ _ _ _ _ _ us hl => match us, hl with | [_, _, _], _ => rfl
theorem bd_Map___init__ : ∀ (kV doc pm : Value) (an : Option Addr) (cdv ct : Value) (us : List Value), us.length = (["self", "many", "arrows", "goals"] : List Str).length → bindArgs (PySem.W.fnOf "__init__" "Map.__init__" (defArgs s_Map___init__) (defBody s_Map___init__) (defScope s_Map___init__) .none kV doc pm an cdv ct) ⟨us, []⟩ = pure ((["self", "many", "arrows", "goals"] : List Str).zip us) := fun _ _ _ _ _ _ us hl => match us, hl with | [_, _, _, _], _ => rfl
theorem bd_goals_are_open : ∀ (kV doc pm : Value) (an : Option Addr) (cdv ct : Value) (us : List Value), us.length = (["chart", "rotten"] : List Str).length → bindArgs (PySem.W.fnOf "goals_are_open" "goals_are_open" (defArgs s_goals_are_open) (defBody s_goals_are_open) (defScope s_goals_are_open) .none kV doc pm an cdv ct) ⟨us, []⟩ = pure ((["chart", "rotten"] : List Str).zip us) := fun _ _ _ _ _ _ us hl => match us, hl with | [_, _], _ => rfl
theorem bd__unreached_pairs : ∀ (kV doc pm : Value) (an : Option Addr) (cdv ct : Value) (us : List Value), us.length = (["chart", "standing"] : List Str).length → bindArgs (PySem.W.fnOf "_unreached_pairs" "_unreached_pairs" (defArgs s__unreached_pairs) (defBody s__unreached_pairs) (defScope s__unreached_pairs) .none kV doc pm an cdv ct) ⟨us, []⟩ = pure ((["chart", "standing"] : List Str).zip us) := fun _ _ _ _ _ _ us hl => match us, hl with | [_, _], _ => rfl
theorem bd_done_at : ∀ (kV doc pm : Value) (an : Option Addr) (cdv ct : Value) (us : List Value), us.length = (["chart", "standing"] : List Str).length → bindArgs (PySem.W.fnOf "done_at" "done_at" (defArgs s_done_at) (defBody s_done_at) (defScope s_done_at) .none kV doc pm an cdv ct) ⟨us, []⟩ = pure ((["chart", "standing"] : List Str).zip us) := fun _ _ _ _ _ _ us hl => match us, hl with | [_, _], _ => rfl
theorem bd_steps_to_go : ∀ (kV doc pm : Value) (an : Option Addr) (cdv ct : Value) (us : List Value), us.length = (["chart", "standing"] : List Str).length → bindArgs (PySem.W.fnOf "steps_to_go" "steps_to_go" (defArgs s_steps_to_go) (defBody s_steps_to_go) (defScope s_steps_to_go) .none kV doc pm an cdv ct) ⟨us, []⟩ = pure ((["chart", "standing"] : List Str).zip us) := fun _ _ _ _ _ _ us hl => match us, hl with | [_, _], _ => rfl
theorem bd_tries_at : ∀ (kV doc pm : Value) (an : Option Addr) (cdv ct : Value) (us : List Value), us.length = (["chart", "standing"] : List Str).length → bindArgs (PySem.W.fnOf "tries_at" "tries_at" (defArgs s_tries_at) (defBody s_tries_at) (defScope s_tries_at) .none kV doc pm an cdv ct) ⟨us, []⟩ = pure ((["chart", "standing"] : List Str).zip us) := fun _ _ _ _ _ _ us hl => match us, hl with | [_, _], _ => rfl
theorem bd_worth_at : ∀ (kV doc pm : Value) (an : Option Addr) (cdv ct : Value) (us : List Value), us.length = (["chart", "standing"] : List Str).length → bindArgs (PySem.W.fnOf "worth_at" "worth_at" (defArgs s_worth_at) (defBody s_worth_at) (defScope s_worth_at) .none kV doc pm an cdv ct) ⟨us, []⟩ = pure ((["chart", "standing"] : List Str).zip us) := fun _ _ _ _ _ _ us hl => match us, hl with | [_, _], _ => rfl
theorem bd__law_led : ∀ (kV doc pm : Value) (an : Option Addr) (cdv ct : Value) (us : List Value), us.length = (["_law_arrows", "_law_begun", "_law_let", "_law_barred"] : List Str).length → bindArgs (PySem.W.fnOf "_law_led" "_law_led" (defArgs s__law_led) (defBody s__law_led) (defScope s__law_led) .none kV doc pm an cdv ct) ⟨us, []⟩ = pure ((["_law_arrows", "_law_begun", "_law_let", "_law_barred"] : List Str).zip us) := fun _ _ _ _ _ _ us hl => match us, hl with | [_, _, _, _], _ => rfl
theorem bd__law_is_world : ∀ (kV doc pm : Value) (an : Option Addr) (cdv ct : Value) (us : List Value), us.length = (["_law_parts_here", "_law_rotten"] : List Str).length → bindArgs (PySem.W.fnOf "_law_is_world" "_law_is_world" (defArgs s__law_is_world) (defBody s__law_is_world) (defScope s__law_is_world) .none kV doc pm an cdv ct) ⟨us, []⟩ = pure ((["_law_parts_here", "_law_rotten"] : List Str).zip us) := fun _ _ _ _ _ _ us hl => match us, hl with | [_, _], _ => rfl
theorem bd__law_hand : ∀ (kV doc pm : Value) (an : Option Addr) (cdv ct : Value) (us : List Value), us.length = (["_law_script"] : List Str).length → bindArgs (PySem.W.fnOf "_law_hand" "_law_hand" (defArgs s__law_hand) (defBody s__law_hand) (defScope s__law_hand) .none kV doc pm an cdv ct) ⟨us, []⟩ = pure ((["_law_script"] : List Str).zip us) := fun _ _ _ _ _ _ us hl => match us, hl with | [_], _ => rfl
theorem bd__law_draw : ∀ (kV doc pm : Value) (an : Option Addr) (cdv ct : Value) (us : List Value), us.length = (["_law_hand_here", "_law_many"] : List Str).length → bindArgs (PySem.W.fnOf "_law_draw" "_law_draw" (defArgs s__law_draw) (defBody s__law_draw) (defScope s__law_draw) .none kV doc pm an cdv ct) ⟨us, []⟩ = pure ((["_law_hand_here", "_law_many"] : List Str).zip us) := fun _ _ _ _ _ _ us hl => match us, hl with | [_, _], _ => rfl
theorem bd__law_shuffled : ∀ (kV doc pm : Value) (an : Option Addr) (cdv ct : Value) (us : List Value), us.length = (["_law_hand_here", "_law_things"] : List Str).length → bindArgs (PySem.W.fnOf "_law_shuffled" "_law_shuffled" (defArgs s__law_shuffled) (defBody s__law_shuffled) (defScope s__law_shuffled) .none kV doc pm an cdv ct) ⟨us, []⟩ = pure ((["_law_hand_here", "_law_things"] : List Str).zip us) := fun _ _ _ _ _ _ us hl => match us, hl with | [_, _], _ => rfl
theorem bd__law_tail : ∀ (kV doc pm : Value) (an : Option Addr) (cdv ct : Value) (us : List Value), us.length = (["_law_hand_here", "_law_pairs", "_law_goals", "_law_place"] : List Str).length → bindArgs (PySem.W.fnOf "_law_tail" "_law_tail" (defArgs s__law_tail) (defBody s__law_tail) (defScope s__law_tail) .none kV doc pm an cdv ct) ⟨us, []⟩ = pure ((["_law_hand_here", "_law_pairs", "_law_goals", "_law_place"] : List Str).zip us) := fun _ _ _ _ _ _ us hl => match us, hl with | [_, _, _, _], _ => rfl
theorem bd__law_renamed : ∀ (kV doc pm : Value) (an : Option Addr) (cdv ct : Value) (us : List Value), us.length = (["_law_hand_here", "_law_many", "_law_pairs", "_law_goals"] : List Str).length → bindArgs (PySem.W.fnOf "_law_renamed" "_law_renamed" (defArgs s__law_renamed) (defBody s__law_renamed) (defScope s__law_renamed) .none kV doc pm an cdv ct) ⟨us, []⟩ = pure ((["_law_hand_here", "_law_many", "_law_pairs", "_law_goals"] : List Str).zip us) := fun _ _ _ _ _ _ us hl => match us, hl with | [_, _, _, _], _ => rfl
theorem bd__law_parts : ∀ (kV doc pm : Value) (an : Option Addr) (cdv ct : Value) (us : List Value), us.length = (["_law_hand_here", "_law_places", "_law_arrows"] : List Str).length → bindArgs (PySem.W.fnOf "_law_parts" "_law_parts" (defArgs s__law_parts) (defBody s__law_parts) (defScope s__law_parts) .none kV doc pm an cdv ct) ⟨us, []⟩ = pure ((["_law_hand_here", "_law_places", "_law_arrows"] : List Str).zip us) := fun _ _ _ _ _ _ us hl => match us, hl with | [_, _, _], _ => rfl
theorem bd__law_tries : ∀ (kV doc pm : Value) (an : Option Addr) (cdv ct : Value) (us : List Value), us.length = (["_law_parts_here", "_law_reached", "_law_rotten"] : List Str).length → bindArgs (PySem.W.fnOf "_law_tries" "_law_tries" (defArgs s__law_tries) (defBody s__law_tries) (defScope s__law_tries) .none kV doc pm an cdv ct) ⟨us, []⟩ = pure ((["_law_parts_here", "_law_reached", "_law_rotten"] : List Str).zip us) := fun _ _ _ _ _ _ us hl => match us, hl with | [_, _, _], _ => rfl
theorem bd__law_is_done : ∀ (kV doc pm : Value) (an : Option Addr) (cdv ct : Value) (us : List Value), us.length = (["_law_parts_here", "_law_reached"] : List Str).length → bindArgs (PySem.W.fnOf "_law_is_done" "_law_is_done" (defArgs s__law_is_done) (defBody s__law_is_done) (defScope s__law_is_done) .none kV doc pm an cdv ct) ⟨us, []⟩ = pure ((["_law_parts_here", "_law_reached"] : List Str).zip us) := fun _ _ _ _ _ _ us hl => match us, hl with | [_, _], _ => rfl
theorem bd__law_alive : ∀ (kV doc pm : Value) (an : Option Addr) (cdv ct : Value) (us : List Value), us.length = (["_law_parts_here", "_law_reached", "_law_rotten"] : List Str).length → bindArgs (PySem.W.fnOf "_law_alive" "_law_alive" (defArgs s__law_alive) (defBody s__law_alive) (defScope s__law_alive) .none kV doc pm an cdv ct) ⟨us, []⟩ = pure ((["_law_parts_here", "_law_reached", "_law_rotten"] : List Str).zip us) := fun _ _ _ _ _ _ us hl => match us, hl with | [_, _, _], _ => rfl
theorem bd__law_worth : ∀ (kV doc pm : Value) (an : Option Addr) (cdv ct : Value) (us : List Value), us.length = (["_law_parts_here", "_law_reached", "_law_rotten"] : List Str).length → bindArgs (PySem.W.fnOf "_law_worth" "_law_worth" (defArgs s__law_worth) (defBody s__law_worth) (defScope s__law_worth) .none kV doc pm an cdv ct) ⟨us, []⟩ = pure ((["_law_parts_here", "_law_reached", "_law_rotten"] : List Str).zip us) := fun _ _ _ _ _ _ us hl => match us, hl with | [_, _, _], _ => rfl
theorem bd_is_world : ∀ (kV doc pm : Value) (an : Option Addr) (cdv ct : Value) (us : List Value), us.length = (["chart", "thing"] : List Str).length → bindArgs (PySem.W.fnOf "is_world" "is_world" (defArgs s_is_world) (defBody s_is_world) (defScope s_is_world) .none kV doc pm an cdv ct) ⟨us, []⟩ = pure ((["chart", "thing"] : List Str).zip us) := fun _ _ _ _ _ _ us hl => match us, hl with | [_, _], _ => rfl
theorem bd_with_items : ∀ (kV doc pm : Value) (an : Option Addr) (cdv ct : Value) (us : List Value), us.length = (["lot", "fresh"] : List Str).length → bindArgs (PySem.W.fnOf "with_items" "with_items" (defArgs s_with_items) (defBody s_with_items) (defScope s_with_items) .none kV doc pm an cdv ct) ⟨us, []⟩ = pure ((["lot", "fresh"] : List Str).zip us) := fun _ _ _ _ _ _ us hl => match us, hl with | [_, _], _ => rfl
theorem bd_begin : ∀ (kV doc pm : Value) (an : Option Addr) (cdv ct : Value) (us : List Value), us.length = (["chart"] : List Str).length → bindArgs (PySem.W.fnOf "begin" "begin" (defArgs s_begin) (defBody s_begin) (defScope s_begin) .none kV doc pm an cdv ct) ⟨us, []⟩ = pure ((["chart"] : List Str).zip us) := fun _ _ _ _ _ _ us hl => match us, hl with | [_], _ => rfl
theorem bd_are_tries : ∀ (kV doc pm : Value) (an : Option Addr) (cdv ct : Value) (us : List Value), us.length = (["chart", "standing", "thing"] : List Str).length → bindArgs (PySem.W.fnOf "are_tries" "are_tries" (defArgs s_are_tries) (defBody s_are_tries) (defScope s_are_tries) .none kV doc pm an cdv ct) ⟨us, []⟩ = pure ((["chart", "standing", "thing"] : List Str).zip us) := fun _ _ _ _ _ _ us hl => match us, hl with | [_, _, _], _ => rfl
theorem bd_standing_behind : ∀ (kV doc pm : Value) (an : Option Addr) (cdv ct : Value) (us : List Value), us.length = (["chart", "standing", "pairs"] : List Str).length → bindArgs (PySem.W.fnOf "standing_behind" "standing_behind" (defArgs s_standing_behind) (defBody s_standing_behind) (defScope s_standing_behind) .none kV doc pm an cdv ct) ⟨us, []⟩ = pure ((["chart", "standing", "pairs"] : List Str).zip us) := fun _ _ _ _ _ _ us hl => match us, hl with | [_, _, _], _ => rfl
theorem bd_Course___init__ : ∀ (kV doc pm : Value) (an : Option Addr) (cdv ct : Value) (us : List Value), us.length = (["self", "chart"] : List Str).length → bindArgs (PySem.W.fnOf "__init__" "Course.__init__" (defArgs s_Course___init__) (defBody s_Course___init__) (defScope s_Course___init__) .none kV doc pm an cdv ct) ⟨us, []⟩ = pure ((["self", "chart"] : List Str).zip us) := fun _ _ _ _ _ _ us hl => match us, hl with | [_, _], _ => rfl
theorem bd_Course_here : ∀ (kV doc pm : Value) (an : Option Addr) (cdv ct : Value) (us : List Value), us.length = (["self"] : List Str).length → bindArgs (PySem.W.fnOf "here" "Course.here" (defArgs s_Course_here) (defBody s_Course_here) (defScope s_Course_here) .none kV doc pm an cdv ct) ⟨us, []⟩ = pure ((["self"] : List Str).zip us) := fun _ _ _ _ _ _ us hl => match us, hl with | [_], _ => rfl
theorem bd_Course_told : ∀ (kV doc pm : Value) (an : Option Addr) (cdv ct : Value) (us : List Value), us.length = (["self"] : List Str).length → bindArgs (PySem.W.fnOf "told" "Course.told" (defArgs s_Course_told) (defBody s_Course_told) (defScope s_Course_told) .none kV doc pm an cdv ct) ⟨us, []⟩ = pure ((["self"] : List Str).zip us) := fun _ _ _ _ _ _ us hl => match us, hl with | [_], _ => rfl
theorem bd_Course_check_lot : ∀ (kV doc pm : Value) (an : Option Addr) (cdv ct : Value) (us : List Value), us.length = (["self", "thing"] : List Str).length → bindArgs (PySem.W.fnOf "check_lot" "Course.check_lot" (defArgs s_Course_check_lot) (defBody s_Course_check_lot) (defScope s_Course_check_lot) .none kV doc pm an cdv ct) ⟨us, []⟩ = pure ((["self", "thing"] : List Str).zip us) := fun _ _ _ _ _ _ us hl => match us, hl with | [_, _], _ => rfl
theorem bd_Course_go_on : ∀ (kV doc pm : Value) (an : Option Addr) (cdv ct : Value) (us : List Value), us.length = (["self", "pairs"] : List Str).length → bindArgs (PySem.W.fnOf "go_on" "Course.go_on" (defArgs s_Course_go_on) (defBody s_Course_go_on) (defScope s_Course_go_on) .none kV doc pm an cdv ct) ⟨us, []⟩ = pure ((["self", "pairs"] : List Str).zip us) := fun _ _ _ _ _ _ us hl => match us, hl with | [_, _], _ => rfl
theorem bd_Course_go_back : ∀ (kV doc pm : Value) (an : Option Addr) (cdv ct : Value) (us : List Value), us.length = (["self"] : List Str).length → bindArgs (PySem.W.fnOf "go_back" "Course.go_back" (defArgs s_Course_go_back) (defBody s_Course_go_back) (defScope s_Course_go_back) .none kV doc pm an cdv ct) ⟨us, []⟩ = pure ((["self"] : List Str).zip us) := fun _ _ _ _ _ _ us hl => match us, hl with | [_], _ => rfl
theorem bd_Course__was_worth : ∀ (kV doc pm : Value) (an : Option Addr) (cdv ct : Value) (us : List Value), us.length = (["self", "k"] : List Str).length → bindArgs (PySem.W.fnOf "_was_worth" "Course._was_worth" (defArgs s_Course__was_worth) (defBody s_Course__was_worth) (defScope s_Course__was_worth) .none kV doc pm an cdv ct) ⟨us, []⟩ = pure ((["self", "k"] : List Str).zip us) := fun _ _ _ _ _ _ us hl => match us, hl with | [_, _], _ => rfl
theorem bd_Course_all_worth : ∀ (kV doc pm : Value) (an : Option Addr) (cdv ct : Value) (us : List Value), us.length = (["self"] : List Str).length → bindArgs (PySem.W.fnOf "all_worth" "Course.all_worth" (defArgs s_Course_all_worth) (defBody s_Course_all_worth) (defScope s_Course_all_worth) .none kV doc pm an cdv ct) ⟨us, []⟩ = pure ((["self"] : List Str).zip us) := fun _ _ _ _ _ _ us hl => match us, hl with | [_], _ => rfl
theorem bd_Party___init__ : ∀ (kV doc pm : Value) (an : Option Addr) (cdv ct : Value) (us : List Value), us.length = (["self", "chart", "world"] : List Str).length → bindArgs (PySem.W.fnOf "__init__" "Party.__init__" (defArgs s_Party___init__) (defBody s_Party___init__) (defScope s_Party___init__) .none kV doc pm an cdv ct) ⟨us, []⟩ = pure ((["self", "chart", "world"] : List Str).zip us) := fun _ _ _ _ _ _ us hl => match us, hl with | [_, _, _], _ => rfl
theorem bd_Party_send : ∀ (kV doc pm : Value) (an : Option Addr) (cdv ct : Value) (us : List Value), us.length = (["self", "lot"] : List Str).length → bindArgs (PySem.W.fnOf "send" "Party.send" (defArgs s_Party_send) (defBody s_Party_send) (defScope s_Party_send) .none kV doc pm an cdv ct) ⟨us, []⟩ = pure ((["self", "lot"] : List Str).zip us) := fun _ _ _ _ _ _ us hl => match us, hl with | [_, _], _ => rfl
theorem bd_Party_standing : ∀ (kV doc pm : Value) (an : Option Addr) (cdv ct : Value) (us : List Value), us.length = (["self"] : List Str).length → bindArgs (PySem.W.fnOf "standing" "Party.standing" (defArgs s_Party_standing) (defBody s_Party_standing) (defScope s_Party_standing) .none kV doc pm an cdv ct) ⟨us, []⟩ = pure ((["self"] : List Str).zip us) := fun _ _ _ _ _ _ us hl => match us, hl with | [_], _ => rfl
theorem bd_Party_sensible : ∀ (kV doc pm : Value) (an : Option Addr) (cdv ct : Value) (us : List Value), us.length = (["self"] : List Str).length → bindArgs (PySem.W.fnOf "sensible" "Party.sensible" (defArgs s_Party_sensible) (defBody s_Party_sensible) (defScope s_Party_sensible) .none kV doc pm an cdv ct) ⟨us, []⟩ = pure ((["self"] : List Str).zip us) := fun _ _ _ _ _ _ us hl => match us, hl with | [_], _ => rfl
theorem bd_Party_back : ∀ (kV doc pm : Value) (an : Option Addr) (cdv ct : Value) (us : List Value), us.length = (["self"] : List Str).length → bindArgs (PySem.W.fnOf "back" "Party.back" (defArgs s_Party_back) (defBody s_Party_back) (defScope s_Party_back) .none kV doc pm an cdv ct) ⟨us, []⟩ = pure ((["self"] : List Str).zip us) := fun _ _ _ _ _ _ us hl => match us, hl with | [_], _ => rfl
theorem bd_Course_forked : ∀ (kV doc pm : Value) (an : Option Addr) (cdv ct : Value) (us : List Value), us.length = (["self"] : List Str).length → bindArgs (PySem.W.fnOf "forked" "Course.forked" (defArgs s_Course_forked) (defBody s_Course_forked) (defScope s_Course_forked) .none kV doc pm an cdv ct) ⟨us, []⟩ = pure ((["self"] : List Str).zip us) := fun _ _ _ _ _ _ us hl => match us, hl with | [_], _ => rfl
theorem bd_Party_copy : ∀ (kV doc pm : Value) (an : Option Addr) (cdv ct : Value) (us : List Value), us.length = (["self"] : List Str).length → bindArgs (PySem.W.fnOf "copy" "Party.copy" (defArgs s_Party_copy) (defBody s_Party_copy) (defScope s_Party_copy) .none kV doc pm an cdv ct) ⟨us, []⟩ = pure ((["self"] : List Str).zip us) := fun _ _ _ _ _ _ us hl => match us, hl with | [_], _ => rfl
theorem bd_lost_in : ∀ (kV doc pm : Value) (an : Option Addr) (cdv ct : Value) (us : List Value), us.length = (["pairs"] : List Str).length → bindArgs (PySem.W.fnOf "lost_in" "lost_in" (defArgs s_lost_in) (defBody s_lost_in) (defScope s_lost_in) .none kV doc pm an cdv ct) ⟨us, []⟩ = pure ((["pairs"] : List Str).zip us) := fun _ _ _ _ _ _ us hl => match us, hl with | [_], _ => rfl
theorem bd_Course_count_lost : ∀ (kV doc pm : Value) (an : Option Addr) (cdv ct : Value) (us : List Value), us.length = (["self"] : List Str).length → bindArgs (PySem.W.fnOf "count_lost" "Course.count_lost" (defArgs s_Course_count_lost) (defBody s_Course_count_lost) (defScope s_Course_count_lost) .none kV doc pm an cdv ct) ⟨us, []⟩ = pure ((["self"] : List Str).zip us) := fun _ _ _ _ _ _ us hl => match us, hl with | [_], _ => rfl
theorem bd_Party_run : ∀ (kV doc pm : Value) (an : Option Addr) (cdv ct : Value) (us : List Value), us.length = (["self"] : List Str).length → bindArgs (PySem.W.fnOf "run" "Party.run" (defArgs s_Party_run) (defBody s_Party_run) (defScope s_Party_run) .none kV doc pm an cdv ct) ⟨us, []⟩ = pure ((["self"] : List Str).zip us) := fun _ _ _ _ _ _ us hl => match us, hl with | [_], _ => rfl
theorem bd_Party_lost : ∀ (kV doc pm : Value) (an : Option Addr) (cdv ct : Value) (us : List Value), us.length = (["self"] : List Str).length → bindArgs (PySem.W.fnOf "lost" "Party.lost" (defArgs s_Party_lost) (defBody s_Party_lost) (defScope s_Party_lost) .none kV doc pm an cdv ct) ⟨us, []⟩ = pure ((["self"] : List Str).zip us) := fun _ _ _ _ _ _ us hl => match us, hl with | [_], _ => rfl
theorem bd__law_world : ∀ (kV doc pm : Value) (an : Option Addr) (cdv ct : Value) (us : List Value), us.length = (["_law_hand_here", "_law_parts_here"] : List Str).length → bindArgs (PySem.W.fnOf "_law_world" "_law_world" (defArgs s__law_world) (defBody s__law_world) (defScope s__law_world) .none kV doc pm an cdv ct) ⟨us, []⟩ = pure ((["_law_hand_here", "_law_parts_here"] : List Str).zip us) := fun _ _ _ _ _ _ us hl => match us, hl with | [_, _], _ => rfl
theorem bd__law_behind : ∀ (kV doc pm : Value) (an : Option Addr) (cdv ct : Value) (us : List Value), us.length = (["_law_parts_here", "_law_reached", "_law_rotten", "_law_arrow", "_law_sound"] : List Str).length → bindArgs (PySem.W.fnOf "_law_behind" "_law_behind" (defArgs s__law_behind) (defBody s__law_behind) (defScope s__law_behind) .none kV doc pm an cdv ct) ⟨us, []⟩ = pure ((["_law_parts_here", "_law_reached", "_law_rotten", "_law_arrow", "_law_sound"] : List Str).zip us) := fun _ _ _ _ _ _ us hl => match us, hl with | [_, _, _, _, _], _ => rfl
theorem bd__law_here : ∀ (kV doc pm : Value) (an : Option Addr) (cdv ct : Value) (us : List Value), us.length = (["_law_parts_here", "_law_run"] : List Str).length → bindArgs (PySem.W.fnOf "_law_here" "_law_here" (defArgs s__law_here) (defBody s__law_here) (defScope s__law_here) .none kV doc pm an cdv ct) ⟨us, []⟩ = pure ((["_law_parts_here", "_law_run"] : List Str).zip us) := fun _ _ _ _ _ _ us hl => match us, hl with | [_, _], _ => rfl
theorem bd__law_is_wise : ∀ (kV doc pm : Value) (an : Option Addr) (cdv ct : Value) (us : List Value), us.length = (["_law_parts_here", "_law_run"] : List Str).length → bindArgs (PySem.W.fnOf "_law_is_wise" "_law_is_wise" (defArgs s__law_is_wise) (defBody s__law_is_wise) (defScope s__law_is_wise) .none kV doc pm an cdv ct) ⟨us, []⟩ = pure ((["_law_parts_here", "_law_run"] : List Str).zip us) := fun _ _ _ _ _ _ us hl => match us, hl with | [_, _], _ => rfl
theorem bd__law_crowd : ∀ (kV doc pm : Value) (an : Option Addr) (cdv ct : Value) (us : List Value), us.length = (["_law_hand_here", "_law_every"] : List Str).length → bindArgs (PySem.W.fnOf "_law_crowd" "_law_crowd" (defArgs s__law_crowd) (defBody s__law_crowd) (defScope s__law_crowd) .none kV doc pm an cdv ct) ⟨us, []⟩ = pure ((["_law_hand_here", "_law_every"] : List Str).zip us) := fun _ _ _ _ _ _ us hl => match us, hl with | [_, _], _ => rfl
theorem bd__law_is_back : ∀ (kV doc pm : Value) (an : Option Addr) (cdv ct : Value) (us : List Value), us.length = (["_law_party", "_law_past"] : List Str).length → bindArgs (PySem.W.fnOf "_law_is_back" "_law_is_back" (defArgs s__law_is_back) (defBody s__law_is_back) (defScope s__law_is_back) .none kV doc pm an cdv ct) ⟨us, []⟩ = pure ((["_law_party", "_law_past"] : List Str).zip us) := fun _ _ _ _ _ _ us hl => match us, hl with | [_, _], _ => rfl
theorem bd_Party_evenings : ∀ (kV doc pm : Value) (an : Option Addr) (cdv ct : Value) (us : List Value), us.length = (["self"] : List Str).length → bindArgs (PySem.W.fnOf "evenings" "Party.evenings" (defArgs s_Party_evenings) (defBody s_Party_evenings) (defScope s_Party_evenings) .none kV doc pm an cdv ct) ⟨us, []⟩ = pure ((["self"] : List Str).zip us) := fun _ _ _ _ _ _ us hl => match us, hl with | [_], _ => rfl
theorem bd__law_is_told : ∀ (kV doc pm : Value) (an : Option Addr) (cdv ct : Value) (us : List Value), us.length = (["_law_party", "_law_parts_here", "_law_run", "_law_wise"] : List Str).length → bindArgs (PySem.W.fnOf "_law_is_told" "_law_is_told" (defArgs s__law_is_told) (defBody s__law_is_told) (defScope s__law_is_told) .none kV doc pm an cdv ct) ⟨us, []⟩ = pure ((["_law_party", "_law_parts_here", "_law_run", "_law_wise"] : List Str).zip us) := fun _ _ _ _ _ _ us hl => match us, hl with | [_, _, _, _], _ => rfl
theorem bd__law_are_told : ∀ (kV doc pm : Value) (an : Option Addr) (cdv ct : Value) (us : List Value), us.length = (["_law_parties", "_law_pasts"] : List Str).length → bindArgs (PySem.W.fnOf "_law_are_told" "_law_are_told" (defArgs s__law_are_told) (defBody s__law_are_told) (defScope s__law_are_told) .none kV doc pm an cdv ct) ⟨us, []⟩ = pure ((["_law_parties", "_law_pasts"] : List Str).zip us) := fun _ _ _ _ _ _ us hl => match us, hl with | [_, _], _ => rfl
theorem bd__law_is_sent : ∀ (kV doc pm : Value) (an : Option Addr) (cdv ct : Value) (us : List Value), us.length = (["_law_hand_here", "_law_party", "_law_past"] : List Str).length → bindArgs (PySem.W.fnOf "_law_is_sent" "_law_is_sent" (defArgs s__law_is_sent) (defBody s__law_is_sent) (defScope s__law_is_sent) .none kV doc pm an cdv ct) ⟨us, []⟩ = pure ((["_law_hand_here", "_law_party", "_law_past"] : List Str).zip us) := fun _ _ _ _ _ _ us hl => match us, hl with | [_, _, _], _ => rfl
theorem bd_law : ∀ (kV doc pm : Value) (an : Option Addr) (cdv ct : Value) (us : List Value), us.length = (["_law_script"] : List Str).length → bindArgs (PySem.W.fnOf "law" "law" (defArgs s_law) (defBody s_law) (defScope s_law) .none kV doc pm an cdv ct) ⟨us, []⟩ = pure ((["_law_script"] : List Str).zip us) := fun _ _ _ _ _ _ us hl => match us, hl with | [_], _ => rfl
theorem all_mk {l : PySem.W.OpenLaw} {h : Heap} {fa : Addr} {CMap : Addr} {t_FEWEST_PLACES : Nat} {t_MOST_PLACES : Nat} {t_MOST_ARROWS : Nat} {CCourse : Addr} {CParty : Addr} {f0 : Addr} {od0 an0 : Option Addr} {sl0 : Array (Option Value)} {oc0 kV0 dc0 pm0 ct0 : Value} {cd0 : Value} {f1 : Addr} {od1 an1 : Option Addr} {sl1 : Array (Option Value)} {oc1 kV1 dc1 pm1 ct1 : Value} {cd1 : Value} {f2 : Addr} {od2 an2 : Option Addr} {sl2 : Array (Option Value)} {oc2 kV2 dc2 pm2 ct2 : Value} {cd2 : Value} {f3 : Addr} {od3 an3 : Option Addr} {sl3 : Array (Option Value)} {oc3 kV3 dc3 pm3 ct3 : Value} {cd3 : Value} {f4 : Addr} {od4 an4 : Option Addr} {sl4 : Array (Option Value)} {oc4 kV4 dc4 pm4 ct4 : Value} {cd4 : Value} {f5 : Addr} {od5 an5 : Option Addr} {sl5 : Array (Option Value)} {oc5 kV5 dc5 pm5 ct5 : Value} {cd5 : Value} {f6 : Addr} {od6 an6 : Option Addr} {sl6 : Array (Option Value)} {oc6 kV6 dc6 pm6 ct6 : Value} {cd6 : Value} {f7 : Addr} {od7 an7 : Option Addr} {sl7 : Array (Option Value)} {oc7 kV7 dc7 pm7 ct7 : Value} {cd7 : Value} {f8 : Addr} {od8 an8 : Option Addr} {sl8 : Array (Option Value)} {oc8 kV8 dc8 pm8 ct8 : Value} {cd8 : Value} {f9 : Addr} {od9 an9 : Option Addr} {sl9 : Array (Option Value)} {oc9 kV9 dc9 pm9 ct9 : Value} {cd9 : Value} {f10 : Addr} {od10 an10 : Option Addr} {sl10 : Array (Option Value)} {oc10 kV10 dc10 pm10 ct10 : Value} {cd10 : Value} {f11 : Addr} {od11 an11 : Option Addr} {sl11 : Array (Option Value)} {oc11 kV11 dc11 pm11 ct11 : Value} {cd11 : Value} {f12 : Addr} {od12 an12 : Option Addr} {sl12 : Array (Option Value)} {oc12 kV12 dc12 pm12 ct12 : Value} {cd12 : Value} {f13 : Addr} {od13 an13 : Option Addr} {sl13 : Array (Option Value)} {oc13 kV13 dc13 pm13 ct13 : Value} {cd13 : Value} {f14 : Addr} {od14 an14 : Option Addr} {sl14 : Array (Option Value)} {oc14 kV14 dc14 pm14 ct14 : Value} {cd14 : Value} {f15 : Addr} {od15 an15 : Option Addr} {sl15 : Array (Option Value)} {oc15 kV15 dc15 pm15 ct15 : Value} {cd15 : Value} {f16 : Addr} {od16 an16 : Option Addr} {sl16 : Array (Option Value)} {oc16 kV16 dc16 pm16 ct16 : Value} {cd16 : Value} {f17 : Addr} {od17 an17 : Option Addr} {sl17 : Array (Option Value)} {oc17 kV17 dc17 pm17 ct17 : Value} {cd17 : Value} {f18 : Addr} {od18 an18 : Option Addr} {sl18 : Array (Option Value)} {oc18 kV18 dc18 pm18 ct18 : Value} {cd18 : Value} {f19 : Addr} {od19 an19 : Option Addr} {sl19 : Array (Option Value)} {oc19 kV19 dc19 pm19 ct19 : Value} {cd19 : Value} {f20 : Addr} {od20 an20 : Option Addr} {sl20 : Array (Option Value)} {oc20 kV20 dc20 pm20 ct20 : Value} {cd20 : Value} {f21 : Addr} {od21 an21 : Option Addr} {sl21 : Array (Option Value)} {oc21 kV21 dc21 pm21 ct21 : Value} {cd21 : Value} {f22 : Addr} {od22 an22 : Option Addr} {sl22 : Array (Option Value)} {oc22 kV22 dc22 pm22 ct22 : Value} {cd22 : Value} {f23 : Addr} {od23 an23 : Option Addr} {sl23 : Array (Option Value)} {oc23 kV23 dc23 pm23 ct23 : Value} {cd23 : Value} {f24 : Addr} {od24 an24 : Option Addr} {sl24 : Array (Option Value)} {oc24 kV24 dc24 pm24 ct24 : Value} {cd24 : Value} {f25 : Addr} {od25 an25 : Option Addr} {sl25 : Array (Option Value)} {oc25 kV25 dc25 pm25 ct25 : Value} {cd25 : Value} {f26 : Addr} {od26 an26 : Option Addr} {sl26 : Array (Option Value)} {oc26 kV26 dc26 pm26 ct26 : Value} {cd26 : Value} {f27 : Addr} {od27 an27 : Option Addr} {sl27 : Array (Option Value)} {oc27 kV27 dc27 pm27 ct27 : Value} {cd27 : Value} {f28 : Addr} {od28 an28 : Option Addr} {sl28 : Array (Option Value)} {oc28 kV28 dc28 pm28 ct28 : Value} {cd28 : Value} {f29 : Addr} {od29 an29 : Option Addr} {sl29 : Array (Option Value)} {oc29 kV29 dc29 pm29 ct29 : Value} {cd29 : Value} {f30 : Addr} {od30 an30 : Option Addr} {sl30 : Array (Option Value)} {oc30 kV30 dc30 pm30 ct30 : Value} {cd30 : Value} {f31 : Addr} {od31 an31 : Option Addr} {sl31 : Array (Option Value)} {oc31 kV31 dc31 pm31 ct31 : Value} {cd31 : Value} {f32 : Addr} {od32 an32 : Option Addr} {sl32 : Array (Option Value)} {oc32 kV32 dc32 pm32 ct32 : Value} {cd32 : Value} {f33 : Addr} {od33 an33 : Option Addr} {sl33 : Array (Option Value)} {oc33 kV33 dc33 pm33 ct33 : Value} {cd33 : Value} {f34 : Addr} {od34 an34 : Option Addr} {sl34 : Array (Option Value)} {oc34 kV34 dc34 pm34 ct34 : Value} {cd34 : Value} {f35 : Addr} {od35 an35 : Option Addr} {sl35 : Array (Option Value)} {oc35 kV35 dc35 pm35 ct35 : Value} {cd35 : Value} {f36 : Addr} {od36 an36 : Option Addr} {sl36 : Array (Option Value)} {oc36 kV36 dc36 pm36 ct36 : Value} {cd36 : Value} {f37 : Addr} {od37 an37 : Option Addr} {sl37 : Array (Option Value)} {oc37 kV37 dc37 pm37 ct37 : Value} {cd37 : Value} {f38 : Addr} {od38 an38 : Option Addr} {sl38 : Array (Option Value)} {oc38 kV38 dc38 pm38 ct38 : Value} {cd38 : Value} {f39 : Addr} {od39 an39 : Option Addr} {sl39 : Array (Option Value)} {oc39 kV39 dc39 pm39 ct39 : Value} {cd39 : Value} {f40 : Addr} {od40 an40 : Option Addr} {sl40 : Array (Option Value)} {oc40 kV40 dc40 pm40 ct40 : Value} {cd40 : Value} {f41 : Addr} {od41 an41 : Option Addr} {sl41 : Array (Option Value)} {oc41 kV41 dc41 pm41 ct41 : Value} {cd41 : Value} {f42 : Addr} {od42 an42 : Option Addr} {sl42 : Array (Option Value)} {oc42 kV42 dc42 pm42 ct42 : Value} {cd42 : Value} {f43 : Addr} {od43 an43 : Option Addr} {sl43 : Array (Option Value)} {oc43 kV43 dc43 pm43 ct43 : Value} {cd43 : Value} {f44 : Addr} {od44 an44 : Option Addr} {sl44 : Array (Option Value)} {oc44 kV44 dc44 pm44 ct44 : Value} {cd44 : Value} {f45 : Addr} {od45 an45 : Option Addr} {sl45 : Array (Option Value)} {oc45 kV45 dc45 pm45 ct45 : Value} {cd45 : Value} {f46 : Addr} {od46 an46 : Option Addr} {sl46 : Array (Option Value)} {oc46 kV46 dc46 pm46 ct46 : Value} {cd46 : Value} {f47 : Addr} {od47 an47 : Option Addr} {sl47 : Array (Option Value)} {oc47 kV47 dc47 pm47 ct47 : Value} {cd47 : Value} {f48 : Addr} {od48 an48 : Option Addr} {sl48 : Array (Option Value)} {oc48 kV48 dc48 pm48 ct48 : Value} {cd48 : Value} {f49 : Addr} {od49 an49 : Option Addr} {sl49 : Array (Option Value)} {oc49 kV49 dc49 pm49 ct49 : Value} {cd49 : Value} {f50 : Addr} {od50 an50 : Option Addr} {sl50 : Array (Option Value)} {oc50 kV50 dc50 pm50 ct50 : Value} {cd50 : Value} {f51 : Addr} {od51 an51 : Option Addr} {sl51 : Array (Option Value)} {oc51 kV51 dc51 pm51 ct51 : Value} {cd51 : Value} {f52 : Addr} {od52 an52 : Option Addr} {sl52 : Array (Option Value)} {oc52 kV52 dc52 pm52 ct52 : Value} {cd52 : Value} {f53 : Addr} {od53 an53 : Option Addr} {sl53 : Array (Option Value)} {oc53 kV53 dc53 pm53 ct53 : Value} {cd53 : Value} {f54 : Addr} {od54 an54 : Option Addr} {sl54 : Array (Option Value)} {oc54 kV54 dc54 pm54 ct54 : Value} {cd54 : Value} {f55 : Addr} {od55 an55 : Option Addr} {sl55 : Array (Option Value)} {oc55 kV55 dc55 pm55 ct55 : Value} {cd55 : Value} {f56 : Addr} {od56 an56 : Option Addr} {sl56 : Array (Option Value)} {oc56 kV56 dc56 pm56 ct56 : Value} {cd56 : Value} {f57 : Addr} {od57 an57 : Option Addr} {sl57 : Array (Option Value)} {oc57 kV57 dc57 pm57 ct57 : Value} {cd57 : Value} {f58 : Addr} {od58 an58 : Option Addr} {sl58 : Array (Option Value)} {oc58 kV58 dc58 pm58 ct58 : Value} {cd58 : Value} {f59 : Addr} {od59 an59 : Option Addr} {sl59 : Array (Option Value)} {oc59 kV59 dc59 pm59 ct59 : Value} {cd59 : Value} {f60 : Addr} {od60 an60 : Option Addr} {sl60 : Array (Option Value)} {oc60 kV60 dc60 pm60 ct60 : Value} {cd60 : Value} {f61 : Addr} {od61 an61 : Option Addr} {sl61 : Array (Option Value)} {oc61 kV61 dc61 pm61 ct61 : Value} {cd61 : Value} {f62 : Addr} {od62 an62 : Option Addr} {sl62 : Array (Option Value)} {oc62 kV62 dc62 pm62 ct62 : Value} {cd62 : Value} {f63 : Addr} {od63 an63 : Option Addr} {sl63 : Array (Option Value)} {oc63 kV63 dc63 pm63 ct63 : Value} {cd63 : Value} {f64 : Addr} {od64 an64 : Option Addr} {sl64 : Array (Option Value)} {oc64 kV64 dc64 pm64 ct64 : Value} {cd64 : Value} {f65 : Addr} {od65 an65 : Option Addr} {sl65 : Array (Option Value)} {oc65 kV65 dc65 pm65 ct65 : Value} {cd65 : Value} {f66 : Addr} {od66 an66 : Option Addr} {sl66 : Array (Option Value)} {oc66 kV66 dc66 pm66 ct66 : Value} {cd66 : Value} {f67 : Addr} {od67 an67 : Option Addr} {sl67 : Array (Option Value)} {oc67 kV67 dc67 pm67 ct67 : Value} {cd67 : Value} (X : K.In h) (G : h.Ns mainGlobals mg) (hfa : mg "law" = some (.ref fa))
    (z_len : PySem.W.nsIn K mainGlobals "len" = some none)
    (z_all : PySem.W.nsIn K mainGlobals "all" = some none)
    (z_any : PySem.W.nsIn K mainGlobals "any" = some none)
    (z_sorted : PySem.W.nsIn K mainGlobals "sorted" = some none)
    (z_isinstance : PySem.W.nsIn K mainGlobals "isinstance" = some none)
    (z_abs : PySem.W.nsIn K mainGlobals "abs" = some none)
    (z_min : PySem.W.nsIn K mainGlobals "min" = some none)
    (z_max : PySem.W.nsIn K mainGlobals "max" = some none)
    (z_range : PySem.W.nsIn K mainGlobals "range" = some none)
    (z_enumerate : PySem.W.nsIn K mainGlobals "enumerate" = some none)
    (z_int : PySem.W.nsIn K mainGlobals "int" = some none)
    (z_list : PySem.W.nsIn K mainGlobals "list" = some none)
    (z_tuple : PySem.W.nsIn K mainGlobals "tuple" = some none)
    (z_str : PySem.W.nsIn K mainGlobals "str" = some none)
    (z_bool : PySem.W.nsIn K mainGlobals "bool" = some none)
    (z_repr : PySem.W.nsIn K mainGlobals "repr" = some none)
    (z_zip : PySem.W.nsIn K mainGlobals "zip" = some none)
    (z_set : PySem.W.nsIn K mainGlobals "set" = some none)
    (z_sum : PySem.W.nsIn K mainGlobals "sum" = some none)
    (aC : PySem.W.nsIn K mainGlobals "Map" = some (some (.ref CMap)))
    (pg : PySem.W.plainGet K CMap Str.empty = true)
    (hd : PySem.W.hasDictIn K CMap = true)
    (po : PySem.W.plainOver K CMap = true)
    (sa : PySem.W.findIn K (.ref CMap) "__setattr__" = some (some (.builtin "object.__setattr__")))
    (mk : PySem.W.makesIn K CMap = true)
    (kc : PySem.W.keepIn K (.ref CMap) = true)
    (n1 : PySem.W.findIn K (.ref CMap) "_many" = some none)
    (n2 : PySem.W.findIn K (.ref CMap) "_arrows" = some none)
    (n3 : PySem.W.findIn K (.ref CMap) "_goals" = some none)
    (c_FEWEST_PLACES : PySem.W.nsIn K mainGlobals "FEWEST_PLACES" = some (some (.int 2 t_FEWEST_PLACES)))
    (c_MOST_PLACES : PySem.W.nsIn K mainGlobals "MOST_PLACES" = some (some (.int 40 t_MOST_PLACES)))
    (c_MOST_ARROWS : PySem.W.nsIn K mainGlobals "MOST_ARROWS" = some (some (.int 60 t_MOST_ARROWS)))
    (aC_Course : PySem.W.nsIn K mainGlobals "Course" = some (some (.ref CCourse)))
    (pg_Course : PySem.W.plainGet K CCourse Str.empty = true)
    (hd_Course : PySem.W.hasDictIn K CCourse = true)
    (po_Course : PySem.W.plainOver K CCourse = true)
    (sa_Course : PySem.W.findIn K (.ref CCourse) "__setattr__" = some (some (.builtin "object.__setattr__")))
    (mk_Course : PySem.W.makesIn K CCourse = true)
    (kc_Course : PySem.W.keepIn K (.ref CCourse) = true)
    (n0_Course : PySem.W.findIn K (.ref CCourse) "_chart" = some none)
    (n1_Course : PySem.W.findIn K (.ref CCourse) "_told" = some none)
    (n2_Course : PySem.W.findIn K (.ref CCourse) "_stood" = some none)
    (aC_Party : PySem.W.nsIn K mainGlobals "Party" = some (some (.ref CParty)))
    (pg_Party : PySem.W.plainGet K CParty Str.empty = true)
    (hd_Party : PySem.W.hasDictIn K CParty = true)
    (po_Party : PySem.W.plainOver K CParty = true)
    (sa_Party : PySem.W.findIn K (.ref CParty) "__setattr__" = some (some (.builtin "object.__setattr__")))
    (mk_Party : PySem.W.makesIn K CParty = true)
    (kc_Party : PySem.W.keepIn K (.ref CParty) = true)
    (n0_Party : PySem.W.findIn K (.ref CParty) "_chart" = some none)
    (n1_Party : PySem.W.findIn K (.ref CParty) "_world" = some none)
    (n2_Party : PySem.W.findIn K (.ref CParty) "_course" = some none)
    (a0 : PySem.W.nsIn K mainGlobals "is_integer" = some (some (.ref f0)))
    (l0 : K.lookup f0 = some ⟨oc0, od0, .func (PySem.W.fnOf "is_integer" "is_integer" (defArgs s_is_integer) (defBody s_is_integer) (defScope s_is_integer) .none kV0 dc0 pm0 an0 cd0 ct0), sl0⟩)
    (c0 : PySem.W.codeIn K cd0 "is_integer" = true)
    (k0 : PySem.W.keepIn K (.ref f0) = true)
    (a1 : PySem.W.nsIn K mainGlobals "is_index" = some (some (.ref f1)))
    (l1 : K.lookup f1 = some ⟨oc1, od1, .func (PySem.W.fnOf "is_index" "is_index" (defArgs s_is_index) (defBody s_is_index) (defScope s_is_index) .none kV1 dc1 pm1 an1 cd1 ct1), sl1⟩)
    (c1 : PySem.W.codeIn K cd1 "is_index" = true)
    (k1 : PySem.W.keepIn K (.ref f1) = true)
    (a2 : PySem.W.nsIn K mainGlobals "is_any_lot" = some (some (.ref f2)))
    (l2 : K.lookup f2 = some ⟨oc2, od2, .func (PySem.W.fnOf "is_any_lot" "is_any_lot" (defArgs s_is_any_lot) (defBody s_is_any_lot) (defScope s_is_any_lot) .none kV2 dc2 pm2 an2 cd2 ct2), sl2⟩)
    (c2 : PySem.W.codeIn K cd2 "is_any_lot" = true)
    (k2 : PySem.W.keepIn K (.ref f2) = true)
    (a3 : PySem.W.nsIn K mainGlobals "is_lot" = some (some (.ref f3)))
    (l3 : K.lookup f3 = some ⟨oc3, od3, .func (PySem.W.fnOf "is_lot" "is_lot" (defArgs s_is_lot) (defBody s_is_lot) (defScope s_is_lot) .none kV3 dc3 pm3 an3 cd3 ct3), sl3⟩)
    (c3 : PySem.W.codeIn K cd3 "is_lot" = true)
    (k3 : PySem.W.keepIn K (.ref f3) = true)
    (a4 : PySem.W.nsIn K mainGlobals "marks" = some (some (.ref f4)))
    (l4 : K.lookup f4 = some ⟨oc4, od4, .func (PySem.W.fnOf "marks" "marks" (defArgs s_marks) (defBody s_marks) (defScope s_marks) .none kV4 dc4 pm4 an4 cd4 ct4), sl4⟩)
    (c4 : PySem.W.codeIn K cd4 "marks" = true)
    (k4 : PySem.W.keepIn K (.ref f4) = true)
    (a5 : PySem.W.nsIn K mainGlobals "pairs_left" = some (some (.ref f5)))
    (l5 : K.lookup f5 = some ⟨oc5, od5, .func (PySem.W.fnOf "pairs_left" "pairs_left" (defArgs s_pairs_left) (defBody s_pairs_left) (defScope s_pairs_left) .none kV5 dc5 pm5 an5 cd5 ct5), sl5⟩)
    (c5 : PySem.W.codeIn K cd5 "pairs_left" = true)
    (k5 : PySem.W.keepIn K (.ref f5) = true)
    (a6 : PySem.W.nsIn K mainGlobals "steps_from" = some (some (.ref f6)))
    (l6 : K.lookup f6 = some ⟨oc6, od6, .func (PySem.W.fnOf "steps_from" "steps_from" (defArgs s_steps_from) (defBody s_steps_from) (defScope s_steps_from) .none kV6 dc6 pm6 an6 cd6 ct6), sl6⟩)
    (c6 : PySem.W.codeIn K cd6 "steps_from" = true)
    (k6 : PySem.W.keepIn K (.ref f6) = true)
    (a7 : PySem.W.nsIn K mainGlobals "leads_to_all" = some (some (.ref f7)))
    (l7 : K.lookup f7 = some ⟨oc7, od7, .func (PySem.W.fnOf "leads_to_all" "leads_to_all" (defArgs s_leads_to_all) (defBody s_leads_to_all) (defScope s_leads_to_all) .none kV7 dc7 pm7 an7 cd7 ct7), sl7⟩)
    (c7 : PySem.W.codeIn K cd7 "leads_to_all" = true)
    (k7 : PySem.W.keepIn K (.ref f7) = true)
    (a8 : PySem.W.findIn K (.ref CMap) "many" = some (some (.ref f8)))
    (i8 : PySem.W.isFn K (.ref f8) = true)
    (l8 : K.lookup f8 = some ⟨oc8, od8, .func (PySem.W.fnOf "many" "Map.many" (defArgs s_Map_many) (defBody s_Map_many) (defScope s_Map_many) .none kV8 dc8 pm8 an8 cd8 ct8), sl8⟩)
    (c8 : PySem.W.codeIn K cd8 "Map.many" = true)
    (k8 : PySem.W.keepIn K (.ref f8) = true)
    (a9 : PySem.W.findIn K (.ref CMap) "arrows" = some (some (.ref f9)))
    (i9 : PySem.W.isFn K (.ref f9) = true)
    (l9 : K.lookup f9 = some ⟨oc9, od9, .func (PySem.W.fnOf "arrows" "Map.arrows" (defArgs s_Map_arrows) (defBody s_Map_arrows) (defScope s_Map_arrows) .none kV9 dc9 pm9 an9 cd9 ct9), sl9⟩)
    (c9 : PySem.W.codeIn K cd9 "Map.arrows" = true)
    (k9 : PySem.W.keepIn K (.ref f9) = true)
    (a10 : PySem.W.findIn K (.ref CMap) "goals" = some (some (.ref f10)))
    (i10 : PySem.W.isFn K (.ref f10) = true)
    (l10 : K.lookup f10 = some ⟨oc10, od10, .func (PySem.W.fnOf "goals" "Map.goals" (defArgs s_Map_goals) (defBody s_Map_goals) (defScope s_Map_goals) .none kV10 dc10 pm10 an10 cd10 ct10), sl10⟩)
    (c10 : PySem.W.codeIn K cd10 "Map.goals" = true)
    (k10 : PySem.W.keepIn K (.ref f10) = true)
    (a11 : PySem.W.nsIn K mainGlobals "is_pair" = some (some (.ref f11)))
    (l11 : K.lookup f11 = some ⟨oc11, od11, .func (PySem.W.fnOf "is_pair" "is_pair" (defArgs s_is_pair) (defBody s_is_pair) (defScope s_is_pair) .none kV11 dc11 pm11 an11 cd11 ct11), sl11⟩)
    (c11 : PySem.W.codeIn K cd11 "is_pair" = true)
    (k11 : PySem.W.keepIn K (.ref f11) = true)
    (a12 : PySem.W.nsIn K mainGlobals "check_pairs" = some (some (.ref f12)))
    (l12 : K.lookup f12 = some ⟨oc12, od12, .func (PySem.W.fnOf "check_pairs" "check_pairs" (defArgs s_check_pairs) (defBody s_check_pairs) (defScope s_check_pairs) .none kV12 dc12 pm12 an12 cd12 ct12), sl12⟩)
    (c12 : PySem.W.codeIn K cd12 "check_pairs" = true)
    (k12 : PySem.W.keepIn K (.ref f12) = true)
    (a13 : PySem.W.nsIn K mainGlobals "are_goals" = some (some (.ref f13)))
    (l13 : K.lookup f13 = some ⟨oc13, od13, .func (PySem.W.fnOf "are_goals" "are_goals" (defArgs s_are_goals) (defBody s_are_goals) (defScope s_are_goals) .none kV13 dc13 pm13 an13 cd13 ct13), sl13⟩)
    (c13 : PySem.W.codeIn K cd13 "are_goals" = true)
    (k13 : PySem.W.keepIn K (.ref f13) = true)
    (a14 : PySem.W.findIn K (.ref CMap) "__init__" = some (some (.ref f14)))
    (i14 : PySem.W.isFn K (.ref f14) = true)
    (l14 : K.lookup f14 = some ⟨oc14, od14, .func (PySem.W.fnOf "__init__" "Map.__init__" (defArgs s_Map___init__) (defBody s_Map___init__) (defScope s_Map___init__) .none kV14 dc14 pm14 an14 cd14 ct14), sl14⟩)
    (c14 : PySem.W.codeIn K cd14 "Map.__init__" = true)
    (k14 : PySem.W.keepIn K (.ref f14) = true)
    (a15 : PySem.W.nsIn K mainGlobals "goals_are_open" = some (some (.ref f15)))
    (l15 : K.lookup f15 = some ⟨oc15, od15, .func (PySem.W.fnOf "goals_are_open" "goals_are_open" (defArgs s_goals_are_open) (defBody s_goals_are_open) (defScope s_goals_are_open) .none kV15 dc15 pm15 an15 cd15 ct15), sl15⟩)
    (c15 : PySem.W.codeIn K cd15 "goals_are_open" = true)
    (k15 : PySem.W.keepIn K (.ref f15) = true)
    (a16 : PySem.W.nsIn K mainGlobals "_unreached_pairs" = some (some (.ref f16)))
    (l16 : K.lookup f16 = some ⟨oc16, od16, .func (PySem.W.fnOf "_unreached_pairs" "_unreached_pairs" (defArgs s__unreached_pairs) (defBody s__unreached_pairs) (defScope s__unreached_pairs) .none kV16 dc16 pm16 an16 cd16 ct16), sl16⟩)
    (c16 : PySem.W.codeIn K cd16 "_unreached_pairs" = true)
    (k16 : PySem.W.keepIn K (.ref f16) = true)
    (a17 : PySem.W.nsIn K mainGlobals "done_at" = some (some (.ref f17)))
    (l17 : K.lookup f17 = some ⟨oc17, od17, .func (PySem.W.fnOf "done_at" "done_at" (defArgs s_done_at) (defBody s_done_at) (defScope s_done_at) .none kV17 dc17 pm17 an17 cd17 ct17), sl17⟩)
    (c17 : PySem.W.codeIn K cd17 "done_at" = true)
    (k17 : PySem.W.keepIn K (.ref f17) = true)
    (a18 : PySem.W.nsIn K mainGlobals "steps_to_go" = some (some (.ref f18)))
    (l18 : K.lookup f18 = some ⟨oc18, od18, .func (PySem.W.fnOf "steps_to_go" "steps_to_go" (defArgs s_steps_to_go) (defBody s_steps_to_go) (defScope s_steps_to_go) .none kV18 dc18 pm18 an18 cd18 ct18), sl18⟩)
    (c18 : PySem.W.codeIn K cd18 "steps_to_go" = true)
    (k18 : PySem.W.keepIn K (.ref f18) = true)
    (a19 : PySem.W.nsIn K mainGlobals "tries_at" = some (some (.ref f19)))
    (l19 : K.lookup f19 = some ⟨oc19, od19, .func (PySem.W.fnOf "tries_at" "tries_at" (defArgs s_tries_at) (defBody s_tries_at) (defScope s_tries_at) .none kV19 dc19 pm19 an19 cd19 ct19), sl19⟩)
    (c19 : PySem.W.codeIn K cd19 "tries_at" = true)
    (k19 : PySem.W.keepIn K (.ref f19) = true)
    (a20 : PySem.W.nsIn K mainGlobals "worth_at" = some (some (.ref f20)))
    (l20 : K.lookup f20 = some ⟨oc20, od20, .func (PySem.W.fnOf "worth_at" "worth_at" (defArgs s_worth_at) (defBody s_worth_at) (defScope s_worth_at) .none kV20 dc20 pm20 an20 cd20 ct20), sl20⟩)
    (c20 : PySem.W.codeIn K cd20 "worth_at" = true)
    (k20 : PySem.W.keepIn K (.ref f20) = true)
    (a21 : PySem.W.nsIn K mainGlobals "_law_led" = some (some (.ref f21)))
    (l21 : K.lookup f21 = some ⟨oc21, od21, .func (PySem.W.fnOf "_law_led" "_law_led" (defArgs s__law_led) (defBody s__law_led) (defScope s__law_led) .none kV21 dc21 pm21 an21 cd21 ct21), sl21⟩)
    (c21 : PySem.W.codeIn K cd21 "_law_led" = true)
    (k21 : PySem.W.keepIn K (.ref f21) = true)
    (a22 : PySem.W.nsIn K mainGlobals "_law_is_world" = some (some (.ref f22)))
    (l22 : K.lookup f22 = some ⟨oc22, od22, .func (PySem.W.fnOf "_law_is_world" "_law_is_world" (defArgs s__law_is_world) (defBody s__law_is_world) (defScope s__law_is_world) .none kV22 dc22 pm22 an22 cd22 ct22), sl22⟩)
    (c22 : PySem.W.codeIn K cd22 "_law_is_world" = true)
    (k22 : PySem.W.keepIn K (.ref f22) = true)
    (a23 : PySem.W.nsIn K mainGlobals "_law_hand" = some (some (.ref f23)))
    (l23 : K.lookup f23 = some ⟨oc23, od23, .func (PySem.W.fnOf "_law_hand" "_law_hand" (defArgs s__law_hand) (defBody s__law_hand) (defScope s__law_hand) .none kV23 dc23 pm23 an23 cd23 ct23), sl23⟩)
    (c23 : PySem.W.codeIn K cd23 "_law_hand" = true)
    (k23 : PySem.W.keepIn K (.ref f23) = true)
    (a24 : PySem.W.nsIn K mainGlobals "_law_draw" = some (some (.ref f24)))
    (l24 : K.lookup f24 = some ⟨oc24, od24, .func (PySem.W.fnOf "_law_draw" "_law_draw" (defArgs s__law_draw) (defBody s__law_draw) (defScope s__law_draw) .none kV24 dc24 pm24 an24 cd24 ct24), sl24⟩)
    (c24 : PySem.W.codeIn K cd24 "_law_draw" = true)
    (k24 : PySem.W.keepIn K (.ref f24) = true)
    (a25 : PySem.W.nsIn K mainGlobals "_law_shuffled" = some (some (.ref f25)))
    (l25 : K.lookup f25 = some ⟨oc25, od25, .func (PySem.W.fnOf "_law_shuffled" "_law_shuffled" (defArgs s__law_shuffled) (defBody s__law_shuffled) (defScope s__law_shuffled) .none kV25 dc25 pm25 an25 cd25 ct25), sl25⟩)
    (c25 : PySem.W.codeIn K cd25 "_law_shuffled" = true)
    (k25 : PySem.W.keepIn K (.ref f25) = true)
    (a26 : PySem.W.nsIn K mainGlobals "_law_tail" = some (some (.ref f26)))
    (l26 : K.lookup f26 = some ⟨oc26, od26, .func (PySem.W.fnOf "_law_tail" "_law_tail" (defArgs s__law_tail) (defBody s__law_tail) (defScope s__law_tail) .none kV26 dc26 pm26 an26 cd26 ct26), sl26⟩)
    (c26 : PySem.W.codeIn K cd26 "_law_tail" = true)
    (k26 : PySem.W.keepIn K (.ref f26) = true)
    (a27 : PySem.W.nsIn K mainGlobals "_law_renamed" = some (some (.ref f27)))
    (l27 : K.lookup f27 = some ⟨oc27, od27, .func (PySem.W.fnOf "_law_renamed" "_law_renamed" (defArgs s__law_renamed) (defBody s__law_renamed) (defScope s__law_renamed) .none kV27 dc27 pm27 an27 cd27 ct27), sl27⟩)
    (c27 : PySem.W.codeIn K cd27 "_law_renamed" = true)
    (k27 : PySem.W.keepIn K (.ref f27) = true)
    (a28 : PySem.W.nsIn K mainGlobals "_law_parts" = some (some (.ref f28)))
    (l28 : K.lookup f28 = some ⟨oc28, od28, .func (PySem.W.fnOf "_law_parts" "_law_parts" (defArgs s__law_parts) (defBody s__law_parts) (defScope s__law_parts) .none kV28 dc28 pm28 an28 cd28 ct28), sl28⟩)
    (c28 : PySem.W.codeIn K cd28 "_law_parts" = true)
    (k28 : PySem.W.keepIn K (.ref f28) = true)
    (a29 : PySem.W.nsIn K mainGlobals "_law_tries" = some (some (.ref f29)))
    (l29 : K.lookup f29 = some ⟨oc29, od29, .func (PySem.W.fnOf "_law_tries" "_law_tries" (defArgs s__law_tries) (defBody s__law_tries) (defScope s__law_tries) .none kV29 dc29 pm29 an29 cd29 ct29), sl29⟩)
    (c29 : PySem.W.codeIn K cd29 "_law_tries" = true)
    (k29 : PySem.W.keepIn K (.ref f29) = true)
    (a30 : PySem.W.nsIn K mainGlobals "_law_is_done" = some (some (.ref f30)))
    (l30 : K.lookup f30 = some ⟨oc30, od30, .func (PySem.W.fnOf "_law_is_done" "_law_is_done" (defArgs s__law_is_done) (defBody s__law_is_done) (defScope s__law_is_done) .none kV30 dc30 pm30 an30 cd30 ct30), sl30⟩)
    (c30 : PySem.W.codeIn K cd30 "_law_is_done" = true)
    (k30 : PySem.W.keepIn K (.ref f30) = true)
    (a31 : PySem.W.nsIn K mainGlobals "_law_alive" = some (some (.ref f31)))
    (l31 : K.lookup f31 = some ⟨oc31, od31, .func (PySem.W.fnOf "_law_alive" "_law_alive" (defArgs s__law_alive) (defBody s__law_alive) (defScope s__law_alive) .none kV31 dc31 pm31 an31 cd31 ct31), sl31⟩)
    (c31 : PySem.W.codeIn K cd31 "_law_alive" = true)
    (k31 : PySem.W.keepIn K (.ref f31) = true)
    (a32 : PySem.W.nsIn K mainGlobals "_law_worth" = some (some (.ref f32)))
    (l32 : K.lookup f32 = some ⟨oc32, od32, .func (PySem.W.fnOf "_law_worth" "_law_worth" (defArgs s__law_worth) (defBody s__law_worth) (defScope s__law_worth) .none kV32 dc32 pm32 an32 cd32 ct32), sl32⟩)
    (c32 : PySem.W.codeIn K cd32 "_law_worth" = true)
    (k32 : PySem.W.keepIn K (.ref f32) = true)
    (a33 : PySem.W.nsIn K mainGlobals "is_world" = some (some (.ref f33)))
    (l33 : K.lookup f33 = some ⟨oc33, od33, .func (PySem.W.fnOf "is_world" "is_world" (defArgs s_is_world) (defBody s_is_world) (defScope s_is_world) .none kV33 dc33 pm33 an33 cd33 ct33), sl33⟩)
    (c33 : PySem.W.codeIn K cd33 "is_world" = true)
    (k33 : PySem.W.keepIn K (.ref f33) = true)
    (a34 : PySem.W.nsIn K mainGlobals "with_items" = some (some (.ref f34)))
    (l34 : K.lookup f34 = some ⟨oc34, od34, .func (PySem.W.fnOf "with_items" "with_items" (defArgs s_with_items) (defBody s_with_items) (defScope s_with_items) .none kV34 dc34 pm34 an34 cd34 ct34), sl34⟩)
    (c34 : PySem.W.codeIn K cd34 "with_items" = true)
    (k34 : PySem.W.keepIn K (.ref f34) = true)
    (a35 : PySem.W.nsIn K mainGlobals "begin" = some (some (.ref f35)))
    (l35 : K.lookup f35 = some ⟨oc35, od35, .func (PySem.W.fnOf "begin" "begin" (defArgs s_begin) (defBody s_begin) (defScope s_begin) .none kV35 dc35 pm35 an35 cd35 ct35), sl35⟩)
    (c35 : PySem.W.codeIn K cd35 "begin" = true)
    (k35 : PySem.W.keepIn K (.ref f35) = true)
    (a36 : PySem.W.nsIn K mainGlobals "are_tries" = some (some (.ref f36)))
    (l36 : K.lookup f36 = some ⟨oc36, od36, .func (PySem.W.fnOf "are_tries" "are_tries" (defArgs s_are_tries) (defBody s_are_tries) (defScope s_are_tries) .none kV36 dc36 pm36 an36 cd36 ct36), sl36⟩)
    (c36 : PySem.W.codeIn K cd36 "are_tries" = true)
    (k36 : PySem.W.keepIn K (.ref f36) = true)
    (a37 : PySem.W.nsIn K mainGlobals "standing_behind" = some (some (.ref f37)))
    (l37 : K.lookup f37 = some ⟨oc37, od37, .func (PySem.W.fnOf "standing_behind" "standing_behind" (defArgs s_standing_behind) (defBody s_standing_behind) (defScope s_standing_behind) .none kV37 dc37 pm37 an37 cd37 ct37), sl37⟩)
    (c37 : PySem.W.codeIn K cd37 "standing_behind" = true)
    (k37 : PySem.W.keepIn K (.ref f37) = true)
    (a38 : PySem.W.findIn K (.ref CCourse) "__init__" = some (some (.ref f38)))
    (i38 : PySem.W.isFn K (.ref f38) = true)
    (l38 : K.lookup f38 = some ⟨oc38, od38, .func (PySem.W.fnOf "__init__" "Course.__init__" (defArgs s_Course___init__) (defBody s_Course___init__) (defScope s_Course___init__) .none kV38 dc38 pm38 an38 cd38 ct38), sl38⟩)
    (c38 : PySem.W.codeIn K cd38 "Course.__init__" = true)
    (k38 : PySem.W.keepIn K (.ref f38) = true)
    (a39 : PySem.W.findIn K (.ref CCourse) "here" = some (some (.ref f39)))
    (i39 : PySem.W.isFn K (.ref f39) = true)
    (l39 : K.lookup f39 = some ⟨oc39, od39, .func (PySem.W.fnOf "here" "Course.here" (defArgs s_Course_here) (defBody s_Course_here) (defScope s_Course_here) .none kV39 dc39 pm39 an39 cd39 ct39), sl39⟩)
    (c39 : PySem.W.codeIn K cd39 "Course.here" = true)
    (k39 : PySem.W.keepIn K (.ref f39) = true)
    (a40 : PySem.W.findIn K (.ref CCourse) "told" = some (some (.ref f40)))
    (i40 : PySem.W.isFn K (.ref f40) = true)
    (l40 : K.lookup f40 = some ⟨oc40, od40, .func (PySem.W.fnOf "told" "Course.told" (defArgs s_Course_told) (defBody s_Course_told) (defScope s_Course_told) .none kV40 dc40 pm40 an40 cd40 ct40), sl40⟩)
    (c40 : PySem.W.codeIn K cd40 "Course.told" = true)
    (k40 : PySem.W.keepIn K (.ref f40) = true)
    (a41 : PySem.W.findIn K (.ref CCourse) "check_lot" = some (some (.ref f41)))
    (i41 : PySem.W.isFn K (.ref f41) = true)
    (l41 : K.lookup f41 = some ⟨oc41, od41, .func (PySem.W.fnOf "check_lot" "Course.check_lot" (defArgs s_Course_check_lot) (defBody s_Course_check_lot) (defScope s_Course_check_lot) .none kV41 dc41 pm41 an41 cd41 ct41), sl41⟩)
    (c41 : PySem.W.codeIn K cd41 "Course.check_lot" = true)
    (k41 : PySem.W.keepIn K (.ref f41) = true)
    (a42 : PySem.W.findIn K (.ref CCourse) "go_on" = some (some (.ref f42)))
    (i42 : PySem.W.isFn K (.ref f42) = true)
    (l42 : K.lookup f42 = some ⟨oc42, od42, .func (PySem.W.fnOf "go_on" "Course.go_on" (defArgs s_Course_go_on) (defBody s_Course_go_on) (defScope s_Course_go_on) .none kV42 dc42 pm42 an42 cd42 ct42), sl42⟩)
    (c42 : PySem.W.codeIn K cd42 "Course.go_on" = true)
    (k42 : PySem.W.keepIn K (.ref f42) = true)
    (a43 : PySem.W.findIn K (.ref CCourse) "go_back" = some (some (.ref f43)))
    (i43 : PySem.W.isFn K (.ref f43) = true)
    (l43 : K.lookup f43 = some ⟨oc43, od43, .func (PySem.W.fnOf "go_back" "Course.go_back" (defArgs s_Course_go_back) (defBody s_Course_go_back) (defScope s_Course_go_back) .none kV43 dc43 pm43 an43 cd43 ct43), sl43⟩)
    (c43 : PySem.W.codeIn K cd43 "Course.go_back" = true)
    (k43 : PySem.W.keepIn K (.ref f43) = true)
    (a44 : PySem.W.findIn K (.ref CCourse) "_was_worth" = some (some (.ref f44)))
    (i44 : PySem.W.isFn K (.ref f44) = true)
    (l44 : K.lookup f44 = some ⟨oc44, od44, .func (PySem.W.fnOf "_was_worth" "Course._was_worth" (defArgs s_Course__was_worth) (defBody s_Course__was_worth) (defScope s_Course__was_worth) .none kV44 dc44 pm44 an44 cd44 ct44), sl44⟩)
    (c44 : PySem.W.codeIn K cd44 "Course._was_worth" = true)
    (k44 : PySem.W.keepIn K (.ref f44) = true)
    (a45 : PySem.W.findIn K (.ref CCourse) "all_worth" = some (some (.ref f45)))
    (i45 : PySem.W.isFn K (.ref f45) = true)
    (l45 : K.lookup f45 = some ⟨oc45, od45, .func (PySem.W.fnOf "all_worth" "Course.all_worth" (defArgs s_Course_all_worth) (defBody s_Course_all_worth) (defScope s_Course_all_worth) .none kV45 dc45 pm45 an45 cd45 ct45), sl45⟩)
    (c45 : PySem.W.codeIn K cd45 "Course.all_worth" = true)
    (k45 : PySem.W.keepIn K (.ref f45) = true)
    (a46 : PySem.W.findIn K (.ref CParty) "__init__" = some (some (.ref f46)))
    (i46 : PySem.W.isFn K (.ref f46) = true)
    (l46 : K.lookup f46 = some ⟨oc46, od46, .func (PySem.W.fnOf "__init__" "Party.__init__" (defArgs s_Party___init__) (defBody s_Party___init__) (defScope s_Party___init__) .none kV46 dc46 pm46 an46 cd46 ct46), sl46⟩)
    (c46 : PySem.W.codeIn K cd46 "Party.__init__" = true)
    (k46 : PySem.W.keepIn K (.ref f46) = true)
    (a47 : PySem.W.findIn K (.ref CParty) "send" = some (some (.ref f47)))
    (i47 : PySem.W.isFn K (.ref f47) = true)
    (l47 : K.lookup f47 = some ⟨oc47, od47, .func (PySem.W.fnOf "send" "Party.send" (defArgs s_Party_send) (defBody s_Party_send) (defScope s_Party_send) .none kV47 dc47 pm47 an47 cd47 ct47), sl47⟩)
    (c47 : PySem.W.codeIn K cd47 "Party.send" = true)
    (k47 : PySem.W.keepIn K (.ref f47) = true)
    (a48 : PySem.W.findIn K (.ref CParty) "standing" = some (some (.ref f48)))
    (i48 : PySem.W.isFn K (.ref f48) = true)
    (l48 : K.lookup f48 = some ⟨oc48, od48, .func (PySem.W.fnOf "standing" "Party.standing" (defArgs s_Party_standing) (defBody s_Party_standing) (defScope s_Party_standing) .none kV48 dc48 pm48 an48 cd48 ct48), sl48⟩)
    (c48 : PySem.W.codeIn K cd48 "Party.standing" = true)
    (k48 : PySem.W.keepIn K (.ref f48) = true)
    (a49 : PySem.W.findIn K (.ref CParty) "sensible" = some (some (.ref f49)))
    (i49 : PySem.W.isFn K (.ref f49) = true)
    (l49 : K.lookup f49 = some ⟨oc49, od49, .func (PySem.W.fnOf "sensible" "Party.sensible" (defArgs s_Party_sensible) (defBody s_Party_sensible) (defScope s_Party_sensible) .none kV49 dc49 pm49 an49 cd49 ct49), sl49⟩)
    (c49 : PySem.W.codeIn K cd49 "Party.sensible" = true)
    (k49 : PySem.W.keepIn K (.ref f49) = true)
    (a50 : PySem.W.findIn K (.ref CParty) "back" = some (some (.ref f50)))
    (i50 : PySem.W.isFn K (.ref f50) = true)
    (l50 : K.lookup f50 = some ⟨oc50, od50, .func (PySem.W.fnOf "back" "Party.back" (defArgs s_Party_back) (defBody s_Party_back) (defScope s_Party_back) .none kV50 dc50 pm50 an50 cd50 ct50), sl50⟩)
    (c50 : PySem.W.codeIn K cd50 "Party.back" = true)
    (k50 : PySem.W.keepIn K (.ref f50) = true)
    (a51 : PySem.W.findIn K (.ref CCourse) "forked" = some (some (.ref f51)))
    (i51 : PySem.W.isFn K (.ref f51) = true)
    (l51 : K.lookup f51 = some ⟨oc51, od51, .func (PySem.W.fnOf "forked" "Course.forked" (defArgs s_Course_forked) (defBody s_Course_forked) (defScope s_Course_forked) .none kV51 dc51 pm51 an51 cd51 ct51), sl51⟩)
    (c51 : PySem.W.codeIn K cd51 "Course.forked" = true)
    (k51 : PySem.W.keepIn K (.ref f51) = true)
    (a52 : PySem.W.findIn K (.ref CParty) "copy" = some (some (.ref f52)))
    (i52 : PySem.W.isFn K (.ref f52) = true)
    (l52 : K.lookup f52 = some ⟨oc52, od52, .func (PySem.W.fnOf "copy" "Party.copy" (defArgs s_Party_copy) (defBody s_Party_copy) (defScope s_Party_copy) .none kV52 dc52 pm52 an52 cd52 ct52), sl52⟩)
    (c52 : PySem.W.codeIn K cd52 "Party.copy" = true)
    (k52 : PySem.W.keepIn K (.ref f52) = true)
    (a53 : PySem.W.nsIn K mainGlobals "lost_in" = some (some (.ref f53)))
    (l53 : K.lookup f53 = some ⟨oc53, od53, .func (PySem.W.fnOf "lost_in" "lost_in" (defArgs s_lost_in) (defBody s_lost_in) (defScope s_lost_in) .none kV53 dc53 pm53 an53 cd53 ct53), sl53⟩)
    (c53 : PySem.W.codeIn K cd53 "lost_in" = true)
    (k53 : PySem.W.keepIn K (.ref f53) = true)
    (a54 : PySem.W.findIn K (.ref CCourse) "count_lost" = some (some (.ref f54)))
    (i54 : PySem.W.isFn K (.ref f54) = true)
    (l54 : K.lookup f54 = some ⟨oc54, od54, .func (PySem.W.fnOf "count_lost" "Course.count_lost" (defArgs s_Course_count_lost) (defBody s_Course_count_lost) (defScope s_Course_count_lost) .none kV54 dc54 pm54 an54 cd54 ct54), sl54⟩)
    (c54 : PySem.W.codeIn K cd54 "Course.count_lost" = true)
    (k54 : PySem.W.keepIn K (.ref f54) = true)
    (a55 : PySem.W.findIn K (.ref CParty) "run" = some (some (.ref f55)))
    (i55 : PySem.W.isFn K (.ref f55) = true)
    (l55 : K.lookup f55 = some ⟨oc55, od55, .func (PySem.W.fnOf "run" "Party.run" (defArgs s_Party_run) (defBody s_Party_run) (defScope s_Party_run) .none kV55 dc55 pm55 an55 cd55 ct55), sl55⟩)
    (c55 : PySem.W.codeIn K cd55 "Party.run" = true)
    (k55 : PySem.W.keepIn K (.ref f55) = true)
    (a56 : PySem.W.findIn K (.ref CParty) "lost" = some (some (.ref f56)))
    (i56 : PySem.W.isFn K (.ref f56) = true)
    (l56 : K.lookup f56 = some ⟨oc56, od56, .func (PySem.W.fnOf "lost" "Party.lost" (defArgs s_Party_lost) (defBody s_Party_lost) (defScope s_Party_lost) .none kV56 dc56 pm56 an56 cd56 ct56), sl56⟩)
    (c56 : PySem.W.codeIn K cd56 "Party.lost" = true)
    (k56 : PySem.W.keepIn K (.ref f56) = true)
    (a57 : PySem.W.nsIn K mainGlobals "_law_world" = some (some (.ref f57)))
    (l57 : K.lookup f57 = some ⟨oc57, od57, .func (PySem.W.fnOf "_law_world" "_law_world" (defArgs s__law_world) (defBody s__law_world) (defScope s__law_world) .none kV57 dc57 pm57 an57 cd57 ct57), sl57⟩)
    (c57 : PySem.W.codeIn K cd57 "_law_world" = true)
    (k57 : PySem.W.keepIn K (.ref f57) = true)
    (a58 : PySem.W.nsIn K mainGlobals "_law_behind" = some (some (.ref f58)))
    (l58 : K.lookup f58 = some ⟨oc58, od58, .func (PySem.W.fnOf "_law_behind" "_law_behind" (defArgs s__law_behind) (defBody s__law_behind) (defScope s__law_behind) .none kV58 dc58 pm58 an58 cd58 ct58), sl58⟩)
    (c58 : PySem.W.codeIn K cd58 "_law_behind" = true)
    (k58 : PySem.W.keepIn K (.ref f58) = true)
    (a59 : PySem.W.nsIn K mainGlobals "_law_here" = some (some (.ref f59)))
    (l59 : K.lookup f59 = some ⟨oc59, od59, .func (PySem.W.fnOf "_law_here" "_law_here" (defArgs s__law_here) (defBody s__law_here) (defScope s__law_here) .none kV59 dc59 pm59 an59 cd59 ct59), sl59⟩)
    (c59 : PySem.W.codeIn K cd59 "_law_here" = true)
    (k59 : PySem.W.keepIn K (.ref f59) = true)
    (a60 : PySem.W.nsIn K mainGlobals "_law_is_wise" = some (some (.ref f60)))
    (l60 : K.lookup f60 = some ⟨oc60, od60, .func (PySem.W.fnOf "_law_is_wise" "_law_is_wise" (defArgs s__law_is_wise) (defBody s__law_is_wise) (defScope s__law_is_wise) .none kV60 dc60 pm60 an60 cd60 ct60), sl60⟩)
    (c60 : PySem.W.codeIn K cd60 "_law_is_wise" = true)
    (k60 : PySem.W.keepIn K (.ref f60) = true)
    (a61 : PySem.W.nsIn K mainGlobals "_law_crowd" = some (some (.ref f61)))
    (l61 : K.lookup f61 = some ⟨oc61, od61, .func (PySem.W.fnOf "_law_crowd" "_law_crowd" (defArgs s__law_crowd) (defBody s__law_crowd) (defScope s__law_crowd) .none kV61 dc61 pm61 an61 cd61 ct61), sl61⟩)
    (c61 : PySem.W.codeIn K cd61 "_law_crowd" = true)
    (k61 : PySem.W.keepIn K (.ref f61) = true)
    (a62 : PySem.W.nsIn K mainGlobals "_law_is_back" = some (some (.ref f62)))
    (l62 : K.lookup f62 = some ⟨oc62, od62, .func (PySem.W.fnOf "_law_is_back" "_law_is_back" (defArgs s__law_is_back) (defBody s__law_is_back) (defScope s__law_is_back) .none kV62 dc62 pm62 an62 cd62 ct62), sl62⟩)
    (c62 : PySem.W.codeIn K cd62 "_law_is_back" = true)
    (k62 : PySem.W.keepIn K (.ref f62) = true)
    (a63 : PySem.W.findIn K (.ref CParty) "evenings" = some (some (.ref f63)))
    (i63 : PySem.W.isFn K (.ref f63) = true)
    (l63 : K.lookup f63 = some ⟨oc63, od63, .func (PySem.W.fnOf "evenings" "Party.evenings" (defArgs s_Party_evenings) (defBody s_Party_evenings) (defScope s_Party_evenings) .none kV63 dc63 pm63 an63 cd63 ct63), sl63⟩)
    (c63 : PySem.W.codeIn K cd63 "Party.evenings" = true)
    (k63 : PySem.W.keepIn K (.ref f63) = true)
    (a64 : PySem.W.nsIn K mainGlobals "_law_is_told" = some (some (.ref f64)))
    (l64 : K.lookup f64 = some ⟨oc64, od64, .func (PySem.W.fnOf "_law_is_told" "_law_is_told" (defArgs s__law_is_told) (defBody s__law_is_told) (defScope s__law_is_told) .none kV64 dc64 pm64 an64 cd64 ct64), sl64⟩)
    (c64 : PySem.W.codeIn K cd64 "_law_is_told" = true)
    (k64 : PySem.W.keepIn K (.ref f64) = true)
    (a65 : PySem.W.nsIn K mainGlobals "_law_are_told" = some (some (.ref f65)))
    (l65 : K.lookup f65 = some ⟨oc65, od65, .func (PySem.W.fnOf "_law_are_told" "_law_are_told" (defArgs s__law_are_told) (defBody s__law_are_told) (defScope s__law_are_told) .none kV65 dc65 pm65 an65 cd65 ct65), sl65⟩)
    (c65 : PySem.W.codeIn K cd65 "_law_are_told" = true)
    (k65 : PySem.W.keepIn K (.ref f65) = true)
    (a66 : PySem.W.nsIn K mainGlobals "_law_is_sent" = some (some (.ref f66)))
    (l66 : K.lookup f66 = some ⟨oc66, od66, .func (PySem.W.fnOf "_law_is_sent" "_law_is_sent" (defArgs s__law_is_sent) (defBody s__law_is_sent) (defScope s__law_is_sent) .none kV66 dc66 pm66 an66 cd66 ct66), sl66⟩)
    (c66 : PySem.W.codeIn K cd66 "_law_is_sent" = true)
    (k66 : PySem.W.keepIn K (.ref f66) = true)
    (a67 : PySem.W.nsIn K mainGlobals "law" = some (some (.ref f67)))
    (l67 : K.lookup f67 = some ⟨oc67, od67, .func (PySem.W.fnOf "law" "law" (defArgs s_law) (defBody s_law) (defScope s_law) .none kV67 dc67 pm67 an67 cd67 ct67), sl67⟩)
    (c67 : PySem.W.codeIn K cd67 "law" = true)
    (k67 : PySem.W.keepIn K (.ref f67) = true) :
    ∃ fd : FuncData, (∀ (s : Shared) (v : Value), BindsTo s fd ⟨[v], []⟩ [("_law_script", v)]) ∧ ∀ base : Heap, K.In base → base.Ns mainGlobals mg → FnG l.prog w K mg base 11 fa fd ["_law_script"] (spLaw K) := by
  have e := hfa.symm.trans (PySem.W.mg_of X G a67)
  cases e
  have B : Bt mg := ⟨PySem.W.mg_none_of X G z_len, PySem.W.mg_none_of X G z_all, PySem.W.mg_none_of X G z_any, PySem.W.mg_none_of X G z_sorted, PySem.W.mg_none_of X G z_isinstance, PySem.W.mg_none_of X G z_abs, PySem.W.mg_none_of X G z_min, PySem.W.mg_none_of X G z_max, PySem.W.mg_none_of X G z_range, PySem.W.mg_none_of X G z_enumerate, PySem.W.mg_none_of X G z_int, PySem.W.mg_none_of X G z_list, PySem.W.mg_none_of X G z_tuple, PySem.W.mg_none_of X G z_str, PySem.W.mg_none_of X G z_bool, PySem.W.mg_none_of X G z_repr, PySem.W.mg_none_of X G z_zip, PySem.W.mg_none_of X G z_set, PySem.W.mg_none_of X G z_sum⟩
  have C : MapC K mg CMap := ⟨⟨pg, hd, po, sa⟩, n1, n2, n3, PySem.W.mg_of X G aC, ⟨_, PySem.W.mg_of X G c_FEWEST_PLACES⟩, ⟨_, PySem.W.mg_of X G c_MOST_PLACES⟩, ⟨_, PySem.W.mg_of X G c_MOST_ARROWS⟩⟩
  have C_Course : ClsC K mg "Course" CCourse ["_chart", "_told", "_stood"] := ⟨⟨pg_Course, hd_Course, po_Course, sa_Course⟩, List.forall_mem_cons.mpr ⟨n0_Course, List.forall_mem_cons.mpr ⟨n1_Course, List.forall_mem_cons.mpr ⟨n2_Course, fun _ h => (List.not_mem_nil h).elim⟩⟩⟩, PySem.W.mg_of X G aC_Course⟩
  have C_Party : ClsC K mg "Party" CParty ["_chart", "_world", "_course"] := ⟨⟨pg_Party, hd_Party, po_Party, sa_Party⟩, List.forall_mem_cons.mpr ⟨n0_Party, List.forall_mem_cons.mpr ⟨n1_Party, List.forall_mem_cons.mpr ⟨n2_Party, fun _ h => (List.not_mem_nil h).elim⟩⟩⟩, PySem.W.mg_of X G aC_Party⟩
  have D_is_integer : Df K mg "is_integer" s_is_integer ["thing"] := ⟨f0, _, PySem.W.mg_of X G a0, (fun_mk (st := s_is_integer) l0 c0 k0), (fun_mk (st := s_is_integer) l0 c0 k0).binds bd_is_integer⟩
  have D_is_index : Df K mg "is_index" s_is_index ["thing", "many"] := ⟨f1, _, PySem.W.mg_of X G a1, (fun_mk (st := s_is_index) l1 c1 k1), (fun_mk (st := s_is_index) l1 c1 k1).binds bd_is_index⟩
  have D_is_any_lot : Df K mg "is_any_lot" s_is_any_lot ["thing"] := ⟨f2, _, PySem.W.mg_of X G a2, (fun_mk (st := s_is_any_lot) l2 c2 k2), (fun_mk (st := s_is_any_lot) l2 c2 k2).binds bd_is_any_lot⟩
  have D_is_lot : Df K mg "is_lot" s_is_lot ["thing", "many"] := ⟨f3, _, PySem.W.mg_of X G a3, (fun_mk (st := s_is_lot) l3 c3 k3), (fun_mk (st := s_is_lot) l3 c3 k3).binds bd_is_lot⟩
  have D_marks : Df K mg "marks" s_marks ["many", "lot"] := ⟨f4, _, PySem.W.mg_of X G a4, (fun_mk (st := s_marks) l4 c4 k4), (fun_mk (st := s_marks) l4 c4 k4).binds bd_marks⟩
  have D_pairs_left : Df K mg "pairs_left" s_pairs_left ["arrows", "rotten"] := ⟨f5, _, PySem.W.mg_of X G a5, (fun_mk (st := s_pairs_left) l5 c5 k5), (fun_mk (st := s_pairs_left) l5 c5 k5).binds bd_pairs_left⟩
  have D_steps_from : Df K mg "steps_from" s_steps_from ["many", "pairs", "sources"] := ⟨f6, _, PySem.W.mg_of X G a6, (fun_mk (st := s_steps_from) l6 c6 k6), (fun_mk (st := s_steps_from) l6 c6 k6).binds bd_steps_from⟩
  have D_leads_to_all : Df K mg "leads_to_all" s_leads_to_all ["many", "pairs", "places"] := ⟨f7, _, PySem.W.mg_of X G a7, (fun_mk (st := s_leads_to_all) l7 c7 k7), (fun_mk (st := s_leads_to_all) l7 c7 k7).binds bd_leads_to_all⟩
  have D_Map_many : DfM K CMap "many" "Map.many" s_Map_many ["self"] := ⟨f8, _, ⟨a8, i8, k8⟩, (fun_mk (st := s_Map_many) l8 c8 k8), (fun_mk (st := s_Map_many) l8 c8 k8).binds bd_Map_many⟩
  have D_Map_arrows : DfM K CMap "arrows" "Map.arrows" s_Map_arrows ["self"] := ⟨f9, _, ⟨a9, i9, k9⟩, (fun_mk (st := s_Map_arrows) l9 c9 k9), (fun_mk (st := s_Map_arrows) l9 c9 k9).binds bd_Map_arrows⟩
  have D_Map_goals : DfM K CMap "goals" "Map.goals" s_Map_goals ["self"] := ⟨f10, _, ⟨a10, i10, k10⟩, (fun_mk (st := s_Map_goals) l10 c10 k10), (fun_mk (st := s_Map_goals) l10 c10 k10).binds bd_Map_goals⟩
  have D_is_pair : Df K mg "is_pair" s_is_pair ["thing", "many"] := ⟨f11, _, PySem.W.mg_of X G a11, (fun_mk (st := s_is_pair) l11 c11 k11), (fun_mk (st := s_is_pair) l11 c11 k11).binds bd_is_pair⟩
  have D_check_pairs : Df K mg "check_pairs" s_check_pairs ["many", "pairs", "most"] := ⟨f12, _, PySem.W.mg_of X G a12, (fun_mk (st := s_check_pairs) l12 c12 k12), (fun_mk (st := s_check_pairs) l12 c12 k12).binds bd_check_pairs⟩
  have D_are_goals : Df K mg "are_goals" s_are_goals ["thing", "many", "arrows"] := ⟨f13, _, PySem.W.mg_of X G a13, (fun_mk (st := s_are_goals) l13 c13 k13), (fun_mk (st := s_are_goals) l13 c13 k13).binds bd_are_goals⟩
  have D_Map___init__ : DfI K CMap "Map.__init__" s_Map___init__ ["self", "many", "arrows", "goals"] := ⟨f14, _, ⟨mk, a14, i14, kc⟩, (fun_mk (st := s_Map___init__) l14 c14 k14), (fun_mk (st := s_Map___init__) l14 c14 k14).binds bd_Map___init__⟩
  have D_goals_are_open : Df K mg "goals_are_open" s_goals_are_open ["chart", "rotten"] := ⟨f15, _, PySem.W.mg_of X G a15, (fun_mk (st := s_goals_are_open) l15 c15 k15), (fun_mk (st := s_goals_are_open) l15 c15 k15).binds bd_goals_are_open⟩
  have D__unreached_pairs : Df K mg "_unreached_pairs" s__unreached_pairs ["chart", "standing"] := ⟨f16, _, PySem.W.mg_of X G a16, (fun_mk (st := s__unreached_pairs) l16 c16 k16), (fun_mk (st := s__unreached_pairs) l16 c16 k16).binds bd__unreached_pairs⟩
  have D_done_at : Df K mg "done_at" s_done_at ["chart", "standing"] := ⟨f17, _, PySem.W.mg_of X G a17, (fun_mk (st := s_done_at) l17 c17 k17), (fun_mk (st := s_done_at) l17 c17 k17).binds bd_done_at⟩
  have D_steps_to_go : Df K mg "steps_to_go" s_steps_to_go ["chart", "standing"] := ⟨f18, _, PySem.W.mg_of X G a18, (fun_mk (st := s_steps_to_go) l18 c18 k18), (fun_mk (st := s_steps_to_go) l18 c18 k18).binds bd_steps_to_go⟩
  have D_tries_at : Df K mg "tries_at" s_tries_at ["chart", "standing"] := ⟨f19, _, PySem.W.mg_of X G a19, (fun_mk (st := s_tries_at) l19 c19 k19), (fun_mk (st := s_tries_at) l19 c19 k19).binds bd_tries_at⟩
  have D_worth_at : Df K mg "worth_at" s_worth_at ["chart", "standing"] := ⟨f20, _, PySem.W.mg_of X G a20, (fun_mk (st := s_worth_at) l20 c20 k20), (fun_mk (st := s_worth_at) l20 c20 k20).binds bd_worth_at⟩
  have D__law_led : Df K mg "_law_led" s__law_led ["_law_arrows", "_law_begun", "_law_let", "_law_barred"] := ⟨f21, _, PySem.W.mg_of X G a21, (fun_mk (st := s__law_led) l21 c21 k21), (fun_mk (st := s__law_led) l21 c21 k21).binds bd__law_led⟩
  have D__law_is_world : Df K mg "_law_is_world" s__law_is_world ["_law_parts_here", "_law_rotten"] := ⟨f22, _, PySem.W.mg_of X G a22, (fun_mk (st := s__law_is_world) l22 c22 k22), (fun_mk (st := s__law_is_world) l22 c22 k22).binds bd__law_is_world⟩
  have D__law_hand : Df K mg "_law_hand" s__law_hand ["_law_script"] := ⟨f23, _, PySem.W.mg_of X G a23, (fun_mk (st := s__law_hand) l23 c23 k23), (fun_mk (st := s__law_hand) l23 c23 k23).binds bd__law_hand⟩
  have D__law_draw : Df K mg "_law_draw" s__law_draw ["_law_hand_here", "_law_many"] := ⟨f24, _, PySem.W.mg_of X G a24, (fun_mk (st := s__law_draw) l24 c24 k24), (fun_mk (st := s__law_draw) l24 c24 k24).binds bd__law_draw⟩
  have D__law_shuffled : Df K mg "_law_shuffled" s__law_shuffled ["_law_hand_here", "_law_things"] := ⟨f25, _, PySem.W.mg_of X G a25, (fun_mk (st := s__law_shuffled) l25 c25 k25), (fun_mk (st := s__law_shuffled) l25 c25 k25).binds bd__law_shuffled⟩
  have D__law_tail : Df K mg "_law_tail" s__law_tail ["_law_hand_here", "_law_pairs", "_law_goals", "_law_place"] := ⟨f26, _, PySem.W.mg_of X G a26, (fun_mk (st := s__law_tail) l26 c26 k26), (fun_mk (st := s__law_tail) l26 c26 k26).binds bd__law_tail⟩
  have D__law_renamed : Df K mg "_law_renamed" s__law_renamed ["_law_hand_here", "_law_many", "_law_pairs", "_law_goals"] := ⟨f27, _, PySem.W.mg_of X G a27, (fun_mk (st := s__law_renamed) l27 c27 k27), (fun_mk (st := s__law_renamed) l27 c27 k27).binds bd__law_renamed⟩
  have D__law_parts : Df K mg "_law_parts" s__law_parts ["_law_hand_here", "_law_places", "_law_arrows"] := ⟨f28, _, PySem.W.mg_of X G a28, (fun_mk (st := s__law_parts) l28 c28 k28), (fun_mk (st := s__law_parts) l28 c28 k28).binds bd__law_parts⟩
  have D__law_tries : Df K mg "_law_tries" s__law_tries ["_law_parts_here", "_law_reached", "_law_rotten"] := ⟨f29, _, PySem.W.mg_of X G a29, (fun_mk (st := s__law_tries) l29 c29 k29), (fun_mk (st := s__law_tries) l29 c29 k29).binds bd__law_tries⟩
  have D__law_is_done : Df K mg "_law_is_done" s__law_is_done ["_law_parts_here", "_law_reached"] := ⟨f30, _, PySem.W.mg_of X G a30, (fun_mk (st := s__law_is_done) l30 c30 k30), (fun_mk (st := s__law_is_done) l30 c30 k30).binds bd__law_is_done⟩
  have D__law_alive : Df K mg "_law_alive" s__law_alive ["_law_parts_here", "_law_reached", "_law_rotten"] := ⟨f31, _, PySem.W.mg_of X G a31, (fun_mk (st := s__law_alive) l31 c31 k31), (fun_mk (st := s__law_alive) l31 c31 k31).binds bd__law_alive⟩
  have D__law_worth : Df K mg "_law_worth" s__law_worth ["_law_parts_here", "_law_reached", "_law_rotten"] := ⟨f32, _, PySem.W.mg_of X G a32, (fun_mk (st := s__law_worth) l32 c32 k32), (fun_mk (st := s__law_worth) l32 c32 k32).binds bd__law_worth⟩
  have D_is_world : Df K mg "is_world" s_is_world ["chart", "thing"] := ⟨f33, _, PySem.W.mg_of X G a33, (fun_mk (st := s_is_world) l33 c33 k33), (fun_mk (st := s_is_world) l33 c33 k33).binds bd_is_world⟩
  have D_with_items : Df K mg "with_items" s_with_items ["lot", "fresh"] := ⟨f34, _, PySem.W.mg_of X G a34, (fun_mk (st := s_with_items) l34 c34 k34), (fun_mk (st := s_with_items) l34 c34 k34).binds bd_with_items⟩
  have D_begin : Df K mg "begin" s_begin ["chart"] := ⟨f35, _, PySem.W.mg_of X G a35, (fun_mk (st := s_begin) l35 c35 k35), (fun_mk (st := s_begin) l35 c35 k35).binds bd_begin⟩
  have D_are_tries : Df K mg "are_tries" s_are_tries ["chart", "standing", "thing"] := ⟨f36, _, PySem.W.mg_of X G a36, (fun_mk (st := s_are_tries) l36 c36 k36), (fun_mk (st := s_are_tries) l36 c36 k36).binds bd_are_tries⟩
  have D_standing_behind : Df K mg "standing_behind" s_standing_behind ["chart", "standing", "pairs"] := ⟨f37, _, PySem.W.mg_of X G a37, (fun_mk (st := s_standing_behind) l37 c37 k37), (fun_mk (st := s_standing_behind) l37 c37 k37).binds bd_standing_behind⟩
  have D_Course___init__ : DfI K CCourse "Course.__init__" s_Course___init__ ["self", "chart"] := ⟨f38, _, ⟨mk_Course, a38, i38, kc_Course⟩, (fun_mk (st := s_Course___init__) l38 c38 k38), (fun_mk (st := s_Course___init__) l38 c38 k38).binds bd_Course___init__⟩
  have D_Course_here : DfM K CCourse "here" "Course.here" s_Course_here ["self"] := ⟨f39, _, ⟨a39, i39, k39⟩, (fun_mk (st := s_Course_here) l39 c39 k39), (fun_mk (st := s_Course_here) l39 c39 k39).binds bd_Course_here⟩
  have D_Course_told : DfM K CCourse "told" "Course.told" s_Course_told ["self"] := ⟨f40, _, ⟨a40, i40, k40⟩, (fun_mk (st := s_Course_told) l40 c40 k40), (fun_mk (st := s_Course_told) l40 c40 k40).binds bd_Course_told⟩
  have D_Course_check_lot : DfM K CCourse "check_lot" "Course.check_lot" s_Course_check_lot ["self", "thing"] := ⟨f41, _, ⟨a41, i41, k41⟩, (fun_mk (st := s_Course_check_lot) l41 c41 k41), (fun_mk (st := s_Course_check_lot) l41 c41 k41).binds bd_Course_check_lot⟩
  have D_Course_go_on : DfM K CCourse "go_on" "Course.go_on" s_Course_go_on ["self", "pairs"] := ⟨f42, _, ⟨a42, i42, k42⟩, (fun_mk (st := s_Course_go_on) l42 c42 k42), (fun_mk (st := s_Course_go_on) l42 c42 k42).binds bd_Course_go_on⟩
  have D_Course_go_back : DfM K CCourse "go_back" "Course.go_back" s_Course_go_back ["self"] := ⟨f43, _, ⟨a43, i43, k43⟩, (fun_mk (st := s_Course_go_back) l43 c43 k43), (fun_mk (st := s_Course_go_back) l43 c43 k43).binds bd_Course_go_back⟩
  have D_Course__was_worth : DfM K CCourse "_was_worth" "Course._was_worth" s_Course__was_worth ["self", "k"] := ⟨f44, _, ⟨a44, i44, k44⟩, (fun_mk (st := s_Course__was_worth) l44 c44 k44), (fun_mk (st := s_Course__was_worth) l44 c44 k44).binds bd_Course__was_worth⟩
  have D_Course_all_worth : DfM K CCourse "all_worth" "Course.all_worth" s_Course_all_worth ["self"] := ⟨f45, _, ⟨a45, i45, k45⟩, (fun_mk (st := s_Course_all_worth) l45 c45 k45), (fun_mk (st := s_Course_all_worth) l45 c45 k45).binds bd_Course_all_worth⟩
  have D_Party___init__ : DfI K CParty "Party.__init__" s_Party___init__ ["self", "chart", "world"] := ⟨f46, _, ⟨mk_Party, a46, i46, kc_Party⟩, (fun_mk (st := s_Party___init__) l46 c46 k46), (fun_mk (st := s_Party___init__) l46 c46 k46).binds bd_Party___init__⟩
  have D_Party_send : DfM K CParty "send" "Party.send" s_Party_send ["self", "lot"] := ⟨f47, _, ⟨a47, i47, k47⟩, (fun_mk (st := s_Party_send) l47 c47 k47), (fun_mk (st := s_Party_send) l47 c47 k47).binds bd_Party_send⟩
  have D_Party_standing : DfM K CParty "standing" "Party.standing" s_Party_standing ["self"] := ⟨f48, _, ⟨a48, i48, k48⟩, (fun_mk (st := s_Party_standing) l48 c48 k48), (fun_mk (st := s_Party_standing) l48 c48 k48).binds bd_Party_standing⟩
  have D_Party_sensible : DfM K CParty "sensible" "Party.sensible" s_Party_sensible ["self"] := ⟨f49, _, ⟨a49, i49, k49⟩, (fun_mk (st := s_Party_sensible) l49 c49 k49), (fun_mk (st := s_Party_sensible) l49 c49 k49).binds bd_Party_sensible⟩
  have D_Party_back : DfM K CParty "back" "Party.back" s_Party_back ["self"] := ⟨f50, _, ⟨a50, i50, k50⟩, (fun_mk (st := s_Party_back) l50 c50 k50), (fun_mk (st := s_Party_back) l50 c50 k50).binds bd_Party_back⟩
  have D_Course_forked : DfM K CCourse "forked" "Course.forked" s_Course_forked ["self"] := ⟨f51, _, ⟨a51, i51, k51⟩, (fun_mk (st := s_Course_forked) l51 c51 k51), (fun_mk (st := s_Course_forked) l51 c51 k51).binds bd_Course_forked⟩
  have D_Party_copy : DfM K CParty "copy" "Party.copy" s_Party_copy ["self"] := ⟨f52, _, ⟨a52, i52, k52⟩, (fun_mk (st := s_Party_copy) l52 c52 k52), (fun_mk (st := s_Party_copy) l52 c52 k52).binds bd_Party_copy⟩
  have D_lost_in : Df K mg "lost_in" s_lost_in ["pairs"] := ⟨f53, _, PySem.W.mg_of X G a53, (fun_mk (st := s_lost_in) l53 c53 k53), (fun_mk (st := s_lost_in) l53 c53 k53).binds bd_lost_in⟩
  have D_Course_count_lost : DfM K CCourse "count_lost" "Course.count_lost" s_Course_count_lost ["self"] := ⟨f54, _, ⟨a54, i54, k54⟩, (fun_mk (st := s_Course_count_lost) l54 c54 k54), (fun_mk (st := s_Course_count_lost) l54 c54 k54).binds bd_Course_count_lost⟩
  have D_Party_run : DfM K CParty "run" "Party.run" s_Party_run ["self"] := ⟨f55, _, ⟨a55, i55, k55⟩, (fun_mk (st := s_Party_run) l55 c55 k55), (fun_mk (st := s_Party_run) l55 c55 k55).binds bd_Party_run⟩
  have D_Party_lost : DfM K CParty "lost" "Party.lost" s_Party_lost ["self"] := ⟨f56, _, ⟨a56, i56, k56⟩, (fun_mk (st := s_Party_lost) l56 c56 k56), (fun_mk (st := s_Party_lost) l56 c56 k56).binds bd_Party_lost⟩
  have D__law_world : Df K mg "_law_world" s__law_world ["_law_hand_here", "_law_parts_here"] := ⟨f57, _, PySem.W.mg_of X G a57, (fun_mk (st := s__law_world) l57 c57 k57), (fun_mk (st := s__law_world) l57 c57 k57).binds bd__law_world⟩
  have D__law_behind : Df K mg "_law_behind" s__law_behind ["_law_parts_here", "_law_reached", "_law_rotten", "_law_arrow", "_law_sound"] := ⟨f58, _, PySem.W.mg_of X G a58, (fun_mk (st := s__law_behind) l58 c58 k58), (fun_mk (st := s__law_behind) l58 c58 k58).binds bd__law_behind⟩
  have D__law_here : Df K mg "_law_here" s__law_here ["_law_parts_here", "_law_run"] := ⟨f59, _, PySem.W.mg_of X G a59, (fun_mk (st := s__law_here) l59 c59 k59), (fun_mk (st := s__law_here) l59 c59 k59).binds bd__law_here⟩
  have D__law_is_wise : Df K mg "_law_is_wise" s__law_is_wise ["_law_parts_here", "_law_run"] := ⟨f60, _, PySem.W.mg_of X G a60, (fun_mk (st := s__law_is_wise) l60 c60 k60), (fun_mk (st := s__law_is_wise) l60 c60 k60).binds bd__law_is_wise⟩
  have D__law_crowd : Df K mg "_law_crowd" s__law_crowd ["_law_hand_here", "_law_every"] := ⟨f61, _, PySem.W.mg_of X G a61, (fun_mk (st := s__law_crowd) l61 c61 k61), (fun_mk (st := s__law_crowd) l61 c61 k61).binds bd__law_crowd⟩
  have D__law_is_back : Df K mg "_law_is_back" s__law_is_back ["_law_party", "_law_past"] := ⟨f62, _, PySem.W.mg_of X G a62, (fun_mk (st := s__law_is_back) l62 c62 k62), (fun_mk (st := s__law_is_back) l62 c62 k62).binds bd__law_is_back⟩
  have D_Party_evenings : DfM K CParty "evenings" "Party.evenings" s_Party_evenings ["self"] := ⟨f63, _, ⟨a63, i63, k63⟩, (fun_mk (st := s_Party_evenings) l63 c63 k63), (fun_mk (st := s_Party_evenings) l63 c63 k63).binds bd_Party_evenings⟩
  have D__law_is_told : Df K mg "_law_is_told" s__law_is_told ["_law_party", "_law_parts_here", "_law_run", "_law_wise"] := ⟨f64, _, PySem.W.mg_of X G a64, (fun_mk (st := s__law_is_told) l64 c64 k64), (fun_mk (st := s__law_is_told) l64 c64 k64).binds bd__law_is_told⟩
  have D__law_are_told : Df K mg "_law_are_told" s__law_are_told ["_law_parties", "_law_pasts"] := ⟨f65, _, PySem.W.mg_of X G a65, (fun_mk (st := s__law_are_told) l65 c65 k65), (fun_mk (st := s__law_are_told) l65 c65 k65).binds bd__law_are_told⟩
  have D__law_is_sent : Df K mg "_law_is_sent" s__law_is_sent ["_law_hand_here", "_law_party", "_law_past"] := ⟨f66, _, PySem.W.mg_of X G a66, (fun_mk (st := s__law_is_sent) l66 c66 k66), (fun_mk (st := s__law_is_sent) l66 c66 k66).binds bd__law_is_sent⟩
  have F_law := fun_mk (st := s_law) l67 c67 k67
  refine ⟨PySem.W.fnOf "law" "law" (defArgs s_law) (defBody s_law) (defScope s_law) .none kV67 dc67 pm67 an67 cd67 ct67, fun s v => .of_eq rfl, fun base _ _ => ?_⟩
  have h_is_integer := ok_is_integer (P := l.prog) (w := w) (base := base) B D_is_integer
  have h_is_index := ok_is_index (P := l.prog) (w := w) (base := base) h_is_integer D_is_index
  have h_is_any_lot := ok_is_any_lot (P := l.prog) (w := w) (base := base) B h_is_integer D_is_any_lot
  have h_is_lot := ok_is_lot (P := l.prog) (w := w) (base := base) B h_is_any_lot D_is_lot
  have h_marks := ok_marks (P := l.prog) (w := w) (base := base) D_marks
  have h_pairs_left := ok_pairs_left (P := l.prog) (w := w) (base := base) B h_marks D_pairs_left
  have h_steps_from := ok_steps_from (P := l.prog) (w := w) (base := base) B D_steps_from
  have h_leads_to_all := ok_leads_to_all (P := l.prog) (w := w) (base := base) B h_steps_from D_leads_to_all
  have h_many := ok_many (P := l.prog) (w := w) (base := base) (CMap := CMap) C D_Map_many
  have h_arrows := ok_arrows (P := l.prog) (w := w) (base := base) (CMap := CMap) C D_Map_arrows
  have h_goals := ok_goals (P := l.prog) (w := w) (base := base) (CMap := CMap) C D_Map_goals
  have h_is_pair := ok_is_pair (P := l.prog) (w := w) (base := base) B h_is_index D_is_pair
  have h_check_pairs := ok_check_pairs (P := l.prog) (w := w) (base := base) (CMap := CMap) B C h_is_integer h_is_pair D_check_pairs
  have h_are_goals := ok_are_goals (P := l.prog) (w := w) (base := base) B h_is_lot h_leads_to_all D_are_goals
  have h_init := ok_Map_init (P := l.prog) (w := w) (base := base) (CMap := CMap) C h_check_pairs h_are_goals D_Map___init__
  have h_goals_are_open := ok_goals_are_open (P := l.prog) (w := w) (base := base) (CMap := CMap) C h_leads_to_all h_pairs_left h_many h_arrows h_goals D_goals_are_open
  have h_unreached_pairs := ok__unreached_pairs (P := l.prog) (w := w) (base := base) (CMap := CMap) C h_marks h_pairs_left h_many h_arrows D__unreached_pairs
  have h_done_at := ok_done_at (P := l.prog) (w := w) (base := base) (CMap := CMap) B C h_marks h_many h_goals D_done_at
  have h_steps_to_go := ok_steps_to_go (P := l.prog) (w := w) (base := base) (CMap := CMap) C h_marks h_steps_from h_unreached_pairs h_many h_goals D_steps_to_go
  have h_tries_at := ok_tries_at (P := l.prog) (w := w) (base := base) (CMap := CMap) B C h_marks h_many h_arrows D_tries_at
  have h_worth_at := ok_worth_at (P := l.prog) (w := w) (base := base) (CMap := CMap) B C h_tries_at h_steps_to_go h_arrows D_worth_at
  have h_law_led := ok__law_led (P := l.prog) (w := w) (base := base) B D__law_led
  have h_law_is_world := ok__law_is_world (P := l.prog) (w := w) (base := base) B h_law_led D__law_is_world
  have h_law_hand := ok__law_hand (P := l.prog) (w := w) (base := base) B D__law_hand
  have h_law_draw := ok__law_draw (P := l.prog) (w := w) (base := base) B D__law_draw
  have h_law_shuffled := ok__law_shuffled (P := l.prog) (w := w) (base := base) B h_law_draw D__law_shuffled
  have h_law_tail := ok__law_tail (P := l.prog) (w := w) (base := base) B h_law_draw D__law_tail
  have h_law_renamed := ok__law_renamed (P := l.prog) (w := w) (base := base) B h_law_shuffled D__law_renamed
  have h_law_parts := ok__law_parts (P := l.prog) (w := w) (base := base) B h_law_draw h_law_tail h_law_shuffled h_law_renamed D__law_parts
  have h_law_tries := ok__law_tries (P := l.prog) (w := w) (base := base) B D__law_tries
  have h_law_is_done := ok__law_is_done (P := l.prog) (w := w) (base := base) B D__law_is_done
  have h_law_alive := ok__law_alive (P := l.prog) (w := w) (base := base) B h_law_led D__law_alive
  have h_law_worth := ok__law_worth (P := l.prog) (w := w) (base := base) B h_law_alive h_law_tries D__law_worth
  have h_is_world := ok_is_world (P := l.prog) (w := w) (base := base) (CMap := CMap) B C h_is_lot h_goals_are_open h_arrows D_is_world
  have h_with_items := ok_with_items (P := l.prog) (w := w) (base := base) B D_with_items
  have h_begin := ok_begin (P := l.prog) (w := w) (base := base) D_begin
  have h_are_tries := ok_are_tries (P := l.prog) (w := w) (base := base) (CMap := CMap) B C h_is_lot h_tries_at h_arrows D_are_tries
  have h_standing_behind := ok_standing_behind (P := l.prog) (w := w) (base := base) (CMap := CMap) C h_with_items h_goals_are_open h_arrows D_standing_behind
  have h_Course_init := ok_Course_init (P := l.prog) (w := w) (base := base) (CMap := CMap) (CCourse := CCourse) C_Course h_begin D_Course___init__
  have h_Course_here := ok_Course_here (P := l.prog) (w := w) (base := base) (CMap := CMap) (CCourse := CCourse) C_Course D_Course_here
  have h_Course_told := ok_Course_told (P := l.prog) (w := w) (base := base) (CMap := CMap) (CCourse := CCourse) B C_Course D_Course_told
  have h_Course_check_lot := ok_Course_check_lot (P := l.prog) (w := w) (base := base) (CMap := CMap) (CCourse := CCourse) C_Course h_done_at h_are_tries h_Course_here D_Course_check_lot
  have h_Course_go_on := ok_Course_go_on (P := l.prog) (w := w) (base := base) (CMap := CMap) (CCourse := CCourse) C_Course h_standing_behind h_Course_here D_Course_go_on
  have h_Course_go_back := ok_Course_go_back (P := l.prog) (w := w) (base := base) (CMap := CMap) (CCourse := CCourse) B C_Course D_Course_go_back
  have h_Course__was_worth := ok_Course__was_worth (P := l.prog) (w := w) (base := base) (CMap := CMap) (CCourse := CCourse) B C_Course h_worth_at D_Course__was_worth
  have h_Course_all_worth := ok_Course_all_worth (P := l.prog) (w := w) (base := base) (CMap := CMap) (CCourse := CCourse) B C_Course h_Course__was_worth D_Course_all_worth
  have h_Party_init := ok_Party_init (P := l.prog) (w := w) (base := base) (CMap := CMap) (CCourse := CCourse) (CParty := CParty) C_Course C_Party h_is_world h_Course_init D_Party___init__
  have h_Party_send := ok_Party_send (P := l.prog) (w := w) (base := base) (CMap := CMap) (CCourse := CCourse) (CParty := CParty) B C_Course C_Party h_Course_check_lot h_Course_go_on D_Party_send
  have h_Party_standing := ok_Party_standing (P := l.prog) (w := w) (base := base) (CMap := CMap) (CCourse := CCourse) (CParty := CParty) C_Course C_Party h_Course_here D_Party_standing
  have h_Party_sensible := ok_Party_sensible (P := l.prog) (w := w) (base := base) (CMap := CMap) (CCourse := CCourse) (CParty := CParty) C_Course C_Party h_Course_all_worth D_Party_sensible
  have h_Party_back := ok_Party_back (P := l.prog) (w := w) (base := base) (CMap := CMap) (CCourse := CCourse) (CParty := CParty) C_Course C_Party h_Course_go_back D_Party_back
  have h_Course_forked := ok_Course_forked (P := l.prog) (w := w) (base := base) (CMap := CMap) (CCourse := CCourse) B C_Course h_Course_init D_Course_forked
  have h_Party_copy := ok_Party_copy (P := l.prog) (w := w) (base := base) (CMap := CMap) (CCourse := CCourse) (CParty := CParty) C_Course C_Party h_Party_init h_Course_forked D_Party_copy
  have h_lost_in := ok_lost_in (P := l.prog) (w := w) (base := base) B D_lost_in
  have h_Course_count_lost := ok_Course_count_lost (P := l.prog) (w := w) (base := base) (CMap := CMap) (CCourse := CCourse) B C_Course h_lost_in D_Course_count_lost
  have h_Party_run := ok_Party_run (P := l.prog) (w := w) (base := base) (CMap := CMap) (CCourse := CCourse) (CParty := CParty) C_Course C_Party h_Course_told D_Party_run
  have h_Party_lost := ok_Party_lost (P := l.prog) (w := w) (base := base) (CMap := CMap) (CCourse := CCourse) (CParty := CParty) C_Course C_Party h_Course_count_lost D_Party_lost
  have h_law_world := ok__law_world (P := l.prog) (w := w) (base := base) B h_law_draw h_law_shuffled h_law_is_world D__law_world
  have h_law_behind := ok__law_behind (P := l.prog) (w := w) (base := base) B D__law_behind
  have h_law_here := ok__law_here (P := l.prog) (w := w) (base := base) h_law_behind D__law_here
  have h_law_is_wise := ok__law_is_wise (P := l.prog) (w := w) (base := base) B h_law_here h_law_worth D__law_is_wise
  have h_law_crowd := ok__law_crowd (P := l.prog) (w := w) (base := base) B h_law_draw D__law_crowd
  have h_law_is_back := ok__law_is_back (P := l.prog) (w := w) (base := base) (CMap := CMap) (CCourse := CCourse) (CParty := CParty) B C_Party h_Party_back D__law_is_back
  have h_Party_evenings := ok_Party_evenings (P := l.prog) (w := w) (base := base) (CMap := CMap) (CCourse := CCourse) (CParty := CParty) B C_Course C_Party h_Course_told D_Party_evenings
  have h_law_is_told := ok__law_is_told (P := l.prog) (w := w) (base := base) (CMap := CMap) (CCourse := CCourse) (CParty := CParty) B C_Party h_Party_run h_Party_standing h_Party_lost h_Party_evenings h_Party_sensible h_law_here D__law_is_told
  have h_law_are_told := ok__law_are_told (P := l.prog) (w := w) (base := base) (CMap := CMap) (CCourse := CCourse) (CParty := CParty) B h_law_is_told D__law_are_told
  have h_law_is_sent := ok__law_is_sent (P := l.prog) (w := w) (base := base) (CMap := CMap) (CCourse := CCourse) (CParty := CParty) B C_Party h_law_draw h_law_here h_law_is_done h_law_tries h_law_worth h_law_crowd h_Party_send D__law_is_sent
  exact ok_law (P := l.prog) (w := w) (base := base) (CMap := CMap) (CCourse := CCourse) (CParty := CParty) B C C_Party h_init h_law_hand h_law_draw h_law_parts h_law_world h_Party_init h_Party_copy h_law_is_sent h_law_is_back h_law_are_told h_law_is_wise F_law
end
theorem walk {l : PySem.W.OpenLaw} {q : Program} {loose : List Str} {XP : (Str → Option Value) → Heap → Prop} {YP : World → Heap → Prop} {d : DefRec} {K : Params → PySem.W.Frag} (hn : l.most = some 63) (hdf : d.params.defaults = [])
    (hY : ∀ (w : World) (h : Heap), YP w h → (K w.params).In h)
    (F : ∀ (w : World) (mg : Str → Option Value) (fa : Addr) (h : Heap), (K w.params).In h → h.Ns mainGlobals mg → mg d.name = some (.ref fa) →
      ∃ fd : FuncData, (∀ (s : Shared) (u : Value), BindsTo s fd ⟨[u], []⟩ [("_law_script", u)]) ∧ ∀ base : Heap, (K w.params).In base → base.Ns mainGlobals mg → FnG l.prog w (K w.params) mg base 11 fa fd ["_law_script"] (spLaw (K w.params))) :
    PySem.W.WalkO q loose XP YP l.row.toRowW d [] (fun f vs => PySem.call f vs) :=
  walk_ofG (n := 63) (k := 11) (x := "_law_script") (sp := fun w => spLaw (K w.params)) hn (by decide) hdf ⟨rfl, by decide, by decide⟩ hY F fun _ _ a ns hl hS => ⟨a, ns, rfl, hS, hl, fun _ => rfl⟩
end U
open PySem PySem.W PyProof.Rows
set_option maxRecDepth 100000 in
set_option maxHeartbeats 0 in
theorem PySem.Challenge.cw_untriedways_k15_whole_parties_back_and_c_holds : PySem.Challenge.rw_untriedways_k15_whole_parties_back_and_c.Holds := by
  w_on; o_law; k_head; (case hw => w_witness2)
  k_fill
  refine U.walk (l := PySem.Challenge.rw_untriedways_k15_whole_parties_back_and_c) rfl rfl (fun w h Y => PySem.W.kIn_of Y) ?F
  case F =>
    intro w mg fa h KX G hmg
    refine' U.all_mk KX G hmg ?z_len ?z_all ?z_any ?z_sorted ?z_isinstance ?z_abs ?z_min ?z_max ?z_range ?z_enumerate ?z_int ?z_list ?z_tuple ?z_str ?z_bool ?z_repr ?z_zip ?z_set ?z_sum ?aC ?pg ?hd ?po ?sa ?mk ?kc ?n1 ?n2 ?n3 ?c_FEWEST_PLACES ?c_MOST_PLACES ?c_MOST_ARROWS ?aC_Course ?pg_Course ?hd_Course ?po_Course ?sa_Course ?mk_Course ?kc_Course ?n0_Course ?n1_Course ?n2_Course ?aC_Party ?pg_Party ?hd_Party ?po_Party ?sa_Party ?mk_Party ?kc_Party ?n0_Party ?n1_Party ?n2_Party ?a0 ?l0 ?c0 ?k0 ?a1 ?l1 ?c1 ?k1 ?a2 ?l2 ?c2 ?k2 ?a3 ?l3 ?c3 ?k3 ?a4 ?l4 ?c4 ?k4 ?a5 ?l5 ?c5 ?k5 ?a6 ?l6 ?c6 ?k6 ?a7 ?l7 ?c7 ?k7 ?a8 ?i8 ?l8 ?c8 ?k8 ?a9 ?i9 ?l9 ?c9 ?k9 ?a10 ?i10 ?l10 ?c10 ?k10 ?a11 ?l11 ?c11 ?k11 ?a12 ?l12 ?c12 ?k12 ?a13 ?l13 ?c13 ?k13 ?a14 ?i14 ?l14 ?c14 ?k14 ?a15 ?l15 ?c15 ?k15 ?a16 ?l16 ?c16 ?k16 ?a17 ?l17 ?c17 ?k17 ?a18 ?l18 ?c18 ?k18 ?a19 ?l19 ?c19 ?k19 ?a20 ?l20 ?c20 ?k20 ?a21 ?l21 ?c21 ?k21 ?a22 ?l22 ?c22 ?k22 ?a23 ?l23 ?c23 ?k23 ?a24 ?l24 ?c24 ?k24 ?a25 ?l25 ?c25 ?k25 ?a26 ?l26 ?c26 ?k26 ?a27 ?l27 ?c27 ?k27 ?a28 ?l28 ?c28 ?k28 ?a29 ?l29 ?c29 ?k29 ?a30 ?l30 ?c30 ?k30 ?a31 ?l31 ?c31 ?k31 ?a32 ?l32 ?c32 ?k32 ?a33 ?l33 ?c33 ?k33 ?a34 ?l34 ?c34 ?k34 ?a35 ?l35 ?c35 ?k35 ?a36 ?l36 ?c36 ?k36 ?a37 ?l37 ?c37 ?k37 ?a38 ?i38 ?l38 ?c38 ?k38 ?a39 ?i39 ?l39 ?c39 ?k39 ?a40 ?i40 ?l40 ?c40 ?k40 ?a41 ?i41 ?l41 ?c41 ?k41 ?a42 ?i42 ?l42 ?c42 ?k42 ?a43 ?i43 ?l43 ?c43 ?k43 ?a44 ?i44 ?l44 ?c44 ?k44 ?a45 ?i45 ?l45 ?c45 ?k45 ?a46 ?i46 ?l46 ?c46 ?k46 ?a47 ?i47 ?l47 ?c47 ?k47 ?a48 ?i48 ?l48 ?c48 ?k48 ?a49 ?i49 ?l49 ?c49 ?k49 ?a50 ?i50 ?l50 ?c50 ?k50 ?a51 ?i51 ?l51 ?c51 ?k51 ?a52 ?i52 ?l52 ?c52 ?k52 ?a53 ?l53 ?c53 ?k53 ?a54 ?i54 ?l54 ?c54 ?k54 ?a55 ?i55 ?l55 ?c55 ?k55 ?a56 ?i56 ?l56 ?c56 ?k56 ?a57 ?l57 ?c57 ?k57 ?a58 ?l58 ?c58 ?k58 ?a59 ?l59 ?c59 ?k59 ?a60 ?l60 ?c60 ?k60 ?a61 ?l61 ?c61 ?k61 ?a62 ?l62 ?c62 ?k62 ?a63 ?i63 ?l63 ?c63 ?k63 ?a64 ?l64 ?c64 ?k64 ?a65 ?l65 ?c65 ?k65 ?a66 ?l66 ?c66 ?k66 ?a67 ?l67 ?c67 ?k67
    (case z_len => k_is)
    (case z_all => k_is)
    (case z_any => k_is)
    (case z_sorted => k_is)
    (case z_isinstance => k_is)
    (case z_abs => k_is)
    (case z_min => k_is)
    (case z_max => k_is)
    (case z_range => k_is)
    (case z_enumerate => k_is)
    (case z_int => k_is)
    (case z_list => k_is)
    (case z_tuple => k_is)
    (case z_str => k_is)
    (case z_bool => k_is)
    (case z_repr => k_is)
    (case z_zip => k_is)
    (case z_set => k_is)
    (case z_sum => k_is)
    (case aC => k_is)
    (case pg => k_is)
    (case hd => k_is)
    (case po => k_is)
    (case sa => k_is)
    (case mk => k_is)
    (case kc => k_is)
    (case n1 => k_is)
    (case n2 => k_is)
    (case n3 => k_is)
    (case c_FEWEST_PLACES => k_is)
    (case c_MOST_PLACES => k_is)
    (case c_MOST_ARROWS => k_is)
    (case aC_Course => k_is)
    (case pg_Course => k_is)
    (case hd_Course => k_is)
    (case po_Course => k_is)
    (case sa_Course => k_is)
    (case mk_Course => k_is)
    (case kc_Course => k_is)
    (case n0_Course => k_is)
    (case n1_Course => k_is)
    (case n2_Course => k_is)
    (case aC_Party => k_is)
    (case pg_Party => k_is)
    (case hd_Party => k_is)
    (case po_Party => k_is)
    (case sa_Party => k_is)
    (case mk_Party => k_is)
    (case kc_Party => k_is)
    (case n0_Party => k_is)
    (case n1_Party => k_is)
    (case n2_Party => k_is)
    (case a0 => k_is)
    (case l0 => k_is)
    (case c0 => k_is)
    (case k0 => k_is)
    (case a1 => k_is)
    (case l1 => k_is)
    (case c1 => k_is)
    (case k1 => k_is)
    (case a2 => k_is)
    (case l2 => k_is)
    (case c2 => k_is)
    (case k2 => k_is)
    (case a3 => k_is)
    (case l3 => k_is)
    (case c3 => k_is)
    (case k3 => k_is)
    (case a4 => k_is)
    (case l4 => k_is)
    (case c4 => k_is)
    (case k4 => k_is)
    (case a5 => k_is)
    (case l5 => k_is)
    (case c5 => k_is)
    (case k5 => k_is)
    (case a6 => k_is)
    (case l6 => k_is)
    (case c6 => k_is)
    (case k6 => k_is)
    (case a7 => k_is)
    (case l7 => k_is)
    (case c7 => k_is)
    (case k7 => k_is)
    (case a8 => k_is)
    (case i8 => k_is)
    (case l8 => k_is)
    (case c8 => k_is)
    (case k8 => k_is)
    (case a9 => k_is)
    (case i9 => k_is)
    (case l9 => k_is)
    (case c9 => k_is)
    (case k9 => k_is)
    (case a10 => k_is)
    (case i10 => k_is)
    (case l10 => k_is)
    (case c10 => k_is)
    (case k10 => k_is)
    (case a11 => k_is)
    (case l11 => k_is)
    (case c11 => k_is)
    (case k11 => k_is)
    (case a12 => k_is)
    (case l12 => k_is)
    (case c12 => k_is)
    (case k12 => k_is)
    (case a13 => k_is)
    (case l13 => k_is)
    (case c13 => k_is)
    (case k13 => k_is)
    (case a14 => k_is)
    (case i14 => k_is)
    (case l14 => k_is)
    (case c14 => k_is)
    (case k14 => k_is)
    (case a15 => k_is)
    (case l15 => k_is)
    (case c15 => k_is)
    (case k15 => k_is)
    (case a16 => k_is)
    (case l16 => k_is)
    (case c16 => k_is)
    (case k16 => k_is)
    (case a17 => k_is)
    (case l17 => k_is)
    (case c17 => k_is)
    (case k17 => k_is)
    (case a18 => k_is)
    (case l18 => k_is)
    (case c18 => k_is)
    (case k18 => k_is)
    (case a19 => k_is)
    (case l19 => k_is)
    (case c19 => k_is)
    (case k19 => k_is)
    (case a20 => k_is)
    (case l20 => k_is)
    (case c20 => k_is)
    (case k20 => k_is)
    (case a21 => k_is)
    (case l21 => k_is)
    (case c21 => k_is)
    (case k21 => k_is)
    (case a22 => k_is)
    (case l22 => k_is)
    (case c22 => k_is)
    (case k22 => k_is)
    (case a23 => k_is)
    (case l23 => k_is)
    (case c23 => k_is)
    (case k23 => k_is)
    (case a24 => k_is)
    (case l24 => k_is)
    (case c24 => k_is)
    (case k24 => k_is)
    (case a25 => k_is)
    (case l25 => k_is)
    (case c25 => k_is)
    (case k25 => k_is)
    (case a26 => k_is)
    (case l26 => k_is)
    (case c26 => k_is)
    (case k26 => k_is)
    (case a27 => k_is)
    (case l27 => k_is)
    (case c27 => k_is)
    (case k27 => k_is)
    (case a28 => k_is)
    (case l28 => k_is)
    (case c28 => k_is)
    (case k28 => k_is)
    (case a29 => k_is)
    (case l29 => k_is)
    (case c29 => k_is)
    (case k29 => k_is)
    (case a30 => k_is)
    (case l30 => k_is)
    (case c30 => k_is)
    (case k30 => k_is)
    (case a31 => k_is)
    (case l31 => k_is)
    (case c31 => k_is)
    (case k31 => k_is)
    (case a32 => k_is)
    (case l32 => k_is)
    (case c32 => k_is)
    (case k32 => k_is)
    (case a33 => k_is)
    (case l33 => k_is)
    (case c33 => k_is)
    (case k33 => k_is)
    (case a34 => k_is)
    (case l34 => k_is)
    (case c34 => k_is)
    (case k34 => k_is)
    (case a35 => k_is)
    (case l35 => k_is)
    (case c35 => k_is)
    (case k35 => k_is)
    (case a36 => k_is)
    (case l36 => k_is)
    (case c36 => k_is)
    (case k36 => k_is)
    (case a37 => k_is)
    (case l37 => k_is)
    (case c37 => k_is)
    (case k37 => k_is)
    (case a38 => k_is)
    (case i38 => k_is)
    (case l38 => k_is)
    (case c38 => k_is)
    (case k38 => k_is)
    (case a39 => k_is)
    (case i39 => k_is)
    (case l39 => k_is)
    (case c39 => k_is)
    (case k39 => k_is)
    (case a40 => k_is)
    (case i40 => k_is)
    (case l40 => k_is)
    (case c40 => k_is)
    (case k40 => k_is)
    (case a41 => k_is)
    (case i41 => k_is)
    (case l41 => k_is)
    (case c41 => k_is)
    (case k41 => k_is)
    (case a42 => k_is)
    (case i42 => k_is)
    (case l42 => k_is)
    (case c42 => k_is)
    (case k42 => k_is)
    (case a43 => k_is)
    (case i43 => k_is)
    (case l43 => k_is)
    (case c43 => k_is)
    (case k43 => k_is)
    (case a44 => k_is)
    (case i44 => k_is)
    (case l44 => k_is)
    (case c44 => k_is)
    (case k44 => k_is)
    (case a45 => k_is)
    (case i45 => k_is)
    (case l45 => k_is)
    (case c45 => k_is)
    (case k45 => k_is)
    (case a46 => k_is)
    (case i46 => k_is)
    (case l46 => k_is)
    (case c46 => k_is)
    (case k46 => k_is)
    (case a47 => k_is)
    (case i47 => k_is)
    (case l47 => k_is)
    (case c47 => k_is)
    (case k47 => k_is)
    (case a48 => k_is)
    (case i48 => k_is)
    (case l48 => k_is)
    (case c48 => k_is)
    (case k48 => k_is)
    (case a49 => k_is)
    (case i49 => k_is)
    (case l49 => k_is)
    (case c49 => k_is)
    (case k49 => k_is)
    (case a50 => k_is)
    (case i50 => k_is)
    (case l50 => k_is)
    (case c50 => k_is)
    (case k50 => k_is)
    (case a51 => k_is)
    (case i51 => k_is)
    (case l51 => k_is)
    (case c51 => k_is)
    (case k51 => k_is)
    (case a52 => k_is)
    (case i52 => k_is)
    (case l52 => k_is)
    (case c52 => k_is)
    (case k52 => k_is)
    (case a53 => k_is)
    (case l53 => k_is)
    (case c53 => k_is)
    (case k53 => k_is)
    (case a54 => k_is)
    (case i54 => k_is)
    (case l54 => k_is)
    (case c54 => k_is)
    (case k54 => k_is)
    (case a55 => k_is)
    (case i55 => k_is)
    (case l55 => k_is)
    (case c55 => k_is)
    (case k55 => k_is)
    (case a56 => k_is)
    (case i56 => k_is)
    (case l56 => k_is)
    (case c56 => k_is)
    (case k56 => k_is)
    (case a57 => k_is)
    (case l57 => k_is)
    (case c57 => k_is)
    (case k57 => k_is)
    (case a58 => k_is)
    (case l58 => k_is)
    (case c58 => k_is)
    (case k58 => k_is)
    (case a59 => k_is)
    (case l59 => k_is)
    (case c59 => k_is)
    (case k59 => k_is)
    (case a60 => k_is)
    (case l60 => k_is)
    (case c60 => k_is)
    (case k60 => k_is)
    (case a61 => k_is)
    (case l61 => k_is)
    (case c61 => k_is)
    (case k61 => k_is)
    (case a62 => k_is)
    (case l62 => k_is)
    (case c62 => k_is)
    (case k62 => k_is)
    (case a63 => k_is)
    (case i63 => k_is)
    (case l63 => k_is)
    (case c63 => k_is)
    (case k63 => k_is)
    (case a64 => k_is)
    (case l64 => k_is)
    (case c64 => k_is)
    (case k64 => k_is)
    (case a65 => k_is)
    (case l65 => k_is)
    (case c65 => k_is)
    (case k65 => k_is)
    (case a66 => k_is)
    (case l66 => k_is)
    (case c66 => k_is)
    (case k66 => k_is)
    (case a67 => k_is)
    (case l67 => k_is)
    (case c67 => k_is)
    (case k67 => k_is)
