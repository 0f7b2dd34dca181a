import PyProof.Rows.All
import Wide.All
import OpenK.AllK
import Wide.FinOn
import HandS.ForMost
import HandS.IsInst
import HandS.Conv
import HandS.Wide
import HandS.SortInts
import HandS.TupAny
import HandS.Evl
import KE.GoesEnum
import HandS.Walk
import HandS.Codes
import HandS.Style
import HandS.Star
import HandS.Small
import HandS.TryMany
import HandS.TryOnly
import HandS.WordsExc
import HandS.SetKeys
import HandS.More
import HandS.RaiseMore
import HandS.CallSlots
import HandS.Deep
import HandS.Nested
import HandS.Lambda
import HandS.SetFor
import KE.DataFind
import HandS.WideBits
import HandS.DictComp
import HandS.Comp
import HandS.OwnEq
import PyProof.InstNe
import HandS.TupSets
import PySem.Challenge.RW_untriedways_k33_whole_lots_of_greatest_p
set_option Elab.async false
set_option maxRecDepth 100000
set_option maxHeartbeats 4000000
set_option linter.all false
/-! what all texts of mine share: calls by name, builtins, regions of the heap, kinds of values -/
namespace U
open PySem PySem.Spec PyProof.Rows L2

/-! ### a def of the text that keeps a promise, by its name -/
/-- the def fd stands at f -/
def Lk (K : PySem.W.Frag) (f : Addr) (fd : FuncData) : Prop := ∃ (oc : Value) (od : Option Addr) (sl : Array (Option Value)), K.lookup f = some ⟨oc, od, .func fd, sl⟩
structure Has (P : Program) (w : World) (K : PySem.W.Frag) (mg : Str → Option Value) (base : Heap) (x : Str) (k : Nat) (ps : List Str) (sp : Sp) : Prop where
  ex : ∃ f fd, mg x = some (.ref f) ∧ PySem.W.keepIn K (.ref f) = true ∧ Binds K fd ps [] ∧ FnOk P w K mg base CX0 k f fd ps sp ∧ Lk K f fd
/-- a def as the top leaves it -/
structure Df (K : PySem.W.Frag) (mg : Str → Option Value) (x : Str) (st : Stmt) (ps : List Str) : Prop where
  ex : ∃ f fd, mg x = some (.ref f) ∧ Fun K x x st f fd ∧ Binds K fd ps []
section
variable {X : Cx} {k j : Nat} {ps : List Str} {sp : Sp} {x : Str} {p pos : Pos} {e : Expr} {es : List Expr} {t : TA}
theorem pcall (h : Has X.prog X.w X.K X.mg X.base x k ps sp) (hr : Room j X.A) (hk : k ≤ j) (hg : Gl X x) (ha : PA X (e :: es) t) (hdb : (x == ("__debug__" : Str)) = false := by decide)
    (he : starEach (e :: es) X.env = (false, eval e X.env) :: starEach es X.env := by rfl) (hpl : (backTo pos (starEach es X.env)).any (·.1) = false := by rfl) :
    PE X (.Call (.Name x p) (e :: es) [] pos) (tCall sp [] E0 t) := by
  obtain ⟨f, fd, hm, kp, b, F, _⟩ := h.ex
  exact pe_call F (hr.mono hk) hg hm kp b .nil pass0 ha hdb he hpl
end
theorem Fun.lk {K : PySem.W.Frag} {x qual : Str} {st : Stmt} {f : Addr} {fd : FuncData} (F : Fun K x qual st f fd) : Lk K f fd := by
  obtain ⟨oc, od, kV, doc, pm, an, cdv, ct, osl, rfl, lk, hcd⟩ := F.ex
  exact ⟨_, _, _, lk⟩
theorem Df.has {P : Program} {w : World} {K : PySem.W.Frag} {mg : Str → Option Value} {base : Heap} {x : Str} {st : Stmt} {ps : List Str} {k : Nat} {sp : Sp} (d : Df K mg x st ps)
    (h : ∀ f fd, Fun K x x st f fd → FnOk P w K mg base CX0 k f fd ps sp) : Has P w K mg base x k ps sp := by
  obtain ⟨f, fd, hm, F, b⟩ := d.ex
  exact ⟨f, fd, hm, F.kp, b, h f fd F, Fun.lk F⟩

/-! ### a method, an __init__ that keeps a promise -/
structure HasM (P : Program) (w : World) (K : PySem.W.Frag) (mg : Str → Option Value) (base : Heap) (C : Addr) (m : Str) (k : Nat) (ps : List Str) (sp : Sp) : Prop where
  ex : ∃ f, ∃ fd, Meth K C m f ∧ Binds K fd ps [] ∧ FnOk P w K mg base CX0 k f fd ps sp ∧ Lk K f fd
section
variable {P : Program} {w : World} {K : PySem.W.Frag} {mg : Str → Option Value} {base : Heap} {C : Addr} {m : Str} {k : Nat} {ps : List Str} {sp : Sp}
theorem HasM.mt (h : HasM P w K mg base C m k ps sp) : Meth K C m h.ex.choose := h.ex.choose_spec.choose_spec.1
theorem HasM.b (h : HasM P w K mg base C m k ps sp) : Binds K h.ex.choose_spec.choose ps [] := h.ex.choose_spec.choose_spec.2.1
theorem HasM.F (h : HasM P w K mg base C m k ps sp) : FnOk P w K mg base CX0 k h.ex.choose h.ex.choose_spec.choose ps sp := h.ex.choose_spec.choose_spec.2.2.1
end
structure HasI (P : Program) (w : World) (K : PySem.W.Frag) (mg : Str → Option Value) (base : Heap) (C : Addr) (k : Nat) (ps : List Str) (sp : Sp) : Prop where
  ex : ∃ f, ∃ fd, Mk K C f ∧ Binds K fd ps [] ∧ FnOk P w K mg base CX0 k f fd ps sp ∧ Lk K f fd
section
variable {P : Program} {w : World} {K : PySem.W.Frag} {mg : Str → Option Value} {base : Heap} {C : Addr} {k : Nat} {ps : List Str} {sp : Sp}
theorem HasI.m (h : HasI P w K mg base C k ps sp) : Mk K C h.ex.choose := h.ex.choose_spec.choose_spec.1
theorem HasI.b (h : HasI P w K mg base C k ps sp) : Binds K h.ex.choose_spec.choose ps [] := h.ex.choose_spec.choose_spec.2.1
theorem HasI.F (h : HasI P w K mg base C k ps sp) : FnOk P w K mg base CX0 k h.ex.choose h.ex.choose_spec.choose ps sp := h.ex.choose_spec.choose_spec.2.2.1
end
/-- methods as the top leaves them -/
structure DfM (K : PySem.W.Frag) (C : Addr) (m : Str) (qual : Str) (st : Stmt) (ps : List Str) : Prop where
  ex : ∃ f fd, Meth K C m f ∧ Fun K m qual st f fd ∧ Binds K fd ps []
structure DfI (K : PySem.W.Frag) (C : Addr) (qual : Str) (st : Stmt) (ps : List Str) : Prop where
  ex : ∃ f fd, Mk K C f ∧ Fun K "__init__" qual st f fd ∧ Binds K fd ps []
theorem DfM.has {P : Program} {w : World} {K : PySem.W.Frag} {mg : Str → Option Value} {base : Heap} {C : Addr} {m qual : Str} {st : Stmt} {ps : List Str} {k : Nat} {sp : Sp} (d : DfM K C m qual st ps)
    (h : ∀ f fd, Fun K m qual st f fd → FnOk P w K mg base CX0 k f fd ps sp) : HasM P w K mg base C m k ps sp := by
  obtain ⟨f, fd, hm, F, b⟩ := d.ex
  exact ⟨f, fd, hm, b, h f fd F, Fun.lk F⟩
theorem DfI.has {P : Program} {w : World} {K : PySem.W.Frag} {mg : Str → Option Value} {base : Heap} {C : Addr} {qual : Str} {st : Stmt} {ps : List Str} {k : Nat} {sp : Sp} (d : DfI K C qual st ps)
    (h : ∀ f fd, Fun K "__init__" qual st f fd → FnOk P w K mg base CX0 k f fd ps sp) : HasI P w K mg base C k ps sp := by
  obtain ⟨f, fd, hm, F, b⟩ := d.ex
  exact ⟨f, fd, hm, b, h f fd F, Fun.lk F⟩
/-! ### the rules whose readings speak of the written part, K named -/
section
variable {X : Cx} {K : PySem.W.Frag}
def rLen (K : PySem.W.Frag) : List V → Hp → VK → Prop := fun xs H Q => ∃ p ys, xs = [.ref p] ∧ (SqL K H p ys ∨ SqT K H p ys) ∧ Q (.int ys.length) H
def rListOf (K : PySem.W.Frag) : List V → Hp → VK → Prop := fun xs H Q => ∃ p ys, xs = [.ref p] ∧ (SqL K H p ys ∨ SqT K H p ys) ∧ ∀ l, H l = none → Q (.ref l) (upd H l (.lst ys))
def rTupleOf (K : PySem.W.Frag) : List V → Hp → VK → Prop := fun xs H Q => ∃ p ys, xs = [.ref p] ∧ ((SqL K H p ys ∧ ∀ l, H l = none → Q (.ref l) (upd H l (.tup ys))) ∨ (SqT K H p ys ∧ Q (.ref p) H))
theorem k_ixl (h : X.K = K) : IxR X (rIxL K) := by subst h; exact ix_list
theorem k_ixt (h : X.K = K) : IxR X (rIxT K) := by subst h; exact ix_tup
theorem k_ixx (h : X.K = K) : IxR X (rIx K) := by subst h; exact ix_seq
theorem k_in (h : X.K = K) : OpR X (compareOp .In) (rIn K false) := by subst h; exact op_in_seq
theorem k_notin (h : X.K = K) : OpR X (compareOp .NotIn) (rIn K true) := by subst h; exact op_notIn_seq
theorem k_cat (h : X.K = K) : OpR X (binaryOp .Add) (rCatA K) := by subst h; exact op_catA
theorem k_eqD (h : X.K = K) (hu : X.A.units + 64 < cLine) : OpR X (compareOp .Eq) (rEqD K) := by subst h; exact op_eqD hu
theorem k_neD (h : X.K = K) (hu : X.A.units + 64 < cLine) : OpR X (compareOp .NotEq) (rNeD K) := by subst h; exact op_neD hu
theorem k_len (h : X.K = K) : CallR X (.builtin "len") (rLen K) := by subst h; exact call_len_seq
theorem k_list (h : X.K = K) : CallR X (.type "list") (rListOf K) := by subst h; exact call_list_of
theorem k_tuple (h : X.K = K) : CallR X (.type "tuple") (rTupleOf K) := by subst h; exact call_tuple_of
theorem k_all (h : X.K = K) (hc : X.calm = true) : CallR X (.builtin "all") (rAll K) := by subst h; exact cr_all hc
theorem k_any (h : X.K = K) (hc : X.calm = true) : CallR X (.builtin "any") (rAny K) := by subst h; exact cr_any hc
theorem k_sorted (h : X.K = K) : CallR X (.builtin "sorted") (rSortedI K) := by subst h; exact cr_sortedI
theorem k_isi (h : X.K = K) : CallR X (.builtin "isinstance") (rIsi K) := by subst h; exact call_isi
theorem k_sll (h : X.K = K) : SlR X (rSlL K) := by subst h; exact sl_list
theorem k_slt (h : X.K = K) : SlR X (rSlA K) := by subst h; exact sl_tupA
theorem k_fld {e : Expr} {ta : TE} {f : Str} {pos : Pos} (h : X.K = K) (he : PE X e ta) (hb : attributeBase e f X.env (eval e X.env) = eval e X.env) : PE X (.Attribute e f pos) (tFld K ta f) := by subst h; exact pe_fld he hb
theorem k_pil {tg l : Expr} {tl : TE} (h : X.K = K) (hl : PE X l tl) : PI X tg l (iList K tl) := by subst h; exact pi_list hl
theorem k_pit {tg l : Expr} {tl : TE} (h : X.K = K) (hl : PE X l tl) : PI X tg l (iTup K tl) := by subst h; exact pi_tup hl
theorem k_tru {a : Expr} {ta : TE} (h : X.K = K) (ha : PE X a ta) (he : ∀ whole, isTrue a X.env whole = (do let v ← whole; standAt a.pos; holding [v] (truthy v))) :
    PT X a (fun σ H Q => ta σ H fun x H1 => ∃ k, TruV K x H1 k ∧ Q k H1) := by subst h; exact pt_truth ha he
end
/-! ### builtins -/
structure Bt (mg : Str → Option Value) : Prop where
  len : mg "len" = none
  all : mg "all" = none
  any : mg "any" = none
  sorted : mg "sorted" = none
  isinstance : mg "isinstance" = none
  abs : mg "abs" = none
  min : mg "min" = none
  max : mg "max" = none
  range : mg "range" = none
  enumerate : mg "enumerate" = none
  int : mg "int" = none
  list : mg "list" = none
  tuple : mg "tuple" = none
  str : mg "str" = none
  bool : mg "bool" = none
  repr : mg "repr" = none
  zip : mg "zip" = none
  set : mg "set" = none
  sum : mg "sum" = none
theorem bo_len : bootBuiltins "len" = some (.builtin "len") := by decide +kernel
theorem bo_all : bootBuiltins "all" = some (.builtin "all") := by decide +kernel
theorem bo_any : bootBuiltins "any" = some (.builtin "any") := by decide +kernel
theorem bo_sorted : bootBuiltins "sorted" = some (.builtin "sorted") := by decide +kernel
theorem bo_isinstance : bootBuiltins "isinstance" = some (.builtin "isinstance") := by decide +kernel
theorem bo_abs : bootBuiltins "abs" = some (.builtin "abs") := by decide +kernel
theorem bo_min : bootBuiltins "min" = some (.builtin "min") := by decide +kernel
theorem bo_max : bootBuiltins "max" = some (.builtin "max") := by decide +kernel
theorem bo_sum : bootBuiltins "sum" = some (.builtin "sum") := by decide +kernel
theorem bo_int : bootBuiltins "int" = some (.type "int") := by decide +kernel
theorem bo_list : bootBuiltins "list" = some (.type "list") := by decide +kernel
theorem bo_tuple : bootBuiltins "tuple" = some (.type "tuple") := by decide +kernel
theorem bo_str : bootBuiltins "str" = some (.type "str") := by decide +kernel
theorem bo_bool : bootBuiltins "bool" = some (.type "bool") := by decide +kernel

/-! ### kinds of values -/
/-- the type of the value is one of those built-in types -/
structure Kn (K : PySem.W.Frag) (H : Hp) (v : V) (s : String) : Prop where
  ty : TyX K H v (.type s)
  mem : s ∈ ["NoneType", "bool", "int", "str", "list", "tuple", "dict"]
/-- whether a value is an int (no bool) -/
def isI : V → Bool
  | .int _ => true
  | _ => false
def idxV (v : V) (m : Int) : Bool := match v with
  | .int i => decide (0 ≤ i) && decide (i < m)
  | _ => false
def lotFrom (m : Int) : Int → List V → Bool
  | _, [] => true
  | l, .int i :: r => decide (0 ≤ i) && decide (i < m) && decide (l < i) && lotFrom m i r
  | _, _ :: _ => false
theorem kn_int {K : PySem.W.Frag} {H : Hp} {v : V} {s : String} (h : Kn K H v s) : isI v = (s == "int") := by
  obtain ⟨t, m⟩ := h
  cases t with
  | base b => cases b <;> rfl
  | byt b => simp at m
  | set e => simp at m
  | _ => rfl
theorem kit_int {K : PySem.W.Frag} {s : String} (m : s ∈ ["NoneType", "bool", "int", "str", "list", "tuple", "dict"]) : PySem.W.kitOne K (.type s) (.type "int") = some (s == "int" || s == "bool") := by
  simp only [List.mem_cons, List.not_mem_nil, or_false] at m
  rcases m with rfl | rfl | rfl | rfl | rfl | rfl | rfl <;> exact kit_ty (by decide +kernel)
theorem kit_bool {K : PySem.W.Frag} {s : String} (m : s ∈ ["NoneType", "bool", "int", "str", "list", "tuple", "dict"]) : PySem.W.kitOne K (.type s) (.type "bool") = some (s == "bool") := by
  simp only [List.mem_cons, List.not_mem_nil, or_false] at m
  rcases m with rfl | rfl | rfl | rfl | rfl | rfl | rfl <;> exact kit_ty (by decide +kernel)
theorem kit_tuple {K : PySem.W.Frag} {s : String} (m : s ∈ ["NoneType", "bool", "int", "str", "list", "tuple", "dict"]) : PySem.W.kitOne K (.type s) (.type "tuple") = some (s == "tuple") := by
  simp only [List.mem_cons, List.not_mem_nil, or_false] at m
  rcases m with rfl | rfl | rfl | rfl | rfl | rfl | rfl <;> exact kit_ty (by decide +kernel)
theorem kn_of_int {K : PySem.W.Frag} {H : Hp} {i : Int} : Kn K H (.int i) "int" := ⟨.base (.int i), by simp⟩
theorem kn_of_tup {K : PySem.W.Frag} {H : Hp} {a : Addr} {xs : List V} (h : SqT K H a xs) : Kn K H (.ref a) "tuple" := by
  rcases h with (h | ⟨o, h⟩) | ⟨o, its, n, h1, h2, _⟩
  · exact ⟨.base (.tup h), by simp⟩
  · exact ⟨.fTuple h, by simp⟩
  · exact ⟨.kTuple h1 h2, by simp⟩

def nV (n : Nat) : V := .int (n : Int)
theorem lot_nat {m : Int} : ∀ {xs : List V} {l : Int}, -1 ≤ l → lotFrom m l xs = true → ∃ gs : List Nat, xs = gs.map nV ∧ (∀ g ∈ gs, (g : Int) < m ∧ l < (g : Int)) ∧ gs.Pairwise (· < ·)
  | [], _, _, _ => ⟨[], rfl, fun _ h => (List.not_mem_nil h).elim, List.Pairwise.nil⟩
  | .int i :: r, l, hl, h => by
    have h' : (decide (0 ≤ i) && decide (i < m) && decide (l < i) && lotFrom m i r) = true := h
    simp only [Bool.and_eq_true, decide_eq_true_eq] at h'
    obtain ⟨⟨⟨h0, h1⟩, h2⟩, h3⟩ := h'
    obtain ⟨gs, e, hg, hp⟩ := lot_nat (l := i) (by omega) h3
    refine ⟨i.toNat :: gs, ?_, fun g hm => ?_, List.Pairwise.cons (fun g hm => ?_) hp⟩
    · rw [List.map_cons, ← e]
      congr 2
      omega
    · rcases List.mem_cons.mp hm with rfl | hm
      · exact ⟨by omega, by omega⟩
      · obtain ⟨a, b⟩ := hg g hm
        exact ⟨a, by omega⟩
    · have := (hg g hm).2
      omega
  | .non :: _, _, _, h => by cases h
  | .bl _ :: _, _, _, h => by cases h
  | .str _ :: _, _, _, h => by cases h
  | .byt _ :: _, _, _, h => by cases h
  | .flt _ :: _, _, _, h => by cases h
  | .ref _ :: _, _, _, h => by cases h
  | .ty _ :: _, _, _, h => by cases h
theorem lot_of {m : Int} : ∀ {gs : List Nat} {l : Int}, (∀ g ∈ gs, (g : Int) < m ∧ l < (g : Int)) → gs.Pairwise (· < ·) → lotFrom m l (gs.map nV) = true
  | [], _, _, _ => rfl
  | g :: r, l, h, hp => by
    obtain ⟨h1, h2⟩ := h g List.mem_cons_self
    have h3 : lotFrom m (g : Int) (r.map nV) = true := lot_of (fun x hx => ⟨(h x (List.mem_cons_of_mem _ hx)).1, by have := List.rel_of_pairwise_cons hp hx; omega⟩) hp.of_cons
    show (decide (0 ≤ (g : Int)) && decide ((g : Int) < m) && decide (l < (g : Int)) && lotFrom m (g : Int) (r.map nV)) = true
    rw [h3]
    simp only [Bool.and_eq_true, decide_eq_true_eq]
    exact ⟨⟨⟨by omega, h1⟩, h2⟩, trivial⟩
/-! ### regions -/
/-- M: what may be changed; F: what was written once for ever -/
structure Grow (M : Addr → Prop) (F H F' H' : Hp) : Prop where
  same : ∀ a o, ¬ M a → H a = some o → H' a = some o
  live : ∀ a, H a ≠ none → H' a ≠ none
  sub : Same F F'
  sub' : Same F' H'
  fresh : ∀ a, F' a ≠ none → F a = none → H a = none
theorem Grow.refl {M : Addr → Prop} {F H : Hp} (h : Same F H) : Grow M F H F H := ⟨fun _ _ _ h => h, fun _ h => h, Same.refl F, h, fun _ a b => absurd b a⟩
theorem Grow.trans {M M' : Addr → Prop} {F H F1 H1 F2 H2 : Hp} (g : Grow M F H F1 H1) (g' : Grow M' F1 H1 F2 H2) (hm : ∀ a, M' a → M a ∨ H a = none) : Grow M F H F2 H2 where
  same := fun a o m h => g'.same a o (fun z => (hm a z).elim m fun e => by rw [e] at h; cases h) (g.same a o m h)
  live := fun a h => g'.live a (g.live a h)
  sub := g.sub.trans g'.sub
  sub' := g'.sub'
  fresh := fun a h2 h0 => by
    by_cases h1 : F1 a = none
    · have e := g'.fresh a h2 h1
      exact Classical.byContradiction fun z => g.live a z e
    · exact g.fresh a h1 h0
theorem same_new {H H1 : Hp} {p : Addr} {o : HO} (e : Same H H1) (h : H1 p = none) : Same H (upd H1 p o) := fun b u q => by
  have q1 := e b u q
  rw [upd_ne (ne_of_none q1 h)]
  exact q1
theorem same_mut {H H1 : Hp} {p : Addr} {o : HO} (e : Same H H1) (h : H p = none) : Same H (upd H1 p o) := fun b u q => by
  rw [upd_ne (ne_of_none q h)]
  exact e b u q
theorem Same.sqt {K : PySem.W.Frag} {H H' : Hp} {a : Addr} {xs : List V} (e : Same H H') (h : SqT K H a xs) : SqT K H' a xs := by
  rcases h with (h | ⟨o, h⟩) | h
  · exact .inl (.inl (e _ _ h))
  · exact .inl (.inr ⟨o, e _ _ h⟩)
  · exact .inr h
theorem sql {K : PySem.W.Frag} {H : Hp} {a : Addr} {xs : List V} (h : H a = some (.lst xs)) : SqL K H a xs := .inl (.inl h)
theorem sqt {K : PySem.W.Frag} {H : Hp} {a : Addr} {xs : List V} (h : H a = some (.tup xs)) : SqT K H a xs := .inl (.inl h)

theorem tyes {σ : L2.St} {H : Hp} {Q : Bool → Hp → Prop} (h : Q true H) : tYes σ H Q := h
/-! ### lists and places -/
theorem drop_cons_of {α : Type} {xs : List α} {i : Nat} {x : α} (hx : xs[i]? = some x) : xs.drop i = x :: xs.drop (i + 1) := by
  have hi := (List.getElem?_eq_some_iff.mp hx).1
  rw [List.drop_eq_getElem_cons hi, (List.getElem?_eq_some_iff.mp hx).2]
theorem take_snoc_of {α : Type} {xs : List α} {i : Nat} {x : α} (hx : xs[i]? = some x) : xs.take (i + 1) = xs.take i ++ [x] := by
  rw [List.take_add_one, hx]
  rfl
theorem ixN_nat {n j : Nat} (h : j < n) : ixN n (j : Int) = some j := by
  unfold ixN
  rw [if_pos (by omega), if_pos (by omega)]
  rfl
theorem small_sz {n : Nat} (h : n ≤ 100000) : n ≤ sizeLine := Nat.le_trans h (by decide)
theorem small_lt {n : Nat} (h : n ≤ 100000) : n < sizeLine := Nat.lt_of_le_of_lt h (by decide)
theorem getmap {α β : Type} {f : α → β} {xs : List α} {i : Nat} {y : β} (h : (xs.map f)[i]? = some y) : ∃ x, xs[i]? = some x ∧ f x = y := by
  rw [List.getElem?_map] at h
  cases e : xs[i]? with
  | none => rw [e] at h; cases h
  | some x => rw [e] at h; exact ⟨x, rfl, Option.some.inj h⟩
theorem set_map_range {β : Type} {n z : Nat} {f : Nat → β} {b : β} : ((List.range n).map f).set z b = (List.range n).map (fun i => if i = z then b else f i) := by
  apply List.ext_getElem?
  intro i
  rw [List.getElem?_set, List.getElem?_map, List.getElem?_map, List.length_map, List.length_range]
  by_cases h : z = i
  · subst h
    by_cases hz : z < n
    · rw [if_pos rfl, if_pos hz, List.getElem?_range hz]
      simp
    · rw [if_pos rfl, if_neg hz, List.getElem?_eq_none (by simpa using hz)]
      rfl
  · rw [if_neg h]
    by_cases hi : i < n
    · rw [List.getElem?_range hi]
      simp [Ne.symm h]
    · rw [List.getElem?_eq_none (by simpa using hi)]
      rfl
theorem get_map_range {β : Type} {n j : Nat} {f : Nat → β} (h : j < n) : ((List.range n).map f)[j]? = some (f j) := by
  rw [List.getElem?_map, List.getElem?_range h]
  rfl
theorem Grow.same0 {F H F' H' : Hp} (g : Grow (fun _ => False) F H F' H') : Same H H' := fun a o h => g.same a o (fun z => z) h
end U

/-! enumerate over a tuple -/
namespace U
open PySem PySem.Spec PyProof.Rows L2

abbrev enumO (a : Addr) : Obj := { cls := .type "enumerate", data := .fields #[.none, .bool false, .ref a, rawInt 0, .none, .none] }
theorem new_enum_tuple (l : Addr) (items : Array Value) (n : Nat) (dct : Option Addr) (sl : Array (Option Value)) :
    Meets (Builtin.«enumerate.__new__» ⟨[.type "enumerate", .ref l], []⟩) (fun _ R s =>
      s.heap.get? l = some { cls := .type "tuple", dict := dct, data := .seq items n, slots := sl } ∧
      R (.ok (.ret (.ref (s.heap.push { cls := .type "tuple_iterator", data := .fields #[.ref l, .int 0 0] }).objs.size)))
        { s with heap := ((s.heap.push { cls := .type "tuple_iterator", data := .fields #[.ref l, .int 0 0] }).push (enumO s.heap.objs.size)) }) :=
  .of_wp fun prog w A R s h => by
    obtain ⟨hp, g, d, tk, os⟩ := s
    obtain ⟨hl, h⟩ := h
    have hsub := sub_enumerate
    have hT : Heap.IsTuple (Shared.heap ⟨hp, g, d, tk, os⟩) l items := ⟨_, hl, rfl, n, rfl⟩
    wp_walk using AutoSeq1.wpAny_loadPart' hl
    refine wpAny_stack_any fun st => wpAny_pure ?_
    split
    · rename_i c _ _ _ _ _
      cases (c == Value.type "enumerate") <;>
      · wp_walk using AutoSeq1.wpAny_loadPart' hl, wpAny_pyIter_tuple hT
        exact ⟨_, rfl, h⟩
    · wp_walk using AutoSeq1.wpAny_loadPart' hl, wpAny_pyIter_tuple hT
      exact ⟨_, rfl, h⟩

theorem call_enum_tuple {prog : Program} {w : World} {A : Around} {E : Value → Shared → Prop} {s : Shared} {l : Addr} {items : Array Value} {Q : Value → Shared → Prop} (hT : s.heap.IsTuple l items)
    (h : ∀ h', IsEnum h' (s.heap.objs.size + 1) s.heap.objs.size 0 .none → h'.IsTupleIter s.heap.objs.size l 0 →
      (∀ b o, s.heap.get? b = some o → h'.get? b = some o) → Q (.ref (s.heap.objs.size + 1)) { s with heap := h' }) :
    wpAny (model prog w) A (call (.type "enumerate") [.ref l]) Q E s := by
  obtain ⟨⟨c, dct, dt, sl⟩, hl, rfl, n, rfl⟩ := hT
  refine callType_new F.called_enumerate (by decide) (F.typeCall_enumerate_1 _) (F.newCall_enumerate_1 _)
    (fun obj => F.args_object_init_2 obj _) F.entry_enumerate_new (new_enum_tuple l items n dct sl) ⟨hl, ?_⟩
  have hz : (s.heap.push { cls := .type "tuple_iterator", data := .fields #[.ref l, .int 0 0] }).objs.size = s.heap.objs.size + 1 := Heap.size_push ..
  show _ ∧ _
  rw [hz]
  have he := Heap.get?_push_size (s.heap.push { cls := .type "tuple_iterator", data := .fields #[.ref l, .int 0 0] })
    (o := enumO s.heap.objs.size) rfl
  rw [hz] at he
  exact ⟨⟨_, he, rfl⟩, h _ he ⟨_, Heap.get?_push_of_some _ (Heap.get?_push_size _ rfl), rfl, rfl⟩
    fun b o x => Heap.get?_push_of_some _ (Heap.get?_push_of_some _ x)⟩

/-- the tuple at a, each item in a new pair with its place -/
def ItT (K : PySem.W.Frag) (a : Addr) : It :=
  ⟨fun i H => ∃ (xs : List V) (x : V), SqT K H a xs ∧ xs[i]? = some x,
   fun i H v H' => ∃ T x, v = .ref T ∧ H T = none ∧ H' = upd H T (.tup [.int (i : Nat), x]) ∧ ∀ xs, SqT K H a xs → xs[i]? = some x,
   fun i H => ∃ xs : List V, SqT K H a xs ∧ xs.length = i⟩
theorem apart_tuple {h : Heap} {a b : Addr} {items : Array Value} {o : Obj} {c : String} (ht : h.IsTuple a items) (hb : h.get? b = some o) (hc : o.cls = .type c) (hd : (c == "tuple") = false) : b ≠ a := by
  rintro rfl
  obtain ⟨o', h1, h2, _⟩ := ht
  rw [h1] at hb
  cases hb
  rw [h2] at hc
  cases hc
  exact absurd hd (by decide)
theorem turnT {P : Program} {w : World} {K : PySem.W.Frag} {elts : List Expr} {kk : Nat} {tpos : Pos} (a e it : Addr) :
    Turn P w K (.Tuple elts kk tpos) (ItT K a) [e, it] e (fun i h => (∃ old, IsEnum h e it ((i : Nat) : Int) old) ∧ h.IsTupleIter it a i ∧ e ≠ it) where
  mem := List.mem_cons_self
  obj := fun i h st b hb => by
    obtain ⟨⟨old, he⟩, ⟨o, ho, hc, hd⟩, _⟩ := st
    rcases List.mem_cons.mp hb with z | z
    · subst z
      exact ⟨_, he, fun v q => nomatch q⟩
    · have z := List.mem_singleton.mp z
      subst z
      exact ⟨o, ho, fun v q => by rw [hd] at q; cases q⟩
  keep := fun i h h' ⟨⟨old, he⟩, hi, hne⟩ k => ⟨⟨old, k e List.mem_cons_self _ he⟩, hi.at fun o q => k it (List.mem_cons_of_mem _ List.mem_cons_self) o q, hne⟩
  item := by
    intro X hP hw hK hc i pins s σ H E I hf st hg
    subst hP; subst hw; subst hK
    obtain ⟨⟨old, he⟩, hit, hne⟩ := st
    obtain ⟨xs, x, hq, hx⟩ := hg
    obtain ⟨its, rv, p0, hz⟩ := I.tuple hq
    have p : s.heap.IsTuple a its.toArray := p0
    obtain ⟨u, hu, ru⟩ := rv.get hx
    have hui : its.toArray[i]? = some u := by rw [List.getElem?_toArray]; exact hu
    have hilt : i < its.toArray.size := (Array.getElem?_eq_some_iff.mp hui).1
    have hea : e ≠ a := apart_tuple p he rfl (by decide)
    have hia : it ≠ a := by
      obtain ⟨o, h1, h2, _⟩ := id hit
      exact apart_tuple p h1 h2 (by decide)
    have hel : e < s.heap.objs.size := Heap.lt_size he
    have hil : it < s.heap.objs.size := by obtain ⟨_, q, _⟩ := id hit; exact Heap.lt_size q
    refine wpAny_pyNext_enum_itemD (Draws.tuple (A := X.A.in1) (show X.A.in1.handled = none from I.ok.hd hc) it a hia.symm its.toArray) he ⟨hit, p⟩ hilt hne (by simp [hne, hea])
      fun x' h' tk hx' ho hit' hT hsz hk => ?_
    rw [hui] at hx'
    cases hx'
    refine ⟨_, rfl, wpAny_letOwnedTupleGo_enum (s := { s with heap := h', toks := tk + 1 }) ho fun h'' he' sb => ?_⟩
    have hT2 : h''.get? s.heap.objs.size = some { cls := .type "tuple", data := .seq #[.int i tk, u] } :=
      Eq.trans (sb.2 _ (Nat.ne_of_gt hel)) hT
    have new : ObjOk X.prog X.w (upd H s.heap.objs.size (.tup [.int (i : Nat), x])) h'' s.heap.objs.size (.tup [.int (i : Nat), x]) :=
      ⟨by show 2 ≤ sizeLine; decide, [.int i tk, u], .cons ⟨_, rfl⟩ (.cons ru .nil), ⟨_, hT2, rfl, _, rfl⟩⟩
    have keeps : ∀ b ob, b ∉ [e, it] → s.heap.get? b = some ob → h''.get? b = some ob := fun b ob hb q => by
      have b1 : b ≠ e := fun z => hb (by simp [z])
      have b2 : b ≠ it := fun z => hb (by simp [z])
      exact Eq.trans (sb.2 b b1) (hk b ob b1 b2 q)
    have I1 : Inv X pins σ (upd H s.heap.objs.size (.tup [.int (i : Nat), x])) { s with heap := h'', toks := tk + 1 } :=
      I.turnedNew (ch := [e, it]) keeps hf (Nat.le_refl _) new
    have fr := I.hok.fresh (Nat.le_refl s.heap.objs.size)
    refine ⟨.ref s.heap.objs.size, _, I1, rfl, ⟨_, x, rfl, fr, rfl, fun ys hy => by rw [I.tuple_inj hy hq]; exact hx⟩,
      ⟨⟨u, ?_⟩, hit'.1.at fun o q => Eq.trans (sb.2 it hne.symm) q, hne⟩, fun b hb => ?_⟩
    · rw [show ((i + 1 : Nat) : Int) = (i : Int) + 1 by omega]
      exact he'
    · have hb' : b < s.heap.objs.size := by
        rcases List.mem_cons.mp hb with z | z
        · rw [z]; exact hel
        · rw [List.mem_singleton.mp z]; exact hil
      rw [upd_ne (Nat.ne_of_lt hb')]
      exact (hf b hb).1
  done := by
    intro X hP hw hK hc i pins s σ H E I hf st hg
    subst hP; subst hw; subst hK
    obtain ⟨⟨old, he⟩, hit, hne⟩ := st
    obtain ⟨xs, hq, hx⟩ := hg
    obtain ⟨its, rv, p0, hz⟩ := I.tuple hq
    have p : s.heap.IsTuple a its.toArray := p0
    have hia : it ≠ a := by
      obtain ⟨o, h1, h2, _⟩ := id hit
      exact apart_tuple p h1 h2 (by decide)
    obtain ⟨f0, f1, f2, f3, f4, f5⟩ := hf it (List.mem_cons_of_mem _ List.mem_cons_self)
    have hl : its.toArray.size = i := by rw [List.size_toArray, ← rv.length]; exact hx
    · subst hl
      exact wpAny_pyNext_enum_endD (Draws.tuple (A := X.A.in1) (show X.A.in1.handled = none from I.ok.hd hc) it a hia.symm its.toArray) he ⟨hit, p⟩
        fun h' eb => ⟨rfl, I.turned (t' := s.toks) (fun b o hb q => eb b o hb q) f0 f1 f3 f4 f5⟩
  self := fun A i s Q E ⟨⟨_, he⟩, _⟩ h => wpAny_pyIter_enum he h
def iEnT (K : PySem.W.Frag) (ta : TA) : TI := fun σ H R => ta σ H fun vs H1 => ∃ a xs, vs = [.ref a] ∧ SqT K H1 a xs ∧ R (ItT K a) H1
theorem pi_enumT {X : Cx} {e : Expr} {ta : TA} {p pos tpos : Pos} {elts : List Expr} {kk : Nat} (hg : Gl X "enumerate") (hm : X.mg "enumerate" = none) (ha : PA X [e] ta)
    (hs : starEach [e] X.env = [(false, eval e X.env)] := by rfl) : PI X (.Tuple elts kk tpos) (.Call (.Name "enumerate" p) [e] [] pos) (iEnT X.K ta) := by
  refine ⟨fun pins s σ H R I h => Call_ (ld_blt I hg hm boot_enumerate (PyProof.Rows.callWith_type1 (thn (ha.run pos pins s σ H _ I h) fun us s1 hh => ?_) hs rfl))⟩
  obtain ⟨vs, H1, I1, r1, a, xs, rfl, hq, q⟩ := hh
  cases r1 with
  | cons r rr =>
    cases rr
    cases r
    obtain ⟨its, rv, p', hz⟩ := I1.tuple hq
    refine call_enum_tuple (show s1.heap.IsTuple a its.toArray from p') fun h' he hit hk => wpAny_pyIter_enum he ?_
    refine ⟨s1.heap.objs.size + 1, [s1.heap.objs.size + 1, s1.heap.objs.size], _, _, H1, rfl, I1.kept (t' := s1.toks) hk, turnT a (s1.heap.objs.size + 1) s1.heap.objs.size,
      ⟨⟨.none, he⟩, hit, Nat.succ_ne_self _⟩, fun b hb => ?_, q⟩
    have hle : s1.heap.objs.size ≤ b := by
      rcases List.mem_cons.mp hb with z | z
      · rw [z]; exact Nat.le_add_right _ _
      · rw [List.mem_singleton.mp z]; exact Nat.le_refl _
    exact I1.fpOk hle (I1.hok.fresh hle)
end U

/-! comprehensions and loops in the forms that are wanted most -/
namespace U
open PySem PySem.Spec PyProof.Rows L2
variable {K : PySem.W.Frag} {a : Addr} {xs : List V}
theorem walkT : Walk (ItT K a) xs.length (fun H => SqT K H a xs) (YPair (fun i => some (.int (i : Nat))) (fun i => xs[i]?)) := by
  refine ⟨fun i _ hi q => ⟨xs, xs[i], q, by simp [hi]⟩, fun _ q => ⟨xs, q, rfl⟩, fun i H v H' _ q y => ?_⟩
  obtain ⟨T, x, h1, h2, h3, h4⟩ := y
  exact ⟨T, .int (i : Nat), x, h1, h2, h3, rfl, h4 xs q⟩
theorem fm_range {α β : Type} {F : α → Option β} : ∀ {xs : List α}, (List.range xs.length).filterMap (fun i => (xs[i]?).bind F) = xs.filterMap F
  | [] => rfl
  | x :: r => by
    rw [List.length_cons, List.range_succ_eq_map, List.filterMap_cons, List.filterMap_map, List.filterMap_cons]
    have e : ((fun i => ((x :: r)[i]?).bind F) ∘ Nat.succ) = fun i => (r[i]?).bind F := by
      funext i
      simp
    rw [e, fm_range]
    rfl
theorem fm_some {α β : Type} {f : α → β} {xs : List α} : xs.filterMap (fun x => some (f x)) = xs.map f := by
  rw [← List.filterMap_eq_map]
  rfl
theorem flat_nats (ns : List Nat) : (ns.map nV).all flatV = true := by
  rw [List.all_map]
  exact List.all_eq_true.mpr fun _ _ => rfl
theorem inV_nats (z : Nat) (ns : List Nat) : inV (nV z) (ns.map nV) = decide (z ∈ ns) := by
  unfold inV
  rw [List.any_map, Bool.eq_iff_iff, List.any_eq_true, decide_eq_true_eq]
  constructor
  · rintro ⟨y, hy, e⟩
    have e' : ((y : Int) == (z : Int)) = true := e
    have e2 : (y : Int) = (z : Int) := eq_of_beq e'
    have e3 : y = z := by omega
    rw [← e3]
    exact hy
  · intro h
    refine ⟨z, h, ?_⟩
    show ((z : Int) == (z : Int)) = true
    exact beq_self_eq_true _
theorem nodup_le {ns : List Nat} {n : Nat} (h : ns.Nodup) (hn : ∀ z ∈ ns, z < n) : ns.length ≤ n := by
  have := h.length_le_of_subset (l₂ := List.range n) fun z hz => List.mem_range.mpr (hn z hz)
  rw [List.length_range] at this
  exact this
/-! ### a walked thing that is a list or a tuple -/
def SqX (K : PySem.W.Frag) (H : Hp) (a : Addr) (xs : List V) : Prop := SqL K H a xs ∨ SqT K H a xs
theorem Same.sqx {H H' : Hp} (e : Same H H') (h : SqX K H a xs) : SqX K H' a xs := h.elim (fun z => .inl (Same.seq e z)) fun z => .inr (Same.sqt e z)
def iSeq (K : PySem.W.Frag) (tl : TE) : TI := fun σ H R => tl σ H fun x H1 => ∃ a, x = .ref a ∧ (((∃ xs, SqL K H1 a xs) ∧ R (Itl K a) H1) ∨ ((∃ xs, SqT K H1 a xs) ∧ R (Itt K a) H1))
theorem k_pis {X : Cx} {tg l : Expr} {tl : TE} (h : X.K = K) (hl : PE X l tl) : PI X tg l (iSeq K tl) := by
  subst h
  refine ⟨fun pins s σ H R I h => thn (hl.run pins s σ H _ I h) fun v s1 ⟨x, H1, I1, r1, a, e, q⟩ => ?_⟩
  subst e
  cases r1
  have new : ∀ b ∈ [s1.heap.objs.size], FpOk X pins H1 b := fun b hb => by
    rw [List.mem_singleton.mp hb]
    exact I1.fpOk (Nat.le_refl _) (I1.hok.fresh (Nat.le_refl _))
  rcases q with ⟨⟨xs, hq⟩, q⟩ | ⟨⟨xs, hq⟩, q⟩
  · obtain ⟨its, rv, p, hz⟩ := I1.list hq
    exact wpAny_pyIter_list p.isList ⟨s1.heap.objs.size, [s1.heap.objs.size], _, _, H1, rfl, I1.kept (t' := s1.toks) fun b o e => Heap.get?_push_of_some _ e,
      turn_list a _, ⟨_, Heap.get?_push_size _ rfl, rfl, rfl⟩, new, q⟩
  · obtain ⟨its, rv, p, hz⟩ := I1.tuple hq
    exact wpAny_pyIter_tuple (show s1.heap.IsTuple a its.toArray from p) ⟨s1.heap.objs.size, [s1.heap.objs.size], _, _, H1, rfl, I1.kept (t' := s1.toks) fun b o e => Heap.get?_push_of_some _ e,
      turn_tuple a _, ⟨_, Heap.get?_push_size _ rfl, rfl, rfl⟩, new, q⟩
theorem for_seq {g : TG} {tb : TS} {D : Ends} {σ : L2.St} {H0 H : Hp} (hS : SqX K H0 a xs) (Pv : Nat → L2.St → Hp → Prop) (h0 : Pv 0 σ H) (hl : ∀ i σ H', i ≤ xs.length → Pv i σ H' → Same H0 H')
    (hs : ∀ i x σ H, xs[i]? = some x → Pv i σ H → g x σ H fun σ2 H2 => tb { D with nx := Pv (i + 1), ct := Pv (i + 1), bk := D.nx } σ2 H2) (hd : ∀ σ H, Pv xs.length σ H → D.nx σ H) :
    ((∃ xs, SqL K H a xs) ∧ ∃ W : Nat → Nat → L2.St → Hp → Prop, (∃ m, W 0 m σ H) ∧ ∀ i m σ H, W i m σ H →
      ((Itl K a).stop i H ∧ D.nx σ H) ∨ ((Itl K a).go i H ∧ ∃ N : L2.St → Hp → Prop, (∀ σ' H', N σ' H' → ∃ m', m' < m ∧ W (i + 1) m' σ' H') ∧ ∀ x H', (Itl K a).yld i H x H' → g x σ H' fun σ2 H2 => tb { D with nx := N, ct := N, bk := D.nx } σ2 H2)) ∨
    ((∃ xs, SqT K H a xs) ∧ ∃ W : Nat → Nat → L2.St → Hp → Prop, (∃ m, W 0 m σ H) ∧ ∀ i m σ H, W i m σ H →
      ((Itt K a).stop i H ∧ D.nx σ H) ∨ ((Itt K a).go i H ∧ ∃ N : L2.St → Hp → Prop, (∀ σ' H', N σ' H' → ∃ m', m' < m ∧ W (i + 1) m' σ' H') ∧ ∀ x H', (Itt K a).yld i H x H' → g x σ H' fun σ2 H2 => tb { D with nx := N, ct := N, bk := D.nx } σ2 H2)) := by
  rcases hS with hS | hS
  · exact .inl ⟨⟨xs, Same.seq (hl 0 σ H (Nat.zero_le _) h0) hS⟩, for_list Pv h0 (fun i σ H' hi p => Same.seq (hl i σ H' hi p) hS) hs hd⟩
  · exact .inr ⟨⟨xs, Same.sqt (hl 0 σ H (Nat.zero_le _) h0) hS⟩, for_tup Pv h0 (fun i σ H' hi p => Same.sqt (hl i σ H' hi p) hS) hs hd⟩
/-- nothing that stood is changed by a turn's drawing -/
def Calm (n : Nat) (Y : Nat → Hp → V → Hp → Prop) : Prop := ∀ i H x H', i < n → Y i H x H' → Same H H'
theorem calm_at {n : Nat} : Calm n (YAt xs) := fun _ H _ _ _ y => by rw [y.1]; exact Same.refl H
theorem calm_fn {n : Nat} {f : Nat → V} : Calm n (YFn f) := fun _ H _ _ _ y => by rw [y.1]; exact Same.refl H
theorem calm_pair {n : Nat} {f g : Nat → Option V} : Calm n (YPair f g) := fun _ H _ _ _ ⟨_, _, _, _, h2, h3, _⟩ => by
  rw [h3]
  exact same_new (Same.refl H) h2
/-- a comprehension that changes nothing that stood; at place i it gives an o of which R i o stands -/
theorem lc_rel {J : It} {n : Nat} {G : Hp → Prop} {Y : Nat → Hp → V → Hp → Prop} (w : Walk J n G Y) (hy : Calm n Y) {g : TG} {tt : TT} {te : TE} {vs : List Nat} {σ : L2.St} {H0 : Hp} {D : Addr} {Qd : Hp → Prop}
    (R : Nat → Hp → Option V → Prop) (hR : ∀ i o H H' acc, H D = some (.lst acc) → R i H o → (∀ b u, b ≠ D → H b = some u → H' b = some u) → R i H' o) (hn : n ≤ 100000) (hD : H0 D = none) (hG : ∀ H, Same H0 H → G H)
    (hs : ∀ i x H H', i < n → Same H0 H → Y i H x H' → ∀ Kt : Option V → Hp → Prop, (∀ o H4, Same H' H4 → R i H4 o → Kt o H4) →
      g x (wipe σ vs) H' fun σ2 H2 => wipe σ2 vs = wipe σ vs ∧ tt σ2 H2 fun b H3 => if b = true then te σ2 H3 fun y H4 => Kt (some y) H4 else Kt none H3)
    (hd : ∀ H (os : List (Option V)), Same H0 H → os.length = n → (∀ i o, os[i]? = some o → R i H o) → H D = some (.lst (os.filterMap id)) → Qd H) :
    ∃ W : Nat → Nat → Hp → Prop, (∃ m, W 0 m (upd H0 D (.lst []))) ∧ ∀ i m H, W i m H →
      (J.stop i H ∧ Qd H) ∨ (J.go i H ∧ ∃ Nx : Hp → Prop, (∀ H', Nx H' → ∃ m', m' < m ∧ W (i + 1) m' H') ∧ ∀ x H', J.yld i H x H' → g x (wipe σ vs) H' fun σ2 H2 => wipe σ2 vs = wipe σ vs ∧ tt σ2 H2 fun b H3 =>
        if b = true then te σ2 H3 fun y H4 => ∃ acc, H4 D = some (.lst acc) ∧ acc.length < sizeLine ∧ Nx (upd H4 D (.lst (acc ++ [y]))) else Nx H3) := by
  refine lc_it w (fun i H => ∃ os : List (Option V), Same H0 H ∧ os.length = i ∧ (∀ j o, os[j]? = some o → R j H o) ∧ H D = some (.lst (os.filterMap id)))
    ⟨[], same_new (Same.refl H0) hD, rfl, fun j o h => by simp at h, upd_same⟩ (fun i H hi ⟨os, sm, _⟩ => hG H sm) (fun i x H H' hi p y => ?_) fun H ⟨os, sm, hl, hr, hd'⟩ => hd H os sm hl hr hd'
  obtain ⟨os, sm, hl, hr, hH⟩ := p
  have smY := hy i H x H' hi y
  refine hs i x H H' hi sm y (fun o H4 => match o with
    | some y => ∃ acc, H4 D = some (.lst acc) ∧ acc.length < sizeLine ∧ (∃ os : List (Option V), Same H0 (upd H4 D (.lst (acc ++ [y]))) ∧ os.length = i + 1 ∧ (∀ j o, os[j]? = some o → R j (upd H4 D (.lst (acc ++ [y]))) o) ∧ upd H4 D (.lst (acc ++ [y])) D = some (.lst (os.filterMap id)))
    | none => ∃ os : List (Option V), Same H0 H4 ∧ os.length = i + 1 ∧ (∀ j o, os[j]? = some o → R j H4 o) ∧ H4 D = some (.lst (os.filterMap id))) fun o H4 s4 r4 => ?_
  have hD4 : H4 D = some (.lst (os.filterMap id)) := s4 _ _ (smY _ _ hH)
  have keep : ∀ (H5 : Hp), (∀ b u, b ≠ D → H4 b = some u → H5 b = some u) → Same H0 H5 ∧ (os ++ [o]).length = i + 1 ∧ ∀ j o', (os ++ [o])[j]? = some o' → R j H5 o' := fun H5 k => by
    refine ⟨fun b u q => ?_, by simp [hl], fun j o' hj => ?_⟩
    · have nb : b ≠ D := ne_of_none q hD
      exact k b u nb (s4 _ _ (smY _ _ (sm b u q)))
    · by_cases hj1 : j < os.length
      · rw [List.getElem?_append_left hj1] at hj
        refine hR j o' H H5 _ hH (hr j o' hj) fun b u nb q => k b u nb (s4 _ _ (smY _ _ q))
      · rw [List.getElem?_append_right (by omega)] at hj
        have e1 : j - os.length = 0 := by
          have := (List.getElem?_eq_some_iff.mp hj).1
          simp at this
          omega
        rw [e1] at hj
        have e2 : o = o' := Option.some.inj hj
        have e3 : j = i := by omega
        rw [← e2, e3]
        exact hR i o H4 H5 _ hD4 r4 k
  cases o with
  | none =>
    obtain ⟨k1, k2, k3⟩ := keep H4 fun b u _ q => q
    exact ⟨os ++ [none], k1, k2, k3, by rw [hD4, List.filterMap_append]; simp⟩
  | some y =>
    obtain ⟨k1, k2, k3⟩ := keep (upd H4 D (.lst (os.filterMap id ++ [y]))) fun b u nb q => by rw [upd_ne nb]; exact q
    refine ⟨_, hD4, ?_, os ++ [some y], k1, k2, k3, ?_⟩
    · have h1 : (os.filterMap id).length ≤ os.length := List.length_filterMap_le _ _
      exact small_lt (by omega)
    · rw [upd_same, List.filterMap_append]
      rfl
/-- the same, what comes being known -/
theorem lc_val {J : It} {n : Nat} {G : Hp → Prop} {Y : Nat → Hp → V → Hp → Prop} (w : Walk J n G Y) (hy : Calm n Y) {g : TG} {tt : TT} {te : TE} {vs : List Nat} {σ : L2.St} {H0 : Hp} {D : Addr} {Qd : Hp → Prop}
    (r : Nat → Option V) (hn : n ≤ 100000) (hD : H0 D = none) (hG : ∀ H, Same H0 H → G H)
    (hs : ∀ i x H H', i < n → Same H0 H → Y i H x H' → ∀ Kt : Option V → Hp → Prop, (∀ H4, Same H' H4 → Kt (r i) H4) →
      g x (wipe σ vs) H' fun σ2 H2 => wipe σ2 vs = wipe σ vs ∧ tt σ2 H2 fun b H3 => if b = true then te σ2 H3 fun y H4 => Kt (some y) H4 else Kt none H3)
    (hd : ∀ H, Same H0 H → H D = some (.lst ((List.range n).filterMap r)) → Qd H) :
    ∃ W : Nat → Nat → Hp → Prop, (∃ m, W 0 m (upd H0 D (.lst []))) ∧ ∀ i m H, W i m H →
      (J.stop i H ∧ Qd H) ∨ (J.go i H ∧ ∃ Nx : Hp → Prop, (∀ H', Nx H' → ∃ m', m' < m ∧ W (i + 1) m' H') ∧ ∀ x H', J.yld i H x H' → g x (wipe σ vs) H' fun σ2 H2 => wipe σ2 vs = wipe σ vs ∧ tt σ2 H2 fun b H3 =>
        if b = true then te σ2 H3 fun y H4 => ∃ acc, H4 D = some (.lst acc) ∧ acc.length < sizeLine ∧ Nx (upd H4 D (.lst (acc ++ [y]))) else Nx H3) := by
  refine lc_rel w hy (fun i _ o => o = r i) (fun i o H H' acc _ h _ => h) hn hD hG (fun i x H H' hi sm y Kt k => hs i x H H' hi sm y Kt fun H4 s4 => k (r i) H4 s4 rfl) fun H os sm hl hr hD' => hd H sm ?_
  rw [hD']
  congr 2
  have e : os = (List.range n).map r := by
    apply List.ext_getElem?
    intro j
    by_cases hj : j < n
    · have h1 : os[j]? = some os[j] := List.getElem?_eq_getElem (by omega)
      rw [h1, hr j _ h1, List.getElem?_map, List.getElem?_range hj]
      rfl
    · rw [List.getElem?_eq_none (by omega), List.getElem?_eq_none (by simp; omega)]
  rw [e, List.filterMap_map]
  rfl
/-- over a list or a tuple -/
theorem lc_seq {g : TG} {tt : TT} {te : TE} {vs : List Nat} {σ : L2.St} {Hs H0 : Hp} {Qd : Addr → Hp → Prop} (hS : SqX K Hs a xs) (sm : Same Hs H0) (r : Nat → Option V) (hn : xs.length ≤ 100000)
    (hs : ∀ i x H H', i < xs.length → Same H0 H → YAt xs i H x H' → ∀ Kt : Option V → Hp → Prop, (∀ H4, Same H' H4 → Kt (r i) H4) →
      g x (wipe σ vs) H' fun σ2 H2 => wipe σ2 vs = wipe σ vs ∧ tt σ2 H2 fun b H3 => if b = true then te σ2 H3 fun y H4 => Kt (some y) H4 else Kt none H3)
    (hd : ∀ H D, Same H0 H → H0 D = none → H D = some (.lst ((List.range xs.length).filterMap r)) → Qd D H) :
    (((∃ xs, SqL K H0 a xs) ∧ ∀ D, H0 D = none → ∃ W : Nat → Nat → Hp → Prop, (∃ m, W 0 m (upd H0 D (.lst []))) ∧ ∀ i m H, W i m H →
      ((Itl K a).stop i H ∧ Qd D H) ∨ ((Itl K a).go i H ∧ ∃ Nx : Hp → Prop, (∀ H', Nx H' → ∃ m', m' < m ∧ W (i + 1) m' H') ∧ ∀ x H', (Itl K a).yld i H x H' → g x (wipe σ vs) H' fun σ2 H2 => wipe σ2 vs = wipe σ vs ∧ tt σ2 H2 fun b H3 =>
        if b = true then te σ2 H3 fun y H4 => ∃ acc, H4 D = some (.lst acc) ∧ acc.length < sizeLine ∧ Nx (upd H4 D (.lst (acc ++ [y]))) else Nx H3)) ∨
     ((∃ xs, SqT K H0 a xs) ∧ ∀ D, H0 D = none → ∃ W : Nat → Nat → Hp → Prop, (∃ m, W 0 m (upd H0 D (.lst []))) ∧ ∀ i m H, W i m H →
      ((Itt K a).stop i H ∧ Qd D H) ∨ ((Itt K a).go i H ∧ ∃ Nx : Hp → Prop, (∀ H', Nx H' → ∃ m', m' < m ∧ W (i + 1) m' H') ∧ ∀ x H', (Itt K a).yld i H x H' → g x (wipe σ vs) H' fun σ2 H2 => wipe σ2 vs = wipe σ vs ∧ tt σ2 H2 fun b H3 =>
        if b = true then te σ2 H3 fun y H4 => ∃ acc, H4 D = some (.lst acc) ∧ acc.length < sizeLine ∧ Nx (upd H4 D (.lst (acc ++ [y]))) else Nx H3))) := by
  rcases hS with hS | hS
  · exact .inl ⟨⟨xs, Same.seq sm hS⟩, fun D nD => lc_val walk_list calm_at r hn nD (fun H3 s3 => Same.seq (sm.trans s3) hS) hs fun H s h => hd H D s nD h⟩
  · exact .inr ⟨⟨xs, Same.sqt sm hS⟩, fun D nD => lc_val walk_tup calm_at r hn nD (fun H3 s3 => Same.sqt (sm.trans s3) hS) hs fun H s h => hd H D s nD h⟩
theorem rgV0 (n : Nat) : rgV 0 (n : Int) = (List.range n).map nV := by
  unfold rgV
  rw [show ((n : Int) - 0).toNat = n by omega]
  refine List.map_congr_left fun i _ => ?_
  show V.int ((0 : Int) + (i : Int)) = V.int (i : Int)
  rw [Int.zero_add]
theorem rgV1 (n : Nat) : rgV 1 (n : Int) = ((List.range (n - 1)).map (· + 1)).map nV := by
  unfold rgV
  rw [show ((n : Int) - 1).toNat = n - 1 by omega, List.map_map]
  refine List.map_congr_left fun i _ => ?_
  show V.int ((1 : Int) + (i : Int)) = V.int ((i + 1 : Nat) : Int)
  congr 1
  omega
end U

/-! walks along edges: levels, reach, the search layer by layer -/
namespace U
abbrev Es := List (Nat × Nat)
/-- to come to v by at most k edges from S -/
def Lev (es : Es) (S : List Nat) : Nat → Nat → Prop
  | 0, v => v ∈ S
  | k + 1, v => Lev es S k v ∨ ∃ u, Lev es S k u ∧ (u, v) ∈ es
def Rch (es : Es) (S : List Nat) (v : Nat) : Prop := ∃ k, Lev es S k v
/-- the least number of edges to v is d -/
def Dst (es : Es) (S : List Nat) (v d : Nat) : Prop := Lev es S d v ∧ ∀ k, k < d → ¬ Lev es S k v
theorem Lev.succ {es : Es} {S : List Nat} {k v : Nat} (h : Lev es S k v) : Lev es S (k + 1) v := .inl h
theorem Lev.mono {es : Es} {S : List Nat} {k j v : Nat} (h : Lev es S k v) (hk : k ≤ j) : Lev es S j v := by
  induction hk with
  | refl => exact h
  | step _ ih => exact ih.succ
theorem Lev.edge {es : Es} {S : List Nat} {k u v : Nat} (h : Lev es S k u) (e : (u, v) ∈ es) : Lev es S (k + 1) v := .inr ⟨u, h, e⟩
theorem Rch.edge {es : Es} {S : List Nat} {u v : Nat} (h : Rch es S u) (e : (u, v) ∈ es) : Rch es S v := h.elim fun k hk => ⟨k + 1, hk.edge e⟩
theorem Rch.base {es : Es} {S : List Nat} {v : Nat} (h : v ∈ S) : Rch es S v := ⟨0, h⟩
theorem Rch.ind {es : Es} {S : List Nat} {P : Nat → Prop} (h0 : ∀ v ∈ S, P v) (h1 : ∀ u v, P u → (u, v) ∈ es → P v) {v : Nat} (h : Rch es S v) : P v := by
  obtain ⟨k, hk⟩ := h
  induction k generalizing v with
  | zero => exact h0 v hk
  | succ k ih =>
    rcases hk with hk | ⟨u, hu, e⟩
    · exact ih hk
    · exact h1 u v (ih hu) e
theorem Rch.mono {es es' : Es} {S S' : List Nat} (he : ∀ e ∈ es, e ∈ es') (hS : ∀ v ∈ S, v ∈ S') {v : Nat} (h : Rch es S v) : Rch es' S' v :=
  h.ind (fun v hv => .base (hS v hv)) fun u v hu e => hu.edge (he _ e)
theorem Rch.lt {es : Es} {S : List Nat} {n v : Nat} (hS : ∀ s ∈ S, s < n) (he : ∀ e ∈ es, e.2 < n) (h : Rch es S v) : v < n :=
  h.ind hS fun _ v _ e => he _ e
theorem Dst.inj {es : Es} {S : List Nat} {v d d' : Nat} (h : Dst es S v d) (h' : Dst es S v d') : d = d' := by
  rcases Nat.lt_trichotomy d d' with z | z | z
  · exact absurd h.1 (h'.2 d z)
  · exact z
  · exact absurd h'.1 (h.2 d' z)
theorem Dst.ex {es : Es} {S : List Nat} {v k : Nat} (h : Lev es S k v) : ∃ d, d ≤ k ∧ Dst es S v d := by
  induction k with
  | zero => exact ⟨0, Nat.le_refl _, h, fun k hk => absurd hk (Nat.not_lt_zero k)⟩
  | succ k ih =>
    by_cases hk : Lev es S k v
    · obtain ⟨d, hd, h'⟩ := ih hk
      exact ⟨d, Nat.le_succ_of_le hd, h'⟩
    · exact ⟨k + 1, Nat.le_refl _, h, fun j hj hl => hk (hl.mono (Nat.le_of_lt_succ hj))⟩
theorem rch_iff {es : Es} {S : List Nat} {v : Nat} : Rch es S v ↔ ∃ d, Dst es S v d :=
  ⟨fun ⟨_, h⟩ => (Dst.ex h).elim fun d h => ⟨d, h.2⟩, fun ⟨d, h⟩ => ⟨d, h.1⟩⟩
/-- no edge leads farther by more than one -/
theorem Dst.step {es : Es} {S : List Nat} {u v d d' : Nat} (h : Dst es S u d) (e : (u, v) ∈ es) (h' : Dst es S v d') : d' ≤ d + 1 := by
  by_cases hd : d' ≤ d + 1
  · exact hd
  · exact absurd (h.1.edge e) (h'.2 (d + 1) (by omega))
/-- whoever is farther off than 0 has a nearer one ahead -/
theorem Dst.pred {es : Es} {S : List Nat} {v d : Nat} (h : Dst es S v (d + 1)) : ∃ u, Dst es S u d ∧ (u, v) ∈ es := by
  rcases h.1 with hk | ⟨u, hu, e⟩
  · exact absurd hk (h.2 d (Nat.lt_succ_self d))
  · refine ⟨u, ⟨hu, fun k hk hl => ?_⟩, e⟩
    exact h.2 (k + 1) (Nat.succ_lt_succ hk) (hl.edge e)

/-! ### the search -/
/-- st tells what is known when c layers are done; lay is the layer c -/
structure Bfs (n : Nat) (es : Es) (S : List Nat) (c : Nat) (st : Nat → Option Nat) (lay : List Nat) : Prop where
  tell : ∀ v d, v < n → st v = some d → d ≤ c ∧ Dst es S v d
  full : ∀ v, v < n → Lev es S c v → st v ≠ none
  lay : ∀ v, v ∈ lay ↔ v < n ∧ st v = some c
theorem Bfs.start {n : Nat} {es : Es} {S : List Nat} (hS : ∀ s ∈ S, s < n) : Bfs n es S 0 (fun v => if v ∈ S then some 0 else none) S where
  tell := fun v d _ h => by
    by_cases hv : v ∈ S
    · rw [if_pos hv] at h
      cases h
      exact ⟨Nat.le_refl _, hv, fun k hk => absurd hk (Nat.not_lt_zero k)⟩
    · rw [if_neg hv] at h
      cases h
  full := fun v _ h => by
    have h : v ∈ S := h
    rw [if_pos h]
    exact fun z => by cases z
  lay := fun v => by
    by_cases hv : v ∈ S
    · simp [hv, hS v hv]
    · simp [hv]
/-- behind one more layer; T: all heads of edges out of the layer -/
theorem Bfs.next {n : Nat} {es : Es} {S : List Nat} {c : Nat} {st : Nat → Option Nat} {lay T : List Nat} (b : Bfs n es S c st lay) (he : ∀ e ∈ es, e.1 < n ∧ e.2 < n) (hS : ∀ s ∈ S, s < n)
    (hT : ∀ v, v ∈ T ↔ ∃ u, u ∈ lay ∧ (u, v) ∈ es) {lay' : List Nat} (hl : ∀ v, v ∈ lay' ↔ v < n ∧ st v = none ∧ v ∈ T) :
    Bfs n es S (c + 1) (fun v => match st v with
      | some d => some d
      | none => if v ∈ T then some (c + 1) else none) lay' where
  tell := fun v d hv h => by
    cases e : st v with
    | some d0 =>
      simp only [e] at h
      cases h
      obtain ⟨h1, h2⟩ := b.tell v _ hv e
      exact ⟨Nat.le_succ_of_le h1, h2⟩
    | none =>
      simp only [e] at h
      by_cases hm : v ∈ T
      · rw [if_pos hm] at h
        cases h
        obtain ⟨u, hu, ed⟩ := (hT v).mp hm
        obtain ⟨hun, hus⟩ := (b.lay u).mp hu
        refine ⟨Nat.le_refl _, (b.tell u c hun hus).2.1.edge ed, fun k hk hlk => ?_⟩
        exact b.full v hv (hlk.mono (Nat.le_of_lt_succ hk)) e
      · rw [if_neg hm] at h
        cases h
  full := fun v hv h => by
    cases e : st v with
    | some d0 =>
      simp only
      exact fun z => by cases z
    | none =>
      have hm : v ∈ T := by
        rcases h with h | ⟨u, hu, ed⟩
        · exact absurd e (b.full v hv h)
        · have hun : u < n := (he _ ed).1
          have hus := b.full u hun hu
          cases eu : st u with
          | none => exact absurd eu hus
          | some d =>
            obtain ⟨h1, h2⟩ := b.tell u d hun eu
            by_cases hd : d = c
            · subst hd
              exact (hT v).mpr ⟨u, (b.lay u).mpr ⟨hun, eu⟩, ed⟩
            · exact absurd e (b.full v hv ((h2.1.edge ed).mono (by omega)))
      simp only
      rw [if_pos hm]
      exact fun z => by cases z
  lay := fun v => by
    rw [hl v]
    constructor
    · rintro ⟨hv, h0, hm⟩
      refine ⟨hv, ?_⟩
      simp only [h0]
      rw [if_pos hm]
    · rintro ⟨hv, h⟩
      refine ⟨hv, ?_⟩
      cases e : st v with
      | some d =>
        simp only [e] at h
        cases h
        exact absurd (b.tell v (c + 1) hv e).1 (by omega)
      | none =>
        simp only [e] at h
        by_cases hm : v ∈ T
        · exact ⟨rfl, hm⟩
        · rw [if_neg hm] at h
          cases h
/-- when the layer is empty all is told -/
theorem Bfs.done {n : Nat} {es : Es} {S : List Nat} {c : Nat} {st : Nat → Option Nat} (b : Bfs n es S c st []) (he : ∀ e ∈ es, e.1 < n ∧ e.2 < n) {v : Nat} (hv : v < n) :
    (∀ d, st v = some d ↔ Dst es S v d) ∧ (st v = none ↔ ¬ Rch es S v) := by
  have cl : ∀ k w, w < n → Lev es S k w → Lev es S c w := by
    intro k
    induction k with
    | zero => exact fun w _ h => Lev.mono (k := 0) h (Nat.zero_le _)
    | succ k ih =>
      intro w hw h
      rcases h with h | ⟨u, hu, ed⟩
      · exact ih w hw h
      · have hun : u < n := (he _ ed).1
        have hu' := ih u hun hu
        obtain ⟨d, hd, h2⟩ := Dst.ex hu'
        have hdc : d ≠ c := by
          intro z
          subst z
          cases eu : st u with
          | none => exact b.full u hun hu' eu
          | some d' =>
            have e2 := (b.tell u d' hun eu).2.inj h2
            subst e2
            have := (b.lay u).mpr ⟨hun, eu⟩
            cases this
        exact (h2.1.edge ed).mono (by omega)
  have two : st v = none ↔ ¬ Rch es S v := by
    constructor
    · rintro h ⟨k, hk⟩
      exact b.full v hv (cl k v hv hk) h
    · intro h
      cases e : st v with
      | none => rfl
      | some d => exact absurd ⟨d, (b.tell v d hv e).2.1⟩ h
  refine ⟨fun d => ⟨fun h => (b.tell v d hv h).2, fun h => ?_⟩, two⟩
  cases e : st v with
  | none => exact absurd (rch_iff.mpr ⟨d, h⟩) (two.mp e)
  | some d' => rw [(b.tell v d' hv e).2.inj h]
/-- the edges from a place -/
def adj (es : Es) (v : Nat) : List Nat := es.filterMap fun e => if e.1 = v then some e.2 else none
theorem mem_adj {es : Es} {u v : Nat} : v ∈ adj es u ↔ (u, v) ∈ es := by
  unfold adj
  rw [List.mem_filterMap]
  constructor
  · rintro ⟨⟨a, b⟩, h, e⟩
    simp only at e
    by_cases hu : a = u
    · rw [if_pos hu] at e
      cases e
      rw [← hu]
      exact h
    · rw [if_neg hu] at e
      cases e
  · intro h
    exact ⟨(u, v), h, by simp⟩
theorem adj_snoc {es : Es} {e : Nat × Nat} {v : Nat} : adj (es ++ [e]) v = if e.1 = v then adj es v ++ [e.2] else adj es v := by
  unfold adj
  rw [List.filterMap_append]
  by_cases h : e.1 = v
  · simp [h]
  · simp [h]
/-- how many places are not told yet -/
def openN (n : Nat) (st : Nat → Option Nat) : Nat := (List.range n).countP fun v => (st v).isNone
theorem openN_le {n : Nat} {st st' : Nat → Option Nat} (h : ∀ v, st' v = none → st v = none) : openN n st' ≤ openN n st := by
  unfold openN
  refine List.countP_mono_left fun v _ hv => ?_
  simp only [Option.isNone_iff_eq_none] at hv ⊢
  exact h v hv
theorem openN_lt {n : Nat} {st st' : Nat → Option Nat} (h : ∀ v, st' v = none → st v = none) {z : Nat} (hz : z < n) (h1 : st z = none) (h2 : st' z ≠ none) : openN n st' < openN n st := by
  unfold openN
  have hm : z ∈ List.range n := List.mem_range.mpr hz
  obtain ⟨l1, l2, e⟩ := List.append_of_mem hm
  rw [e, List.countP_append, List.countP_append, List.countP_cons, List.countP_cons]
  have a1 : List.countP (fun v => (st' v).isNone) l1 ≤ List.countP (fun v => (st v).isNone) l1 := List.countP_mono_left fun v _ hv => by
    simp only [Option.isNone_iff_eq_none] at hv ⊢
    exact h v hv
  have a2 : List.countP (fun v => (st' v).isNone) l2 ≤ List.countP (fun v => (st v).isNone) l2 := List.countP_mono_left fun v _ hv => by
    simp only [Option.isNone_iff_eq_none] at hv ⊢
    exact h v hv
  have b1 : (if (st z).isNone = true then 1 else 0) = 1 := by rw [h1]; rfl
  have b2 : (if (st' z).isNone = true then 1 else 0) = 0 := by
    cases q : st' z with
    | none => exact absurd q h2
    | some d => rfl
  rw [b1, b2]
  omega
end U

/-! the hand that draws -/
namespace U
open PySem PySem.Spec PyProof.Rows L2
def handO (c : Addr) (i r s k : Int) : HO := .lst [.ref c, .int i, .int r, .int s, .int k]
/-- the hand stands at h, its cells in the region F -/
structure HandAt (F H : Hp) (h : Addr) : Prop where
  ob : ∃ (c : Addr) (cells : List Int) (i r s k : Int), H h = some (handO c i r s k) ∧ F c = some (.lst (cells.map V.int)) ∧ 0 ≤ i
  nF : F h = none
theorem HandAt.grow {M : Addr → Prop} {F H F' H' : Hp} {h : Addr} (a : HandAt F H h) (g : Grow M F H F' H') (hm : ¬ M h) : HandAt F' H' h where
  ob := by
    obtain ⟨c, cells, i, r, s, k, h1, h2, h3⟩ := a.ob
    exact ⟨c, cells, i, r, s, k, g.same _ _ hm h1, g.sub _ _ h2, h3⟩
  nF := by
    refine Classical.byContradiction fun z => ?_
    obtain ⟨c, cells, i, r, s, k, h1, _⟩ := a.ob
    rw [g.fresh h z a.nF] at h1
    cases h1
/-- what a draw leaves -/
structure Drew (F H H' : Hp) (h : Addr) : Prop where
  hand : HandAt F H' h
  rest : ∀ b, b ≠ h → H' b = H b
  sub : Same F H'
theorem Drew.trans {F H H1 H2 : Hp} {h : Addr} (a : Drew F H H1 h) (b : Drew F H1 H2 h) : Drew F H H2 h := ⟨b.hand, fun x hx => (b.rest x hx).trans (a.rest x hx), b.sub⟩
theorem Drew.grow {F H H' : Hp} {h : Addr} (a : HandAt F H h) (d : Drew F H H' h) : Grow (fun b => b = h) F H F H' where
  same := fun b o m e => by rw [d.rest b m]; exact e
  live := fun b e => by
    by_cases hb : b = h
    · subst hb
      obtain ⟨c, cells, i, r, s, k, h1, _⟩ := d.hand.ob
      rw [h1]
      exact fun z => by cases z
    · rw [d.rest b hb]
      exact e
  sub := Same.refl F
  sub' := d.sub
  fresh := fun b x y => absurd y x
def spDraw : Sp := fun vs H Q _ => ∃ (h : Addr) (m : Int) (F : Hp), vs = [.ref h, .int m] ∧ 0 < m ∧ m.natAbs.log2 < 9000 ∧ Same F H ∧ HandAt F H h ∧ ∀ n H', 0 ≤ n → n < m → Drew F H H' h → Q (.int n) H'
/-- a store to the hand -/
theorem drew_upd {F H : Hp} {h c : Addr} {cells : List Int} {i' r' s' k' : Int} (hs : Same F H) (nF : F h = none) (hc : F c = some (.lst (cells.map V.int))) (h0 : 0 ≤ i') : Drew F H (upd H h (handO c i' r' s' k')) h where
  hand := ⟨⟨c, cells, i', r', s', k', upd_same, hc, h0⟩, nF⟩
  rest := fun b hb => upd_ne hb
  sub := same_mut hs nF
/-- what a def with draws leaves: the hand, all else that stood -/
structure Dr (F H H' : Hp) (h : Addr) : Prop where
  hand : HandAt F H' h
  same : ∀ b o, b ≠ h → H b = some o → H' b = some o
  sub : Same F H'
theorem Drew.dr {F H H' : Hp} {h : Addr} (d : Drew F H H' h) : Dr F H H' h := ⟨d.hand, fun b o hb e => by rw [d.rest b hb]; exact e, d.sub⟩
theorem Dr.trans {F H H1 H2 : Hp} {h : Addr} (a : Dr F H H1 h) (b : Dr F H1 H2 h) : Dr F H H2 h := ⟨b.hand, fun x o hx e => b.same x o hx (a.same x o hx e), b.sub⟩
theorem HandAt.ne {F H : Hp} {h b : Addr} (a : HandAt F H h) (hb : H b = none) : b ≠ h := fun e => by
  obtain ⟨c, cells, i, r, s, k, h1, _⟩ := a.ob
  rw [← e, hb] at h1
  cases h1
theorem Dr.refl {F H : Hp} {h : Addr} (a : HandAt F H h) (s : Same F H) : Dr F H H h := ⟨a, fun _ _ _ e => e, s⟩
/-- behind what leaves all that stood -/
theorem Dr.of_same {F H H' : Hp} {h : Addr} (a : HandAt F H h) (sF : Same F H) (s : Same H H') : Dr F H H' h where
  hand := by
    obtain ⟨c, cells, i, r, s', k, h1, h2, h3⟩ := a.ob
    exact ⟨⟨c, cells, i, r, s', k, s _ _ h1, h2, h3⟩, a.nF⟩
  same := fun b o _ e => s b o e
  sub := sF.trans s
/-- a local object is stored to -/
theorem Dr.upd {F H H' : Hp} {h x : Addr} {o : HO} (d : Dr F H H' h) (hx : H x = none) (nx : x ≠ h) (nF : F x = none) : Dr F H (upd H' x o) h where
  hand := by
    obtain ⟨c, cells, i, r, s', k, h1, h2, h3⟩ := d.hand.ob
    exact ⟨⟨c, cells, i, r, s', k, by rw [upd_ne nx.symm]; exact h1, h2, h3⟩, d.hand.nF⟩
  same := fun b u hb e => by
    rw [upd_ne (ne_of_none e hx)]
    exact d.same b u hb e
  sub := same_mut d.sub nF
theorem Dr.live {F H H' : Hp} {h : Addr} (d : Dr F H H' h) {b : Addr} (hb : H b ≠ none) : H' b ≠ none := by
  by_cases e : b = h
  · subst e
    obtain ⟨c, cells, i, r, s', k, h1, _⟩ := d.hand.ob
    rw [h1]
    exact fun z => by cases z
  · cases q : H b with
    | none => exact absurd q hb
    | some o =>
      rw [d.same b o e q]
      exact fun z => by cases z
theorem Dr.free {F H H' : Hp} {h : Addr} (d : Dr F H H' h) {b : Addr} (hb : H' b = none) : H b = none := Classical.byContradiction fun z => d.live z hb
theorem Dr.sqt {K : PySem.W.Frag} {F H H' : Hp} {h a : Addr} {xs : List V} (d : Dr F H H' h) (hA : HandAt F H h) (s : SqT K H a xs) : SqT K H' a xs := by
  obtain ⟨c, cells, i, r, s', k, h1, _⟩ := hA.ob
  rcases s with (s | ⟨o, s⟩) | s
  · exact .inl (.inl (d.same _ _ (ne_of s h1 (by intro z; cases z)) s))
  · exact .inl (.inr ⟨o, d.same _ _ (ne_of s h1 (by intro z; cases z)) s⟩)
  · exact .inr s
/-- an if whose ways meet again: what stands where it is true, where it is not -/
theorem ifs_split {c : TT} {t u : TS} {D : Ends} {σ : L2.St} {H : Hp} (P Pn : Hp → Prop) (hc : ∀ Kt : Bool → Hp → Prop, (∀ H', P H' → Kt true H') → (∀ H', Pn H' → Kt false H') → c σ H Kt)
    (h1 : ∀ H', P H' → t D σ H') (h2 : ∀ H', Pn H' → u D σ H') : tIfS c t u D σ H :=
  hc _ (fun H' p => iteT (h1 H' p)) fun H' p => iteF (h2 H' p)
theorem small_log {m : Int} (h0 : 0 < m) (h : m < 2 ^ 8999) : m.natAbs.log2 < 9000 := by
  have h1 : m.natAbs ≠ 0 := by omega
  have h2 := Nat.log2_self_le h1
  refine Classical.byContradiction fun z => ?_
  have h3 : 2 ^ 9000 ≤ 2 ^ m.natAbs.log2 := Nat.pow_le_pow_right (by decide) (by omega)
  have h4 : (2 : Nat) ^ 9000 ≤ m.natAbs := Nat.le_trans h3 h2
  have h5 : (m.natAbs : Int) < 2 ^ 8999 := by omega
  have h6 : m.natAbs < 2 ^ 8999 := by exact_mod_cast h5
  have h7 : (2 : Nat) ^ 8999 ≤ 2 ^ 9000 := Nat.pow_le_pow_right (by decide) (by decide)
  omega
/-! ### the region behind a def that makes tuples -/
/-- F and all tuples that are new between H and H' -/
def hv (F H H' : Hp) : Hp := fun b => match F b with
  | some o => some o
  | none => match H b with
    | some _ => none
    | none => match H' b with
      | some (.tup xs) => some (.tup xs)
      | _ => none
theorem hv_old {F H H' : Hp} {b : Addr} {o : HO} (e : F b = some o) : hv F H H' b = some o := by
  unfold hv
  rw [e]
theorem hv_new {F H H' : Hp} {b : Addr} {xs : List V} (hF : Same F H) (h0 : H b = none) (h1 : H' b = some (.tup xs)) : hv F H H' b = some (.tup xs) := by
  have e : F b = none := Same.free hF h0
  unfold hv
  rw [e, h0, h1]
theorem hv_inv {F H H' : Hp} {b : Addr} {o : HO} (h : hv F H H' b = some o) : F b = some o ∨ (F b = none ∧ H b = none ∧ H' b = some o) := by
  unfold hv at h
  cases e : F b with
  | some u => rw [e] at h; exact .inl h
  | none =>
    rw [e] at h
    cases e2 : H b with
    | some u => rw [e2] at h; cases h
    | none =>
      rw [e2] at h
      cases e3 : H' b with
      | none => rw [e3] at h; cases h
      | some u =>
        rw [e3] at h
        cases u with
        | tup xs => exact .inr ⟨rfl, rfl, h⟩
        | _ => cases h
theorem hv_none {F H H' : Hp} {b : Addr} (h0 : F b = none) (h1 : H b ≠ none) : hv F H H' b = none := by
  cases e : hv F H H' b with
  | none => rfl
  | some o =>
    rcases hv_inv e with z | ⟨_, z, _⟩
    · rw [h0] at z; cases z
    · exact absurd z h1
theorem hv_sub {F H0 H H' : Hp} (fr : ∀ b, H b = none → H0 b = none) : Same (hv F H H') (hv F H0 H') := fun b o e => by
  unfold hv at e ⊢
  cases e1 : F b with
  | some u => rw [e1] at e; exact e
  | none =>
    rw [e1] at e
    cases e2 : H b with
    | some u => rw [e2] at e; cases e
    | none =>
      rw [e2] at e
      rw [fr b e2]
      exact e
theorem hv_grow {M : Addr → Prop} {F H H' : Hp} (hF : Same F H') (same : ∀ a o, ¬ M a → H a = some o → H' a = some o) (live : ∀ a, H a ≠ none → H' a ≠ none) : Grow M F H (hv F H H') H' where
  same := same
  live := live
  sub := fun b o e => hv_old e
  sub' := fun b o e => by
    rcases hv_inv e with z | ⟨_, _, z⟩
    · exact hF b o z
    · exact z
  fresh := fun b h1 h0 => by
    cases e : hv F H H' b with
    | none => exact absurd e h1
    | some o =>
      rcases hv_inv e with z | ⟨_, z, _⟩
      · rw [h0] at z; cases z
      · exact z
theorem Dr.hvG {F H H' : Hp} {h : Addr} (d : Dr F H H' h) : Grow (fun b => b = h) F H (hv F H H') H' :=
  hv_grow d.sub (fun b o m e => d.same b o m e) fun b e => d.live e
theorem Dr.hvH {F H H' : Hp} {h : Addr} (d : Dr F H H' h) (hA : HandAt F H h) : HandAt (hv F H H') H' h where
  ob := by
    obtain ⟨c, cells, i, r, s', k, h1, h2, h3⟩ := d.hand.ob
    exact ⟨c, cells, i, r, s', k, h1, hv_old h2, h3⟩
  nF := hv_none hA.nF fun z => by
    obtain ⟨c, cells, i, r, s', k, h1, _⟩ := hA.ob
    rw [h1] at z
    cases z
/-! ### numbers out of lists that were shuffled or sorted -/
def unV : V → Nat
  | .int i => i.toNat
  | _ => 0
theorem perm_nats {ys : List V} {l : List Nat} (h : ys.Perm (l.map nV)) : ∃ ns : List Nat, ys = ns.map nV ∧ ns.Perm l := by
  refine ⟨ys.map unV, ?_, ?_⟩
  · rw [List.map_map]
    symm
    rw [show ys = ys.map id by rw [List.map_id]]
    rw [List.map_map]
    refine List.map_congr_left fun v hv => ?_
    obtain ⟨n, _, rfl⟩ := List.mem_map.mp (h.mem_iff.mp hv)
    show V.int ((Int.toNat (n : Int) : Nat) : Int) = V.int (n : Int)
    rfl
  · have h2 := h.map unV
    rw [List.map_map] at h2
    have e : l.map (unV ∘ nV) = l := by
      rw [show l.map (unV ∘ nV) = l.map id from List.map_congr_left fun n _ => rfl, List.map_id]
    rw [e] at h2
    exact h2
theorem sort_nats {ns : List Int} {l : List Nat} (h : ns.Perm (l.map fun (n : Nat) => (n : Int))) (hp : ns.Pairwise (· ≤ ·)) : ∃ gs : List Nat, ns.map V.int = gs.map nV ∧ gs.Perm l ∧ gs.Pairwise (· ≤ ·) := by
  have h1 : (ns.map V.int).Perm (l.map nV) := by
    have := h.map V.int
    rw [List.map_map] at this
    exact this
  obtain ⟨gs, e, hg⟩ := perm_nats h1
  refine ⟨gs, e, hg, ?_⟩
  have e2 : ns = gs.map fun (n : Nat) => (n : Int) := by
    have e3 : ns.map V.int = (gs.map fun (n : Nat) => (n : Int)).map V.int := by rw [e, List.map_map]; rfl
    exact (List.map_inj_right fun x y z => by injection z).mp e3
  rw [e2, List.pairwise_map] at hp
  exact hp.imp fun h => by omega
theorem pw_lt {gs : List Nat} (h : gs.Pairwise (· ≤ ·)) (nd : gs.Nodup) : gs.Pairwise (· < ·) := by
  induction gs with
  | nil => exact List.Pairwise.nil
  | cons g r ih =>
    have h1 := List.pairwise_cons.mp h
    have h2 := List.nodup_cons.mp nd
    refine List.pairwise_cons.mpr ⟨fun x hx => ?_, ih h1.2 h2.2⟩
    have := h1.1 x hx
    have : g ≠ x := fun e => h2.1 (by rw [e]; exact hx)
    omega
/-- two lots with the same numbers are one -/
theorem lot_eq {gs gs' : List Nat} (h : gs.Pairwise (· < ·)) (h' : gs'.Pairwise (· < ·)) (e : ∀ x, x ∈ gs ↔ x ∈ gs') : gs = gs' := by
  induction gs generalizing gs' with
  | nil =>
    cases gs' with
    | nil => rfl
    | cons g r => exact absurd ((e g).mpr List.mem_cons_self) List.not_mem_nil
  | cons g r ih =>
    cases gs' with
    | nil => exact absurd ((e g).mp List.mem_cons_self) List.not_mem_nil
    | cons g' r' =>
      have h1 := List.pairwise_cons.mp h
      have h2 := List.pairwise_cons.mp h'
      have e0 : g = g' := by
        rcases List.mem_cons.mp ((e g).mp List.mem_cons_self) with z | z
        · exact z
        · rcases List.mem_cons.mp ((e g').mpr List.mem_cons_self) with z' | z'
          · exact z'.symm
          · have := h2.1 g z
            have := h1.1 g' z'
            omega
      subst e0
      congr 1
      refine ih h1.2 h2.2 fun x => ?_
      constructor
      · intro hx
        rcases List.mem_cons.mp ((e x).mp (List.mem_cons_of_mem _ hx)) with z | z
        · subst z
          exact absurd (h1.1 x hx) (Nat.lt_irrefl _)
        · exact z
      · intro hx
        rcases List.mem_cons.mp ((e x).mpr (List.mem_cons_of_mem _ hx)) with z | z
        · subst z
          exact absurd (h2.1 x hx) (Nat.lt_irrefl _)
        · exact z
end U

/-! data that is compared -/
namespace U
open PySem PySem.Spec PyProof.Rows L2
variable {K : PySem.W.Frag} {H : Hp}
def dN (n : Nat) : PyData := .int (n : Int)
theorem dp_nats : ∀ {ns : List Nat}, DpAll K H (ns.map nV) (ns.map dN)
  | [] => .nil
  | n :: r => .cons (.int (n : Int)) (dp_nats (ns := r))
theorem lay_nats : ∀ {ns : List Nat}, PyData.canLayAll0 (ns.map dN) = true
  | [] => rfl
  | n :: r => by
    rw [List.map_cons, PyData.canLayAll0, lay_nats (ns := r)]
    rfl
theorem dep_nats : ∀ {ns : List Nat}, PyData.depthAll (ns.map dN) = 0
  | [] => rfl
  | n :: r => by
    rw [List.map_cons, PyData.depthAll, dep_nats (ns := r)]
    rfl
theorem shp_lst {ns : List Nat} : SeqAt.shaped (.list (ns.map dN)) = true := by
  unfold SeqAt.shaped
  rw [PyData.canLay0, PyData.depth, lay_nats, dep_nats]
  rfl
theorem shp_tup {ns : List Nat} : SeqAt.shaped (.tuple (ns.map dN)) = true := by
  unfold SeqAt.shaped
  rw [PyData.canLay0, PyData.depth, lay_nats, dep_nats]
  rfl
theorem eqv_same {d : PyData} (h : SeqAt.shaped d = true) : PyData.eqv d d = true := SeqAt.eqv_refl d (SeqAt.canLay_of_shaped h)
def dE (e : Nat × Nat) : PyData := .tuple [dN e.1, dN e.2]
theorem lay_prs : ∀ {es : List (Nat × Nat)}, PyData.canLayAll0 (es.map dE) = true
  | [] => rfl
  | n :: r => by
    rw [List.map_cons, PyData.canLayAll0, lay_prs (es := r)]
    rfl
theorem dep_prs : ∀ {es : List (Nat × Nat)}, PyData.depthAll (es.map dE) ≤ 1
  | [] => Nat.zero_le _
  | n :: r => by
    rw [List.map_cons, PyData.depthAll]
    exact Nat.max_le.mpr ⟨Nat.le_refl 1, dep_prs (es := r)⟩
theorem shp_prs {es : List (Nat × Nat)} : SeqAt.shaped (.tuple (es.map dE)) = true := by
  unfold SeqAt.shaped
  rw [PyData.canLay0, PyData.depth, lay_prs, Bool.true_and, decide_eq_true_eq]
  have := dep_prs (es := es)
  omega
theorem kn_of_bl {b : Bool} : Kn K H (.bl b) "bool" := ⟨.base (.bl b), by simp⟩
theorem cutV_nat (ns : List Nat) (lo hi : Option Int) : ∃ ms : List Nat, cutV (ns.map nV) lo hi = ms.map nV ∧ ∀ m ∈ ms, m ∈ ns := by
  unfold cutV
  rw [← List.map_drop, ← List.map_take]
  exact ⟨_, rfl, fun m hm => List.mem_of_mem_drop (List.mem_of_mem_take hm)⟩
end U

/-! own errors made without arguments; defs that raise -/
namespace U
open PySem PySem.Spec PyProof.Rows L2
theorem pmk_own0 {X : Cx} {pos : Pos} {C : Addr} {bmB : List Value} {B newId initId : String} {x : Str} {p : Pos} (F : ExcBaseFacts B newId initId bmB) (q : PySem.W.excIn X.K C bmB newId = true) (gC : X.mg x = some (.ref C))
    (kC : PySem.W.keepIn X.K (.ref C) = true) (r : Raises X (.ref C)) (hg : Gl X x) (hdb : (x == ("__debug__" : Str)) = false := by decide) :
    PMk X (.Call (.Name x p) [] [] pos) (fun _ H Q => Q (.ref C) none H) := by
  intro pins s σ H Q I h
  refine wpAny_Call_Name_kw (ld_glob I hg gC ?_ hdb)
  refine PySem.W.callWith_K0 I.kIn kC ?_
  show wpAny _ _ (call (.ref C) []) _ _ _
  obtain ⟨bm, N, nm, qn, bs, hdct, sn, sub, ab, col, dd, k0, k1, k2, k3, k5, mN, hC, hN, hni, T⟩ := exc_obj I.kIn q
  refine wpAny_call_exc_subT F T hC hN hni (fun h' e hm => ?_) (Nat.zero_le _)
  exact mk_of I hm r h (I.hok.gone hm.new)

/-- what the written part says of an own error class without __init__, at C -/
structure Ex (K : PySem.W.Frag) (mg : Str → Option Value) (x : Str) (C : Addr) : Prop where
  g : mg x = some (.ref C)
  e : PySem.W.excIn K C [.type "ValueError", .type "Exception", .type "BaseException", .type "object"] "ValueError.__new__" = true
  k : PySem.W.keepIn K (.ref C) = true
  b : PySem.W.subIn K (.ref C) (.type "BaseException") = some true
  t : PySem.W.typeIn K (.ref C) = some (.type "type")
/-- raise C() -/
theorem ps_raise0 {X : Cx} {x : Str} {C : Addr} {W : WX} {p pos pos2 : Pos} (T : Ex X.K X.mg x C) (hc : X.calm = true) (tk : Takes X W) (hg : Gl X x) (hdb : (x == ("__debug__" : Str)) = false := by decide) :
    PS X (.Raise (some (.Call (.Name x p) [] [] pos)) none pos2) (fun _ σ H => W (.ref C) none σ H) :=
  ps_raise hc tk (pmk_own0 PySem.F.excBase_ValueError T.e T.g T.k (raises_own T.b T.t) hg hdb)

/-- as Has, for a def that may raise -/
structure HasX (P : Program) (w : World) (K : PySem.W.Frag) (mg : Str → Option Value) (base : Heap) (x : Str) (k : Nat) (ps : List Str) (sp : Sp) : Prop where
  ex : ∃ f fd, mg x = some (.ref f) ∧ PySem.W.keepIn K (.ref f) = true ∧ Binds K fd ps [] ∧ FnOk P w K mg base (L2.CX P w) k f fd ps sp ∧ Lk K f fd
theorem Df.hasX {P : Program} {w : World} {K : PySem.W.Frag} {mg : Str → Option Value} {base : Heap} {x : Str} {st : Stmt} {ps : List Str} {k : Nat} {sp : Sp} (d : Df K mg x st ps)
    (h : ∀ f fd, Fun K x x st f fd → FnOk P w K mg base (L2.CX P w) k f fd ps sp) : HasX P w K mg base x k ps sp := by
  obtain ⟨f, fd, hm, F, b⟩ := d.ex
  exact ⟨f, fd, hm, F.kp, b, h f fd F, Fun.lk F⟩
def spOr (s1 s2 : Sp) : Sp := fun vs H Q E => s1 vs H Q E ∨ s2 vs H Q E
section
variable {P : Program} {w : World} {K : PySem.W.Frag} {mg : Str → Option Value} {base : Heap} {x : Str} {k j : Nat} {ps : List Str} {s1 s2 : Sp}
theorem Has.toX (h1 : Has P w K mg base x k ps s1) : HasX P w K mg base x k ps s1 := by
  obtain ⟨f, fd, m1, kp, b, F1, oc, od, sl, l1⟩ := h1.ex
  refine ⟨f, fd, m1, kp, b, ⟨F1.len, fun A outer s H args us vs Q E hr he hb hv hs => ?_⟩, _, _, _, l1⟩
  refine codeAny_mono (F1.run A outer s H args us vs Q E hr he hb hv hs) fun r s' hq => ?_
  cases r with
  | error e => exact hq.elim
  | ok fl => cases fl with
    | ret u => exact hq
    | next => exact False.elim hq
    | brk => exact False.elim hq
    | cont => exact False.elim hq
/-- what never raises and what may, of one def -/
theorem Has.or (h1 : Has P w K mg base x k ps s1) (h2 : HasX P w K mg base x k ps s2) : HasX P w K mg base x k ps (spOr s1 s2) := by
  obtain ⟨f, fd, m1, kp, b, F1, oc, od, sl, l1⟩ := h1.ex
  obtain ⟨f2, fd2, m2, _, _, F2, oc2, od2, sl2, l2⟩ := h2.ex
  have e := m1.symm.trans m2
  cases e
  have e := l1.symm.trans l2
  cases e
  refine ⟨f, fd, m1, kp, b, ⟨fun vs H Q E h => h.elim (F1.len _ _ _ _) (F2.len _ _ _ _), fun A outer s H args us vs Q E hr he hb hv hs => ?_⟩, _, _, _, l1⟩
  rcases hs with hs | hs
  · refine codeAny_mono (F1.run A outer s H args us vs Q E hr he hb hv hs) fun r s' hq => ?_
    cases r with
    | error e => exact hq.elim
    | ok fl => cases fl with
      | ret u => exact hq
      | next => exact False.elim hq
      | brk => exact False.elim hq
      | cont => exact False.elim hq
  · exact F2.run A outer s H args us vs Q E hr he hb hv hs
end
section
variable {X : Cx} {k j : Nat} {ps : List Str} {sp : Sp} {x : Str} {p pos : Pos} {e : Expr} {es : List Expr} {t : TA}
/-- a call that may raise -/
theorem pcallS {W : WX} (h : HasX X.prog X.w X.K X.mg X.base x k ps sp) (hr : Room j X.A) (hk : k ≤ j) (hg : Gl X x) (tk : Takes X W) (ha : PA X (e :: es) t) (hdb : (x == ("__debug__" : Str)) = false := by decide)
    (he : starEach (e :: es) X.env = (false, eval e X.env) :: starEach es X.env := by rfl) (hpl : (backTo pos (starEach es X.env)).any (·.1) = false := by rfl) :
    PE X (.Call (.Name x p) (e :: es) [] pos) (tCallS sp (WE W) t) := by
  obtain ⟨f, fd, hm, kp, b, F, _⟩ := h.ex
  exact pe_callS F (hr.mono hk) hg hm kp b (fun σ => passAt tk σ) ha hdb he hpl
end
/-- whether an own error is met by a clause -/
theorem exm_pair {K : PySem.W.Frag} {S D : Addr} {b : Bool} (hb : PySem.W.subIn K (.ref D) (.type "BaseException") = some true) (hi : PySem.W.isClsIn K D = true) (ht : PySem.W.typeIn K (.ref D) = some (.type "type"))
    (hs : PySem.W.subIn K (.ref S) (.ref D) = some b) : PySem.W.exmOne K (.ref S) (.ref D) = some b := by
  have hi' : (PySem.W.clsIn K D).isSome = true := hi
  unfold PySem.W.exmOne
  rw [if_pos (by rw [hb]; rfl)]
  show (if _ = true then PySem.W.subIn K (.ref S) (.ref D) else none) = some b
  rw [if_pos (by rw [hi', ht]; rfl)]
  exact hs
/-- a test of the kinds of the values that are not a tuple -/
theorem wl_nil {K : PySem.W.Frag} {Wout : WX} {D : Ends} {cls : Value} {d : Option Addr} {σ : L2.St} {H : Hp} (h : Wout cls d σ H) : wMany K Wout D [] cls d σ H := h
end U

/-! sorted(d.values()), a dict with int values -/
namespace U
open PySem PySem.Spec PyProof.Rows L2
def tSortVals (td : TE) : TE := fun σ H Q => td σ H fun x H1 => ∃ (a : Addr) (kvs : List (Key × V)) (is : List Int), x = V.ref a ∧ H1 a = some (.dK kvs) ∧ kvs.map (·.2) = is.map V.int ∧
  ∀ (ys : List Int) (p : Addr), ys.Perm is → ys.Pairwise (· ≤ ·) → H1 p = none → Q (.ref p) (upd H1 p (.lst (ys.map V.int)))
theorem int_ones : ∀ {us : List Value} {ks : List Int}, us.length = ks.length → (∀ (j : Nat) (v : Value), us[j]? = some v → ∃ (x : Int) (t : Tok), ks[j]? = some x ∧ v = Value.int x t) → IntsAre us ks := fun h h2 => L2.ints_each h h2
variable {X : Cx} {o : Expr} {p pos apos mpos : Pos} {td : TE}
theorem pe_sortedVals (hc : X.calm = true) (hg : Gl X "sorted") (hm : X.mg "sorted" = none) (hd : PE X o td) (hbase : attributeBase o "values" X.env (eval o X.env) = eval o X.env := by rfl) (hline : (apos.endLine == mpos.line) = true := by rfl)
    (hse : starEach [Expr.Call (.Attribute o "values" apos) [] [] mpos] X.env = [(false, eval (Expr.Call (.Attribute o "values" apos) [] [] mpos) X.env)] := by rfl) :
    PE X (.Call (.Name "sorted" p) [.Call (.Attribute o "values" apos) [] [] mpos] [] pos) (tSortVals td) := by
  refine ⟨fun pins s σ H Q I h => ?_⟩
  refine wpAny_Call_Name_kw (ld_blt I hg hm (u := .builtin "sorted") (by decide +kernel) ?_ (by decide +kernel) (by decide +kernel))
  rw [hse]
  refine PySem.callWith_builtin1 (wpAny_Call_method0_late hbase hline (thn (hd.run pins s σ H _ I h) fun v s1 ⟨x, H1, I1, r1, a, kvs, is, ex, ha, hv, q⟩ => ?_))
  subst ex
  cases r1
  obtain ⟨hz, hsys, vs, rel, dof⟩ := dk_of I1.hok ha
  obtain ⟨ep, dat⟩ := dof.dictAt
  obtain ⟨ob, es, ho, exx, hdat, hko, hpr, hnd⟩ := id dat
  refine ⟨"dict", "dict.values", F.plainAttrs_dict, F.slot_dict_values, F.type_dict_values, ⟨ob, ho, exx.1⟩, fun b e => ?_, Calls.callWith_builtin rfl (PySem.evalArgs_none ?_)⟩
  · cases e
    exact ⟨ob, ho, exx.2.1⟩
  refine call_meetsIn F.slot_dict_values ⟨ob, ho, exx.1⟩ F.entry_dict_values (F.args_dict_values_1 _) (meets_dict_values (mixKind X.prog X.w) a hsys) ⟨⟨vs, dof⟩, ?_⟩
  have hl : vs.length = is.length := by
    have e1 := congrArg List.length hv
    rw [List.length_map, List.length_map] at e1
    rw [← e1]
    exact (KV.length rel).symm
  have h16 : vs.length ≤ sizeLine := by
    rw [← KV.length rel]
    exact hz
  have k1 : ∀ b u, s1.heap.get? b = some u → (s1.heap.push { cls := .type "dict_values", data := .fields #[.ref a] }).get? b = some u := fun b u e => Heap.get?_push_of_some _ e
  have dat1 : (s1.heap.push { cls := .type "dict_values", data := .fields #[.ref a] }).DictAt (mixKind X.prog X.w) a vs ep := dat.keep k1
  refine Calls.call_function_entry PyProof.Rows.kind_sorted PyProof.Rows.plain_sorted PyProof.Rows.entry_sorted (PyProof.Rows.args_sorted1 _) ?_
  unfold Builtin.«sorted»
  refine wpAny_bind (m := checkCount "sorted" 1 1 _) (wpAny_pure ?_)
  refine wpAny_bind (PySem.W.kdu_collect (A := X.A.in1) (PySem.W.kdl_values (r := s1.heap.objs.size) (d := a) (knd := mixKind X.prog X.w) (kvs := vs) (ep := ep)) (I.ok.hd hc) ⟨⟨_, Heap.get?_push_size _ rfl, rfl, rfl⟩, dat1⟩ h16 fun h' tk acc hk hacc => ?_)
  have hal : acc.toList.length = is.length := by rw [Array.length_toList, hacc.1, hl]
  have hS : IntsAre acc.toList is := int_ones hal fun j v e => by
    obtain ⟨k, hk2⟩ := hacc.2 j v (by rw [← Array.getElem?_toList]; exact e)
    obtain ⟨x, h1, h2⟩ := KV.at' rel hk2
    have e1 : (kvs.map (·.2))[j]? = some x := by
      rw [List.getElem?_map, h1]
      rfl
    rw [hv, List.getElem?_map] at e1
    obtain ⟨i, hj, e2⟩ := Option.map_eq_some_iff.mp e1
    subst e2
    obtain ⟨t, e3⟩ := h2
    exact ⟨i, t, hj, e3⟩
  have I2 : Inv X pins σ H1 { s1 with heap := h', toks := tk } := I1.kept fun b u e => hk b u (k1 b u e)
  refine wpAny_bind (wpAny_newList ?_ (by rw [hal, ← hl]; exact h16))
  have hoL : (h'.push (seqObj "list" acc.toList.toArray 0)).get? h'.objs.size = some (seqObj "list" acc.toList.toArray 0) := Heap.get?_push_size _ rfl
  refine wpAny_bind (wpAny_holding (wpAny_call_entry PyProof.Rows.slot_list_sort ⟨_, hoL, rfl⟩ PyProof.Rows.entry_list_sort
    (SrtO.list_sort_ord (s := { s1 with heap := h'.push (seqObj "list" acc.toList.toArray 0), toks := tk }) SrtO.swo_int hoL (by rw [hal, ← hl]; exact h16) (fun h2 => SrtO.ints_sortable hS h2) fun out g1 g2 => ⟨_, rfl, ?_⟩) (PyProof.Rows.args_list_sort _)))
  obtain ⟨f1, f2, f3⟩ := SrtO.ints_out hS g1 g2
  obtain ⟨e', he'⟩ := PyProof.Rows.sortedHeap_at (vs := acc.toList) (out := out.toArray) hoL
  have hlen : ((out.map SrtO.iv).map V.int).length ≤ sizeLine := by
    rw [List.length_map, f2.length_eq, ← hl]
    exact h16
  refine wpAny_pure ⟨_, rfl, .ref h'.objs.size, upd H1 h'.objs.size (.lst ((out.map SrtO.iv).map V.int)), I2.laid (t' := tk) (fun b u e => ?_) (Nat.le_refl _)
    (show ObjOk X.prog X.w _ _ _ (.lst ((out.map SrtO.iv).map V.int)) from ⟨hlen, out, e', vals_of_ints f1, he'⟩), rfl, q _ _ f2 f3 (I2.hok.fresh (Nat.le_refl _))⟩
  have hb : b < h'.objs.size := Heap.lt_size e
  rw [PyProof.Rows.sortedHeap_old (Nat.ne_of_lt hb) (by rw [size_push']; exact Nat.lt_succ_of_lt hb)]
  exact Heap.get?_push_of_some _ e
/-! ### dicts of numbers -/
def kvN (hs : List (Nat × Nat)) : List (Key × V) := hs.map fun x => (Sum.inl (x.1 : Int), nV x.2)
theorem valV_ex {kvs : List (Key × V)} {k : Key} {v : V} (h : valV kvs k = some v) : ∃ kv ∈ kvs, kv.1 = k ∧ kv.2 = v := by
  unfold valV at h
  obtain ⟨kv, h1, h2⟩ := Option.map_eq_some_iff.mp h
  exact ⟨kv, List.mem_of_find?_eq_some h1, (by
    have h3 := List.find?_some h1
    exact of_decide_eq_true h3), h2⟩
theorem valV_no {kvs : List (Key × V)} {k : Key} (h : valV kvs k = none) : ∀ kv ∈ kvs, kv.1 ≠ k := by
  unfold valV at h
  rw [Option.map_eq_none_iff] at h
  intro kv hkv e
  have := List.find?_eq_none.mp h kv hkv
  exact this (decide_eq_true e)
theorem putK_no {kvs : List (Key × V)} {k : Key} {v : V} (h : valV kvs k = none) : putK kvs k v = kvs ++ [(k, v)] := by
  unfold putK
  refine if_neg fun z => ?_
  obtain ⟨kv, h1, h2⟩ := List.any_eq_true.mp z
  exact valV_no h kv h1 (of_decide_eq_true h2)
theorem kvN_has {hs : List (Nat × Nat)} {h : Nat} {v : V} (e : valV (kvN hs) (Sum.inl (h : Int)) = some v) : ∃ a, (h, a) ∈ hs := by
  obtain ⟨kv, h1, h2, _⟩ := valV_ex e
  obtain ⟨x, hx, rfl⟩ := List.mem_map.mp h1
  injection h2 with h2
  have : x.1 = h := by omega
  exact ⟨x.2, by rw [← this]; exact hx⟩
theorem kvN_no {hs : List (Nat × Nat)} {h : Nat} (e : valV (kvN hs) (Sum.inl (h : Int)) = none) (a : Nat) : (h, a) ∉ hs := fun m =>
  valV_no e _ (List.mem_map.mpr ⟨(h, a), m, rfl⟩) rfl
/-- a dict of the first numbers that are in the relation with each key -/
structure FirstN (R : Nat → Nat → Prop) (i : Nat) (hs : List (Nat × Nat)) : Prop where
  len : hs.length ≤ i
  ok : ∀ x ∈ hs, R x.2 x.1
  all : ∀ k v, k < i → R k v → ∃ a, (v, a) ∈ hs
theorem FirstN.start {R : Nat → Nat → Prop} : FirstN R 0 [] := ⟨Nat.le_refl _, fun _ h => absurd h List.not_mem_nil, fun _ _ h => absurd h (Nat.not_lt_zero _)⟩
theorem FirstN.skip {R : Nat → Nat → Prop} {i : Nat} {hs : List (Nat × Nat)} (h : FirstN R i hs) (n : ∀ v, R i v → ∃ a, (v, a) ∈ hs) : FirstN R (i + 1) hs :=
  ⟨Nat.le_succ_of_le h.len, h.ok, fun k v hk f => by
    rcases Nat.lt_succ_iff_lt_or_eq.mp hk with z | z
    · exact h.all k v z f
    · subst z
      exact n v f⟩
theorem FirstN.snoc {R : Nat → Nat → Prop} {i v : Nat} {hs : List (Nat × Nat)} (h : FirstN R i hs) (f : R i v) (one : ∀ u, R i u → u = v) : FirstN R (i + 1) (hs ++ [(v, i)]) where
  len := by
    rw [List.length_append, List.length_singleton]
    have := h.len
    omega
  ok := fun x hx => by
    rcases List.mem_append.mp hx with hx | hx
    · exact h.ok x hx
    · rw [List.mem_singleton.mp hx]
      exact f
  all := fun k u hk g => by
    rcases Nat.lt_succ_iff_lt_or_eq.mp hk with z | z
    · obtain ⟨a, ha⟩ := h.all k u z g
      exact ⟨a, List.mem_append_left _ ha⟩
    · subst z
      rw [one u g]
      exact ⟨k, List.mem_append_right _ List.mem_cons_self⟩
theorem kvN_get {hs : List (Nat × Nat)} {v a : Nat} (h : (v, a) ∈ hs) : ∃ b, (v, b) ∈ hs ∧ valV (kvN hs) (Sum.inl (v : Int)) = some (nV b) := by
  cases e : valV (kvN hs) (Sum.inl (v : Int)) with
  | none => exact absurd h (kvN_no e a)
  | some w =>
    obtain ⟨kv, h1, h2, h3⟩ := valV_ex e
    obtain ⟨x, hx, rfl⟩ := List.mem_map.mp h1
    injection h2 with h2
    have e1 : x.1 = v := by omega
    refine ⟨x.2, by rw [← e1]; exact hx, ?_⟩
    rw [← h3]
def tSortKeys (td : TE) : TE := fun σ H Q => td σ H fun x H1 => ∃ (a : Addr) (kvs : List (Key × V)) (is : List Int), x = V.ref a ∧ H1 a = some (.dK kvs) ∧ kvs.map (·.1) = is.map Sum.inl ∧
  ∀ (ys : List Int) (p : Addr), ys.Perm is → ys.Pairwise (· ≤ ·) → H1 p = none → Q (.ref p) (upd H1 p (.lst (ys.map V.int)))
theorem pe_sortedKeys (hc : X.calm = true) (hg : Gl X "sorted") (hm : X.mg "sorted" = none) (hd : PE X o td) (hbase : attributeBase o "keys" X.env (eval o X.env) = eval o X.env := by rfl) (hline : (apos.endLine == mpos.line) = true := by rfl)
    (hse : starEach [Expr.Call (.Attribute o "keys" apos) [] [] mpos] X.env = [(false, eval (Expr.Call (.Attribute o "keys" apos) [] [] mpos) X.env)] := by rfl) :
    PE X (.Call (.Name "sorted" p) [.Call (.Attribute o "keys" apos) [] [] mpos] [] pos) (tSortKeys td) := by
  refine ⟨fun pins s σ H Q I h => ?_⟩
  refine wpAny_Call_Name_kw (ld_blt I hg hm (u := .builtin "sorted") (by decide +kernel) ?_ (by decide +kernel) (by decide +kernel))
  rw [hse]
  refine PySem.callWith_builtin1 (wpAny_Call_method0_late hbase hline (thn (hd.run pins s σ H _ I h) fun v s1 ⟨x, H1, I1, r1, a, kvs, is, ex, ha, hv, q⟩ => ?_))
  subst ex
  cases r1
  obtain ⟨hz, hsys, vs, rel, dof⟩ := dk_of I1.hok ha
  obtain ⟨ep, dat⟩ := dof.dictAt
  obtain ⟨ob, es, ho, exx, hdat, hko, hpr, hnd⟩ := id dat
  refine ⟨"dict", "dict.keys", F.plainAttrs_dict, F.slot_dict_keys, F.type_dict_keys, ⟨ob, ho, exx.1⟩, fun b e => ?_, Calls.callWith_builtin rfl (PySem.evalArgs_none ?_)⟩
  · cases e
    exact ⟨ob, ho, exx.2.1⟩
  refine call_meetsIn F.slot_dict_keys ⟨ob, ho, exx.1⟩ F.entry_dict_keys (F.args_dict_keys_1 _) (PySem.W.kdl_meets_keys (mixKind X.prog X.w) a hsys) ⟨⟨vs, dof⟩, ?_⟩
  have hkeys : vs.map (·.1) = is.map Sum.inl := rel.keys.symm.trans hv
  have hl : vs.length = is.length := by
    have e := congrArg List.length hkeys
    rw [List.length_map, List.length_map] at e
    exact e
  have h16 : vs.length ≤ sizeLine := by
    rw [← KV.length rel]
    exact hz
  have k1 : ∀ b u, s1.heap.get? b = some u → (s1.heap.push { cls := .type "dict_keys", data := .fields #[.ref a] }).get? b = some u := fun b u e => Heap.get?_push_of_some _ e
  have dat1 : (s1.heap.push { cls := .type "dict_keys", data := .fields #[.ref a] }).DictAt (mixKind X.prog X.w) a vs ep := dat.keep k1
  refine Calls.call_function_entry PyProof.Rows.kind_sorted PyProof.Rows.plain_sorted PyProof.Rows.entry_sorted (PyProof.Rows.args_sorted1 _) ?_
  unfold Builtin.«sorted»
  refine wpAny_bind (m := checkCount "sorted" 1 1 _) (wpAny_pure ?_)
  refine wpAny_bind (PySem.W.kdu_collect (A := X.A.in1) (PySem.W.kdl_keys (r := s1.heap.objs.size) (d := a) (knd := mixKind X.prog X.w) (kvs := vs) (ep := ep)) (I.ok.hd hc) ⟨⟨_, Heap.get?_push_size _ rfl, rfl, rfl⟩, dat1⟩ h16 fun h' tk acc hk hacc => ?_)
  have hal : acc.toList.length = is.length := by rw [Array.length_toList, hacc.1, hl]
  have hS : IntsAre acc.toList is := int_ones hal fun j v e => by
    obtain ⟨k, x, hk2, hk3⟩ := hacc.2 j v (by rw [← Array.getElem?_toList]; exact e)
    have e3 : (vs.map (·.1))[j]? = some k := by
      rw [List.getElem?_map, hk2]
      rfl
    rw [hkeys, List.getElem?_map] at e3
    obtain ⟨i, hj, e2⟩ := Option.map_eq_some_iff.mp e3
    subst e2
    rcases keyIs_shape (show keyIs (Sum.inl i) v = true from hk3) with ⟨z, t, ek, ev⟩ | ⟨z, t, ek, ev⟩
    · cases ek
      exact ⟨i, t, hj, ev⟩
    · cases ek
  have I2 : Inv X pins σ H1 { s1 with heap := h', toks := tk } := I1.kept fun b u e => hk b u (k1 b u e)
  refine wpAny_bind (wpAny_newList ?_ (by rw [hal, ← hl]; exact h16))
  have hoL : (h'.push (seqObj "list" acc.toList.toArray 0)).get? h'.objs.size = some (seqObj "list" acc.toList.toArray 0) := Heap.get?_push_size _ rfl
  refine wpAny_bind (wpAny_holding (wpAny_call_entry PyProof.Rows.slot_list_sort ⟨_, hoL, rfl⟩ PyProof.Rows.entry_list_sort
    (SrtO.list_sort_ord (s := { s1 with heap := h'.push (seqObj "list" acc.toList.toArray 0), toks := tk }) SrtO.swo_int hoL (by rw [hal, ← hl]; exact h16) (fun h2 => SrtO.ints_sortable hS h2) fun out g1 g2 => ⟨_, rfl, ?_⟩) (PyProof.Rows.args_list_sort _)))
  obtain ⟨f1, f2, f3⟩ := SrtO.ints_out hS g1 g2
  obtain ⟨e', he'⟩ := PyProof.Rows.sortedHeap_at (vs := acc.toList) (out := out.toArray) hoL
  have hlen : ((out.map SrtO.iv).map V.int).length ≤ sizeLine := by
    rw [List.length_map, f2.length_eq, ← hl]
    exact h16
  refine wpAny_pure ⟨_, rfl, .ref h'.objs.size, upd H1 h'.objs.size (.lst ((out.map SrtO.iv).map V.int)), I2.laid (t' := tk) (fun b u e => ?_) (Nat.le_refl _)
    (show ObjOk X.prog X.w _ _ _ (.lst ((out.map SrtO.iv).map V.int)) from ⟨hlen, out, e', vals_of_ints f1, he'⟩), rfl, q _ _ f2 f3 (I2.hok.fresh (Nat.le_refl _))⟩
  have hb : b < h'.objs.size := Heap.lt_size e
  rw [PyProof.Rows.sortedHeap_old (Nat.ne_of_lt hb) (by rw [size_push']; exact Nat.lt_succ_of_lt hb)]
  exact Heap.get?_push_of_some _ e
end U

/-! where it is known that no repr is under way: the law itself -/
namespace U
open PySem PySem.Spec PyProof.Rows L2
section
variable {P : Program} {w : World} {K : PySem.W.Frag} {mg : Str → Option Value} {base : Heap}
/-- a def's promise to a caller that stands in no repr -/
structure FnG (P : Program) (w : World) (K : PySem.W.Frag) (mg : Str → Option Value) (base : Heap) (k : Nat) (f : Addr) (fd : FuncData) (ps : List Str) (sp : Sp) : Prop where
  len : ∀ vs H Q E, sp vs H Q E → vs.length = ps.length
  run : ∀ (A : Around) (outer : List Env) (s : Shared) (H : Hp) (args : Args) (us : List Value) (vs : List V) (Q : VK) (E : XK), A.guards = some [] → Room k A → Env0 P w K mg base A outer s H → BindsTo s fd args (ps.zip us) → Vals vs us → sp vs H Q E →
    codeAny (model P w) A (.call (.ref f) args) (CR CX0 outer P w H s Q E) s
theorem Fun.okG {x qual : Str} {st : Stmt} {f : Addr} {fd : FuncData} {N ps : List Str} {k : Nat} {sp : Sp} (F : Fun K x qual st f fd) (S : FnScope N ps (defScope st)) (len : ∀ vs H Q E, sp vs H Q E → vs.length = ps.length)
    (body : ∀ (cdv : Value) (A : Around) (outer : List Env) (s : Shared) (H : Hp) (vs : List V) (Q : VK) (E : XK), A.guards = some [] → Room k (A.deeper (envOfC qual (defScope st) s.heap.objs.size f cdv)) → sp vs H Q E →
      ∃ t, PSs (cxOf CX0 P w K mg base N qual (defScope st) f cdv A outer s H E).nox (defBody st) t ∧ t { nx := fun _ H' => Q .non H', rt := Q } (start N vs) H) : FnG P w K mg base (k + 1) f fd ps sp := by
  obtain ⟨oc, od, kV, doc, pm, an, cdv, ct, osl, rfl, at_, code⟩ := F.ex
  refine ⟨len, ?_⟩
  intro A outer s H args us vs Q E hg room env bnd vals promise
  have old : ∀ b o, base.get? b = some o → s.heap.get? b = some o := fun b o e => (env.bs b o e).1
  have kin := env.mod.kin.keeps old
  obtain ⟨t, reads, goal⟩ := body cdv A outer s H vs Q E hg (room.deeper _) promise
  apply codeAny_call_function room.depth (kin _ _ at_) rfl S.co S.gen rfl (PySem.W.codeRec_of kin code)
  apply bnd
  apply wpAny_newFunctionEnv_cells S.kind
  · rintro ⟨n, v⟩ hn
    exact (S.par n (List.of_mem_zip hn).1).imp id fun q => And.intro q (PySem.W.cellsFrom_some _ _ _ (Or.inl q))
  rintro _ rfl s1 made
  refine ⟨(env.mod.nolimit.keeps old).keeps made.toInCall.keep, codeAny_func ?_⟩
  refine wpAny_mono (reads.nox.run [] s1 _ H _ (inv_start S room.hd env (len _ _ _ _ promise) vals made) goal) ?_ fun _ _ h => h
  rintro (_ | _ | _ | u) s2 h
  · exact h.elim fun _ h => h.elim fun H' h => ⟨.non, H', h.1.os, h.1.bare, h.1.base, h.1.hok, rfl, h.2⟩
  · exact h.elim fun _ h => h.elim fun _ h => h.2.elim
  · exact h.elim fun _ h => h.elim fun _ h => h.2.elim
  · obtain ⟨v, _, H', J, rel, q⟩ := h
    exact ⟨v, H', J.os, J.bare, J.base, J.hok, rel, q⟩
end
/-- a def that keeps its promise where no repr is under way -/
structure HasG (P : Program) (w : World) (K : PySem.W.Frag) (mg : Str → Option Value) (base : Heap) (x : Str) (k : Nat) (ps : List Str) (sp : Sp) : Prop where
  ex : ∃ f fd, mg x = some (.ref f) ∧ PySem.W.keepIn K (.ref f) = true ∧ Binds K fd ps [] ∧ FnG P w K mg base k f fd ps sp ∧ Lk K f fd
theorem Df.hasG {P : Program} {w : World} {K : PySem.W.Frag} {mg : Str → Option Value} {base : Heap} {x : Str} {st : Stmt} {ps : List Str} {k : Nat} {sp : Sp} (d : Df K mg x st ps)
    (h : ∀ f fd, Fun K x x st f fd → FnG P w K mg base k f fd ps sp) : HasG P w K mg base x k ps sp := by
  obtain ⟨f, fd, named, F, bound⟩ := d.ex
  exact ⟨f, fd, named, F.kp, bound, h f fd F, Fun.lk F⟩
section
variable {X : Cx} {k j : Nat} {ps : List Str} {sp : Sp} {x : Str} {p pos : Pos} {e : Expr} {es : List Expr} {t : TA}
theorem pcallG (h : HasG X.prog X.w X.K X.mg X.base x k ps sp) (quiet : X.A.guards = some []) (hr : Room j X.A) (hk : k ≤ j) (hg : Gl X x) (ha : PA X (e :: es) t) (hdb : (x == ("__debug__" : Str)) = false := by decide)
    (he : starEach (e :: es) X.env = (false, eval e X.env) :: starEach es X.env := by rfl) (hpl : (backTo pos (starEach es X.env)).any (·.1) = false := by rfl) :
    PE X (.Call (.Name x p) (e :: es) [] pos) (tCall sp [] E0 t) := by
  obtain ⟨f, fd, named, kept, bound, F, _⟩ := h.ex
  constructor
  intro pins s σ H Q I goal
  apply wpAny_Call_Name_kw
  apply ld_glob I hg named _ hdb
  apply PySem.W.callWith_K (h₀ := X.base) I.ok.mod.kin kept _ he hpl
  refine thn (ha.run pos pins s σ H _ I goal) ?_
  rintro us s1 ⟨vs, H1, I1, rel, prom⟩
  rw [List.append_nil] at prom
  refine ⟨I1.kIn, wpAny_call (codeAny_mono (F.run X.A X.stack s1 H1 ⟨us, []⟩ us vs Q E0 quiet (hr.mono hk) I1.env0 ?_ rel prom) ?_)⟩
  · have many : us.length = ps.length := rel.length.symm.trans (F.len _ _ _ _ prom)
    have := bound s1 us I1.kIn (by rw [List.append_nil]; exact many)
    rwa [List.append_nil] at this
  · rintro (bad | _ | _ | _ | u) s2 out
    · exact pass0 pins σ H1 s1 bad s2 I1 out
    · exact out.elim
    · exact out.elim
    · exact out.elim
    · exact I1.after out
end
theorem bo_repr : bootBuiltins "repr" = some (.builtin "repr") := by decide +kernel
/-- repr of a tuple or list of plain values -/
def rRepr (K : PySem.W.Frag) : List V → Hp → VK → Prop := fun xs H Q => ∃ (a : Addr) (d : PyData), xs = [.ref a] ∧ Dp K H (.ref a) d ∧ d.showable = true ∧ d.hasDict = false ∧ d.depth ≤ 8 ∧ d.shown.length ≤ sizeLine ∧ Q (.str d.shown) H
theorem k_repr {X : Cx} {K : PySem.W.Frag} (h : X.K = K) (hg : X.A.guards = some []) (hu : X.A.units + 64 < cLine) : CallR X (.builtin "repr") (rRepr K) := by
  subst h
  intro pins s σ H xs us Q I r ⟨a, d, e, hd, hs, hnd, hdp, hsz, q⟩
  subst e
  obtain ⟨u, rfl, ru⟩ := vals1 r
  obtain ⟨as, rd⟩ := Dp.reads I d _ _ hd ru
  cases ru
  exact repr_of_reads' rd hs (PyData.noDict_hsm hnd) hg (by omega) (fun _ _ e => e) (fun h' u tk hk => ⟨.str d.shown, H, I.kept hk, ⟨_, rfl⟩, q⟩) hsz
/-- sorted(t), a tuple of ints -/
def rSortedT (K : PySem.W.Frag) : List V → Hp → VK → Prop := fun vs H Q => ∃ (a : Addr) (ns : List Int), vs = [V.ref a] ∧ SqT K H a (ns.map V.int) ∧
  ∀ (ns' : List Int) (p : Addr), ns'.Perm ns → ns'.Pairwise (· ≤ ·) → H p = none → Q (.ref p) (upd H p (.lst (ns'.map V.int)))
theorem k_sortedT {X : Cx} {K : PySem.W.Frag} (h : X.K = K) : CallR X (.builtin "sorted") (rSortedT K) := by
  subst h
  intro pins s σ H xs us Q I r ⟨a, is, e, ha, q⟩
  subst e
  obtain ⟨u, rfl, ru⟩ := vals1 r
  cases ru
  obtain ⟨its, rv, ht, hz⟩ := I.tuple ha
  have hS : IntsAre its is := rv.ints
  have h16 : its.length ≤ sizeLine := by rw [← rv.length]; exact hz
  obtain ⟨o, ho, hc, n, hd⟩ := id ht
  refine Calls.call_function_entry PyProof.Rows.kind_sorted PyProof.Rows.plain_sorted PyProof.Rows.entry_sorted (PyProof.Rows.args_sorted1 _) ?_
  unfold Builtin.«sorted»
  refine wpAny_bind (m := checkCount "sorted" 1 1 _) (wpAny_pure ?_)
  refine wpAny_bind (wpAny_collect_seq a (.inr rfl) ho hc hd (fun h' hk => ?_) (by rw [List.size_toArray]; exact h16))
  have I2 : Inv X pins σ H { s with heap := h' } := I.kept (t' := s.toks) hk
  have e0 : its.toArray.toList = its := rfl
  rw [e0]
  refine wpAny_bind (wpAny_newList ?_ h16)
  have hoL : (h'.push (seqObj "list" its.toArray 0)).get? h'.objs.size = some (seqObj "list" its.toArray 0) := Heap.get?_push_size _ rfl
  refine wpAny_bind (wpAny_holding (wpAny_call_entry PyProof.Rows.slot_list_sort ⟨_, hoL, rfl⟩ PyProof.Rows.entry_list_sort
    (SrtO.list_sort_ord (s := { s with heap := h'.push (seqObj "list" its.toArray 0) }) SrtO.swo_int hoL h16 (fun h2 => SrtO.ints_sortable hS h2) fun out g1 g2 => ⟨_, rfl, ?_⟩) (PyProof.Rows.args_list_sort _)))
  obtain ⟨f1, f2, f3⟩ := SrtO.ints_out hS g1 g2
  obtain ⟨e', he'⟩ := PyProof.Rows.sortedHeap_at (vs := its) (out := out.toArray) hoL
  have hlen : ((out.map SrtO.iv).map V.int).length ≤ sizeLine := by
    rw [List.length_map, f2.length_eq]
    rw [List.length_map] at hz
    exact hz
  refine wpAny_pure ⟨_, rfl, .ref h'.objs.size, upd H h'.objs.size (.lst ((out.map SrtO.iv).map V.int)), I2.laid (t' := s.toks) (fun b u e => ?_) (Nat.le_refl _)
    (show ObjOk X.prog X.w _ _ _ (.lst ((out.map SrtO.iv).map V.int)) from ⟨hlen, out, e', vals_of_ints f1, he'⟩), rfl, q _ _ f2 f3 (I2.hok.fresh (Nat.le_refl _))⟩
  have hb : b < h'.objs.size := Heap.lt_size e
  rw [PyProof.Rows.sortedHeap_old (Nat.ne_of_lt hb) (by rw [size_push']; exact Nat.lt_succ_of_lt hb)]
  exact Heap.get?_push_of_some _ e
/-- a tuple that the text sets at its top -/
structure GTup (K : PySem.W.Frag) (mg : Str → Option Value) (x : Str) (A : Addr) (xs : List V) : Prop where
  g : mg x = some (.ref A)
  t : ∀ H, SqT K H A xs
theorem kit_str {K : PySem.W.Frag} {s : String} (m : s ∈ ["NoneType", "bool", "int", "str", "list", "tuple", "dict"]) : PySem.W.kitOne K (.type s) (.type "str") = some (s == "str") := by
  simp only [List.mem_cons, List.not_mem_nil, or_false] at m
  rcases m with rfl | rfl | rfl | rfl | rfl | rfl | rfl <;> exact kit_ty (by decide +kernel)
theorem k_min {X : Cx} {K : PySem.W.Frag} (h : X.K = K) (hc : X.calm = true) : CallR X (.builtin "min") (rMin K) := by subst h; exact cr_min hc
theorem k_max {X : Cx} {K : PySem.W.Frag} (h : X.K = K) (hc : X.calm = true) : CallR X (.builtin "max") (rMax K) := by subst h; exact cr_max hc
/-! ### the top: what the law finds there -/
section
variable {P : Program} {w : World} {K : PySem.W.Frag} {mg mb : Str → Option Value} {a : Addr} {s₁ : Shared} {vs : List Value} {ns : List Int}
/-- what is known of the script, if it's no object of the written part -/
noncomputable def scriptH (K : PySem.W.Frag) (a : Addr) (vs : List Value) (ns : List Int) : Hp := fun b => open Classical in if b = a ∧ K.lookup a = none then some (.frz { cls := .type "list", data := .seq vs.toArray } (.lst (ns.map V.int))) else none
theorem scriptH_some {b : Addr} {o : HO} (h : scriptH K a vs ns b = some o) : b = a ∧ K.lookup a = none ∧ o = .frz { cls := .type "list", data := .seq vs.toArray } (.lst (ns.map V.int)) := by
  unfold scriptH at h
  split at h
  · rename_i c
    exact ⟨c.1, c.2, (Option.some.inj h).symm⟩
  · cases h
theorem scriptH_none {b : Addr} (h : b = a → K.lookup a ≠ none) : scriptH K a vs ns b = none := by
  cases e : scriptH K a vs ns b with
  | none => rfl
  | some o => exact absurd (scriptH_some e).2.1 (h (scriptH_some e).1)
theorem scriptH_seq (KX : K.In s₁.heap) (ha : s₁.heap.get? a = some { cls := .type "list", data := .seq vs.toArray }) (hi : IntsAre vs ns) (hl : ns.length ≤ sizeLine) : SqL K (scriptH K a vs ns) a (ns.map V.int) := by
  cases hk : K.lookup a with
  | none => exact .inl (.inr ⟨{ cls := .type "list", data := .seq vs.toArray }, if_pos ⟨rfl, hk⟩⟩)
  | some o =>
    have e := (KX a o hk).symm.trans ha
    cases e
    exact .inr ⟨_, vs.toArray, _, hk, rfl, rfl, rfl, by rw [List.size_toArray, hi.length]; exact hl, vals_ints hi⟩
theorem scriptH_ok (ha : s₁.heap.get? a = some { cls := .type "list", data := .seq vs.toArray }) (hi : IntsAre vs ns) (hl : ns.length ≤ sizeLine) : HOk P w (scriptH K a vs ns) s₁.heap := fun b u e => by
  obtain ⟨rfl, _, rfl⟩ := scriptH_some e
  exact ⟨ha, (by rw [List.length_map]; exact hl), vs, _, vals_ints hi, ha⟩
/-- a dict is not the script -/
theorem scriptH_ns {b : Addr} {m : Str → Option Value} (ha : s₁.heap.get? a = some { cls := .type "list", data := .seq vs.toArray }) (h : s₁.heap.Ns b m) : (hidT s₁.heap (scriptH K a vs ns)).Ns b m := by
  obtain ⟨o, es, ep, e, d, r⟩ := h
  refine ⟨o, es, ep, hidT_get e (scriptH_none fun z => ?_), d, r⟩
  subst z
  rw [ha] at e
  cases e
  cases (show Data.seq vs.toArray _ = Data.dict es ep from d)
theorem scriptH_kin (KX : K.In s₁.heap) : K.In (hidT s₁.heap (scriptH K a vs ns)) := fun b o e => hidT_get (KX b o e) (scriptH_none fun z => by
  subst z
  rw [e]
  exact fun z => by cases z)
theorem law_callG {k : Nat} {fa : Addr} {fd : FuncData} {x : Str} {sp : Sp} (KX : K.In s₁.heap) (hns : s₁.heap.Ns mainGlobals mg) (hb : s₁.heap.Ns builtinsNs mb) (hbb : ∀ x : Str, x ≠ "__name__" → mb x = bootBuiltins x) (hlim : s₁.heap.NoLimit) (hg : s₁.gens = #[])
    (ha : s₁.heap.get? a = some { cls := .type "list", data := .seq vs.toArray }) (hi : IntsAre vs ns) (hl : ns.length ≤ sizeLine) (hr : Room k callerA)
    (F : ∀ base : Heap, K.In base → base.Ns mainGlobals mg → FnG P w K mg base k fa fd [x] sp) (hbind : ∀ (s : Shared) (u : Value), BindsTo s fd ⟨[u], []⟩ [(x, u)])
    (hsp : ∀ H : Hp, SqL K H a (ns.map V.int) → sp [.ref a] H (fun v _ => v = .bl true) fun _ _ _ => False) :
    codeAny (model P w) callerA (.call (.ref fa) ⟨[.ref a], []⟩) (fun r s' => r = .ok (.ret (.bool true)) ∧ OldK s₁.heap s'.heap ∧ s'.os = s₁.os ∧ AllBare s'.gens) s₁ := by
  have kin := scriptH_kin (vs := vs) (ns := ns) (a := a) KX
  have ok : HOk P w (scriptH K a vs ns) s₁.heap := scriptH_ok ha hi hl
  have lim : (hidT s₁.heap (scriptH K a vs ns)).NoLimit := by
    obtain ⟨mc, h1, h2⟩ := hlim
    exact ⟨mc, scriptH_ns ha h1, h2⟩
  have env : Env0 P w K mg (hidT s₁.heap (scriptH K a vs ns)) callerA [] s₁ (scriptH K a vs ns) :=
    { frames := rfl
      mod := ⟨kin, scriptH_ns ha hns, ⟨mb, scriptH_ns ha hb, hbb⟩, lim⟩
      bs := fun _ _ e => of_hidT e
      bsz := Nat.le_of_eq (hidT_size _ _)
      funs := trivial
      frf := fun _ hb => (List.not_mem_nil hb).elim
      hok := ok
      bare := .of_eq hg }
  refine codeAny_mono ((F _ kin (scriptH_ns ha hns)).run callerA [] s₁ _ ⟨[.ref a], []⟩ [.ref a] [.ref a] _ _ rfl hr env (hbind s₁ (.ref a)) (.cons rfl .nil) (hsp _ (scriptH_seq KX ha hi hl))) ?_
  rintro (e | _ | _ | _ | u) s' h
  · exact h.elim
  · exact h.elim
  · exact h.elim
  · exact h.elim
  · obtain ⟨_, H', os, bare, un, ok', rel, rfl⟩ := h
    cases rel
    refine ⟨rfl, OldK.of_keep fun b o e => ?_, os, bare⟩
    cases q : scriptH K a vs ns b with
    | none => exact un.keep b o e q List.not_mem_nil List.not_mem_nil
    | some u =>
      obtain ⟨rfl, _, rfl⟩ := scriptH_some q
      rw [ha] at e
      cases e
      exact (ok' _ _ (un.frzs _ _ _ q)).1
end
/-- the end: as the library's walk_of, for a law that asks for repr itself -/
theorem walk_ofG {l : PySem.W.OpenLaw} {n k : Nat} {q : Program} {loose : List Str} {XP : (Str → Option Value) → Heap → Prop} {YP : World → Heap → Prop} {d : DefRec} {K : Params → PySem.W.Frag} {sp : World → Sp} {x : Str}
    (hn : l.most = some n) (hn2 : n ≤ sizeLine) (hdf : d.params.defaults = []) (hr : Room k callerA)
    (hY : ∀ (w : World) (h : Heap), YP w h → (K w.params).In h)
    (F : ∀ (w : World) (mg : Str → Option Value) (fa : Addr) (h : Heap), (K w.params).In h → h.Ns mainGlobals mg → mg d.name = some (.ref fa) →
      ∃ fd : FuncData, (∀ (s : Shared) (u : Value), BindsTo s fd ⟨[u], []⟩ [(x, u)]) ∧
        ∀ base : Heap, (K w.params).In base → base.Ns mainGlobals mg → FnG l.prog w (K w.params) mg base k fa fd [x] (sp w))
    (hsp : ∀ (w : World) (H : Hp) (a : Addr) (ns : List Int), ns.length ≤ n → SqL (K w.params) H a (ns.map V.int) → sp w [.ref a] H (fun v _ => v = .bl true) fun _ _ _ => False) :
    PySem.W.WalkO q loose XP YP l.row.toRowW d [] (fun f vs => PySem.call f vs) := by
  refine Att.attach_call hn hdf fun w s₀ s₁ mg mb fa o pm cd doc a vs ns G Y ho hd hcd hmg hobj hints hlen hg => ?_
  obtain ⟨fd, bd, Fd⟩ := F w mg fa _ (hY w _ Y) G.T.g hmg
  exact law_callG (hY w _ Y) G.T.g G.T.b G.T.builtins G.T.nolimit hg hobj hints (Nat.le_trans hlen hn2) hr Fd bd fun H hS => hsp w H a ns hlen hS
end U

/-! methods and constructors that raise -/
namespace U
open PySem PySem.Spec PyProof.Rows L2
structure HasMX (P : Program) (w : World) (K : PySem.W.Frag) (mg : Str → Option Value) (base : Heap) (C : Addr) (m : Str) (k : Nat) (ps : List Str) (sp : Sp) : Prop where
  ex : ∃ f fd, Meth K C m f ∧ Binds K fd ps [] ∧ FnOk P w K mg base (L2.CX P w) k f fd ps sp ∧ Lk K f fd
structure HasIX (P : Program) (w : World) (K : PySem.W.Frag) (mg : Str → Option Value) (base : Heap) (C : Addr) (k : Nat) (ps : List Str) (sp : Sp) : Prop where
  ex : ∃ f fd, Mk K C f ∧ Binds K fd ps [] ∧ FnOk P w K mg base (L2.CX P w) k f fd ps sp ∧ Lk K f fd
section
variable {P : Program} {w : World} {K : PySem.W.Frag} {mg : Str → Option Value} {base : Heap} {C : Addr} {m qual : Str} {st : Stmt} {ps : List Str} {k : Nat} {sp s1 s2 : Sp}
theorem DfM.hasX (d : DfM K C m qual st ps) (h : ∀ f fd, Fun K m qual st f fd → FnOk P w K mg base (L2.CX P w) k f fd ps sp) : HasMX P w K mg base C m k ps sp := by
  obtain ⟨f, fd, meth, F, bound⟩ := d.ex
  exact ⟨f, fd, meth, bound, h f fd F, Fun.lk F⟩
theorem DfI.hasX (d : DfI K C qual st ps) (h : ∀ f fd, Fun K "__init__" qual st f fd → FnOk P w K mg base (L2.CX P w) k f fd ps sp) : HasIX P w K mg base C k ps sp := by
  obtain ⟨f, fd, made, F, bound⟩ := d.ex
  exact ⟨f, fd, made, bound, h f fd F, Fun.lk F⟩
theorem fnOk_x {f : Addr} {fd : FuncData} (F : FnOk P w K mg base CX0 k f fd ps sp) : FnOk P w K mg base (L2.CX P w) k f fd ps sp := ⟨F.len, fun A outer s H args us vs Q E hr he hb hv hs => codeAny_mono (F.run A outer s H args us vs Q E hr he hb hv hs) fun r s' hq => by
  rcases r with e | _ | _ | _ | u
  · exact False.elim hq
  · exact False.elim hq
  · exact False.elim hq
  · exact False.elim hq
  · exact hq⟩
theorem fnOk_or {f : Addr} {fd : FuncData} (F1 : FnOk P w K mg base (L2.CX P w) k f fd ps s1) (F2 : FnOk P w K mg base (L2.CX P w) k f fd ps s2) : FnOk P w K mg base (L2.CX P w) k f fd ps (spOr s1 s2) :=
  ⟨fun vs H Q E h => h.elim (F1.len _ _ _ _) (F2.len _ _ _ _), fun A outer s H args us vs Q E hr he hb hv hs => hs.elim (F1.run A outer s H args us vs Q E hr he hb hv) (F2.run A outer s H args us vs Q E hr he hb hv)⟩
theorem lk_one {f : Addr} {d1 d2 : FuncData} (h1 : Lk K f d1) (h2 : Lk K f d2) : d1 = d2 := by
  obtain ⟨_, _, _, e1⟩ := h1
  obtain ⟨_, _, _, e2⟩ := h2
  have e := e1.symm.trans e2
  cases e
  rfl
theorem HasM.or (h1 : HasM P w K mg base C m k ps s1) (h2 : HasMX P w K mg base C m k ps s2) : HasMX P w K mg base C m k ps (spOr s1 s2) := by
  obtain ⟨f, fd, m1, b, F1, l1⟩ := h1.ex
  obtain ⟨f2, fd2, m2, _, F2, l2⟩ := h2.ex
  have e := m1.at_.symm.trans m2.at_
  cases e
  cases lk_one l1 l2
  exact ⟨f, fd, m1, b, fnOk_or (fnOk_x F1) F2, l1⟩
theorem HasI.or (h1 : HasI P w K mg base C k ps s1) (h2 : HasIX P w K mg base C k ps s2) : HasIX P w K mg base C k ps (spOr s1 s2) := by
  obtain ⟨f, fd, m1, b, F1, l1⟩ := h1.ex
  obtain ⟨f2, fd2, m2, _, F2, l2⟩ := h2.ex
  have e := m1.init.symm.trans m2.init
  cases e
  cases lk_one l1 l2
  exact ⟨f, fd, m1, b, fnOk_or (fnOk_x F1) F2, l1⟩
theorem HasM.toX (h : HasM P w K mg base C m k ps s1) : HasMX P w K mg base C m k ps s1 := by
  obtain ⟨f, fd, m1, b, F, l⟩ := h.ex
  exact ⟨f, fd, m1, b, fnOk_x F, l⟩
end
section
variable {X : Cx} {j k : Nat} {o e : Expr} {es : List Expr} {ta : TE} {t : TA} {C : Addr} {m x : Str} {ps : List Str} {sp : Sp} {apos p pos : Pos}
def tMethS (C : Addr) (m : Str) (sp : Sp) (E : L2.St → XK) (ta : TE) (t : TA) : TE := fun σ H Q => tMeth C m sp [] (E σ) ta t σ H Q
def tMakeS (C : Addr) (sp : Sp) (E : L2.St → XK) (t : TA) : TE := fun σ H Q => tMake C sp [] (E σ) t σ H Q
theorem pmethS {pl : Sem Bool} {W : WX} (he : PE X o ta) (c : Cls X.K C) (h : HasMX X.prog X.w X.K X.mg X.base C m k ps sp) (hr : Room j X.A) (hk : k ≤ j) (tk : Takes X W) (ha : PA X (e :: es) t) (each : starEach (e :: es) X.env = (false, eval e X.env) :: starEach es X.env := by rfl) (nostar : (backTo pos (starEach es X.env)).any (·.1) = false := by rfl)
    (ht : eval (.Call (.Attribute o m apos) (e :: es) [] pos) X.env = (do let ov ← eval o X.env; standAt apos.atName; let (f, first) ← holding [ov] (getMethod ov m pl); callWith pos f first (backTo pos (starEach (e :: es) X.env)) (backToKw pos (keywordEach [] X.env))) := by rfl) :
    PE X (.Call (.Attribute o m apos) (e :: es) [] pos) (tMethS C m sp (WE W) ta t) := by
  obtain ⟨f, fd, meth, bound, F, _⟩ := h.ex
  constructor
  intro pins s σ H Q I goal
  apply PySem.W.methodCall_KW (pl := pl) _ ht
  apply thn (he.run pins s σ H _ I goal)
  rintro u s1 ⟨_, H1, I1, rx, a, dx, fs, rfl, ea, l, q⟩
  cases rx
  apply getmeth_ok I1 ea c meth l
  apply PySem.W.callWith_K (first := [.ref a]) (h₀ := X.base) I.ok.mod.kin meth.kp _ each nostar
  apply thn (ha.run pos pins s1 σ H1 _ I1 q)
  rintro us s2 ⟨vs, H2, I2, r, q2⟩
  exact ⟨I2.kIn, run_fnSD (us := .ref a :: us) (vs := .ref a :: vs) (E := WE W) F (hr.mono hk) bound .nil (passAt tk σ) I2 (.cons rfl r) q2⟩
theorem run_makeS {W : WX} {f : Addr} {fd : FuncData} {pins : List (Addr × Obj)} {σ : L2.St} {H : Hp} {s : Shared} {Q : VK} {us : List Value} {vs : List V} (M : Mk X.K C f) (F : FnOk X.prog X.w X.K X.mg X.base (L2.CX X.prog X.w) k f fd ps sp) (room : Room (k + 1) X.A) (bound : Binds X.K fd ps []) (tk : Takes X W) (I : Inv X pins σ H s) (rel : Vals vs us)
    (prom : ∀ x dx, H x = none → H dx = none → dx ≠ x → sp (.ref x :: (vs ++ [])) (upd (upd H dx (.own x)) x (.ins C dx [])) (fun v H2 => v = .non ∧ Q (.ref x) H2) (WE W σ)) : wpAny (model X.prog X.w) X.A (call (.ref C) us) (EP X pins σ Q) X.xe s := by
  have here := prom (s.heap.objs.size + 1) s.heap.objs.size (I.hok.fresh (Nat.le_succ _)) (I.hok.fresh (Nat.le_refl _)) (Nat.ne_of_lt (Nat.lt_succ_self _))
  rw [List.append_nil] at here
  have J := Inv.made (C := C) I
  have rel2 : Vals (V.ref (s.heap.objs.size + 1) :: vs) (Value.ref (s.heap.objs.size + 1) :: us) := .cons rfl rel
  have many : (Value.ref (s.heap.objs.size + 1) :: us).length = ps.length := rel2.length.symm.trans (F.len _ _ _ _ here)
  have bnd := bound _ (Value.ref (s.heap.objs.size + 1) :: us) J.kIn (by rw [List.append_nil]; exact many)
  rw [List.append_nil] at bnd
  apply wpAny_call
  apply make_map (f := f) I.kIn M.makes M.init (beq_iff_eq.mp M.fn)
  refine codeAny_mono (F.run _ X.stack _ _ ⟨Value.ref (s.heap.objs.size + 1) :: us, []⟩ (Value.ref (s.heap.objs.size + 1) :: us) _ _ (WE W σ) (room.make C us []) (J.env0.make C us []) bnd rel2 here) ?_
  rintro (bad | _ | _ | _ | u) s2 out
  · exact passAt tk σ pins _ _ bad s2 J out
  · exact False.elim out
  · exact False.elim out
  · exact False.elim out
  · obtain ⟨v, H3, J3, rv, rfl, q3⟩ := J.after out
    exact ⟨rv, V.ref (s.heap.objs.size + 1), H3, J3, rfl, q3⟩
theorem pmakeS {W : WX} (h : HasIX X.prog X.w X.K X.mg X.base C k ps sp) (hr : Room j X.A) (hk : k + 1 ≤ j) (hg : Gl X x) (hm : X.mg x = some (.ref C)) (tk : Takes X W) (ha : PA X (e :: es) t) (hdb : (x == ("__debug__" : Str)) = false := by decide) (each : starEach (e :: es) X.env = (false, eval e X.env) :: starEach es X.env := by rfl) (nostar : (backTo pos (starEach es X.env)).any (·.1) = false := by rfl) :
    PE X (.Call (.Name x p) (e :: es) [] pos) (tMakeS C sp (WE W) t) := by
  obtain ⟨f, fd, made, bound, F, _⟩ := h.ex
  constructor
  intro pins s σ H Q I goal
  apply wpAny_Call_Name_kw
  apply ld_glob I hg hm _ hdb
  apply PySem.W.callWith_K (h₀ := X.base) I.ok.mod.kin made.kp _ each nostar
  apply thn (ha.run pos pins s σ H _ I goal)
  rintro us s1 ⟨vs, H1, I1, r, q⟩
  exact ⟨I1.kIn, run_makeS made F (hr.mono hk) bound tk I1 r q⟩
end
end U

/-! in and not in over lists of data -/
namespace U
open PySem PySem.Spec PyProof.Rows L2
variable {X : Cx} {K : PySem.W.Frag}
theorem k_inD (h : X.K = K) (hu : X.A.units + 65 < cLine) : OpR X (compareOp .In) (rInD K) := by subst h; exact op_inD hu
theorem k_notinD (h : X.K = K) (hu : X.A.units + 65 < cLine) : OpR X (compareOp .NotIn) (rNotInD K) := by subst h; exact op_notInD hu
theorem _root_.L2.Room.units65 {k : Nat} {A : Around} (r : Room k A) : A.units + 65 < cLine := by have := r.un; omega
theorem iteFe {b : Bool} {A B : Prop} (e : b = false) (h : A) : if b = true then B else A := by
  subst e
  exact if_neg (by decide : ¬ (false = true)) ▸ h
theorem iteTe {b : Bool} {A B : Prop} (e : b = true) (h : B) : if b = true then B else A := by
  subst e
  exact if_pos (rfl : true = true) ▸ h
end U

/-! functions handed over as values: what a call of one keeps, wherever it is made -/
namespace U
open PySem PySem.Spec PyProof.Rows L2 LamX NdefX
/-- at f a function stands, known as O (its code at co as Oc); wherever its captured cells hold what they hold in h, a call of it keeps sp -/
structure Clb (P : Program) (w : World) (K : PySem.W.Frag) (mg : Str → Option Value) (base : Heap) (j : Nat) (f : Addr) (O : HO) (co : Addr) (Oc : HO) (sp : Sp) (h : Heap) (H : Hp) : Prop where
  fn : ∀ (h' : Heap) (H' : Hp), HOk P w H' h' → H' f = some O → PySem.W.FnAt f h'
  ex : ∃ cs : List Addr, (∀ c ∈ cs, H c = none ∧ ∃ v, h.IsCell c v) ∧
    ∀ (A : Around) (outer : List Env) (s' : Shared) (H' : Hp) (us : List Value) (vs : List V) (Q : VK) (E : XK), A.guards = some [] → Room j A → Env0 P w K mg base A outer s' H' → H' f = some O → H' co = some Oc →
      (∀ c ∈ cs, H' c = none ∧ ∀ v, h.IsCell c v → s'.heap.IsCell c v) → Vals vs us → sp vs H' Q E → codeAny (model P w) A (.call (.ref f) ⟨us, []⟩) (CR CX0 outer P w H' s' Q E) s'
section
variable {X : Cx} {j : Nat} {f co : Addr} {O Oc : HO} {sp : Sp} {pins : List (Addr × Obj)} {σ : L2.St} {H : Hp} {s : Shared}
/-- what was so when the running frame began is so later -/
theorem Clb.later (C : Clb X.prog X.w X.K X.mg X.base j f O co Oc sp X.s_0.heap X.H_0) (hx : ∀ c, c ∉ X.ex) (I : Inv X pins σ H s) : Clb X.prog X.w X.K X.mg X.base j f O co Oc sp s.heap H := by
  obtain ⟨cs, hc, run⟩ := C.ex
  have keep : ∀ c ∈ cs, H c = none ∧ ∀ v, X.s_0.heap.IsCell c v → s.heap.IsCell c v := fun c hm => by
    obtain ⟨n, v, o, ho, hd⟩ := hc c hm
    refine ⟨I.base.free c o ho n (hx c), fun v' ⟨o', ho', hd'⟩ => ?_⟩
    obtain ⟨sl, q⟩ := I.base.any ho' n (hx c)
    exact ⟨_, q, hd'⟩
  refine ⟨C.fn, cs, fun c hm => ?_, fun A outer s' H' us vs Q E hg hr e0 h1 h2 hk rv q => run A outer s' H' us vs Q E hg hr e0 h1 h2 (fun c hm => ?_) rv q⟩
  · obtain ⟨n, v, z⟩ := hc c hm
    exact ⟨(keep c hm).1, v, (keep c hm).2 v z⟩
  · obtain ⟨n, z⟩ := hk c hm
    exact ⟨n, fun v y => z v ((keep c hm).2 v y)⟩
end
/-- a def that gets such a function -/
structure FnP (P : Program) (w : World) (K : PySem.W.Frag) (mg : Str → Option Value) (base : Heap) (j k : Nat) (f : Addr) (fd : FuncData) (ps : List Str) (sp : Addr → HO → Addr → HO → Sp → Sp) : Prop where
  len : ∀ fp O co Oc spp vs H Q E, sp fp O co Oc spp vs H Q E → vs.length = ps.length
  run : ∀ (A : Around) (outer : List Env) (s : Shared) (H : Hp) (args : Args) (us : List Value) (vs : List V) (Q : VK) (E : XK) (fp : Addr) (O : HO) (co : Addr) (Oc : HO) (spp : Sp), A.guards = some [] → Room k A → Env0 P w K mg base A outer s H → BindsTo s fd args (ps.zip us) → Vals vs us →
    Clb P w K mg base j fp O co Oc spp s.heap H → H fp = some O → H co = some Oc → sp fp O co Oc spp vs H Q E → codeAny (model P w) A (.call (.ref f) args) (CR CX0 outer P w H s Q E) s
section
variable {P : Program} {w : World} {K : PySem.W.Frag} {mg : Str → Option Value} {base : Heap}
theorem Fun.okP {x qual : Str} {st : Stmt} {f : Addr} {fd : FuncData} {N ps : List Str} {j k : Nat} {sp : Addr → HO → Addr → HO → Sp → Sp} (F : Fun K x qual st f fd) (S : FnScope N ps (defScope st)) (len : ∀ fp O co Oc spp vs H Q E, sp fp O co Oc spp vs H Q E → vs.length = ps.length)
    (body : ∀ (cdv : Value) (A : Around) (outer : List Env) (s : Shared) (H : Hp) (vs : List V) (Q : VK) (E : XK) (fp : Addr) (O : HO) (co : Addr) (Oc : HO) (spp : Sp), A.guards = some [] → Room k (A.deeper (envOfC qual (defScope st) s.heap.objs.size f cdv)) →
      Clb P w K mg base j fp O co Oc spp s.heap H → H fp = some O → H co = some Oc → sp fp O co Oc spp vs H Q E →
      ∃ t, PSs (cxOf CX0 P w K mg base N qual (defScope st) f cdv A outer s H E).nox (defBody st) t ∧ t { nx := fun _ H' => Q .non H', rt := Q } (start N vs) H) : FnP P w K mg base j (k + 1) f fd ps sp := by
  obtain ⟨oc, od, kV, doc, pm, an, cdv, ct, osl, rfl, placed, code⟩ := F.ex
  refine ⟨len, ?_⟩
  intro A outer s H args us vs Q E fp O co Oc spp quiet room env bnd vals cl h1 h2 promise
  have there : ∀ b o, base.get? b = some o → s.heap.get? b = some o := fun b o e => (env.bs b o e).1
  have kin := env.mod.kin.keeps there
  obtain ⟨t, reads, goal⟩ := body cdv A outer s H vs Q E fp O co Oc spp quiet (room.deeper _) cl h1 h2 promise
  apply codeAny_call_function room.depth (kin _ _ placed) rfl S.co S.gen rfl (PySem.W.codeRec_of kin code)
  apply bnd
  apply wpAny_newFunctionEnv_cells S.kind
  · rintro ⟨n, v⟩ hn
    exact (S.par n (List.of_mem_zip hn).1).imp id fun q => And.intro q (PySem.W.cellsFrom_some _ _ _ (Or.inl q))
  rintro _ rfl s1 made
  refine ⟨(env.mod.nolimit.keeps there).keeps made.toInCall.keep, codeAny_func ?_⟩
  refine wpAny_mono (reads.nox.run [] s1 _ H _ (inv_start S room.hd env (len _ _ _ _ _ _ _ _ _ promise) vals made) goal) ?_ fun _ _ h => h
  rintro (_ | _ | _ | u) s2 h
  · exact h.elim fun _ h => h.elim fun H' h => ⟨.non, H', h.1.os, h.1.bare, h.1.base, h.1.hok, rfl, h.2⟩
  · exact h.elim fun _ h => h.elim fun _ h => h.2.elim
  · exact h.elim fun _ h => h.elim fun _ h => h.2.elim
  · obtain ⟨v, _, H', J, rel, q⟩ := h
    exact ⟨v, H', J.os, J.bare, J.base, J.hok, rel, q⟩
end
structure HasP (P : Program) (w : World) (K : PySem.W.Frag) (mg : Str → Option Value) (base : Heap) (j : Nat) (x : Str) (k : Nat) (ps : List Str) (sp : Addr → HO → Addr → HO → Sp → Sp) : Prop where
  ex : ∃ f fd, mg x = some (.ref f) ∧ PySem.W.keepIn K (.ref f) = true ∧ Binds K fd ps [] ∧ FnP P w K mg base j k f fd ps sp ∧ Lk K f fd
theorem Df.hasP {P : Program} {w : World} {K : PySem.W.Frag} {mg : Str → Option Value} {base : Heap} {x : Str} {st : Stmt} {ps : List Str} {j k : Nat} {sp : Addr → HO → Addr → HO → Sp → Sp} (d : Df K mg x st ps)
    (h : ∀ f fd, Fun K x x st f fd → FnP P w K mg base j k f fd ps sp) : HasP P w K mg base j x k ps sp := by
  obtain ⟨f, fd, named, F, bound⟩ := d.ex
  exact ⟨f, fd, named, F.kp, bound, h f fd F, Fun.lk F⟩
/-- x(.., plan): where the plan's word comes from (CL): the running frame's own, or made there -/
abbrev Told := L2.St → Hp → Addr → HO → Addr → HO → Sp → Prop
def tCallP (t : TA) (CL : Told) (sp : Addr → HO → Addr → HO → Sp → Sp) : TE := fun σ H Q => t σ H fun vs H1 => ∃ (fp : Addr) (O : HO) (co : Addr) (Oc : HO) (spp : Sp), CL σ H1 fp O co Oc spp ∧ H1 fp = some O ∧ H1 co = some Oc ∧ sp fp O co Oc spp vs H1 Q E0
section
variable {X : Cx} {j k m : Nat} {ps : List Str} {sp : Addr → HO → Addr → HO → Sp → Sp} {x : Str} {p pos : Pos} {e : Expr} {es : List Expr} {t : TA}
theorem pcallP (h : HasP X.prog X.w X.K X.mg X.base j x k ps sp) (CL : Told) (hCL : ∀ pins σ H s fp O co Oc spp, Inv X pins σ H s → CL σ H fp O co Oc spp → H fp = some O → H co = some Oc → Clb X.prog X.w X.K X.mg X.base j fp O co Oc spp s.heap H)
    (quiet : X.A.guards = some []) (hr : Room m X.A) (hk : k ≤ m) (hg : Gl X x) (ha : PA X (e :: es) t) (hdb : (x == ("__debug__" : Str)) = false := by decide)
    (he : starEach (e :: es) X.env = (false, eval e X.env) :: starEach es X.env := by rfl) (hpl : (backTo pos (starEach es X.env)).any (·.1) = false := by rfl) :
    PE X (.Call (.Name x p) (e :: es) [] pos) (tCallP t CL sp) := by
  obtain ⟨f, fd, named, kept, bound, F, _⟩ := h.ex
  constructor
  intro pins s σ H Q I goal
  apply wpAny_Call_Name_kw
  apply ld_glob I hg named _ hdb
  apply PySem.W.callWith_K (h₀ := X.base) I.ok.mod.kin kept _ he hpl
  refine thn (ha.run pos pins s σ H _ I goal) ?_
  rintro us s1 ⟨vs, H1, I1, rel, fp, O, co, Oc, spp, cl, h1, h2, prom⟩
  refine ⟨I1.kIn, wpAny_call (codeAny_mono (F.run X.A X.stack s1 H1 ⟨us, []⟩ us vs Q E0 fp O co Oc spp quiet (hr.mono hk) I1.env0 ?_ rel (hCL pins σ H1 s1 fp O co Oc spp I1 cl h1 h2) h1 h2 prom) ?_)⟩
  · have many : us.length = ps.length := rel.length.symm.trans (F.len _ _ _ _ _ _ _ _ _ prom)
    have := bound s1 us I1.kIn (by rw [List.append_nil]; exact many)
    rwa [List.append_nil] at this
  · rintro (bad | _ | _ | _ | u) s2 out
    · exact pass0 pins σ H1 s1 bad s2 I1 out
    · exact out.elim
    · exact out.elim
    · exact out.elim
    · exact I1.after out
/-- the running frame's own plan -/
def Own (fp : Addr) (O : HO) (co : Addr) (Oc : HO) (spp : Sp) : Told := fun _ _ fp' O' co' Oc' spp' => fp' = fp ∧ O' = O ∧ co' = co ∧ Oc' = Oc ∧ spp' = spp
theorem own_told {fp co : Addr} {O Oc : HO} {spp : Sp} (C : Clb X.prog X.w X.K X.mg X.base j fp O co Oc spp X.s_0.heap X.H_0) (hx : ∀ c, c ∉ X.ex) :
    ∀ pins σ H s fp' O' co' Oc' spp', Inv X pins σ H s → Own fp O co Oc spp σ H fp' O' co' Oc' spp' → H fp' = some O' → H co' = some Oc' → Clb X.prog X.w X.K X.mg X.base j fp' O' co' Oc' spp' s.heap H := by
  rintro pins σ H s _ _ _ _ _ I ⟨rfl, rfl, rfl, rfl, rfl⟩ _ _
  exact C.later hx I
/-- plan(..), plan a local name -/
def tPlan (t : TA) (i : Nat) (fp : Addr) (O : HO) (co : Addr) (Oc : HO) (spp : Sp) : TE := fun σ H Q => σ[i]? = some (some (.ref fp)) ∧ H fp = some O ∧ t σ H fun vs H1 => H1 fp = some O ∧ H1 co = some Oc ∧ spp vs H1 Q E0
theorem pe_plan {fp co : Addr} {O Oc : HO} {spp : Sp} {i : Nat} (C : Clb X.prog X.w X.K X.mg X.base j fp O co Oc spp X.s_0.heap X.H_0) (hx : ∀ c, c ∉ X.ex) (quiet : X.A.guards = some []) (hr : Room m X.A) (hk : j ≤ m) (hN : X.N[i]? = some x) (hv : Vis X.env.scope x) (ha : PA X (e :: es) t)
    (hd : (x == ("__debug__" : Str)) = false := by decide) (hcd : (x == ("__classdict__" : Str)) = false := by decide)
    (he : starEach (e :: es) X.env = (false, eval e X.env) :: starEach es X.env := by rfl) (hpl : (backTo pos (starEach es X.env)).any (·.1) = false := by rfl) :
    PE X (.Call (.Name x p) (e :: es) [] pos) (tPlan t i fp O co Oc spp) := by
  constructor
  intro pins s σ H Q I goal
  obtain ⟨hs, h1, ht⟩ := goal
  refine wpAny_Call_Name_kw (thn ((pe_var (pos := p) hN hv hd hcd).run pins s σ H (fun v H1 => v = .ref fp ∧ H1 = H) I ⟨.ref fp, hs, rfl, rfl⟩) ?_)
  rintro u s1 ⟨v, H1, I1, r1, rfl, rfl⟩
  obtain rfl : u = Value.ref fp := r1
  have cl1 := C.later hx I1
  refine PySem.W.callWith_F (first := []) (cl1.fn _ _ I1.hok h1) (thn (ha.run pos pins s1 σ H1 _ I1 ht) ?_) he hpl
  rintro us s2 ⟨vs, H2, I2, rel, g1, g2, prom⟩
  have cl2 := C.later hx I2
  refine ⟨cl2.fn _ _ I2.hok g1, ?_⟩
  obtain ⟨cs, hc, run⟩ := cl2.ex
  refine wpAny_call (codeAny_mono (run X.A X.stack s2 H2 us vs Q E0 quiet (hr.mono hk) I2.env0 g1 g2 (fun c hm => ⟨(hc c hm).1, fun _ z => z⟩) rel prom) ?_)
  rintro (bad | _ | _ | _ | u) s3 out
  · exact pass0 pins σ H2 s2 bad s3 I2 out
  · exact out.elim
  · exact out.elim
  · exact out.elim
  · exact I2.after out
end
/-! ### what makes such functions: a def in a def -/
section
variable {P : Program} {w : World} {K : PySem.W.Frag} {mg : Str → Option Value} {base : Heap}
/-- behind the making of a function at f: all but the table stays -/
structure Made (H H1 : Hp) (T : Addr) (q : Str) (f : Addr) (O : HO) (c : Addr) : Prop where
  keep : ∀ b o, b ≠ T → H b = some o → H1 b = some o
  gone : ∀ b, H1 b = none → H b = none
  tab : TabN H1 T (fun _ _ => q)
  fresh : H f = none
  at_ : H1 f = some O
  code : H1 c = some (CodeO c q)
/-- the captured cells -/
def cellsOf (cl : List (Str × Addr)) : List Addr := cl.filterMap fun x => cl.lookup x.1
theorem mem_cellsOf {cl : List (Str × Addr)} {c : Addr} : c ∈ cellsOf cl → ∃ y, cl.lookup y = some c := fun h => by
  obtain ⟨x, _, e⟩ := List.mem_filterMap.mp h
  exact ⟨x.1, e⟩
theorem cells_named {F : NF} {fr : List Str} {ws : List (Option V)} {h h' : Heap} {H H' : Hp} (C : CellsAt F.cl fr ws h H) (k : ∀ c ∈ cellsOf F.cl, H' c = none ∧ ∀ v, h.IsCell c v → h'.IsCell c v) : CellsAt F.cl fr ws h' H' := by
  have mem : ∀ {y : Str} {c : Addr}, F.cl.lookup y = some c → c ∈ cellsOf F.cl := fun {y c} e => List.mem_filterMap.mpr ⟨_, PySem.mem_of_lookup e, e⟩
  refine ⟨C.len, fun y c e => ?_, C.inj, fun i y e => ?_⟩
  · obtain ⟨_, v, z⟩ := C.all y c e
    exact ⟨(k c (mem e)).1, v, (k c (mem e)).2 v z⟩
  · obtain ⟨c, hc, hv⟩ := C.has i y e
    refine ⟨c, hc, fun v ev => ?_⟩
    obtain ⟨u, r, z⟩ := hv v ev
    exact ⟨u, r, (k c (mem hc)).2 _ z⟩
/-- a nested def's word, by its body -/
theorem clb_def {F : NF} {f : Addr} {N ps fr : List Str} {ws : List (Option V)} {k : Nat} {sp : Sp} {h : Heap} {H : Hp} (S : NScope N ps fr F.scope) (C : CellsAt F.cl fr ws h H)
    (hb : ∀ (doc pm ctv : Value) (us : List Value), us.length = ps.length → bindArgs (F.fd doc pm ctv) ⟨us, []⟩ = pure (ps.zip us)) (len : ∀ vs H Q E, sp vs H Q E → vs.length = ps.length)
    (body : ∀ (A : Around) (outer : List Env) (s : Shared) (H : Hp) (vs : List V) (Q : VK) (E : XK), A.guards = some [] → Room k (A.deeper (envF F f s.heap.objs.size)) → H f = some (FnO f F) → H F.c = some (CodeO F.c F.qual) → sp vs H Q E →
      ∃ t, PSs (ncx CX0 P w K mg base N F f A outer s H E) F.body t ∧ t { nx := fun _ H' => Q .non H', rt := Q } (startF N vs ws) H) :
    Clb P w K mg base (k + 1) f (FnO f F) F.c (CodeO F.c F.qual) sp h H := by
  refine ⟨fun h' H' ok e => ?_, cellsOf F.cl, fun c hm => ?_, ?_⟩
  · obtain ⟨od, sl, doc, pm, ctv, ho⟩ := fnO_at ok e
    exact ⟨_, od, _, sl, ho⟩
  · obtain ⟨y, e⟩ := mem_cellsOf hm
    exact C.all y c e
  · intro A outer s H' us vs Q E quiet hr e0 hf hc hk r promise
    have C' := cells_named C hk
    have hl := len _ _ _ _ promise
    have lim : s.heap.NoLimit := e0.mod.nolimit.keeps fun b o e => (e0.bs b o e).1
    obtain ⟨od, sl, doc, pm, ctv, ho⟩ := fnO_at e0.hok hf
    apply codeAny_call_function hr.depth ho rfl S.co S.gen rfl (codeO_at e0.hok hc)
    rw [hb doc pm ctv us (by rw [← r.length]; exact hl)]
    refine wpAny_pure (wpAny_newFunctionEnv S.nocell ?_ ?_ S.kind)
    · rintro ⟨n, _⟩ hy
      exact S.par n (List.of_mem_zip hy).1
    intro h₁ hns hsb
    refine ⟨lim.fresh _ hsb, codeAny_func ?_⟩
    have kp : ∀ b o, s.heap.get? b = some o → h₁.get? b = some o := fun b o e => hsb.extBut b o (Nat.ne_of_lt (Heap.lt_size e)) (Heap.get?_push_of_some _ e)
    obtain ⟨t, reads, goal⟩ := body A outer s H' vs Q E quiet (hr.deeper _) hf hc promise
    have I : Inv (ncx CX0 P w K mg base N F f A outer s H' E) [] (startF N vs ws) H' { s with heap := h₁, toks := s.toks + (ps.zip us).length } := inv_startN S hr.hd e0 hl r C' hns kp
    refine wpAny_mono (reads.run [] _ (startF N vs ws) H' _ I goal) ?_ fun _ _ h => h
    rintro (_ | _ | _ | u) s2 h
    · exact h.elim fun _ h => h.elim fun H' h => ⟨.non, H', h.1.os, h.1.bare, h.1.base, h.1.hok, rfl, h.2⟩
    · exact h.elim fun _ h => h.elim fun _ h => h.2.elim
    · exact h.elim fun _ h => h.elim fun _ h => h.2.elim
    · obtain ⟨v, _, H', J, rel, q⟩ := h
      exact ⟨v, H', J.os, J.bare, J.base, J.hok, rel, q⟩
end
/-! ### a lambda -/
/-- the object at f is this lambda: F's words, with an expression for a body -/
def LmO (f : Addr) (F : NF) (ex : Expr) : HO := .ext fun h => ∃ (od : Option Addr) (sl : Array (Option Value)) (pm ctv : Value), h.get? f = some (⟨.type "function", od, .func (PySem.W.kla_fn "<lambda>" F.qual F.params ex F.scope F.cl pm (.ref F.c) ctv), sl⟩ : Obj)
theorem lmO_at {P : Program} {w : World} {H : Hp} {h : Heap} {f : Addr} {F : NF} {ex : Expr} (hok : HOk P w H h) (e : H f = some (LmO f F ex)) : ∃ (od : Option Addr) (sl : Array (Option Value)) (pm ctv : Value), h.get? f = some (⟨.type "function", od, .func (PySem.W.kla_fn "<lambda>" F.qual F.params ex F.scope F.cl pm (.ref F.c) ctv), sl⟩ : Obj) := by
  obtain ⟨z, _, _⟩ := hok f _ e
  exact z
theorem lmO_ne {f : Addr} {F : NF} {ex : Expr} : (∀ ps : Array Value, LmO f F ex ≠ .tbl ps) ∧ ∀ xs : List V, LmO f F ex ≠ .lst xs := ⟨fun _ z => (by unfold LmO at z; cases z), fun _ z => (by unfold LmO at z; cases z)⟩
theorem fnO_ne' {f : Addr} {F : NF} : (∀ ps : Array Value, FnO f F ≠ .tbl ps) ∧ ∀ xs : List V, FnO f F ≠ .lst xs := ⟨fun _ z => (by unfold FnO at z; cases z), fun _ z => (by unfold FnO at z; cases z)⟩
theorem cdO_ne {c : Addr} {q : Str} : (∀ ps : Array Value, CodeO c q ≠ .tbl ps) ∧ ∀ xs : List V, CodeO c q ≠ .lst xs := ⟨fun _ z => (by unfold CodeO at z; cases z), fun _ z => (by unfold CodeO at z; cases z)⟩
section
variable {X : Cx} {pins : List (Addr × Obj)} {σ : L2.St} {H : Hp} {s : Shared}
theorem inv_lm {F : NF} {ex : Expr} {o : Obj} {t' : Nat} {pm ctv : Value} (I : Inv X pins σ H s) (ho : o = { cls := .type "function", data := .func (PySem.W.kla_fn "<lambda>" F.qual F.params ex F.scope F.cl pm (.ref F.c) ctv) }) :
    Inv X pins σ (upd H s.heap.objs.size (LmO s.heap.objs.size F ex)) { s with heap := s.heap.push o, toks := t' } := by
  subst ho
  have e : (s.heap.push ({ cls := .type "function", data := .func (PySem.W.kla_fn "<lambda>" F.qual F.params ex F.scope F.cl pm (.ref F.c) ctv) } : Obj)).get? s.heap.objs.size = some ({ cls := .type "function", data := .func (PySem.W.kla_fn "<lambda>" F.qual F.params ex F.scope F.cl pm (.ref F.c) ctv) } : Obj) := Heap.get?_push_size _ rfl
  refine I.laid (a := s.heap.objs.size) (fun b u e => Heap.get?_push_of_some _ e) (Nat.le_refl _) ⟨⟨_, _, pm, ctv, e⟩, ⟨_, e⟩, ?_⟩
  rintro h1 h2 ⟨od, sl, p, t, z⟩ st
  exact ⟨od, sl, p, t, st _ z⟩
/-- behind the making: what was known stays, but for the table of its code -/
def MadeAt (H : Hp) (T : List NTab) (f c' : Addr) (O : HO) (q : Str) (H1 : Hp) : Prop := ExtN H H1 ∧ (∀ b, H1 b = none → H b = none) ∧ TabsN T H1 ∧ H f = none ∧ H1 f = some O ∧ H1 c' = some (CodeO c' q)
theorem lm_make {T : List NTab} {nm : Nat → Nat → Str} {c P : Addr} {params : Arguments} {body : Expr} {scope : Scope} {pos : Pos} {E Q : Value → Shared → Prop} (I : Inv X pins σ H s) (TB : TabB X.base X.mg c P) (hcode : X.env.code = .ref c)
    (hm : (P, nm) ∈ T) (hn : nm pos.line pos.col = X.env.qual ++ "<lambda>") (hu : ∀ p ∈ T, p.1 = P → p.2 = nm) (hT : TabsN T H) (hdef : defaultsOf params X.env = ([], [])) (hfree : ∀ y ∈ scope.names, y.2 = .free → ∃ c, X.env.cells.lookup y.1 = some c)
    (h : ∀ (f c' : Addr) (H1 : Hp) (s' : Shared), Inv X pins σ H1 s' → MadeAt H T f c' (LmO f ⟨"<lambda>", X.env.qual ++ "<lambda>", params, [], scope, cloFrom X.env.cells scope.names [], c'⟩ body) (X.env.qual ++ "<lambda>") H1 → Q (.ref f) s') :
    wpAny (model X.prog X.w) X.A (eval (.Lambda params body scope pos) X.env) Q E s := by
  obtain ⟨ps, hP, ht, ha⟩ := (show TabN H P nm from hT _ hm)
  refine PySem.W.kla_eval hdef ?_
  have bP : s.heap.BuiltinsAt X.mg P := TB.bm.keeps I.bk
  have hP' : s.heap.get? P = some { cls := .none, data := .fields ps } := I.hok P _ hP
  cases hc : codeAmong pos ps.toList with
  | none =>
    refine PySem.W.kla_makeFunction (mg := X.mg) (c := c) (P := P) (ps := ps) (closure_ok hfree) I.ok.glob (I.mod.glob.keeps I.bk) hcode (TB.code.keeps I.bk) hP' ht hc TB.gP bP ?_
    intro c' ctv h' tk hx hge hlt hrec htb
    obtain ⟨c2, oc, vs, t, e2, hoc, hd, hv⟩ := hrec
    cases e2
    have nC : H c' = none := I.hok.fresh hge
    have I1 := inv_table (t' := tk) (more := #[rawInt pos.line, rawInt pos.col, .ref c']) (h' := h') I hP (fun b o hb e => hx b o hb e) htb hge ⟨oc, vs, t, hoc, hd, hv⟩
    have kept : ExtN H (upd (upd H P (.tbl (ps ++ #[rawInt pos.line, rawInt pos.col, .ref c']))) c' (CodeO c' (X.env.qual ++ "<lambda>"))) := fun b o e n => by
      have b1 : b ≠ c' := ne_of_none e nC
      have b2 : b ≠ P := fun z => n ps (Option.some.inj (e.symm.trans (z ▸ hP)))
      rw [upd_ne b1, upd_ne b2, e]
    have T1 : TabsN T (upd (upd H P (.tbl (ps ++ #[rawInt pos.line, rawInt pos.col, .ref c']))) c' (CodeO c' (X.env.qual ++ "<lambda>"))) := fun p hp => by
      by_cases hb : p.1 = P
      · rw [hu p hp hb, hb]
        have eL : (ps ++ #[rawInt pos.line, rawInt pos.col, .ref c']).toList = ps.toList ++ [rawInt pos.line, rawInt pos.col, .ref c'] := by simp
        refine ⟨_, by rw [upd_ne (ne_of_none hP nC), upd_same], by rw [eL]; exact PySem.TriplesOk_snoc _ _ _ _ ht, fun p' cv hcv => ?_⟩
        rw [eL] at hcv
        rcases among_app2 _ ht hcv with z | ⟨z, z1, z2⟩
        · obtain ⟨c0, e1, e2⟩ := ha p' cv z
          exact ⟨c0, e1, kept _ _ e2 codeO_ne⟩
        · exact ⟨c', z, by rw [← z1, ← z2, hn]; exact upd_same⟩
      · obtain ⟨ps', a1, a2, a3⟩ := hT p hp
        refine ⟨ps', by rw [upd_ne (ne_of_none a1 nC), upd_ne hb]; exact a1, a2, fun p' cv hcv => ?_⟩
        obtain ⟨c0, e1, e2⟩ := a3 p' cv hcv
        exact ⟨c0, e1, kept _ _ e2 codeO_ne⟩
    have nF := I1.hok.fresh (Nat.le_refl _)
    have I2 := inv_lm (F := ⟨"<lambda>", X.env.qual ++ "<lambda>", params, [], scope, cloFrom X.env.cells scope.names [], c'⟩) (ex := body) (t' := tk) (pm := (X.mg "__name__").getD .none) (ctv := ctv) I1 rfl
    refine h h'.objs.size c' _ _ I2 ⟨fun b o e n => ?_, fun b e => upd_none (upd_none (upd_none e)), T1.ext fun b o e => ?_, I.hok.fresh (Nat.le_trans hge (Nat.le_of_lt hlt)), upd_same, ?_⟩
    · have e1 := kept b o e n
      exact (upd_ne (ne_of_none e1 nF)).trans e1
    · exact (upd_ne (ne_of_none e nF)).trans e
    · exact (upd_ne (Nat.ne_of_lt hlt)).trans upd_same
  | some cv =>
    obtain ⟨c', rfl, hco⟩ := ha pos cv hc
    rw [hn] at hco
    refine PySem.W.kla_makeFunctionHit (mg := X.mg) (c := c) (P := P) (ps := ps) (closure_ok hfree) I.ok.glob (I.mod.glob.keeps I.bk) hcode (TB.code.keeps I.bk) hP' ht hc bP ?_
    intro ctv h' tk hx hsz
    have I1 : Inv X pins σ H { s with heap := h', toks := tk } := I.kept hx
    have nF : H h'.objs.size = none := I1.hok.fresh (Nat.le_refl _)
    have I2 := inv_lm (F := ⟨"<lambda>", X.env.qual ++ "<lambda>", params, [], scope, cloFrom X.env.cells scope.names [], c'⟩) (ex := body) (t' := tk) (pm := (X.mg "__name__").getD .none) (ctv := ctv) I1 rfl
    refine h h'.objs.size c' _ _ I2 ⟨fun b o e n => ?_, fun b e => upd_none e, hT.ext fun b o e => ?_, nF, upd_same, ?_⟩
    · exact (upd_ne (ne_of_none e nF)).trans e
    · exact (upd_ne (ne_of_none e nF)).trans e
    · exact (upd_ne (ne_of_none hco nF)).trans hco
/-- a lambda as an expression -/
def tLm (T : List NTab) (q : Str) (mk : Addr → NF) (ex : Expr) : TE := fun σ H Q => TabsN T H ∧ ∀ (f c' : Addr) (H1 : Hp), MadeAt H T f c' (LmO f (mk c') ex) q H1 → Q (.ref f) H1
theorem pe_lm {T : List NTab} {nm : Nat → Nat → Str} {c P : Addr} {params : Arguments} {body : Expr} {scope : Scope} {pos : Pos} (TB : TabB X.base X.mg c P) (hcode : X.env.code = .ref c) (hm : (P, nm) ∈ T) (hn : nm pos.line pos.col = X.env.qual ++ "<lambda>") (hu : ∀ p ∈ T, p.1 = P → p.2 = nm)
    (hdef : defaultsOf params X.env = ([], [])) (hfree : ∀ y ∈ scope.names, y.2 = .free → X.env.scope.names.lookup y.1 = some .cell ∨ X.env.scope.names.lookup y.1 = some .free) :
    PE X (.Lambda params body scope pos) (tLm T (X.env.qual ++ "<lambda>") (fun c' => ⟨"<lambda>", X.env.qual ++ "<lambda>", params, [], scope, cloFrom X.env.cells scope.names [], c'⟩) body) := by
  constructor
  intro pins s σ H Q I goal
  obtain ⟨hT, goal⟩ := goal
  refine lm_make I TB hcode hm hn hu hT hdef (fun y hy e => (hfree y hy e).elim (fun z => I.ok.has _ (.inl z)) fun z => I.ok.has _ (.inr z)) ?_
  intro f c' H1 s' I1 made
  exact ⟨.ref f, H1, I1, rfl, goal f c' H1 made⟩
end
section
variable {P : Program} {w : World} {K : PySem.W.Frag} {mg : Str → Option Value} {base : Heap}
theorem lookup_of_nodup {l : List (Str × Addr)} (ndl : (l.map (·.1)).Nodup) {y : Str} {c : Addr} (hy : (y, c) ∈ l) : l.lookup y = some c := by
  induction l with
  | nil => cases hy
  | cons a r ih =>
    obtain ⟨z, d⟩ := a
    rw [List.map_cons, List.nodup_cons] at ndl
    rcases List.mem_cons.mp hy with e | hy
    · cases e
      simp [List.lookup]
    · have hne : ¬ y = z := fun e => ndl.1 (List.mem_map.mpr ⟨_, hy, e⟩)
      rw [List.lookup_cons, beq_eq_false_iff_ne.mpr hne]
      exact ih ndl.2 hy
/-- a lambda's word, by its body -/
theorem clb_lm {F : NF} {ex : Expr} {f : Addr} {N ps fr : List Str} {ws : List (Option V)} {k : Nat} {sp : Sp} {h : Heap} {H : Hp} (S : NScope N ps fr F.scope) (C : CellsAt F.cl fr ws h H)
    (hb : ∀ (pm ctv : Value) (us : List Value), us.length = ps.length → bindArgs (PySem.W.kla_fn "<lambda>" F.qual F.params ex F.scope F.cl pm (.ref F.c) ctv) ⟨us, []⟩ = pure (ps.zip us)) (len : ∀ vs H Q E, sp vs H Q E → vs.length = ps.length)
    (body : ∀ (A : Around) (outer : List Env) (s : Shared) (H : Hp) (vs : List V) (Q : VK) (E : XK), A.guards = some [] → Room k (A.deeper (envF F f s.heap.objs.size)) → H f = some (LmO f F ex) → H F.c = some (CodeO F.c F.qual) → sp vs H Q E →
      ∃ t, PE (ncx CX0 P w K mg base N F f A outer s H E) ex t ∧ t (startF N vs ws) H Q) :
    Clb P w K mg base (k + 1) f (LmO f F ex) F.c (CodeO F.c F.qual) sp h H := by
  refine ⟨fun h' H' ok e => ?_, cellsOf F.cl, fun c hm => ?_, ?_⟩
  · obtain ⟨od, sl, pm, ctv, ho⟩ := lmO_at ok e
    exact ⟨_, od, _, sl, ho⟩
  · obtain ⟨y, e⟩ := mem_cellsOf hm
    exact C.all y c e
  · intro A outer s H' us vs Q E quiet hr e0 hf hc hk r promise
    have C' := cells_named C hk
    have hl := len _ _ _ _ promise
    have lim : s.heap.NoLimit := e0.mod.nolimit.keeps fun b o e => (e0.bs b o e).1
    obtain ⟨od, sl, pm, ctv, ho⟩ := lmO_at e0.hok hf
    refine PySem.W.kla_callFunE hr.depth ho rfl S.co S.gen rfl (codeO_at e0.hok hc) ?_
    rw [hb pm ctv us (by rw [← r.length]; exact hl)]
    refine wpAny_pure (wpAny_newFunctionEnv S.nocell ?_ ?_ S.kind)
    · rintro ⟨n, _⟩ hy
      exact S.par n (List.of_mem_zip hy).1
    intro h₁ hns hsb
    refine ⟨lim.fresh _ hsb, ?_⟩
    have kp : ∀ b o, s.heap.get? b = some o → h₁.get? b = some o := fun b o e => hsb.extBut b o (Nat.ne_of_lt (Heap.lt_size e)) (Heap.get?_push_of_some _ e)
    obtain ⟨t, reads, goal⟩ := body A outer s H' vs Q E quiet (hr.deeper _) hf hc promise
    have I : Inv (ncx CX0 P w K mg base N F f A outer s H' E) [] (startF N vs ws) H' { s with heap := h₁, toks := s.toks + (ps.zip us).length } := inv_startN S hr.hd e0 hl r C' hns kp
    refine PySem.W.kla_codeExpr (wpAny_mono (reads.run [] _ (startF N vs ws) H' _ I goal) ?_ fun _ _ h => h)
    rintro v s2 ⟨x, H2, J, rel, q⟩
    exact ⟨x, H2, J.os, J.bare, J.base, J.hok, rel, q⟩
end
end U

/-! lists of pairs (int, flag): an item taken out by its data, sorted by the ints -/
namespace U
open PySem PySem.Spec PyProof.Rows L2
section
variable {X : Cx}
/-- l.remove(y), data of any depth -/
def rRemD (K : PySem.W.Frag) : V → List V → Hp → VK → Prop := fun x xs H Q => ∃ (a : Addr) (ys : List V) (y : V) (d : PyData) (ds : List PyData) (j : Nat) (z : PyData), x = V.ref a ∧ xs = [y] ∧ H a = some (.lst ys) ∧ DpAll K H ys ds ∧ Dp K H y d ∧
  SeqAt.shaped (.list ds) = true ∧ SeqAt.shaped d = true ∧ ds[j]? = some z ∧ PyData.eqv z d = true ∧ (∀ (m : Nat) (z' : PyData), m < j → ds[m]? = some z' → PyData.eqv z' d = false) ∧ Q .non (upd H a (.lst (ys.eraseIdx j)))
theorem mt_removeD (hu : X.A.units + 65 < cLine) : MtM X "list.remove" (rRemD X.K) := by
  intro pins s σ H x xs v us Q I rx rxs h
  obtain ⟨a, ys, y, d, ds, j, z, rfl, rfl, hH, ha, hy, sl, sd, hz, hzj, hno, q⟩ := h
  cases rx
  cases rxs with
  | cons ry rt =>
    rename_i uy ut
    cases rt
    obtain ⟨bs, r1⟩ := Dp.reads I d y uy hy ry
    have hxs : PyData.canLayAll0 ds = true := SeqAt.canLay_of_shaped sl
    have hroom : X.A.units + 1 + min (PyData.depthAll ds) d.depth < cLine := room_in_shaped sd hu
    obtain ⟨hsz, its, n, rv, hlen, ho⟩ := I.lstM hH
    obtain ⟨as, h4⟩ := Dp.readsAll I ds _ its ha rv
    have hn : its.length = ds.length := SeqAt.ReadsAll.length ds its as h4
    have hmap : its.map (SeqAt.readOf s.heap) = ds := SeqAt.readsAll_map ds its as hxs h4
    have hvl := rv.length
    have hsl := sizeLine_eq
    obtain ⟨hjd, _⟩ := List.getElem?_eq_some_iff.mp hz
    have hjl : j < its.length := by omega
    have hj : j < its.toArray.size := by simpa using hjl
    have at_ : ∀ (m : Nat) (hm : m < its.toArray.size) (z' : PyData), ds[m]? = some z' → SeqAt.readOf s.heap its.toArray[m] = z' := by
      intro m hm z' hz'
      have hml : m < its.length := by simpa using hm
      rw [← hmap, List.getElem?_map, List.getElem?_eq_getElem hml] at hz'
      have e1 : SeqAt.readOf s.heap its[m] = z' := Option.some.inj (show some (SeqAt.readOf s.heap its[m]) = some z' from hz')
      simpa using e1
    refine call_meets PySem.F.slot_list_remove ⟨_, ho, rfl⟩ PySem.F.entry_list_remove (PySem.F.args_list_remove_2 _ _)
      (SeqAt.list_removeAt a its.toArray n _ _ uy (fun u => PyData.eqv (SeqAt.readOf s.heap u) d) j hj ?_ ?_ (by rw [List.size_toArray]; omega)) ⟨ho, SeqAt.items_eqAt (vs := its.toArray) (show ReadsAll s.heap its.toArray.toList ds as from h4) r1 hxs (SeqAt.canLay_of_shaped sd) hroom, ?_⟩
    · show PyData.eqv (SeqAt.readOf s.heap its.toArray[j]) d = true
      rw [at_ j hj z hz]
      exact hzj
    · intro m hm hmj
      have hmd : m < ds.length := by omega
      have hz' : ds[m]? = some ds[m] := List.getElem?_eq_getElem hmd
      show PyData.eqv (SeqAt.readOf s.heap its.toArray[m]) d = false
      rw [at_ m hm _ hz']
      exact hno m _ hmj hz'
    · have rr := rv.eraseIdx j
      refine ⟨.non, _, I.lset (its' := its.eraseIdx j) (t' := s.toks) hH ho ?_ rr ?_, rfl, q⟩
      · show its.toArray.eraseIdxIfInBounds j = (its.eraseIdx j).toArray
        rw [List.eraseIdxIfInBounds_toArray]
      · have z2 := List.length_eraseIdx_le (l := ys) (i := j)
        omega
theorem k_removeD {K : PySem.W.Frag} (h : X.K = K) (hu : X.A.units + 65 < cLine) : MtM X "list.remove" (rRemD K) := by subst h; exact mt_removeD hu
theorem k_lcount {K : PySem.W.Frag} (h : X.K = K) : MtR X "list.count" (rCntI K) := by subst h; exact mt_lcount
/-- repr of None, or of data -/
def rReprN (K : PySem.W.Frag) : List V → Hp → VK → Prop := fun xs H Q => (xs = [.non] ∧ Q (.str "None") H) ∨ rRepr K xs H Q
theorem k_reprN {K : PySem.W.Frag} (h : X.K = K) (hg : X.A.guards = some []) (hu : X.A.units + 64 < cLine) : CallR X (.builtin "repr") (rReprN K) := by
  refine CallR.or (fun pins s σ H xs us Q I r h => ?_) (k_repr h hg hu)
  obtain ⟨rfl, q⟩ := h
  obtain ⟨u, rfl, ru⟩ := vals1 r
  cases ru
  exact PySem.P.repr_of_none ⟨.str _, H, I.tok _, ⟨_, rfl⟩, q⟩
/-- a tuple as a target, K named (within a try) -/
theorem k_gtup {K : PySem.W.Frag} {es : List Expr} {k : Nat} {t : TGs} {n : Nat} {pos : Pos} (e : X.K = K) (hc : X.calm = true) (h : PGs X es t)
    (hn : (assignEach es X.env).length = n := by rfl) (hst : (assignEach es X.env).findIdx? (·.1) = none := by rfl) : PG X (.Tuple es k pos) (gTup K n t) := by
  subst e
  exact pg_tup hc h hn hst
/-- a method of a builtin, K named (within a comprehension) -/
theorem k_bm {K : PySem.W.Frag} {T : String} {name : Str} {id : String} {r : V → List V → Hp → VK → Prop} {o e : Expr} {es : List Expr} {to : TE} {t : TA} {apos cpos : Pos} (h : X.K = K) (pa : PlainAttrs T) (slot : Slot T name id) (hty : typeOf (.builtin id) = pure (.type "method_descriptor")) (hm : MtR X id r) (ho : PE X o to) (ha : PA X (e :: es) t)
    (hbase : attributeBase o name X.env (eval o X.env) = eval o X.env := by rfl)
    (hfew : ((backTo cpos (starEach (e :: es) X.env)).all (fun x => !x.1) && (backToKw cpos (keywordEach [] X.env)).all (fun x => x.1.isSome)
      && decide ((e :: es).length + ([] : List Keyword).length + (if ([] : List Keyword).isEmpty then 0 else 1) < 30)) = true := by rfl)
    (hline : (apos.endLine == cpos.line) = true := by rfl) (hs : starEach (e :: es) X.env = (false, eval e X.env) :: starEach es X.env := by rfl) (hplain : (backTo cpos (starEach es X.env)).any (·.1) = false := by rfl) :
    PE X (.Call (.Attribute o name apos) (e :: es) [] cpos) (tBM K T r to t) := by
  subst h
  exact pe_bm pa slot hty hm ho ha hbase hfew hline hs hplain
/-! ### sorted -/
def IsPB (h : Heap) (v : Value) (x : Int) (b : Bool) : Prop := ∃ a o t n, v = .ref a ∧ h.get? a = some o ∧ o.cls = .type "tuple" ∧ o.data = .seq #[.int x t, .bool b] n
theorem IsPB.keeps {h h' : Heap} {v : Value} {x : Int} {b : Bool} (p : IsPB h v x b) (k : ∀ b o, h.get? b = some o → o.cls = .type "tuple" → h'.get? b = some o) : IsPB h' v x b := by
  obtain ⟨a, o, t, n, e, ho, hc, hd⟩ := p
  exact ⟨a, o, t, n, e, k _ _ ho hc, hc, hd⟩
def ltK (k : Value → Int) (v u : Value) : Bool := decide (k v < k u)
theorem swo_ltK (k : Value → Int) : SrtO.Swo (ltK k) := by
  refine ⟨fun x y h => ?_, fun x y z h1 h2 => ?_⟩
  · have a := of_decide_eq_true (p := k x < k y) h
    exact decide_eq_false (p := k y < k x) (by omega)
  · have a := of_decide_eq_false (p := k y < k x) h1
    have b := of_decide_eq_false (p := k z < k y) h2
    exact decide_eq_false (p := k z < k x) (by omega)
variable {prog : Program} {w : World} {A : Around} {s : Shared}
theorem pb_cmp {vs : List Value} {k : Value → Int} {b : Value → Bool} (hp : ∀ v ∈ vs, IsPB s.heap v (k v) (b v)) (one : ∀ v ∈ vs, ∀ u ∈ vs, k v = k u → b v = b u) : SrtO.Cmp prog w A s (tuples' true) (fun p => p.1 ∈ vs) (SrtO.lt2 (ltK k)) := by
  intro p q hm hm'
  have h1 := hp _ hm
  have h2 := hp _ hm'
  have h3 := one _ hm _ hm'
  show wpAny (model prog w) A (keyLt' (tuples' true) p.1 q.1) (fun r s' => s' = s ∧ r = ltK k p.1 q.1) (fun _ _ => False) s
  unfold ltK
  generalize k p.1 = x at h1 h3 ⊢
  generalize b p.1 = y at h1 h3
  generalize k q.1 = x' at h2 h3 ⊢
  generalize b q.1 = y' at h2 h3
  obtain ⟨a, o, t, n, e, ho, hc, hd⟩ := h1
  obtain ⟨a', o', t', n', e', ho', hc', hd'⟩ := h2
  rw [e, e']
  refine PySem.W.kat_lt ho hd ho' hd' ?_
  show PySem.W.KatLex prog w A true (decide (2 < 2)) _ [(.int x t, .int x' t'), (.bool y, .bool y')] 0 s
  refine PySem.W.kat_cons (SeqAt.EqAt.int_int x t x' t' prog w _ _ ?_)
  refine PySem.W.kat_go (fun e1 => ?_) (fun e1 => ?_)
  · have ex : x = x' := by simpa using e1
    have ey := h3 ex
    subst ex
    subst ey
    refine PySem.W.kat_yes (PySem.W.kat_cons (SeqAt.EqAt.bool_bool y y prog w _ _ ?_))
    refine PySem.W.kat_go (fun e2 => ?_) (fun e2 => ?_)
    · exact PySem.W.kat_yes (PySem.W.kat_nil ⟨rfl, (decide_eq_false (Int.lt_irrefl _)).symm⟩)
    · rw [beq_self_eq_true] at e2
      cases e2
  · have ex : ¬ x = x' := by simpa using e1
    exact PySem.W.kat_no (oneLt_int ⟨rfl, rfl⟩)
theorem pb_firsts {h : Heap} : ∀ {vs : List Value}, (∀ v ∈ vs, ∃ x y, IsPB h v x y) → ∃ fs : List Value, PySem.W.KatTups h vs fs ∧ fs.length = vs.length ∧ ∀ f ∈ fs, ∃ x t, f = Value.int x t
  | [], _ => ⟨[], PySem.W.KatTups.nil, rfl, fun _ hm => by simp at hm⟩
  | v :: vs, hp => by
    obtain ⟨fs, h1, h2, h3⟩ := pb_firsts (vs := vs) fun v' hm => hp v' (List.mem_cons_of_mem _ hm)
    obtain ⟨x, y, a, o, t, n, e, ho, hc, hd⟩ := hp v (List.mem_cons_self ..)
    subst e
    refine ⟨.int x t :: fs, PySem.W.KatTups.cons ho hc hd rfl h1, by rw [List.length_cons, List.length_cons, h2], fun f hm => ?_⟩
    rcases List.mem_cons.mp hm with rfl | hm
    · exact ⟨x, t, rfl⟩
    · exact h3 f hm
theorem pb_sortable {a : Addr} {vs : List Value} {k : Value → Int} {b : Value → Bool} (h0 : 0 < vs.length) (hp : ∀ v ∈ vs, IsPB s.heap v (k v) (b v)) (one : ∀ v ∈ vs, ∀ u ∈ vs, k v = k u → b v = b u) (ha : ∀ o, s.heap.get? a = some o → o.cls ≠ .type "tuple") : SrtO.SortableO prog w A s a vs (ltK k) := by
  intro h' keep
  have hp' : ∀ v ∈ vs, IsPB h' v (k v) (b v) := fun v hm => (hp v hm).keeps fun b o e c => keep b o (fun z => by subst z; exact ha o e c) e
  obtain ⟨fs, h1, h2, h3⟩ := pb_firsts fun v hm => ⟨_, _, hp' v hm⟩
  refine ⟨tuples' true, fun Q E hq => ?_, pb_cmp hp' one⟩
  refine PySem.W.kat_kind (T := .type "int") h1 (by omega) (fun f hm => ?_) (by rfl) ?_
  · obtain ⟨x, t, rfl⟩ := h3 f hm
    exact PySem.W.Looks.now
  · have e : (Value.type "int" != Value.type "tuple") = true := by first | decide +kernel | rfl | decide
    rw [e]
    exact hq
end
/-- sorted(xs), xs a list of pairs (int, flag), one flag for each int -/
def rSortedPB (K : PySem.W.Frag) : List V → Hp → VK → Prop := fun vs H Q => ∃ (a : Addr) (ys : List V) (k : V → Int) (b : V → Bool), vs = [V.ref a] ∧ SqL K H a ys ∧ (∀ y ∈ ys, ∃ t, y = V.ref t ∧ H t = some (.tup [.int (k y), .bl (b y)])) ∧ (∀ y ∈ ys, ∀ z ∈ ys, k y = k z → b y = b z) ∧
  ∀ (zs : List V) (p : Addr), zs.Perm ys → zs.Pairwise (fun y z => k y ≤ k z) → H p = none → Q (.ref p) (upd H p (.lst zs))
theorem k_sortedPB {X : Cx} {K : PySem.W.Frag} (h : X.K = K) : CallR X (.builtin "sorted") (rSortedPB K) := by
  subst h
  intro pins s σ H vs us Q I r h
  obtain ⟨a, ys, k, b, rfl, hs, hx, one, q⟩ := h
  obtain ⟨its, rv, hl, hz⟩ := I.list hs
  rw [Vals.ref1 r]
  obtain ⟨e1, e2⟩ := refs_back rv fun x m => by
    obtain ⟨t, e, _⟩ := hx x m
    exact ⟨t, e⟩
  have hm0 : ∀ v ∈ its, backV v ∈ ys := fun v hv => by rw [e1]; exact List.mem_map.mpr ⟨_, hv, rfl⟩
  have hp : ∀ v ∈ its, IsPB s.heap v (k (backV v)) (b (backV v)) := fun v hv => by
    have hm := hm0 v hv
    obtain ⟨t, rfl⟩ := e2 v hv
    obtain ⟨t', e, ht⟩ := hx _ hm
    cases e
    obtain ⟨_, its2, r2, o, ho, hc, n, hd⟩ := I.hok _ _ ht
    obtain ⟨u1, u2, rfl, ri, rj⟩ := vals2 r2
    obtain ⟨t1, rfl⟩ := ri
    cases rj
    exact ⟨t, o, t1, n, rfl, ho, hc, hd⟩
  have one' : ∀ v ∈ its, ∀ u ∈ its, k (backV v) = k (backV u) → b (backV v) = b (backV u) := fun v hv u hu e => one _ (hm0 v hv) _ (hm0 u hu) e
  refine SrtO.sorted_ord (swo_ltK fun u => k (backV u)) hl.isList (by rw [← rv.length]; exact hz) (fun h2 h₁ a' ha kk => ?_) fun out h1 h2 => ?_
  · refine pb_sortable (s := { s with heap := h₁ }) (b := fun u => b (backV u)) (by omega) (fun v hm => (hp v hm).keeps fun b o e _ => (kk b o e).2) one' fun o e => ?_
    have e' : some o = some (seqObj "list" its.toArray 0) := e.symm.trans ha
    cases e'
    intro c
    exact absurd (Value.type.inj c) (by decide)
  · have h3 : ∀ u ∈ out, ∃ a, u = Value.ref a := fun u hu => e2 u (h2.perm.mem_iff.mp hu)
    obtain ⟨ep, he'⟩ := PyProof.Rows.sortedAll_at s.heap its out.toArray
    have hperm : (out.map backV).Perm ys := by
      rw [e1]
      exact h2.perm.map backV
    have hlen : (out.map backV).length ≤ sizeLine := by
      rw [hperm.length_eq]
      exact hz
    refine ⟨.ref _, upd H (s.heap.objs.size + 1) (.lst (out.map backV)), I.laid (t' := s.toks) (fun _ _ => PyProof.Rows.sortedAll_old) (Nat.le_succ _) ⟨hlen, out, ep, vals_back h3, he'⟩, rfl, q _ _ hperm ?_ (I.hok.fresh (Nat.le_succ _))⟩
    refine List.pairwise_map.mpr (h1.imp fun {x y} z => ?_)
    have z' : ltK (fun u => k (backV u)) y x = false := z
    have := of_decide_eq_false (p := k (backV y) < k (backV x)) z'
    omega
end U

/-! bits of numbers, dicts of numbers, d[k] op= on lists, list(d.values()) -/
namespace U
open PySem PySem.Spec PyProof.Rows L2
/-! ### numbers as sets -/
theorem tb0 (n : Nat) : n.testBit 0 = decide (n % 2 = 1) := Nat.testBit_zero n
theorem tbS (n i : Nat) : n.testBit (i + 1) = (n / 2).testBit i := Nat.testBit_succ n i
theorem sub_half {F S : Nat} (h : ∀ i, F.testBit i = true → S.testBit i = true) : F % 2 ≤ S % 2 ∧ ∀ i, (F / 2).testBit i = true → (S / 2).testBit i = true := by
  refine ⟨?_, fun i hi => ?_⟩
  · have := h 0
    rw [tb0, tb0, decide_eq_true_eq, decide_eq_true_eq] at this
    omega
  · rw [← tbS] at hi ⊢
    exact h _ hi
/-- a set within another one: the difference -/
theorem sub_bits : ∀ {S F : Nat}, (∀ i, F.testBit i = true → S.testBit i = true) → F ≤ S ∧ ∀ i, (S - F).testBit i = (S.testBit i && !F.testBit i) := by
  intro S
  induction S using Nat.strongRecOn with
  | ind S ih =>
    intro F h
    by_cases hS : S = 0
    · subst hS
      have hF : F = 0 := by
        refine Nat.eq_of_testBit_eq fun i => ?_
        cases e : F.testBit i with
        | false => simp
        | true => exact (h i e).symm
      subst hF
      exact ⟨Nat.le_refl _, fun i => by simp⟩
    · obtain ⟨h0, h1⟩ := sub_half h
      obtain ⟨a, b⟩ := ih (S / 2) (by omega) h1
      refine ⟨by omega, fun i => ?_⟩
      cases i with
      | zero =>
        rw [tb0, tb0, tb0, Bool.eq_iff_iff, Bool.and_eq_true, Bool.not_eq_true', decide_eq_true_eq, decide_eq_true_eq, decide_eq_false_iff_not]
        omega
      | succ i =>
        rw [tbS, tbS, tbS, ← b i]
        congr 1
        omega
/-- sets that are apart: the sum -/
theorem add_bits : ∀ {A B : Nat}, (∀ i, A.testBit i = true → B.testBit i = false) → ∀ i, (A + B).testBit i = (A.testBit i || B.testBit i) := by
  intro A
  induction A using Nat.strongRecOn with
  | ind A ih =>
    intro B h i
    by_cases hA : A = 0
    · subst hA
      simp
    · have h0 := h 0
      rw [tb0, tb0, decide_eq_true_eq, decide_eq_false_iff_not] at h0
      have h1 : ∀ i, (A / 2).testBit i = true → (B / 2).testBit i = false := fun i hi => by
        rw [← tbS] at hi ⊢
        exact h _ hi
      cases i with
      | zero =>
        rw [tb0, tb0, tb0, Bool.eq_iff_iff, Bool.or_eq_true, decide_eq_true_eq, decide_eq_true_eq, decide_eq_true_eq]
        omega
      | succ i =>
        rw [tbS, tbS, tbS, ← ih (A / 2) (by omega) h1 i]
        congr 1
        omega
theorem one_bits (k i : Nat) : (2 ^ k).testBit i = decide (k = i) := Nat.testBit_two_pow
/-- the next lower set within f -/
theorem and_top : ∀ {f d e : Nat}, (∀ i, d.testBit i = true → f.testBit i = true) → (∀ i, e.testBit i = true → f.testBit i = true) → e < d → e ≤ (d - 1) &&& f := by
  intro f
  induction f using Nat.strongRecOn with
  | ind f ih =>
    intro d e hd he lt
    by_cases hf : f = 0
    · subst hf
      have : d = 0 := by
        refine Nat.eq_of_testBit_eq fun i => ?_
        cases q : d.testBit i with
        | false => simp
        | true => exact (hd i q).symm
      omega
    · obtain ⟨d0, d1⟩ := sub_half hd
      obtain ⟨e0, e1⟩ := sub_half he
      have q2 : ((d - 1) &&& f) / 2 = ((d - 1) / 2) &&& (f / 2) := Nat.and_div_two
      have q0 : ((d - 1) &&& f) % 2 = ((d - 1) % 2) &&& (f % 2) := by
        have := Nat.and_mod_two_pow (a := d - 1) (b := f) (n := 1)
        simpa using this
      rcases Nat.mod_two_eq_zero_or_one d with z | z
      · have q3 : (d - 1) / 2 = d / 2 - 1 := by omega
        have q4 : (d - 1) % 2 = 1 := by omega
        have := ih (f / 2) (by omega) d1 e1 (by omega)
        rw [q3] at q2
        rw [q4] at q0
        have q5 : (1 &&& (f % 2)) = f % 2 := by
          rcases Nat.mod_two_eq_zero_or_one f with y | y <;> rw [y] <;> rfl
        rw [q5] at q0
        omega
      · have q3 : (d - 1) / 2 = d / 2 := by omega
        have q6 : (d / 2) &&& (f / 2) = d / 2 := by
          refine Nat.eq_of_testBit_eq fun i => ?_
          rw [Nat.testBit_and]
          cases q : (d / 2).testBit i with
          | false => rfl
          | true => rw [d1 i q]; rfl
        rw [q3, q6] at q2
        omega
/-- the places of the bits -/
def bitsL (m : Nat) : List Nat := (List.range (Builtin.Int.intBits (m : Int))).filter fun k => m.testBit k
theorem ib_le {m n : Nat} (h : m < 2 ^ n) : Builtin.Int.intBits (m : Int) ≤ n := PyProof.Rows.intBits_le (by simpa using h)
theorem lt_ib (m : Nat) : m < 2 ^ Builtin.Int.intBits (m : Int) := by
  unfold Builtin.Int.intBits
  by_cases h : m = 0
  · subst h
    decide
  · have e : ((m : Int) == 0) = false := beq_eq_false_iff_ne.mpr (by omega)
    rw [e]
    exact Nat.lt_log2_self
theorem mem_bitsL {m k : Nat} : k ∈ bitsL m ↔ m.testBit k = true := by
  unfold bitsL
  rw [List.mem_filter, List.mem_range]
  refine ⟨fun h => h.2, fun h => ⟨?_, h⟩⟩
  refine Nat.lt_of_not_le fun z => ?_
  have := Nat.testBit_lt_two_pow (Nat.lt_of_lt_of_le (lt_ib m) (Nat.pow_le_pow_right (by decide) z))
  rw [h] at this
  cases this
theorem bitsL_pw (m : Nat) : (bitsL m).Pairwise (· < ·) := List.Pairwise.filter _ List.pairwise_lt_range
theorem bitsL_nd (m : Nat) : (bitsL m).Nodup := (bitsL_pw m).imp fun h => Nat.ne_of_lt h
theorem bitsL_len {m n : Nat} (h : m < 2 ^ n) : (bitsL m).length ≤ n := by
  unfold bitsL
  refine Nat.le_trans (List.length_filter_le _ _) ?_
  rw [List.length_range]
  exact ib_le h
/-! ### rules -/
section
variable {X : Cx}
theorem toNat_nn (a : Nat) : ((a : Int)).toNat = a := Int.toNat_natCast a
theorem op_orN : OpR X (binaryOp .BitOr) (fun x y H Q => ∃ a b : Nat, x = nV a ∧ y = nV b ∧ Q (nV (a ||| b)) H) := by
  intro pins s σ H x y v u Q I rx ry h
  obtain ⟨a, b, rfl, rfl, q⟩ := h
  refine op_or pins s σ H _ _ v u Q I rx ry ⟨_, _, rfl, rfl, ?_⟩
  show Q (V.int (Builtin.bitOr (a : Int) (b : Int))) H
  rw [bitOr_nn (Int.natCast_nonneg a) (Int.natCast_nonneg b), toNat_nn, toNat_nn]
  exact q
theorem ip_orN : PIp X .BitOr (fun x y H Q => ∃ a b : Nat, x = nV a ∧ y = nV b ∧ Q (nV (a ||| b)) H) := by
  intro pins s σ H x y v u Q I rx ry h
  obtain ⟨a, b, rfl, rfl, q⟩ := h
  refine iop_or pins s σ H _ _ v u Q I rx ry ⟨_, _, rfl, rfl, ?_⟩
  show Q (V.int (Builtin.bitOr (a : Int) (b : Int))) H
  rw [bitOr_nn (Int.natCast_nonneg a) (Int.natCast_nonneg b), toNat_nn, toNat_nn]
  exact q
theorem op_andN : OpR X (binaryOp .BitAnd) (fun x y H Q => ∃ a b : Nat, x = nV a ∧ y = nV b ∧ Q (nV (a &&& b)) H) := by
  intro pins s σ H x y v u Q I rx ry h
  obtain ⟨a, b, rfl, rfl, q⟩ := h
  refine op_and pins s σ H _ _ v u Q I rx ry ⟨_, _, rfl, rfl, ?_⟩
  show Q (V.int (Builtin.bitAnd (a : Int) (b : Int))) H
  rw [PyProof.Rows.bitAnd_pp (Int.natCast_nonneg a) (Int.natCast_nonneg b), toNat_nn, toNat_nn]
  exact q
/-- a number below 0, by what is beside it -/
theorem op_andM : OpR X (binaryOp .BitAnd) (fun x y H Q => ∃ d f : Nat, x = .int (-(d : Int)) ∧ y = nV f ∧ 0 < d ∧ Q (nV (f - ((d - 1) &&& f))) H) := by
  intro pins s σ H x y v u Q I rx ry h
  obtain ⟨d, f, rfl, rfl, hd, q⟩ := h
  refine op_and pins s σ H _ _ v u Q I rx ry ⟨_, _, rfl, rfl, ?_⟩
  show Q (V.int (Builtin.bitAnd (-(d : Int)) (f : Int))) H
  rw [PyProof.Rows.bitAnd_np (by omega) (Int.natCast_nonneg f), toNat_nn]
  have e : (Builtin.bitNot (-(d : Int))).toNat = d - 1 := by
    unfold Builtin.bitNot
    omega
  rw [e, Nat.and_comm]
  have le : ((d - 1) &&& f) ≤ f := Nat.and_le_right
  have e2 : (f : Int) - (((d - 1) &&& f : Nat) : Int) = ((f - ((d - 1) &&& f) : Nat) : Int) := by omega
  rw [e2]
  exact q
theorem op_addN : OpR X (binaryOp .Add) (fun x y H Q => ∃ a b : Nat, x = nV a ∧ y = nV b ∧ Q (nV (a + b)) H) := by
  intro pins s σ H x y v u Q I rx ry h
  obtain ⟨a, b, rfl, rfl, q⟩ := h
  exact op_add pins s σ H _ _ v u Q I rx ry ⟨_, _, rfl, rfl, q⟩
theorem op_subN : OpR X (binaryOp .Sub) (fun x y H Q => ∃ a b : Nat, x = nV a ∧ y = nV b ∧ b ≤ a ∧ Q (nV (a - b)) H) := by
  intro pins s σ H x y v u Q I rx ry h
  obtain ⟨a, b, rfl, rfl, hb, q⟩ := h
  refine op_sub pins s σ H _ _ v u Q I rx ry ⟨_, _, rfl, rfl, ?_⟩
  show Q (V.int ((a : Int) - (b : Int))) H
  have e : (a : Int) - (b : Int) = ((a - b : Nat) : Int) := by omega
  rw [e]
  exact q
theorem ip_subN : PIp X .Sub (fun x y H Q => ∃ a b : Nat, x = nV a ∧ y = nV b ∧ b ≤ a ∧ Q (nV (a - b)) H) := by
  intro pins s σ H x y v u Q I rx ry h
  obtain ⟨a, b, rfl, rfl, hb, q⟩ := h
  refine ip_sub pins s σ H _ _ v u Q I rx ry ⟨_, _, rfl, rfl, ?_⟩
  show Q (V.int ((a : Int) - (b : Int))) H
  have e : (a : Int) - (b : Int) = ((a - b : Nat) : Int) := by omega
  rw [e]
  exact q
theorem ip_addN : PIp X .Add (fun x y H Q => ∃ a b : Nat, x = nV a ∧ y = nV b ∧ Q (nV (a + b)) H) := by
  intro pins s σ H x y v u Q I rx ry h
  obtain ⟨a, b, rfl, rfl, q⟩ := h
  exact ip_add pins s σ H _ _ v u Q I rx ry ⟨_, _, rfl, rfl, q⟩
theorem op_shrNN : OpR X (binaryOp .RShift) (fun x y H Q => ∃ a k : Nat, x = nV a ∧ y = nV k ∧ Q (nV (a >>> k)) H) := by
  intro pins s σ H x y v u Q I rx ry h
  obtain ⟨a, k, rfl, rfl, q⟩ := h
  refine op_shrN pins s σ H _ _ v u Q I rx ry ⟨_, k, rfl, rfl, ?_⟩
  have e : (a : Int) / 2 ^ k = ((a >>> k : Nat) : Int) := by
    rw [Nat.shiftRight_eq_div_pow, Int.natCast_ediv, Int.natCast_pow]
    rfl
  rw [e]
  exact q
theorem op_oneN : OpR X (binaryOp .LShift) (fun x y H Q => ∃ k : Nat, x = .int 1 ∧ y = nV k ∧ k ≤ 134217727 ∧ Q (nV (2 ^ k)) H) := by
  intro pins s σ H x y v u Q I rx ry h
  obtain ⟨k, rfl, rfl, c, q⟩ := h
  refine op_oneShl pins s σ H _ _ v u Q I rx ry ⟨k, rfl, rfl, c, ?_⟩
  have e : (2 : Int) ^ k = ((2 ^ k : Nat) : Int) := (Int.natCast_pow 2 k).symm
  rw [e]
  exact q
/-- the bit k of a, as a truth -/
theorem bit1 (a k : Nat) : ((nV (a >>> k &&& 1)) = V.int 0 ↔ a.testBit k = false) ∧ (((a >>> k &&& 1 : Nat) : Int) != 0) = a.testBit k := by
  have e : a >>> k &&& 1 = (a.testBit k).toNat := by
    rw [Nat.and_comm]
    unfold Nat.testBit
    rcases Nat.mod_two_eq_zero_or_one (a >>> k) with z | z
    · have e1 : 1 &&& a >>> k = 0 := by
        rw [Nat.and_comm, Nat.and_one_is_mod]
        exact z
      rw [e1]
      rfl
    · have e1 : 1 &&& a >>> k = 1 := by
        rw [Nat.and_comm, Nat.and_one_is_mod]
        exact z
      rw [e1]
      rfl
  rw [e]
  cases a.testBit k
  · exact ⟨⟨fun _ => rfl, fun _ => rfl⟩, rfl⟩
  · refine ⟨⟨fun z => ?_, fun z => by cases z⟩, rfl⟩
    have z' : V.int 1 = V.int 0 := z
    injection z' with z'
    cases z'
theorem and0 (a b : Nat) : (((a &&& b : Nat) : Int) != 0) = true ↔ ∃ i, a.testBit i = true ∧ b.testBit i = true := by
  rw [bne_iff_ne]
  constructor
  · intro h
    refine Classical.byContradiction fun no => h ?_
    have : a &&& b = 0 := by
      refine Nat.eq_of_testBit_eq fun i => ?_
      rw [Nat.testBit_and, Nat.zero_testBit]
      cases q : a.testBit i with
      | false => rfl
      | true =>
        cases q2 : b.testBit i with
        | false => rfl
        | true => exact (no ⟨i, q, q2⟩).elim
    rw [this]
    rfl
  · rintro ⟨i, h1, h2⟩ z
    have z' : a &&& b = 0 := by omega
    have : (a &&& b).testBit i = true := by rw [Nat.testBit_and, h1, h2]; rfl
    rw [z', Nat.zero_testBit] at this
    cases this
/-- a truth, as a test of a comprehension -/
def tTruC (K : PySem.W.Frag) (ta : TE) : TT := fun σ H Q => ta σ H fun x H1 => ∃ k, TruV K x H1 k ∧ Q k H1
theorem k_truC {K : PySem.W.Frag} {a : Expr} {ta : TE} (h : X.K = K) (ha : PE X a ta) (he : ∀ whole, isTrue a X.env whole = (do let v ← whole; standAt a.pos; holding [v] (truthy v))) : PT X a (tTruC K ta) := k_tru h ha he
/-- xs[i] of a list that stands in H, to be set anew -/
def rGetL : V → V → Hp → VK → Prop := fun x y H Q => ∃ (p : Addr) (xs : List V) (i : Nat) (v : V), x = .ref p ∧ y = nV i ∧ H p = some (.lst xs) ∧ xs[i]? = some v ∧ Q v H
theorem get_lst : PGet X rGetL := by
  intro pins s σ H o i ov iv Q I ro ri h
  obtain ⟨p, xs, k, v, rfl, rfl, hp, hv, q⟩ := h
  cases ro
  obtain ⟨t, rfl⟩ := ri
  obtain ⟨its, r, pl, hz⟩ := I.list (SqL.of hp)
  obtain ⟨w, ew, rw'⟩ := r.get hv
  have hl := r.length
  have hn := line63
  have hk := (List.getElem?_eq_some_iff.mp hv).1
  exact wpAny_getItem_list pl.isList (by omega) (by omega) (by rw [toNat_nn]; simpa using ew) ⟨v, H, I, rw', q⟩
/-- a dict comprehension over it: Pv by the turn and the heap (the new dict at D within) -/
theorem dc_it {J : It} {n : Nat} {G : Hp → Prop} {Y : Nat → Hp → V → Hp → Prop} (w : Walk J n G Y) {g : TG} {tt : TT} {tk tv : TE} {vs : List Nat} {σ : L2.St} {H1 : Hp} {D : Addr} {Qd : Hp → Prop} (Pv : Nat → Hp → Prop) (h0 : Pv 0 (upd H1 D (.dK []))) (hG : ∀ i H, i ≤ n → Pv i H → G H)
    (hs : ∀ i x H H', i < n → Pv i H → Y i H x H' → g x (wipe σ vs) H' fun σ2 H2 => wipe σ2 vs = wipe σ vs ∧ tt σ2 H2 fun b H3 =>
      if b = true then tk σ2 H3 fun y H4 => tv σ2 H4 fun z H5 => ∃ kvs k, y = kV k ∧ H5 D = some (.dK kvs) ∧ kvs.length < sizeLine ∧ Pv (i + 1) (upd H5 D (.dK (putK kvs k z))) else Pv (i + 1) H3) (hd : ∀ H, Pv n H → Qd H) :
    ∃ W : Nat → Nat → Hp → Prop, (∃ m, W 0 m (upd H1 D (.dK []))) ∧ ∀ i m H, W i m H →
      (J.stop i H ∧ Qd H) ∨ (J.go i H ∧ ∃ Nx : Hp → Prop, (∀ H', Nx H' → ∃ m', m' < m ∧ W (i + 1) m' H') ∧ ∀ x H', J.yld i H x H' → g x (wipe σ vs) H' fun σ2 H2 => wipe σ2 vs = wipe σ vs ∧ tt σ2 H2 fun b H3 =>
        if b = true then tk σ2 H3 fun y H4 => tv σ2 H4 fun z H5 => ∃ kvs k, y = kV k ∧ H5 D = some (.dK kvs) ∧ kvs.length < sizeLine ∧ Nx (upd H5 D (.dK (putK kvs k z))) else Nx H3) := by
  refine ⟨fun i m H => m = n - i ∧ i ≤ n ∧ Pv i H, ⟨n, by simp, Nat.zero_le _, h0⟩, ?_⟩
  rintro i m H ⟨rfl, hi, p⟩
  have q := hG i H hi p
  by_cases hlt : i < n
  · exact .inr ⟨w.goes i H hlt q, Pv (i + 1), fun H' p' => ⟨n - (i + 1), by omega, rfl, hlt, p'⟩, fun x H' y => hs i x H H' hlt p (w.yields i H x H' hlt q y)⟩
  · have e : i = n := by omega
    subst e
    exact .inl ⟨w.stops H q, hd H p⟩
/-! ### list(d.values()) -/
def tListVals (td : TE) : TE := fun σ H Q => td σ H fun x H1 => ∃ (a : Addr) (kvs : List (Key × V)), x = V.ref a ∧ H1 a = some (.dK kvs) ∧ ∀ p, H1 p = none → Q (.ref p) (upd H1 p (.lst (kvs.map (·.2))))
theorem pe_listVals {o : Expr} {p pos apos mpos : Pos} {td : TE} (hc : X.calm = true) (hg : Gl X "list") (hm : X.mg "list" = none) (hd : PE X o td) (hbase : attributeBase o "values" X.env (eval o X.env) = eval o X.env := by rfl) (hline : (apos.endLine == mpos.line) = true := by rfl)
    (hse : starEach [Expr.Call (.Attribute o "values" apos) [] [] mpos] X.env = [(false, eval (Expr.Call (.Attribute o "values" apos) [] [] mpos) X.env)] := by rfl) :
    PE X (.Call (.Name "list" p) [.Call (.Attribute o "values" apos) [] [] mpos] [] pos) (tListVals td) := by
  refine ⟨fun pins s σ H Q I h => ?_⟩
  refine wpAny_Call_Name_kw (ld_blt I hg hm (u := .type "list") (by decide +kernel) ?_ (by decide +kernel) (by decide +kernel))
  rw [hse]
  refine PySem.callWith_type1 (wpAny_Call_method0_late hbase hline (thn (hd.run pins s σ H _ I h) fun v s1 ⟨x, H1, I1, r1, a, kvs, ex, ha, q⟩ => ?_))
  subst ex
  cases r1
  obtain ⟨hz, hsys, vs, rel, dof⟩ := dk_of I1.hok ha
  obtain ⟨ep, dat⟩ := dof.dictAt
  obtain ⟨ob, es, ho, exx, hdat, hko, hpr, hnd⟩ := id dat
  refine ⟨"dict", "dict.values", F.plainAttrs_dict, F.slot_dict_values, F.type_dict_values, ⟨ob, ho, exx.1⟩, fun b e => ?_, Calls.callWith_builtin rfl (PySem.evalArgs_none ?_)⟩
  · cases e
    exact ⟨ob, ho, exx.2.1⟩
  refine call_meetsIn F.slot_dict_values ⟨ob, ho, exx.1⟩ F.entry_dict_values (F.args_dict_values_1 _) (meets_dict_values (mixKind X.prog X.w) a hsys) ⟨⟨vs, dof⟩, ?_⟩
  have hl : vs.length = kvs.length := (KV.length rel).symm
  have h16 : vs.length ≤ sizeLine := by
    rw [hl]
    exact hz
  have k1 : ∀ b u, s1.heap.get? b = some u → (s1.heap.push { cls := .type "dict_values", data := .fields #[.ref a] }).get? b = some u := fun b u e => Heap.get?_push_of_some _ e
  have dat1 : (s1.heap.push { cls := .type "dict_values", data := .fields #[.ref a] }).DictAt (mixKind X.prog X.w) a vs ep := dat.keep k1
  have I2 : Inv X pins σ H1 { s1 with heap := s1.heap.push { cls := .type "dict_values", data := .fields #[.ref a] } } := I1.kept k1
  refine PySem.W.kdl_call (PySem.W.kdl_values (r := s1.heap.objs.size) (d := a) (knd := mixKind X.prog X.w) (kvs := vs) (ep := ep)) (I.ok.hd hc) ⟨⟨_, Heap.get?_push_size _ rfl, rfl, rfl⟩, dat1⟩ h16 fun h' tk acc' c' hkeep hS hacc => ?_
  refine ⟨.ref _, upd H1 _ (.lst (kvs.map (·.2))), I2.laid (t' := tk) hkeep (Nat.le_refl _) (show ObjOk X.prog X.w _ _ _ (.lst (kvs.map (·.2))) from ⟨?_, acc'.toList, c', ?_, ?_⟩), rfl, q _ (I2.hok.fresh (Nat.le_refl _))⟩
  · rw [List.length_map]
    exact hz
  · have el : acc'.toList.length = acc'.size := by simp
    refine vals_of_at (by rw [List.length_map, el, hacc.1, hl]) fun j x w h1 h2 => ?_
    obtain ⟨k, hky⟩ := hacc.2 j w (by rw [← Array.getElem?_toList]; exact h2)
    obtain ⟨x', e1, e2⟩ := KV.at' rel hky
    rw [List.getElem?_map, e1] at h1
    cases h1
    exact e2
  · rw [Array.toArray_toList]
    exact hS
end
/-! ### dicts with whole numbers as keys -/
def kvG (hs : List (Nat × V)) : List (Key × V) := hs.map fun x => (Sum.inl (x.1 : Int), x.2)
def getG : List (Nat × V) → Nat → Option V
  | [], _ => none
  | (j, v) :: r, k => if j = k then some v else getG r k
def putG : List (Nat × V) → Nat → V → List (Nat × V)
  | [], k, v => [(k, v)]
  | (j, u) :: r, k, v => if j = k then (j, v) :: r else (j, u) :: putG r k v
theorem valV_cons {k j : Key} {v : V} {r : List (Key × V)} : valV ((j, v) :: r) k = if j = k then some v else valV r k := by
  unfold valV
  rw [List.find?_cons]
  by_cases h : j = k
  · rw [if_pos h, show decide (((j, v) : Key × V).1 = k) = true from decide_eq_true h]
    rfl
  · rw [if_neg h, show decide (((j, v) : Key × V).1 = k) = false from decide_eq_false h]
theorem inl_nat {j k : Nat} : (Sum.inl (j : Int) : Key) = Sum.inl (k : Int) ↔ j = k := by
  constructor
  · intro h
    injection h with h
    omega
  · intro h
    rw [h]
theorem valV_G : ∀ {hs : List (Nat × V)} {k : Nat}, valV (kvG hs) (Sum.inl (k : Int)) = getG hs k
  | [], _ => rfl
  | (j, v) :: r, k => by
    show valV ((Sum.inl (j : Int), v) :: kvG r) _ = _
    rw [valV_cons, valV_G (hs := r)]
    show _ = if j = k then some v else getG r k
    by_cases h : j = k
    · rw [if_pos h, if_pos (inl_nat.mpr h)]
    · rw [if_neg h, if_neg fun z => h (inl_nat.mp z)]
theorem nd_G {hs : List (Nat × V)} (nd : (hs.map (·.1)).Nodup) : ((kvG hs).map (·.1)).Nodup := by
  unfold kvG
  rw [List.map_map]
  induction hs with
  | nil => exact .nil
  | cons x r ih =>
    rw [List.map_cons, List.nodup_cons] at nd ⊢
    refine ⟨fun z => nd.1 ?_, ih nd.2⟩
    obtain ⟨y, hy, e⟩ := List.mem_map.mp z
    exact List.mem_map.mpr ⟨y, hy, inl_nat.mp e⟩
theorem mem_keys_put {hs : List (Nat × V)} {k : Nat} {v : V} {j : Nat} : j ∈ (putG hs k v).map (·.1) ↔ j = k ∨ j ∈ hs.map (·.1) := by
  induction hs with
  | nil => simp [putG]
  | cons x r ih =>
    obtain ⟨i, u⟩ := x
    unfold putG
    by_cases h : i = k
    · rw [if_pos h]
      subst h
      simp only [List.map_cons, List.mem_cons]
      exact ⟨fun z => .inr z, fun z => z.elim .inl id⟩
    · rw [if_neg h]
      simp only [List.map_cons, List.mem_cons]
      rw [ih]
      exact or_left_comm
theorem put_nd {hs : List (Nat × V)} (nd : (hs.map (·.1)).Nodup) {k : Nat} {v : V} : ((putG hs k v).map (·.1)).Nodup := by
  induction hs with
  | nil => simp [putG]
  | cons x r ih =>
    obtain ⟨i, u⟩ := x
    rw [List.map_cons, List.nodup_cons] at nd
    unfold putG
    by_cases h : i = k
    · rw [if_pos h, List.map_cons, List.nodup_cons]
      exact nd
    · rw [if_neg h, List.map_cons, List.nodup_cons]
      exact ⟨fun z => (mem_keys_put.mp z).elim h nd.1, ih nd.2⟩
theorem get_put {hs : List (Nat × V)} {k j : Nat} {v : V} : getG (putG hs k v) j = if k = j then some v else getG hs j := by
  induction hs with
  | nil =>
    unfold putG
    show (if k = j then some v else getG [] j) = _
    rfl
  | cons x r ih =>
    obtain ⟨i, u⟩ := x
    unfold putG
    by_cases h : i = k
    · rw [if_pos h]
      subst h
      show (if i = j then some v else getG r j) = if i = j then some v else (if i = j then some u else getG r j)
      by_cases e : i = j
      · rw [if_pos e, if_pos e]
      · rw [if_neg e, if_neg e, if_neg e]
    · rw [if_neg h]
      show (if i = j then some u else getG (putG r k v) j) = if k = j then some v else (if i = j then some u else getG r j)
      rw [ih]
      by_cases e : i = j
      · rw [if_pos e]
        have : ¬ k = j := fun z => h (e.trans z.symm)
        rw [if_neg this, if_pos e]
      · rw [if_neg e, if_neg e]
theorem get_none {hs : List (Nat × V)} {k : Nat} : getG hs k = none ↔ k ∉ hs.map (·.1) := by
  induction hs with
  | nil => simp [getG]
  | cons x r ih =>
    obtain ⟨i, u⟩ := x
    show (if i = k then some u else getG r k) = none ↔ _
    simp only [List.map_cons, List.mem_cons, not_or]
    by_cases h : i = k
    · rw [if_pos h]
      exact ⟨fun z => (by cases z), fun z => absurd h.symm z.1⟩
    · rw [if_neg h, ih]
      exact ⟨fun z => ⟨fun y => h y.symm, z⟩, fun z => z.2⟩
theorem get_mem {hs : List (Nat × V)} {k : Nat} {v : V} (h : getG hs k = some v) : (k, v) ∈ hs := by
  induction hs with
  | nil => cases h
  | cons x r ih =>
    obtain ⟨i, u⟩ := x
    have h' : (if i = k then some u else getG r k) = some v := h
    by_cases e : i = k
    · rw [if_pos e] at h'
      cases h'
      rw [e]
      exact List.mem_cons_self
    · rw [if_neg e] at h'
      exact List.mem_cons_of_mem _ (ih h')
theorem get_of {hs : List (Nat × V)} (nd : (hs.map (·.1)).Nodup) {k : Nat} {v : V} (h : (k, v) ∈ hs) : getG hs k = some v := by
  induction hs with
  | nil => exact (List.not_mem_nil h).elim
  | cons x r ih =>
    obtain ⟨i, u⟩ := x
    rw [List.map_cons, List.nodup_cons] at nd
    show (if i = k then some u else getG r k) = some v
    rcases List.mem_cons.mp h with e | h
    · cases e
      exact if_pos rfl
    · have : ¬ i = k := fun z => nd.1 (List.mem_map.mpr ⟨(k, v), h, z.symm⟩)
      rw [if_neg this]
      exact ih nd.2 h
theorem putK_G : ∀ {hs : List (Nat × V)}, (hs.map (·.1)).Nodup → ∀ {k : Nat} {v : V}, putK (kvG hs) (Sum.inl (k : Int)) v = kvG (putG hs k v) := by
  intro hs nd k v
  unfold putK
  by_cases h : k ∈ hs.map (·.1)
  · rw [if_pos (List.any_eq_true.mpr (by
      obtain ⟨x, hx, e⟩ := List.mem_map.mp h
      exact ⟨_, List.mem_map.mpr ⟨x, hx, rfl⟩, by rw [← e]; simp⟩))]
    induction hs with
    | nil => exact (List.not_mem_nil h).elim
    | cons x r ih =>
      obtain ⟨i, u⟩ := x
      rw [List.map_cons, List.nodup_cons] at nd
      unfold putG kvG
      by_cases e : i = k
      · subst e
        rw [if_pos rfl, List.map_cons, List.map_cons, List.map_cons, List.map_map]
        congr 1
        · simp
        · refine List.map_congr_left fun y hy => ?_
          have : ¬ y.1 = i := fun z => nd.1 (List.mem_map.mpr ⟨y, hy, z⟩)
          have n2 : ¬ (Sum.inl (y.1 : Int) : Key) = Sum.inl (i : Int) := fun z => this (inl_nat.mp z)
          exact if_neg n2
      · have hk : k ∈ r.map (·.1) := (List.mem_cons.mp h).resolve_left fun z => e z.symm
        rw [if_neg e, List.map_cons, List.map_cons, List.map_cons]
        have n2 : ¬ (Sum.inl (i : Int) : Key) = Sum.inl (k : Int) := fun z => e (inl_nat.mp z)
        congr 1
        · exact if_neg n2
        · exact ih nd.2 hk
  · rw [if_neg (by
      intro z
      obtain ⟨kv, h1, h2⟩ := List.any_eq_true.mp z
      obtain ⟨x, hx, rfl⟩ := List.mem_map.mp h1
      exact h (List.mem_map.mpr ⟨x, hx, inl_nat.mp (of_decide_eq_true h2)⟩))]
    induction hs with
    | nil => rfl
    | cons x r ih =>
      obtain ⟨i, u⟩ := x
      rw [List.map_cons, List.nodup_cons] at nd
      rw [List.map_cons, List.mem_cons, not_or] at h
      unfold putG
      rw [if_neg fun z => h.1 z.symm]
      show (Sum.inl (i : Int), u) :: (kvG r ++ _) = (Sum.inl (i : Int), u) :: kvG (putG r k v)
      rw [ih nd.2 h.2]
theorem put_len {hs : List (Nat × V)} {k : Nat} {v : V} : (putG hs k v).length ≤ hs.length + 1 := by
  induction hs with
  | nil => exact Nat.le_refl _
  | cons x r ih =>
    obtain ⟨i, u⟩ := x
    unfold putG
    by_cases e : i = k
    · rw [if_pos e]
      show r.length + 1 ≤ r.length + 1 + 1
      omega
    · rw [if_neg e]
      show (putG r k v).length + 1 ≤ r.length + 1 + 1
      omega
theorem kvG_len {hs : List (Nat × V)} : (kvG hs).length = hs.length := List.length_map _
theorem dget_G {H : Hp} {d : Addr} {hs : List (Nat × V)} (e : H d = some (.dK (kvG hs))) {k : Nat} : DGet H d (nV k) (getG hs k) := by
  have := DGet.k (k := Sum.inl (k : Int)) e
  rw [valV_G] at this
  exact this
theorem dget_F {H : Hp} {d : Addr} {od : Obj} {hs : List (Nat × V)} (e : H d = some (.frz od (.dK (kvG hs)))) {k : Nat} : DGet H d (nV k) (getG hs k) := by
  refine .inl ⟨kvG hs, Sum.inl (k : Int), .inr ⟨od, e⟩, rfl, ?_⟩
  rw [valV_G]
theorem dput_G {H : Hp} {d : Addr} {hs : List (Nat × V)} (e : H d = some (.dK (kvG hs))) (nd : (hs.map (·.1)).Nodup) (hl : hs.length < sizeLine) {k : Nat} {v : V} : DPut H d (nV k) v (upd H d (.dK (kvG (putG hs k v)))) := by
  have := DPut.k (k := Sum.inl (k : Int)) (v := v) e (by rw [kvG_len]; exact hl)
  rw [putK_G nd] at this
  exact this
theorem sum_nat {α : Type} {f : α → Nat} : ∀ {l : List α}, (l.map fun g => ((f g : Nat) : Int)).sum = (((l.map f).sum : Nat) : Int)
  | [] => rfl
  | g :: r => by
    rw [List.map_cons, List.map_cons, List.sum_cons, List.sum_cons, sum_nat (l := r)]
    omega
end U

/-! comprehensions with two for, by invariants -/
namespace U
open PySem PySem.Spec PyProof.Rows L2
theorem lc2_it {J : It} {n : Nat} {G : Hp → Prop} {Y : Nat → Hp → V → Hp → Prop} (w : Walk J n G Y) {g : TG} {tt : TT} {wi1 : TI} {g1 : TG} {tt1 : TT} {te : TE} {vs vs1 : List Nat} {σ : L2.St} {H1 : Hp} {D : Addr} {Qd : Hp → Prop} (Pv : Nat → Hp → Prop) (h0 : Pv 0 (upd H1 D (.lst []))) (hG : ∀ i H, i ≤ n → Pv i H → G H)
    (hs : ∀ i x H H', i < n → Pv i H → Y i H x H' → g x (wipe σ vs) H' fun σ2 H2 => wipe σ2 vs = wipe σ vs ∧ tt σ2 H2 fun b H3 =>
      if b = true then wi1 σ2 H3 fun J1 H4 => ∃ W1 : Nat → Nat → Hp → Prop, (∃ m, W1 0 m H4) ∧ ∀ j k H, W1 j k H → (J1.stop j H ∧ Pv (i + 1) H) ∨ (J1.go j H ∧ ∃ Nx1 : Hp → Prop, (∀ H', Nx1 H' → ∃ k', k' < k ∧ W1 (j + 1) k' H') ∧
        ∀ x H', J1.yld j H x H' → g1 x (wipe σ2 vs1) H' fun σ3 H5 => wipe σ3 vs1 = wipe σ2 vs1 ∧ tt1 σ3 H5 fun b H6 => if b = true then te σ3 H6 fun y H7 => ∃ acc, H7 D = some (.lst acc) ∧ acc.length < sizeLine ∧ Nx1 (upd H7 D (.lst (acc ++ [y]))) else Nx1 H6) else Pv (i + 1) H3) (hd : ∀ H, Pv n H → Qd H) :
    ∃ W : Nat → Nat → Hp → Prop, (∃ m, W 0 m (upd H1 D (.lst []))) ∧ ∀ i m H, W i m H →
      (J.stop i H ∧ Qd H) ∨ (J.go i H ∧ ∃ Nx : Hp → Prop, (∀ H', Nx H' → ∃ m', m' < m ∧ W (i + 1) m' H') ∧ ∀ x H', J.yld i H x H' → g x (wipe σ vs) H' fun σ2 H2 => wipe σ2 vs = wipe σ vs ∧ tt σ2 H2 fun b H3 =>
        if b = true then wi1 σ2 H3 fun J1 H4 => ∃ W1 : Nat → Nat → Hp → Prop, (∃ m, W1 0 m H4) ∧ ∀ j k H, W1 j k H → (J1.stop j H ∧ Nx H) ∨ (J1.go j H ∧ ∃ Nx1 : Hp → Prop, (∀ H', Nx1 H' → ∃ k', k' < k ∧ W1 (j + 1) k' H') ∧
          ∀ x H', J1.yld j H x H' → g1 x (wipe σ2 vs1) H' fun σ3 H5 => wipe σ3 vs1 = wipe σ2 vs1 ∧ tt1 σ3 H5 fun b H6 => if b = true then te σ3 H6 fun y H7 => ∃ acc, H7 D = some (.lst acc) ∧ acc.length < sizeLine ∧ Nx1 (upd H7 D (.lst (acc ++ [y]))) else Nx1 H6) else Nx H3) := by
  refine ⟨fun i m H => m = n - i ∧ i ≤ n ∧ Pv i H, ⟨n, by simp, Nat.zero_le _, h0⟩, ?_⟩
  rintro i m H ⟨rfl, hi, p⟩
  have q := hG i H hi p
  by_cases hlt : i < n
  · exact .inr ⟨w.goes i H hlt q, Pv (i + 1), fun H' p' => ⟨n - (i + 1), by omega, rfl, hlt, p'⟩, fun x H' y => hs i x H H' hlt p (w.yields i H x H' hlt q y)⟩
  · have e : i = n := by omega
    subst e
    exact .inl ⟨w.stops H q, hd H p⟩
theorem lc1_it {J1 : It} {n : Nat} {G : Hp → Prop} {Y : Nat → Hp → V → Hp → Prop} (w : Walk J1 n G Y) {g1 : TG} {tt1 : TT} {te : TE} {vs1 : List Nat} {σ2 : L2.St} {H4 : Hp} {D : Addr} {Nx : Hp → Prop} (Pv : Nat → Hp → Prop) (h0 : Pv 0 H4) (hG : ∀ i H, i ≤ n → Pv i H → G H)
    (hs : ∀ i x H H', i < n → Pv i H → Y i H x H' → g1 x (wipe σ2 vs1) H' fun σ3 H5 => wipe σ3 vs1 = wipe σ2 vs1 ∧ tt1 σ3 H5 fun b H6 => if b = true then te σ3 H6 fun y H7 => ∃ acc, H7 D = some (.lst acc) ∧ acc.length < sizeLine ∧ Pv (i + 1) (upd H7 D (.lst (acc ++ [y]))) else Pv (i + 1) H6) (hd : ∀ H, Pv n H → Nx H) :
    ∃ W1 : Nat → Nat → Hp → Prop, (∃ m, W1 0 m H4) ∧ ∀ j k H, W1 j k H → (J1.stop j H ∧ Nx H) ∨ (J1.go j H ∧ ∃ Nx1 : Hp → Prop, (∀ H', Nx1 H' → ∃ k', k' < k ∧ W1 (j + 1) k' H') ∧
      ∀ x H', J1.yld j H x H' → g1 x (wipe σ2 vs1) H' fun σ3 H5 => wipe σ3 vs1 = wipe σ2 vs1 ∧ tt1 σ3 H5 fun b H6 => if b = true then te σ3 H6 fun y H7 => ∃ acc, H7 D = some (.lst acc) ∧ acc.length < sizeLine ∧ Nx1 (upd H7 D (.lst (acc ++ [y]))) else Nx1 H6) := by
  refine ⟨fun i m H => m = n - i ∧ i ≤ n ∧ Pv i H, ⟨n, by simp, Nat.zero_le _, h0⟩, ?_⟩
  rintro i m H ⟨rfl, hi, p⟩
  have q := hG i H hi p
  by_cases hlt : i < n
  · exact .inr ⟨w.goes i H hlt q, Pv (i + 1), fun H' p' => ⟨n - (i + 1), by omega, rfl, hlt, p'⟩, fun x H' y => hs i x H H' hlt p (w.yields i H x H' hlt q y)⟩
  · have e : i = n := by omega
    subst e
    exact .inl ⟨w.stops H q, hd H p⟩
/-- an item from behind -/
theorem atI_neg {xs : List V} {j : Nat} {v : V} {i : Int} (hi : i = -(j : Int) - 1) (hj : j < xs.length) (h : xs[xs.length - 1 - j]? = some v) : atI xs i = some v := by
  subst hi
  have e : ixN xs.length (-(j : Int) - 1) = some (xs.length - 1 - j) := by
    unfold ixN
    rw [if_neg (by omega), if_pos (by omega)]
    congr 1
    omega
  unfold atI
  rw [e]
  exact h
/-- the last ones of a list -/
theorem cut_end {xs : List V} {j : Nat} (hj : 0 < j) : cutV xs (some (-(j : Int))) none = xs.drop (xs.length - j) := by
  unfold cutV
  have h1 : HT.sIx xs.length 0 (some (-(j : Int))) = xs.length - j := by
    show (if (-(j : Int)) < 0 then ((-(j : Int)) + (xs.length : Int)).toNat else min (-(j : Int)).toNat xs.length) = xs.length - j
    rw [if_pos (by omega)]
    omega
  have h2 : HT.sIx xs.length xs.length none = xs.length := rfl
  rw [h1, h2]
  exact List.take_of_length_le (by rw [List.length_drop]; exact Nat.le_refl _)
end U

/-! != of instances whose class has an own __eq__ and no own __ne__ -/
namespace U
open PySem PySem.Spec PyProof.Rows L2 PySem.W
theorem on_bind (self : Value) : bindSpecial (.builtin "object.__ne__") self = pure (.builtin "object.__ne__", [self]) :=
  (Slot.of (T := "object") (name := "__ne__") (owner := "object") (n := "__ne__") (by rw [typeLookup_type, builtinLookup_eq_fast]; kernel_rfl) (by decide +kernel) (by decide +kernel) (by decide +kernel)
    (.inl (by decide +kernel)) (by rw [isSubtype_type]; kernel_rfl)).bind self
theorem on_plain : plainId "object.__ne__" = true := by decide +kernel
section
variable {prog : Program} {w : World} {A : Around} {E : Value → Shared → Prop} {s : Shared} {K : PySem.W.Frag} {x C f : Addr} {ox : Obj} {od : Option Obj}
theorem ifBound_ne {M : Model} {args : List Value} {Q : Option Value → Shared → Prop} (X : K.In s.heap) (I : PySem.W.InstAt s.heap x ox C od) (hs : PySem.W.findIn K (.ref C) "__ne__" = some (some (.builtin "object.__ne__")))
    (h : wpAny M A (call (.builtin "object.__ne__") (.ref x :: args)) (fun v => Q (some v)) E s) : wpAny M A (callSpecialIfBound? (.ref x) "__ne__" args) Q E s := by
  simp only [callSpecialIfBound?, bindSpecialIfBound?]
  refine wpAny_holding (wpAny_bind (wpAny_bind (wpAny_bind (I.type.here ((PySem.W.looks_findIn X hs).here ?_)))))
  refine wpAny_bind (wpAny_askSetting (wpAny_ite ?_))
  have fin : wpAny M A (call (.builtin "object.__ne__") ([.ref x] ++ args) >>= fun v => pure (some v)) Q E s := wpAny_bind (wpAny_mono h (fun v s' h' => wpAny_pure h') fun _ _ h' => h')
  split
  · exact wpAny_bind ((Looks.of_pure (on_bind _)).here (wpAny_pure (by exact fin)))
  · exact wpAny_tryCatch (wpAny_bind ((Looks.of_pure (on_bind _)).here (wpAny_pure (by exact fin))))
/-- x != y, by x.__eq__(y) -/
theorem ne_K {y : Addr} {oy : Obj} {od2 : Option Obj} {Q : Value → Shared → Prop} (hu : A.units + 1 < cLine) (X : K.In s.heap) (I : PySem.W.InstAt s.heap x ox C od) (J : PySem.W.InstAt s.heap y oy C od2)
    (hs : PySem.W.findIn K (.ref C) "__ne__" = some (some (.builtin "object.__ne__"))) (he : PySem.W.findIn K (.ref C) "__eq__" = some (some (.ref f))) (hf : PySem.W.isFn K (.ref f) = true) (ho : PySem.W.subIn K (.ref C) (.type "object") = some true)
    (h : wpAny (model prog w) A.in1 (call (.ref f) [.ref x, .ref y]) (fun v s' => ∃ b, v = .bool b ∧ Q (.bool (!b)) s') E s) : wpAny (model prog w) A (richCompare .NotEq (.ref x) (.ref y)) Q E s := by
  have isO : Looks (model prog w) s.heap (isInstance (.ref x) (.type "object")) true := I.type.andThen (PySem.W.looks_subIn X ho)
  have one : wpAny (model prog w) A (tryCompare (.ref x) "__ne__" (.ref y)) (fun r s' => ∃ v, r = some v ∧ Q v s') E s := by
    unfold tryCompare
    refine wpAny_bind (ifBound_ne X I hs (wpAny_call (codeAny_call_builtin on_plain F.cmpEntry_ne (PySem.W.check_slot F.cmpKind_ne F.cmpSplit_ne isO (F.cmpArgs_ne _ _) ?_))))
    unfold Builtin.«object.__ne__»
    repeat (first
      | with_reducible refine wpAny_cRoomFor (Nat.lt_of_succ_lt hu) ?_
      | with_reducible refine wpAny_cRoomFor hu ?_
      | (refine wpAny_bind (m := callSpecialIfBound? (.ref x) (Str.ofString "__eq__") [.ref y])
          (PySem.W.ifBound_K X I he hf (wpAny_mono h (fun r s' hr => by
            obtain ⟨b, rfl, hq⟩ := hr
            repeat (first | exact wpAny_pure ⟨_, rfl, hq⟩ | exact ⟨_, rfl, hq⟩ | (refine wpAny_bind (m := truthy (.bool _)) (wpAny_truthy_bool ?_)) | wp_step)) fun _ _ e => e)))
      | wp_step)
  unfold richCompare
  simp only [oneThing_ref]
  refine wpAny_holding (wpAny_bind (wpAny_cRoomFor (Nat.lt_of_succ_lt hu) ?_))
  refine wpAny_bind (I.type.here (wpAny_bind (J.type.here ?_)))
  rw [show (Value.ref C != Value.ref C) = false from by simp]
  simp only [Bool.false_eq_true, if_false]
  refine wpAny_bind (wpAny_pure ?_)
  simp only [Bool.false_eq_true, if_false]
  refine wpAny_bind (wpAny_mono one (fun r s' z => ?_) fun _ _ e => e)
  obtain ⟨v, rfl, hq⟩ := z
  exact wpAny_pure hq
end
/-- x != y as an expression, where they are equal -/
def rNeG (D : Eqv) : R2 := fun x y H Q => D x y H ∧ ∀ H', Ext H H' → Q (.bl false) H'
theorem op_neG {X : Cx} {n : Nat} {CX : CXT} {C f : Addr} {fd : FuncData} {ps : List Str} {R : Addr → Addr → Hp → Prop} {E : XK} (F : FnOk X.prog X.w X.K X.mg X.base CX n f fd ps (spEq R))
    (hn : PySem.W.findIn X.K (.ref C) "__ne__" = some (some (.builtin "object.__ne__"))) (hs : PySem.W.findIn X.K (.ref C) "__eq__" = some (some (.ref f))) (hf : PySem.W.isFn X.K (.ref f) = true) (ho : PySem.W.subIn X.K (.ref C) (.type "object") = some true)
    (hb : Binds X.K fd ps []) (hx : Passes CX X E) (hr : Room (n + 1) X.A) : OpR X (compareOp .NotEq) (rNeG (DIns C R)) := by
  intro pins s σ H x y u v Q I rx ry hq
  obtain ⟨d, q⟩ := hq
  obtain ⟨a, b, dx, dy, fs, gs, rfl, rfl, ha, hb', hR⟩ := d
  cases rx
  cases ry
  obtain ⟨mA, J, _⟩ := ins_get I.hok ha
  obtain ⟨mB, J', _⟩ := ins_get I.hok hb'
  obtain ⟨od, J, _⟩ := J.look
  obtain ⟨od', J', _⟩ := J'.look
  have sb : Sub X (n + 1) X.A := ⟨hr, rfl⟩
  have sb1 := sb.in1
  show wpAny (model X.prog X.w) X.A (richCompare .NotEq (.ref a) (.ref b)) (EP X pins σ Q) X.xe s
  refine ne_K (by have := hr.un; omega) I.kIn J J' hn hs hf ho ?_
  have hsp : spEq R [.ref a, .ref b] H (fun v H' => v = .bl true ∧ Ext H H') E := ⟨a, b, rfl, hR, fun H' e => ⟨rfl, e⟩⟩
  have e0 : Env0 X.prog X.w X.K X.mg X.base X.A.in1 X.stack s H := by
    have e := I.env0
    exact ⟨by rw [sb1.fr]; exact e.frames, e.mod, e.bs, e.bsz, e.funs, e.frf, e.hok, e.bare⟩
  have hl := F.len _ _ _ _ hsp
  have r2 : Vals [V.ref a, V.ref b] [Value.ref a, Value.ref b] := .cons rfl (.cons rfl .nil)
  refine wpAny_call (codeAny_mono (F.run X.A.in1 X.stack s H ⟨[.ref a, .ref b], []⟩ [.ref a, .ref b] [.ref a, .ref b] _ E sb1.room e0 (by
    have := hb s [.ref a, .ref b] I.kIn (by simpa using hl)
    simpa using this) r2 hsp) fun r s' hq => ?_)
  cases r with
  | error e => exact hx pins σ H s e s' I hq
  | ok fl =>
    cases fl with
    | ret w =>
      obtain ⟨z, H', I', rz, ez, ex⟩ := I.after hq
      subst ez
      cases rz
      exact ⟨true, rfl, .bl false, H', I', rfl, q H' ex⟩
    | next => exact False.elim hq
    | brk => exact False.elim hq
    | cont => exact False.elim hq
/-- != by the own == -/
structure NeC (K : PySem.W.Frag) (C : Addr) : Prop where
  hn : PySem.W.findIn K (.ref C) "__ne__" = some (some (.builtin "object.__ne__"))
  ho : PySem.W.subIn K (.ref C) (.type "object") = some true
theorem k_eqM {X : Cx} {C : Addr} {R : Addr → Addr → Hp → Prop} {k m : Nat} {ps : List Str} (h : HasM X.prog X.w X.K X.mg X.base C "__eq__" k ps (spEq R)) (hr : Room m X.A) (hk : k ≤ m) : OpR X (compareOp .Eq) (rEqG (DIns C R)) :=
  op_eqG (rcG_ins (E := E0) h.F h.mt.at_ h.mt.fn h.b pass0) (hr.mono hk)
theorem k_neM {X : Cx} {C : Addr} {R : Addr → Addr → Hp → Prop} {k m : Nat} {ps : List Str} (h : HasM X.prog X.w X.K X.mg X.base C "__eq__" k ps (spEq R)) (N : NeC X.K C) (hr : Room m X.A) (hk : k + 1 ≤ m) : OpR X (compareOp .NotEq) (rNeG (DIns C R)) :=
  op_neG (E := E0) h.F N.hn h.mt.at_ h.mt.fn N.ho h.b pass0 (hr.mono hk)
end U

/-! sorted(xs), xs a list of tuples of ints, not all of one length -/
namespace U
open PySem PySem.Spec PyProof.Rows L2
/-- made of one length: each int one up, 0 for what is not there -/
def pad : Nat → List Int → List Int
  | 0, _ => []
  | L + 1, [] => 0 :: pad L []
  | L + 1, n :: r => (n + 1) :: pad L r
theorem pad_len : ∀ (L : Nat) (ns : List Int), (pad L ns).length = L
  | 0, ns => by cases ns <;> rfl
  | L + 1, [] => by
    show (pad L []).length + 1 = L + 1
    rw [pad_len]
  | L + 1, n :: r => by
    show (pad L r).length + 1 = L + 1
    rw [pad_len]
theorem pad_bd {B : Int} (hB : 0 ≤ B) : ∀ (L : Nat) {ns : List Int}, TS.Bd B ns → TS.Bd (B + 1) (pad L ns)
  | 0, ns, _ => by
    intro m hm
    cases ns <;> cases hm
  | L + 1, [], h => fun m hm => by
    rcases List.mem_cons.mp hm with rfl | hm
    · omega
    · exact pad_bd hB L h m hm
  | L + 1, n :: r, h => fun m hm => by
    have h0 := h.head
    rcases List.mem_cons.mp hm with rfl | hm
    · omega
    · exact pad_bd hB L h.tail m hm
/-- the rank of a tuple -/
def cv (B : Int) (L : Nat) (ns : List Int) : Int := TS.code (B + 1) (pad L ns)
section
variable {prog : Program} {w : World} {A : Around} {E : Value → Shared → Prop} {s : Shared} {Q : Bool → Shared → Prop}
theorem lex_intsV {B : Int} (hB : 0 ≤ B) {b fin : Bool} {xs ys : List Value} {ns ms : List Int} {L : Nat} (i : Nat) (hx : IntsAre xs ns) (hy : IntsAre ys ms) (hf : fin = decide (ns.length < ms.length)) (l1 : ns.length ≤ L) (l2 : ms.length ≤ L) (h1 : TS.Bd B ns) (h2 : TS.Bd B ms)
    (h : Q (decide (cv B L ns < cv B L ms)) s) : PySem.W.KatLex prog w A b fin Q (xs.zip ys) i s := by
  induction hx generalizing ys ms i L with
  | nil =>
    cases hy with
    | nil =>
      have e : decide (cv B L [] < cv B L []) = false := decide_eq_false (Int.lt_irrefl _)
      rw [e] at h
      rw [hf]
      exact PySem.W.kat_nil h
    | @cons q u ys ms hy =>
      obtain ⟨L, rfl⟩ : ∃ M, L = M + 1 := ⟨L - 1, by rw [List.length_cons] at l2; omega⟩
      have e : decide (cv B (L + 1) [] < cv B (L + 1) (q :: ms)) = true := decide_eq_true (TS.code_lt (by rw [pad_len, pad_len]) (pad_bd hB L (fun m hm => (List.not_mem_nil hm).elim)) (pad_bd hB L h2.tail) (by have := h2.head; omega))
      rw [e] at h
      rw [hf]
      exact PySem.W.kat_nil (by simpa using h)
  | @cons p t xs ns hx ih =>
    cases hy with
    | nil =>
      obtain ⟨L, rfl⟩ : ∃ M, L = M + 1 := ⟨L - 1, by rw [List.length_cons] at l1; omega⟩
      have hlt : cv B (L + 1) [] < cv B (L + 1) (p :: ns) := TS.code_lt (by rw [pad_len, pad_len]) (pad_bd hB L (fun m hm => (List.not_mem_nil hm).elim)) (pad_bd hB L h1.tail) (by have := h1.head; omega)
      have e : decide (cv B (L + 1) (p :: ns) < cv B (L + 1) []) = false := decide_eq_false (by omega)
      rw [e] at h
      rw [hf]
      exact PySem.W.kat_nil (by simpa using h)
    | @cons q u ys ms hy =>
      obtain ⟨L, rfl⟩ : ∃ M, L = M + 1 := ⟨L - 1, by rw [List.length_cons] at l1; omega⟩
      have hl' : (pad L ns).length = (pad L ms).length := by rw [pad_len, pad_len]
      show PySem.W.KatLex prog w A b fin Q ((Value.int p t, Value.int q u) :: xs.zip ys) i s
      refine PySem.W.kat_cons (wpAny_eqBool_int ?_)
      by_cases e : p = q
      · subst e
        rw [beq_self_eq_true]
        have d : decide (cv B (L + 1) (p :: ns) < cv B (L + 1) (p :: ms)) = decide (cv B L ns < cv B L ms) := decide_eq_decide.mpr (TS.code_same hl')
        rw [d] at h
        refine PySem.W.kat_yes ?_
        exact ih (i + 1) hy (by rw [hf]; simp) (by rw [List.length_cons] at l1; omega) (by rw [List.length_cons] at l2; omega) h1.tail h2.tail h
      · rw [show (p == q) = false from beq_eq_false_iff_ne.mpr e]
        refine PySem.W.kat_no (TS.oneLt_ints _ ?_)
        have d : decide (cv B (L + 1) (p :: ns) < cv B (L + 1) (q :: ms)) = decide (p < q) := by
          refine decide_eq_decide.mpr ⟨fun x => ?_, fun x => TS.code_lt hl' (pad_bd hB L h1.tail) (pad_bd hB L h2.tail) (by omega)⟩
          rcases Int.lt_trichotomy p q with y | y | y
          · exact y
          · exact absurd y e
          · have : cv B (L + 1) (q :: ms) < cv B (L + 1) (p :: ns) := TS.code_lt hl'.symm (pad_bd hB L h2.tail) (pad_bd hB L h1.tail) (by omega)
            omega
        rw [d] at h
        exact h
end
/-- tuples of one to L ints in [0, B) -/
def TupsV (h : Heap) (L : Nat) (B : Int) (vs : List Value) : Prop := ∀ v, v ∈ vs → ∃ ns, TS.TupInts h v ns ∧ 1 ≤ ns.length ∧ ns.length ≤ L ∧ TS.Bd B ns
theorem TupsV.keeps {h h' : Heap} {L : Nat} {B : Int} {vs : List Value} (x : TupsV h L B vs) (k : ∀ b o, h.get? b = some o → o.cls = .type "tuple" → h'.get? b = some o) : TupsV h' L B vs := fun v hv =>
  let ⟨ns, t, r⟩ := x v hv; ⟨ns, t.keeps k, r⟩
theorem firsts_V {h : Heap} {L : Nat} {B : Int} : ∀ vs : List Value, TupsV h L B vs → ∃ fs, PySem.W.KatTups h vs fs ∧ fs.length = vs.length ∧ ∀ f, f ∈ fs → ∃ n t, f = Value.int n t
  | [], _ => ⟨[], PySem.W.KatTups.nil, rfl, fun f hf => by simp at hf⟩
  | v :: vs, x => by
    obtain ⟨fs, k, hl, hi⟩ := firsts_V vs fun u hu => x u (List.mem_cons_of_mem _ hu)
    obtain ⟨ns, ⟨a, xs, rfl, ⟨o, ho, hc, n, hdt⟩, i⟩, hn, _⟩ := x v (List.mem_cons_self ..)
    obtain ⟨y, ys, e⟩ : ∃ y ys, xs.toList = y :: ys := by
      cases q : xs.toList with
      | nil =>
        rw [q] at i
        have l := i.length
        rw [List.length_nil] at l
        omega
      | cons y ys => exact ⟨y, ys, rfl⟩
    obtain ⟨m, t, hy⟩ := i.all y (by rw [e]; exact List.mem_cons_self ..)
    refine ⟨y :: fs, PySem.W.KatTups.cons ho hc hdt ?_ k, by simp [hl], ?_⟩
    · have z := congrArg (fun l : List Value => l[0]?) e
      simpa using z
    · intro f hf
      rcases List.mem_cons.mp hf with rfl | hf
      · exact ⟨m, t, hy⟩
      · exact hi f hf
section
variable {prog : Program} {w : World} {A : Around} {E : Value → Shared → Prop} {s : Shared}
theorem kind_V {L : Nat} {B : Int} (hB : 0 ≤ B) {vs : List Value} (h2 : 2 ≤ vs.length) (x : TupsV s.heap L B vs) (r : Value → Int) (hr : ∀ v, v ∈ vs → ∀ ns, TS.TupInts s.heap v ns → r v = cv B L ns) (Q : SortKind → Shared → Prop)
    (h : ∀ κ, TS.Cmp prog w A s κ (pairsOf vs) r → Q κ s) : wpAny (model prog w) A (keyKind' vs.toArray) Q E s := by
  obtain ⟨fs, k, hl, hi⟩ := firsts_V vs x
  refine PySem.W.kat_kind (T := Value.type "int") k (by omega) (fun f hf => ?_) rfl (h _ ?_)
  · obtain ⟨n, t, rfl⟩ := hi f hf
    exact PySem.W.Looks.of_pure rfl
  · intro p q hp hq Q' E' hQ
    rw [pairsOf_toList] at hp hq
    obtain ⟨ns, tp, _, lp, bp⟩ := x _ (PyProof.Rows.mem_zip_self hp).2
    obtain ⟨ms, tq, _, lq, bq⟩ := x _ (PyProof.Rows.mem_zip_self hq).2
    have ep := hr _ (PyProof.Rows.mem_zip_self hp).2 _ tp
    have eq2 := hr _ (PyProof.Rows.mem_zip_self hq).2 _ tq
    have hQ' : Q' (decide (cv B L ns < cv B L ms)) s := by
      have z : decide (r p.1 < r q.1) = decide (cv B L ns < cv B L ms) := by rw [ep, eq2]
      rw [← z]; exact hQ
    obtain ⟨a, xs, e1, ⟨o, ho, hc, n, hdt⟩, i⟩ := tp
    obtain ⟨a', ys, e2, ⟨o', ho', hc', n', hdt'⟩, i'⟩ := tq
    rw [e1, e2]
    refine PySem.W.kat_lt ho hdt ho' hdt' ?_
    have sz : decide (xs.size < ys.size) = decide (ns.length < ms.length) := by
      have l1 := i.length
      have l2 := i'.length
      rw [Array.length_toList] at l1 l2
      rw [l1, l2]
    exact lex_intsV hB 0 i i' sz lp lq bp bq hQ'
theorem sort_V {a : Addr} {vs : List Value} {n L : Nat} {B : Int} {P : PySem.Fin → Shared → Prop} (hB : 0 ≤ B) (ho : s.heap.get? a = some (seqObj "list" vs.toArray n)) (h64 : vs.length < 64) (x : TupsV s.heap L B vs)
    (r : Value → Int) (hr : ∀ v, v ∈ vs → ∀ ns, TS.TupInts s.heap v ns → r v = cv B L ns)
    (h : ∀ out : Array Value, out.toList.Perm vs → out.toList.Pairwise (fun u v => r u ≤ r v) → P (.done (.ret .none)) { s with heap := sortedHeap s.heap a vs out }) :
    wpAny (model prog w) A (Builtin.«list.sort» ⟨[.ref a], []⟩) P E s := by
  have keep : ∀ b o, s.heap.get? b = some o → o.cls = .type "tuple" → (TS.midHeap s.heap a vs).get? b = some o := fun b o e hc => by
    refine TS.midHeap_old ?_ e
    rintro rfl
    rw [ho] at e
    have e' : seqObj "list" vs.toArray n = o := Option.some.inj e
    rw [← e'] at hc
    have c' : Value.type "list" = Value.type "tuple" := hc
    injection c' with c''
    exact absurd c'' (by decide)
  refine SK.plain_sort (r := r) ho h64 (fun h2 Q hQ => ?_) fun ps out h1 h2 h3 => ?_
  · refine kind_V (s := { s with heap := TS.midHeap s.heap a vs }) hB h2 (x.keeps keep) r (fun v hv ns t => ?_) Q hQ
    obtain ⟨ns0, t0, _⟩ := x v hv
    have e : ns = ns0 := t.ints.symm.trans (t0.keeps keep).ints
    rw [e]
    exact hr v hv ns0 t0
  · obtain ⟨p, o⟩ := TS.out_rank h1 h2 h3
    exact h out p o
theorem sorted_V {l : Addr} {vs : List Value} {L : Nat} {B : Int} {Q : Value → Shared → Prop} (hB : 0 ≤ B) (hl : s.heap.IsList l vs.toArray) (h64 : vs.length < 64) (x : TupsV s.heap L B vs)
    (h : ∀ out : Array Value, out.toList.Perm vs → out.toList.Pairwise (fun u v => cv B L (TS.intsOf s.heap u) ≤ cv B L (TS.intsOf s.heap v)) → Q (.ref (s.heap.objs.size + 1)) { s with heap := sortedAll s.heap vs out }) :
    wpAny (model prog w) A (call (.builtin "sorted") [.ref l]) Q E s := by
  refine Calls.call_function_entry kind_sorted plain_sorted entry_sorted (args_sorted1 _) ?_
  unfold Builtin.«sorted»
  refine wpAny_bind (m := checkCount "sorted" 1 1 _) (wpAny_pure ?_)
  refine wpAny_bind (collect_list hl ?_ (by rw [sizeLine_eq]; omega))
  refine wpAny_bind (wpAny_newList ?_ (by rw [sizeLine_eq]; omega))
  have hsz : ((s.heap.push (seqObj "list" #[] 0)).update s.heap.objs.size (Obj.mapSeq (· ++ vs.toArray))).objs.size = s.heap.objs.size + 1 := by
    rw [Heap.size_update, size_push']
  have hoL : (((s.heap.push (seqObj "list" #[] 0)).update s.heap.objs.size (Obj.mapSeq (· ++ vs.toArray))).push (seqObj "list" vs.toArray 0)).get? (s.heap.objs.size + 1) = some (seqObj "list" vs.toArray 0) := by
    rw [← hsz]; exact Heap.get?_push_size _ rfl
  have keep : ∀ b o, s.heap.get? b = some o → o.cls = .type "tuple" → (((s.heap.push (seqObj "list" #[] 0)).update s.heap.objs.size (Obj.mapSeq (· ++ vs.toArray))).push (seqObj "list" vs.toArray 0)).get? b = some o := fun b o q _ => by
    have hlt : b < s.heap.objs.size := Heap.lt_size q
    rw [Heap.get?_push_ne _ _ _ (by rw [hsz]; exact Nat.ne_of_lt (Nat.lt_succ_of_lt hlt)), Heap.get?_update_ne _ _ _ _ (Nat.ne_of_lt hlt), Heap.get?_push_ne _ _ _ (Nat.ne_of_lt hlt)]
    exact q
  show wpAny _ _ _ _ _ { s with heap := ((s.heap.push (seqObj "list" #[] 0)).update s.heap.objs.size (Obj.mapSeq (· ++ vs.toArray))).push (seqObj "list" vs.toArray 0) }
  rw [hsz]
  refine wpAny_bind (wpAny_holding (wpAny_call_entry slot_list_sort ⟨_, hoL, rfl⟩ entry_list_sort (sort_V hB hoL h64 (x.keeps keep) (fun v => cv B L (TS.intsOf s.heap v)) (fun v hv ns t => ?_) fun out a1 a2 => ⟨_, rfl, ?_⟩) (args_list_sort _)))
  · obtain ⟨ns0, t0, _⟩ := x v hv
    have e : ns = ns0 := t.ints.symm.trans (t0.keeps keep).ints
    rw [e]
    show cv B L (TS.intsOf s.heap v) = cv B L ns0
    rw [t0.ints]
  · exact wpAny_pure ⟨_, rfl, h out a1 a2⟩
end
theorem perm_lift {α β : Type} {f : α → β} : ∀ {l m : List β}, l.Perm m → ∀ L : List α, m = L.map f → ∃ L' : List α, L'.Perm L ∧ L'.map f = l := by
  intro l m h
  induction h with
  | nil =>
    intro L e
    have : L = [] := List.map_eq_nil_iff.mp e.symm
    exact ⟨[], by rw [this], rfl⟩
  | @cons x l m h ih =>
    intro L e
    match L, e with
    | a :: L, e =>
      rw [List.map_cons] at e
      injection e with e1 e2
      obtain ⟨L', p, q⟩ := ih L e2
      exact ⟨a :: L', p.cons a, by rw [List.map_cons, q, e1]⟩
  | swap x y l =>
    intro L e
    match L, e with
    | a :: b :: L, e =>
      rw [List.map_cons, List.map_cons] at e
      injection e with e1 e2
      injection e2 with e2 e3
      exact ⟨b :: a :: L, List.Perm.swap _ _ _, by rw [List.map_cons, List.map_cons, e1, e2, e3]⟩
    | [a], e =>
      rw [List.map_cons] at e
      injection e with _ e
      cases e
  | @trans l1 l2 l3 h1 h2 ih1 ih2 =>
    intro L e
    obtain ⟨L2, p2, q2⟩ := ih2 L e
    obtain ⟨L1, p1, q1⟩ := ih1 L2 q2.symm
    exact ⟨L1, p1.trans p2, q1⟩
/-- sorted(xs), xs a list of tuples of ints, not all of one length -/
def rSortedV (K : PySem.W.Frag) : List V → Hp → VK → Prop := fun vs H Q => ∃ (a : Addr) (L : List (Addr × List Int)) (m : Nat) (B : Int), vs = [V.ref a] ∧ SqL K H a (L.map fun p => V.ref p.1) ∧ 0 ≤ B ∧ L.length < 64 ∧
  (∀ p ∈ L, SqT K H p.1 (p.2.map V.int) ∧ 1 ≤ p.2.length ∧ p.2.length ≤ m ∧ TS.Bd B p.2) ∧
  ∀ (L' : List (Addr × List Int)) (p : Addr), L'.Perm L → L'.Pairwise (fun q r => cv B m q.2 ≤ cv B m r.2) → H p = none → Q (.ref p) (upd H p (.lst (L'.map fun q => V.ref q.1)))
theorem ints_of_vals : ∀ {k : List Int} {us : List Value}, Vals (k.map V.int) us → IntsAre us k
  | [], _, .nil => .nil
  | n :: k, _, .cons r t => by
    obtain ⟨tk, rfl⟩ := r
    exact .cons n tk (ints_of_vals t)
theorem cr_sortedV {X : Cx} : CallR X (.builtin "sorted") (rSortedV X.K) := by
  intro pins s σ H vs us Q I r h
  obtain ⟨a, L, m, B, rfl, hs, hB, h64, hx, q⟩ := h
  obtain ⟨its, rv, hl, hz⟩ := I.list hs
  obtain ⟨u, rfl, ru⟩ := vals1 r
  obtain rfl : u = Value.ref a := ru
  have eit : its = L.map fun p => Value.ref p.1 := refs_of_vals rv
  subst eit
  have ti : ∀ p ∈ L, TS.TupInts s.heap (.ref p.1) p.2 := fun p hp => by
    obtain ⟨its, r, ⟨o, ho, hc, n, hd⟩, _⟩ := I.tuple (hx p hp).1
    exact ⟨p.1, its.toArray, rfl, ⟨o, ho, hc, n, hd⟩, by simpa using ints_of_vals r⟩
  refine sorted_V hB hl.isList (by rw [List.length_map]; exact h64) (L := m) (fun v hv => ?_) fun out h1 h2 => ?_
  · obtain ⟨p, hp, rfl⟩ := List.mem_map.mp hv
    exact ⟨p.2, ti p hp, (hx p hp).2.1, (hx p hp).2.2.1, (hx p hp).2.2.2⟩
  · obtain ⟨L', pL, eL⟩ := perm_lift h1 L rfl
    obtain ⟨ep, he'⟩ := PyProof.Rows.sortedAll_at s.heap (L.map fun p => Value.ref p.1) out
    have hlen : (L'.map fun q => V.ref q.1).length ≤ sizeLine := by rw [List.length_map, pL.length_eq, sizeLine_eq]; omega
    have pw : L'.Pairwise (fun q r => cv B m q.2 ≤ cv B m r.2) := by
      rw [← eL] at h2
      refine List.Pairwise.imp_of_mem (fun {q r} hq hr hle => ?_) (List.pairwise_map.mp h2)
      have f1 : TS.intsOf s.heap (.ref q.1) = q.2 := (ti q (pL.mem_iff.mp hq)).ints
      have f2 : TS.intsOf s.heap (.ref r.1) = r.2 := (ti r (pL.mem_iff.mp hr)).ints
      rw [← f1, ← f2]
      exact hle
    refine ⟨.ref _, upd H (s.heap.objs.size + 1) (.lst (L'.map fun q => V.ref q.1)), I.laid (t' := s.toks) (fun _ _ => PyProof.Rows.sortedAll_old) (Nat.le_succ _) ⟨hlen, out.toList, ep, by rw [← eL]; exact vals_of_refs L', by simpa using he'⟩, rfl, q L' _ pL pw (I.hok.fresh (Nat.le_succ _))⟩
theorem k_sortedV {X : Cx} {K : PySem.W.Frag} (h : X.K = K) : CallR X (.builtin "sorted") (rSortedV K) := by
  subst h
  exact cr_sortedV
/-- the rank tells the tuples apart -/
theorem cv_inj {B : Int} (hB : 0 ≤ B) : ∀ {L : Nat} {ns ms : List Int}, ns.length ≤ L → ms.length ≤ L → TS.Bd B ns → TS.Bd B ms → cv B L ns = cv B L ms → ns = ms
  | 0, ns, ms, l1, l2, _, _, _ => by rw [List.eq_nil_of_length_eq_zero (Nat.le_zero.mp l1), List.eq_nil_of_length_eq_zero (Nat.le_zero.mp l2)]
  | L + 1, [], [], _, _, _, _, _ => rfl
  | L + 1, [], q :: ms, _, l2, h1, h2, e => by
    have : cv B (L + 1) [] < cv B (L + 1) (q :: ms) := TS.code_lt (by rw [pad_len, pad_len]) (pad_bd hB L h1) (pad_bd hB L h2.tail) (by have := h2.head; omega)
    omega
  | L + 1, p :: ns, [], l1, _, h1, h2, e => by
    have : cv B (L + 1) [] < cv B (L + 1) (p :: ns) := TS.code_lt (by rw [pad_len, pad_len]) (pad_bd hB L h2) (pad_bd hB L h1.tail) (by have := h1.head; omega)
    omega
  | L + 1, p :: ns, q :: ms, l1, l2, h1, h2, e => by
    have hl' : (pad L ns).length = (pad L ms).length := by rw [pad_len, pad_len]
    rcases Int.lt_trichotomy p q with y | y | y
    · have : cv B (L + 1) (p :: ns) < cv B (L + 1) (q :: ms) := TS.code_lt hl' (pad_bd hB L h1.tail) (pad_bd hB L h2.tail) (by omega)
      omega
    · subst y
      have e2 : cv B L ns = cv B L ms := by
        have n1 : ¬ cv B L ns < cv B L ms := fun z => by
          have := (TS.code_same (d := p + 1) (B := B + 1) hl').mpr z
          have : cv B (L + 1) (p :: ns) < cv B (L + 1) (p :: ms) := this
          omega
        have n2 : ¬ cv B L ms < cv B L ns := fun z => by
          have := (TS.code_same (d := p + 1) (B := B + 1) hl'.symm).mpr z
          have : cv B (L + 1) (p :: ms) < cv B (L + 1) (p :: ns) := this
          omega
        omega
      rw [cv_inj hB (by rw [List.length_cons] at l1; omega) (by rw [List.length_cons] at l2; omega) h1.tail h2.tail e2]
    · have : cv B (L + 1) (q :: ms) < cv B (L + 1) (p :: ns) := TS.code_lt hl'.symm (pad_bd hB L h2.tail) (pad_bd hB L h1.tail) (by omega)
      omega
end U

namespace U
open PySem PySem.Spec PyProof.Rows L2
def topS (i : Nat) : Stmt := PySem.Challenge.pw_untriedways_k33_whole_lots_of_greatest_p.main.body.getD i (.Pass ⟨0, 0, 0, 0⟩)
section
variable {P : Program} {w : World} {K : PySem.W.Frag} {mg : Str → Option Value} {base : Heap}
abbrev s_is_integer : Stmt := topS 6
abbrev sl_is_integer : List Str := ["thing"]
theorem sc_is_integer : FnScope ["thing"] ["thing"] (defScope s_is_integer) := ⟨rfl, rfl, rfl, by decide +kernel, rfl, by decide +kernel, by decide +kernel⟩
def spIsInteger (K : PySem.W.Frag) : Sp := fun vs H Q _ => ∃ v s, vs = [v] ∧ Kn K H v s ∧ Q (.bl (isI v)) H
theorem ok_is_integer (B : Bt mg) (D : Df K mg "is_integer" s_is_integer ["thing"]) : Has P w K mg base "is_integer" 1 ["thing"] (spIsInteger K) := by
  refine D.has fun f fd F => F.ok sc_is_integer (fun vs H Q E h => ?_) (fun cdv A outer s H vs Q E hr h => ?_)
  · obtain ⟨v, s, rfl, _⟩ := h
    rfl
  · obtain ⟨v, s, rfl, hv, q⟩ := h
    refine ⟨_, (pss_one (ps_ret (pe_and (pe_callB (k_isi (K := K) rfl) (by rfl) B.isinstance bo_isinstance (pa_cons (pv 0) (pa_cons (pe_bltn (v := .ty "int") (by rfl) B.int bo_int rfl) pa_nil))) (pe_one (pe_not (pe_callB (k_isi (K := K) rfl) (by rfl) B.isinstance bo_isinstance (pa_cons (pv 0) (pa_cons (pe_bltn (v := .ty "bool") (by rfl) B.bool bo_bool rfl) pa_nil)))))))), ?_⟩
    refine ⟨v, rfl, v, .ty "int", _, _, _, rfl, .ty "int", hv.ty, kit_int hv.mem, _, rfl, ?_⟩
    have e := kn_int hv
    by_cases h1 : (s == "int" || s == "bool") = true
    · rw [h1]
      refine iteT ?_
      refine ⟨v, rfl, v, .ty "bool", _, _, _, rfl, .ty "bool", hv.ty, kit_bool hv.mem, _, rfl, ?_⟩
      have e2 : isI v = !(s == "bool") := by
        rw [e]
        simp only [Bool.or_eq_true, beq_iff_eq] at h1
        rcases h1 with rfl | rfl <;> rfl
      rw [← e2]
      exact q
    · have e2 : isI v = false := by
        rw [e]
        simp only [Bool.or_eq_true, not_or] at h1
        simpa using h1.1
      rw [Bool.eq_false_iff.mpr h1]
      refine iteF ?_
      rw [e2] at q
      exact q

abbrev s_is_index : Stmt := topS 7
abbrev sl_is_index : List Str := ["thing", "many"]
theorem sc_is_index : FnScope ["thing", "many"] ["thing", "many"] (defScope s_is_index) := ⟨rfl, rfl, rfl, by decide +kernel, rfl, by decide +kernel, by decide +kernel⟩
def spIsIndex (K : PySem.W.Frag) : Sp := fun vs H Q _ => ∃ (v : V) (s : String) (m : Int), vs = [v, .int m] ∧ Kn K H v s ∧ Q (.bl (idxV v m)) H
theorem ok_is_index (h_is_integer : Has P w K mg base "is_integer" 1 ["thing"] (spIsInteger K)) (D : Df K mg "is_index" s_is_index ["thing", "many"]) : Has P w K mg base "is_index" 2 ["thing", "many"] (spIsIndex K) := by
  refine D.has fun f fd F => F.ok sc_is_index (fun vs H Q E h => ?_) (fun cdv A outer s H vs Q E hr h => ?_)
  · obtain ⟨v, s, m, rfl, _⟩ := h
    rfl
  · obtain ⟨v, s, m, rfl, hv, q⟩ := h
    refine ⟨_, (pss_one (ps_ret (pe_and (pcall h_is_integer hr (by decide) (by rfl) (pa_cons (pv 0) pa_nil)) (pe_one (pe_chain op_le op_lt pe_int (pv 0) (pv 1)))))), ?_⟩
    refine ⟨v, rfl, v, s, rfl, hv, _, rfl, ?_⟩
    cases v with
    | int i =>
      refine iteT ?_
      refine ⟨_, rfl, _, _, rfl, rfl, _, rfl, ?_⟩
      by_cases h0 : (0 : Int) ≤ i
      · rw [decide_eq_true h0]
        refine iteT ?_
        refine ⟨_, rfl, _, _, rfl, rfl, ?_⟩
        have e : idxV (.int i) m = decide (i < m) := by
          show (decide (0 ≤ i) && decide (i < m)) = decide (i < m)
          rw [decide_eq_true h0, Bool.true_and]
        rw [e] at q
        exact q
      · rw [decide_eq_false h0]
        refine iteF ?_
        have e : idxV (.int i) m = false := by
          show (decide (0 ≤ i) && decide (i < m)) = false
          rw [decide_eq_false h0, Bool.false_and]
        rw [e] at q
        exact q
    | _ => exact iteF q

abbrev s_is_any_lot : Stmt := topS 8
abbrev sl_is_any_lot : List Str := ["thing", "last", "item"]
theorem sc_is_any_lot : FnScope ["thing", "last", "item"] ["thing"] (defScope s_is_any_lot) := ⟨rfl, rfl, rfl, by decide +kernel, rfl, by decide +kernel, by decide +kernel⟩
/-- strictly ascending integers above l -/
def ascFrom : Int → List V → Bool
  | _, [] => true
  | l, .int i :: r => decide (l < i) && ascFrom i r
  | _, _ :: _ => false
theorem ascFrom_cons {l : Int} {x : V} {r : List V} : ascFrom l (x :: r) = (match x with | .int i => decide (l < i) && ascFrom i r | _ => false) := by
  cases x <;> rfl
def spAnyLot (K : PySem.W.Frag) : Sp := fun vs H Q _ => ∃ v : V, vs = [v] ∧
  ((∃ a xs, v = .ref a ∧ SqT K H a xs ∧ (∀ x ∈ xs, ∃ s, Kn K H x s) ∧ Q (.bl (ascFrom (-1) xs)) H) ∨ (∃ s, Kn K H v s ∧ (s == "tuple") = false ∧ Q (.bl false) H))
theorem ok_is_any_lot (B : Bt mg) (h_is_integer : Has P w K mg base "is_integer" 1 ["thing"] (spIsInteger K)) (D : Df K mg "is_any_lot" s_is_any_lot ["thing"]) : Has P w K mg base "is_any_lot" 2 ["thing"] (spAnyLot K) := by
  refine D.has fun f fd F => F.ok sc_is_any_lot (fun vs H Q E h => ?_) (fun cdv A outer s H vs Q E hr h => ?_)
  · obtain ⟨v, rfl, _⟩ := h
    rfl
  · obtain ⟨v, rfl, h⟩ := h
    refine ⟨_, (pss_cons (ps_if (pt_not (pt_val (pe_callB (k_isi (K := K) rfl) (by rfl) B.isinstance bo_isinstance (pa_cons (pv 0) (pa_cons (pe_bltn (v := .ty "tuple") (by rfl) B.tuple bo_tuple rfl) pa_nil)))))
    (pss_one (ps_ret pe_bl))
    pss_nil)
  (pss_cons (ps_set (i := 1) sc_is_any_lot.nd rfl (.inl rfl) (pe_un un_neg pe_int))
  (pss_cons (ps_for PassesOwn.never rfl (k_pit (K := K) rfl (pv 0)) (pg_name (i := 2) sc_is_any_lot.nd rfl (.inl rfl))
    (pss_cons (ps_if (PW.pt (pw_or (pt_not (pt_val (pcall h_is_integer hr (by decide) (by rfl) (pa_cons (pv 2) pa_nil)))) (pw_or1 (pt_cmpR op_le (pv 2) (pv 1) (nomark _)))))
    (pss_one (ps_ret pe_bl))
    pss_nil)
  (pss_one (ps_set (i := 1) sc_is_any_lot.nd rfl (.inl rfl) (pv 2)))))
  (pss_one (ps_ret pe_bl))))), ?_⟩
    rcases h with ⟨a, xs, rfl, hS, hk, q⟩ | ⟨s, hv, hs, q⟩
    · refine ⟨_, rfl, _, .ty "tuple", _, _, _, rfl, .ty "tuple", (kn_of_tup hS).ty, kit_tuple (kn_of_tup hS).mem, _, rfl, iteF ?_⟩
      refine ⟨1, rfl, ?_⟩
      refine ⟨_, rfl, a, rfl, ⟨_, hS⟩, ?_⟩
      refine for_tup (xs := xs) (fun i σ H' => H' = H ∧ ∃ last it, σ = [some (.ref a), some (.int last), it] ∧ ascFrom (-1) xs = ascFrom last (xs.drop i)) ⟨rfl, -1, none, rfl, rfl⟩ ?_ ?_ ?_
      · rintro i σ H' _ ⟨rfl, _⟩
        exact hS
      · rintro i x σ H' hx ⟨rfl, last, it, rfl, e⟩
        obtain ⟨s, hs⟩ := hk x (List.mem_of_getElem? hx)
        rw [drop_cons_of hx, ascFrom_cons] at e
        refine ⟨x, rfl, x, s, rfl, hs, _, rfl, ?_⟩
        cases x with
        | int z =>
          simp only at e
          refine iteF ?_
          refine ⟨_, rfl, _, rfl, z, last, rfl, rfl, _, rfl, ?_⟩
          by_cases h2 : z ≤ last
          · rw [decide_eq_true h2]
            refine iteT ?_
            have e2 : ascFrom (-1) xs = false := by
              rw [e, decide_eq_false (by omega), Bool.false_and]
            rw [e2] at q
            exact q
          · rw [decide_eq_false h2]
            refine iteF ?_
            refine ⟨.int z, rfl, rfl, z, _, rfl, ?_⟩
            rw [e, decide_eq_true (by omega), Bool.true_and]
        | _ =>
          refine iteT (iteT ?_)
          simp only at e
          rw [e] at q
          exact q
      · rintro σ H' ⟨rfl, last, it, rfl, e⟩
        rw [List.drop_length] at e
        have e2 : ascFrom (-1) xs = true := e
        rw [e2] at q
        exact q
    · refine ⟨_, rfl, _, .ty "tuple", _, _, _, rfl, .ty "tuple", hv.ty, kit_tuple hv.mem, _, rfl, ?_⟩
      rw [hs]
      exact iteT q

abbrev s_is_lot : Stmt := topS 9
abbrev sl_is_lot : List Str := ["thing", "many"]
theorem sc_is_lot : FnScope ["thing", "many"] ["thing", "many"] (defScope s_is_lot) := ⟨rfl, rfl, rfl, by decide +kernel, rfl, by decide +kernel, by decide +kernel⟩
def spIsLot (K : PySem.W.Frag) : Sp := fun vs H Q _ => ∃ (v : V) (m : Int), vs = [v, .int m] ∧
  ((∃ a xs, v = .ref a ∧ SqT K H a xs ∧ (∀ x ∈ xs, ∃ s, Kn K H x s) ∧ Q (.bl (lotFrom m (-1) xs)) H) ∨ (∃ s, Kn K H v s ∧ (s == "tuple") = false ∧ Q (.bl false) H))
theorem lotFrom_cons {m l : Int} {x : V} {r : List V} : lotFrom m l (x :: r) = (match x with | .int i => idxV x m && decide (l < i) && lotFrom m i r | _ => false) := by
  cases x <;> rfl
/-- the last one is an integer below m, if there is one -/
def lastLt (m : Int) (xs : List V) : Prop := ∀ z, xs.getLast? = some z → ∃ i, z = .int i ∧ i < m
theorem asc_last : ∀ {xs : List V} {l : Int}, ascFrom l xs = true → ∀ z, xs.getLast? = some z → ∃ i, z = .int i ∧ l < i
  | [], _, _, _, h => by cases h
  | .int i :: r, l, h, z, hz => by
    have h' : (decide (l < i) && ascFrom i r) = true := h
    rw [Bool.and_eq_true, decide_eq_true_eq] at h'
    cases r with
    | nil =>
      cases hz
      exact ⟨i, rfl, h'.1⟩
    | cons y r =>
      rw [List.getLast?_cons_cons] at hz
      obtain ⟨j, e, hj⟩ := asc_last h'.2 z hz
      exact ⟨j, e, by omega⟩
  | .non :: _, _, h, _, _ => by cases h
  | .bl _ :: _, _, h, _, _ => by cases h
  | .str _ :: _, _, h, _, _ => by cases h
  | .byt _ :: _, _, h, _, _ => by cases h
  | .flt _ :: _, _, h, _, _ => by cases h
  | .ref _ :: _, _, h, _, _ => by cases h
  | .ty _ :: _, _, h, _, _ => by cases h
theorem lot_asc {m : Int} : ∀ {xs : List V} {l : Int}, -1 ≤ l → (lotFrom m l xs = true ↔ ascFrom l xs = true ∧ lastLt m xs)
  | [], _, _ => ⟨fun _ => ⟨rfl, fun z h => by cases h⟩, fun _ => rfl⟩
  | .int i :: r, l, hl => by
    have e1 : lotFrom m l (.int i :: r) = (decide (0 ≤ i) && decide (i < m) && decide (l < i) && lotFrom m i r) := rfl
    have e2 : ascFrom l (.int i :: r) = (decide (l < i) && ascFrom i r) := rfl
    rw [e1, e2]
    simp only [Bool.and_eq_true, decide_eq_true_eq]
    constructor
    · rintro ⟨⟨⟨h1, h2⟩, h3⟩, h4⟩
      obtain ⟨h5, h6⟩ := (lot_asc (l := i) (by omega)).mp h4
      refine ⟨⟨h3, h5⟩, fun z hz => ?_⟩
      cases r with
      | nil => cases hz; exact ⟨i, rfl, h2⟩
      | cons y r => rw [List.getLast?_cons_cons] at hz; exact h6 z hz
    · rintro ⟨⟨h3, h5⟩, h6⟩
      have h7 : lastLt m r := fun z hz => by
        cases r with
        | nil => cases hz
        | cons y r => exact h6 z (by rw [List.getLast?_cons_cons]; exact hz)
      refine ⟨⟨⟨by omega, ?_⟩, h3⟩, (lot_asc (l := i) (by omega)).mpr ⟨h5, h7⟩⟩
      cases r with
      | nil =>
        obtain ⟨j, e, hj⟩ := h6 _ rfl
        cases e
        exact hj
      | cons y r =>
        cases e : (y :: r).getLast? with
        | none => simp at e
        | some z =>
          obtain ⟨j, e3, hj⟩ := asc_last h5 z e
          obtain ⟨j', e4, hj'⟩ := h7 z e
          rw [e3] at e4
          cases e4
          omega
  | .non :: _, _, _ => ⟨fun h => (by cases h), fun h => (by cases h.1)⟩
  | .bl _ :: _, _, _ => ⟨fun h => (by cases h), fun h => (by cases h.1)⟩
  | .str _ :: _, _, _ => ⟨fun h => (by cases h), fun h => (by cases h.1)⟩
  | .byt _ :: _, _, _ => ⟨fun h => (by cases h), fun h => (by cases h.1)⟩
  | .flt _ :: _, _, _ => ⟨fun h => (by cases h), fun h => (by cases h.1)⟩
  | .ref _ :: _, _, _ => ⟨fun h => (by cases h), fun h => (by cases h.1)⟩
  | .ty _ :: _, _, _ => ⟨fun h => (by cases h), fun h => (by cases h.1)⟩
theorem ok_is_lot (B : Bt mg) (h_is_any_lot : Has P w K mg base "is_any_lot" 2 ["thing"] (spAnyLot K)) (D : Df K mg "is_lot" s_is_lot ["thing", "many"]) : Has P w K mg base "is_lot" 3 ["thing", "many"] (spIsLot K) := by
  refine D.has fun f fd F => F.ok sc_is_lot (fun vs H Q E h => ?_) (fun cdv A outer s H vs Q E hr h => ?_)
  · obtain ⟨v, m, rfl, _⟩ := h
    rfl
  · obtain ⟨v, m, rfl, h⟩ := h
    refine ⟨_, (pss_one (ps_ret (pe_and (pcall h_is_any_lot hr (by decide) (by rfl) (pa_cons (pv 0) pa_nil)) (pe_one (pe_or (pe_cmpR op_eq (pe_callB (k_len (K := K) rfl) (by rfl) B.len bo_len (pa_cons (pv 0) pa_nil)) pe_int (nomark _)) (pe_one (pe_cmpR op_lt (pe_ix (k_ixt (K := K) rfl) (pv 0) (pe_un un_neg pe_int) (fun _ _ => rfl)) (pv 1) (nomark _)))))))), ?_⟩
    rcases h with ⟨a, xs, rfl, hS, hk, q⟩ | ⟨s, hv, hs, q⟩
    · refine ⟨_, rfl, .ref a, rfl, .inl ⟨a, xs, rfl, hS, hk, _, rfl, ?_⟩⟩
      cases e : ascFrom (-1) xs with
      | false =>
        have e2 : lotFrom m (-1) xs = false := by
          rw [Bool.eq_false_iff]
          intro z
          rw [((lot_asc (Int.le_refl _)).mp z).1] at e
          cases e
        rw [e2] at q
        exact iteF q
      | true =>
        refine iteT ?_
        refine ⟨_, rfl, a, _, rfl, .inr hS, rfl, _, rfl, ?_⟩
        rcases List.eq_nil_or_concat xs with rfl | ⟨ys, v, rfl⟩
        · exact iteT q
        · rw [List.concat_eq_append] at *
          obtain ⟨i, rfl, _⟩ := asc_last e v (by simp)
          rw [decide_eq_false (by
            intro z
            injection z with z
            rw [List.length_append, List.length_singleton] at z
            omega)]
          refine iteF ?_
          refine ⟨_, rfl, 1, rfl, a, _, -1, _, rfl, rfl, hS, atI_last _ _, _, rfl, i, m, rfl, rfl, ?_⟩
          have e2 : lotFrom m (-1) (ys ++ [.int i]) = decide (i < m) := by
            rw [Bool.eq_iff_iff, lot_asc (Int.le_refl _), decide_eq_true_eq]
            constructor
            · rintro ⟨_, h⟩
              obtain ⟨j, z, hj⟩ := h (.int i) (by simp)
              cases z
              exact hj
            · intro h
              exact ⟨e, fun z hz => ⟨i, by simpa using hz.symm, h⟩⟩
          rw [e2] at q
          exact q
    · refine ⟨_, rfl, v, rfl, .inr ⟨s, hv, hs, _, rfl, iteF q⟩⟩

abbrev s_steps_from : Stmt := topS 11
abbrev sl_steps_from : List Str := ["many", "pairs", "sources", "heads", "tail", "head", "steps", "place", "layer", "count", "fresh", "_"]
theorem sc_steps_from : FnScope ["many", "pairs", "sources", "heads", "tail", "head", "steps", "place", "layer", "count", "fresh", "_"] ["many", "pairs", "sources"] (defScope s_steps_from) := ⟨rfl, rfl, rfl, by decide +kernel, rfl, by decide +kernel, by decide +kernel⟩
def oV : Option Nat → V
  | none => .non
  | some d => nV d
def PairAt (K : PySem.W.Frag) (H : Hp) (v : V) (e : Nat × Nat) : Prop := ∃ t, v = .ref t ∧ SqT K H t [nV e.1, nV e.2]
/-- the values vs are the pairs es -/
structure Prs (K : PySem.W.Frag) (H : Hp) (vs : List V) (es : Es) : Prop where
  len : vs.length = es.length
  at_ : ∀ (i : Nat) (v : V) (e : Nat × Nat), vs[i]? = some v → es[i]? = some e → PairAt K H v e
theorem Prs.same {K : PySem.W.Frag} {H H' : Hp} {vs : List V} {es : Es} (p : Prs K H vs es) (s : Same H H') : Prs K H' vs es :=
  ⟨p.len, fun i v e a b => (p.at_ i v e a b).elim fun t ⟨h1, h2⟩ => ⟨t, h1, Same.sqt s h2⟩⟩
theorem Prs.get {K : PySem.W.Frag} {H : Hp} {vs : List V} {es : Es} (p : Prs K H vs es) {i : Nat} {v : V} (h : vs[i]? = some v) : ∃ e, es[i]? = some e ∧ PairAt K H v e := by
  have hi := (List.getElem?_eq_some_iff.mp h).1
  have hj : i < es.length := by rw [← p.len]; exact hi
  exact ⟨es[i], List.getElem?_eq_getElem hj, p.at_ i v _ h (List.getElem?_eq_getElem hj)⟩
def stV (n : Nat) (st : Nat → Option Nat) : List V := (List.range n).map fun v => oV (st v)
theorem stV_len (n : Nat) (st : Nat → Option Nat) : (stV n st).length = n := by
  unfold stV
  rw [List.length_map, List.length_range]
theorem stV_get {n j : Nat} {st : Nat → Option Nat} (h : j < n) : (stV n st)[j]? = some (oV (st j)) := get_map_range h
theorem stV_congr {n : Nat} {st st' : Nat → Option Nat} (h : ∀ v, v < n → st v = st' v) : stV n st = stV n st' := by
  unfold stV
  exact List.map_congr_left fun v hv => by rw [h v (List.mem_range.mp hv)]
theorem stV_set {n j : Nat} {d : Nat} {st : Nat → Option Nat} : (stV n st).set j (nV d) = stV n (fun v => if v = j then some d else st v) := by
  unfold stV
  rw [set_map_range]
  refine List.map_congr_left fun v _ => ?_
  by_cases h : v = j
  · simp only [if_pos h]
    rfl
  · simp only [if_neg h]
theorem stV_none (n : Nat) : stV n (fun _ => none) = (List.replicate n [V.non]).flatten := by
  unfold stV
  apply List.ext_getElem?
  intro i
  have e : (List.replicate n [V.non]).flatten = List.replicate n V.non := by
    induction n with
    | zero => rfl
    | succ n ih => rw [List.replicate_succ, List.flatten_cons, ih, List.replicate_succ]; rfl
  rw [e, List.getElem?_map, List.getElem?_replicate]
  by_cases h : i < n
  · rw [List.getElem?_range h, if_pos h]
    rfl
  · rw [List.getElem?_eq_none (by simpa using h), if_neg h]
    rfl
/-- behind the heads T, seen in layer c -/
def nx (c : Nat) (st : Nat → Option Nat) (T : List Nat) (v : Nat) : Option Nat := match st v with
  | some d => some d
  | none => if v ∈ T then some (c + 1) else none
theorem nx_nil (c : Nat) (st : Nat → Option Nat) : nx c st [] = st := by
  funext v
  unfold nx
  cases e : st v with
  | some d => rfl
  | none => simp
theorem nx_old {c : Nat} {st : Nat → Option Nat} {T : List Nat} {h d : Nat} (e : nx c st T h = some d) : nx c st (T ++ [h]) = nx c st T := by
  funext v
  unfold nx at e ⊢
  cases q : st v with
  | some d => rfl
  | none =>
    simp only
    by_cases hv : v = h
    · subst hv
      rw [q] at e
      simp only at e
      by_cases hm : v ∈ T
      · simp [hm]
      · rw [if_neg hm] at e
        cases e
    · simp [hv]
theorem nx_new {c : Nat} {st : Nat → Option Nat} {T : List Nat} {h : Nat} (e : nx c st T h = none) : (fun v => if v = h then some (c + 1) else nx c st T v) = nx c st (T ++ [h]) := by
  funext v
  unfold nx at e ⊢
  by_cases hv : v = h
  · subst hv
    rw [if_pos rfl]
    cases q : st v with
    | some d => rw [q] at e; cases e
    | none => simp
  · rw [if_neg hv]
    cases q : st v with
    | some d => rfl
    | none => simp [hv]
theorem nx_none {c : Nat} {st : Nat → Option Nat} {T : List Nat} {h : Nat} : nx c st T h = none ↔ st h = none ∧ h ∉ T := by
  unfold nx
  cases q : st h with
  | some d => simp
  | none => simp
/-- what stands while the search goes on -/
structure SfH (H H' : Hp) (D sp : Addr) (qs : List Addr) (n : Nat) (es : Es) (st : Nat → Option Nat) : Prop where
  same : Same H H'
  hD : H' D = some (.lst (qs.map V.ref))
  hA : ∀ (v : Nat) (q : Addr), qs[v]? = some q → H' q = some (.lst ((adj es v).map nV))
  hs : H' sp = some (.lst (stV n st))
/-- which objects are others -/
structure SfN (H : Hp) (D sp : Addr) (qs : List Addr) (x : Addr) : Prop where
  new : H x = none
  nD : x ≠ D
  nq : ∀ q ∈ qs, x ≠ q
theorem SfH.upd_other {H H' : Hp} {D sp x : Addr} {qs : List Addr} {n : Nat} {es : Es} {st : Nat → Option Nat} {o : HO} (s : SfH H H' D sp qs n es st) (N : SfN H D sp qs x) (ns : x ≠ sp) : SfH H (upd H' x o) D sp qs n es st where
  same := same_mut s.same N.new
  hD := by rw [upd_ne N.nD.symm]; exact s.hD
  hA := fun v q h => by rw [upd_ne (N.nq q (List.mem_of_getElem? h)).symm]; exact s.hA v q h
  hs := by rw [upd_ne ns.symm]; exact s.hs
theorem SfH.upd_sp {H H' : Hp} {D sp : Addr} {qs : List Addr} {n : Nat} {es : Es} {st st' : Nat → Option Nat} (s : SfH H H' D sp qs n es st) (N : SfN H D sp qs sp) : SfH H (upd H' sp (.lst (stV n st'))) D sp qs n es st' where
  same := same_mut s.same N.new
  hD := by rw [upd_ne N.nD.symm]; exact s.hD
  hA := fun v q h => by rw [upd_ne (N.nq q (List.mem_of_getElem? h)).symm]; exact s.hA v q h
  hs := upd_same
theorem SfH.newN {H H' : Hp} {D sp x : Addr} {qs : List Addr} {n : Nat} {es : Es} {st : Nat → Option Nat} (s : SfH H H' D sp qs n es st) (hq : ∀ q ∈ qs, H' q ≠ none) (h : H' x = none) : SfN H D sp qs x ∧ x ≠ sp :=
  ⟨⟨Same.free s.same h, (ne_of_none s.hD h).symm, fun q m z => hq q m (by rw [← z]; exact h)⟩, (ne_of_none s.hs h).symm⟩
def spSteps (K : PySem.W.Frag) : Sp := fun vs H Q _ => ∃ (n : Nat) (b c : Addr) (pvs : List V) (es : Es) (S : List Nat), vs = [.int (n : Int), .ref b, .ref c] ∧ SqX K H b pvs ∧ Prs K H pvs es ∧ SqX K H c (S.map nV) ∧
  (∀ e ∈ es, e.1 < n ∧ e.2 < n) ∧ (∀ s ∈ S, s < n) ∧ n ≤ 1000 ∧ es.length ≤ 1000 ∧
  ∀ p H' st, Same H H' → H p = none → H' p = some (.lst (stV n st)) → (∀ v, v < n → (∀ d, st v = some d ↔ Dst es S v d) ∧ (st v = none ↔ ¬ Rch es S v)) → Q (.ref p) H'
theorem ok_steps_from (B : Bt mg) (D0 : Df K mg "steps_from" s_steps_from ["many", "pairs", "sources"]) : Has P w K mg base "steps_from" 1 ["many", "pairs", "sources"] (spSteps K) := by
  refine D0.has fun f fd F => F.ok sc_steps_from (fun vs H Q E h => ?_) (fun cdv A outer s H vs Q E hr h => ?_)
  · obtain ⟨n, b, c, pvs, es, S, rfl, _⟩ := h
    rfl
  · obtain ⟨n, b, c, pvs, es, S, rfl, hB, hP, hC, he, hS, hn, hel, q⟩ := h
    refine ⟨_, (pss_cons (ps_setLc (i := 3) (own := [("_", 11)]) (g := gName 11) rfl sc_steps_from.nd rfl rfl (sw_true rfl rfl rfl (by decide +kernel)) (pi_range1 (by rfl) B.range (pa_cons (pv 0) pa_nil)) (blkOk_by (N := sl_steps_from) (sc := defScope s_steps_from) (by decide +kernel)) (fun _ _ _ _ _ => (pg_name (i := 11) sc_steps_from.nd rfl (.inl rfl))) (fun _ _ _ _ _ => pts_nil) (fun _ _ _ _ _ => (pe_lst pa_nil)))
  (pss_cons (ps_for PassesOwn.never rfl (k_pis (K := K) rfl (pv 1)) (pg_tup rfl (pgs_cons (pg_name (i := 4) sc_steps_from.nd rfl (.inl rfl)) (pgs_cons (pg_name (i := 5) sc_steps_from.nd rfl (.inl rfl)) pgs_nil)))
    (pss_one (ps_expr (pe_bm PySem.F.plainAttrs_list PySem.F.slot_list_append PySem.F.type_list_append mt_append (pe_ix (k_ixl (K := K) rfl) (pv 3) (pv 4) (fun _ _ => rfl)) (pa_cons (pv 5) pa_nil)))))
  (pss_cons (ps_set (i := 6) sc_steps_from.nd rfl (.inl rfl) (pe_op op_rep (pe_lst (pa_cons pe_non pa_nil)) (pv 0)))
  (pss_cons (ps_for PassesOwn.never rfl (k_pis (K := K) rfl (pv 2)) (pg_name (i := 7) sc_steps_from.nd rfl (.inl rfl))
    (pss_one (ps_asg pe_int (pg_sub (pv 6) (pv 7) set_list))))
  (pss_cons (ps_set (i := 8) sc_steps_from.nd rfl (.inl rfl) (pe_callTy (k_list (K := K) rfl) (by rfl) B.list bo_list (pa_cons (pv 2) pa_nil)))
  (pss_cons (ps_set (i := 9) sc_steps_from.nd rfl (.inl rfl) pe_int)
  (pss_cons (ps_while PassesOwn.never (k_tru (K := K) rfl (pv 8) (by intro _; rfl))
    (pss_cons (ps_aug (i := 9) sc_steps_from.nd rfl (.inl rfl) pe_int ip_add)
  (pss_cons (ps_set (i := 10) sc_steps_from.nd rfl (.inl rfl) (pe_lst pa_nil))
  (pss_cons (ps_for PassesOwn.never rfl (k_pil (K := K) rfl (pv 8)) (pg_name (i := 7) sc_steps_from.nd rfl (.inl rfl))
    (pss_one (ps_for PassesOwn.never rfl (k_pil (K := K) rfl (pe_ix (k_ixl (K := K) rfl) (pv 3) (pv 7) (fun _ _ => rfl))) (pg_name (i := 5) sc_steps_from.nd rfl (.inl rfl))
    (pss_one (ps_if (pt_cmpR op_isN (pe_ix (k_ixl (K := K) rfl) (pv 6) (pv 5) (fun _ _ => rfl)) pe_non (nomark _))
    (pss_cons (ps_asg (pv 9) (pg_sub (pv 6) (pv 5) set_list))
  (pss_one (ps_expr (pe_bm PySem.F.plainAttrs_list PySem.F.slot_list_append PySem.F.type_list_append mt_append (pv 10) (pa_cons (pv 5) pa_nil)))))
    pss_nil)))))
  (pss_one (ps_set (i := 8) sc_steps_from.nd rfl (.inl rfl) (pv 10)))))))
  (pss_one (ps_ret (pv 6)))))))))), ?_⟩
    -- heads
    refine ⟨_, rfl, _, rfl, by omega, by omega, fun D nD => ?_⟩
    refine lc_range (lo := 0) (n := (n : Int).toNat) (fun i H' => ∃ qs : List Addr, qs.length = i ∧ qs.Nodup ∧ (∀ q ∈ qs, H q = none ∧ q ≠ D ∧ H' q = some (.lst [])) ∧ H' D = some (.lst (qs.map V.ref)) ∧ Same H H')
      ⟨[], rfl, List.nodup_nil, fun q hq => (List.not_mem_nil hq).elim, upd_same, same_new (Same.refl H) nD⟩ ?_ ?_
    · rintro i H' hi ⟨qs, hl, nd, hq, hD, sm⟩
      refine ⟨rfl, tyes ?_⟩
      refine iteT ?_
      refine ⟨Nat.zero_le _, fun p np => ⟨qs.map V.ref, ?_, ?_, qs ++ [p], by simp [hl], ?_, ?_, ?_, ?_⟩⟩
      · rw [upd_ne (ne_of_none hD np)]
        exact hD
      · rw [List.length_map]
        exact small_lt (by omega)
      · rw [List.nodup_append]
        refine ⟨nd, by simp, fun x hx y hy => ?_⟩
        rw [List.mem_singleton.mp hy]
        exact ne_of_none (hq x hx).2.2 np
      · intro x hx
        have nDp : D ≠ p := ne_of_none hD np
        rcases List.mem_append.mp hx with hx | hx
        · obtain ⟨h1, h2, h3⟩ := hq x hx
          exact ⟨h1, h2, by rw [upd_ne h2, upd_ne (ne_of_none h3 np)]; exact h3⟩
        · rw [List.mem_singleton.mp hx]
          exact ⟨Same.free sm np, nDp.symm, by rw [upd_ne nDp.symm, upd_same]⟩
      · rw [upd_same, List.map_append]
        rfl
      · exact same_mut (same_new sm np) nD
    rintro H1 ⟨qs, hql, qnd, hq, hD, sm1⟩
    have hql : qs.length = n := by rw [hql]; rfl
    -- the pairs
    refine ⟨_, rfl, b, rfl, for_seq hB (fun i σ H' => ∃ t h, σ = [some (.int (n : Int)), some (.ref b), some (.ref c), some (.ref D), t, h, none, none, none, none, none, none] ∧ Same H H' ∧
      H' D = some (.lst (qs.map V.ref)) ∧ ∀ (v : Nat) (q : Addr), qs[v]? = some q → H' q = some (.lst ((adj (es.take i) v).map nV))) ⟨none, none, rfl, sm1, hD, fun v q h => (hq q (List.mem_of_getElem? h)).2.2⟩ ?_ ?_ ?_⟩
    · rintro i σ H' _ ⟨t, h, rfl, sm, _⟩
      exact sm
    · rintro i x σ H' hx ⟨t, h, rfl, sm, hD', hA⟩
      obtain ⟨e, hei, t0, rfl, ht0⟩ := hP.get hx
      obtain ⟨e1, e2⟩ := e
      have hlt := he _ (List.mem_of_getElem? hei)
      have hqv : qs[e1]? = some qs[e1] := List.getElem?_eq_getElem (by rw [hql]; exact hlt.1)
      refine ⟨t0, _, rfl, Same.sqt sm ht0, rfl, _, _, rfl, _, _, rfl, rfl, ?_⟩
      refine ⟨_, rfl, _, rfl, D, _, (e1 : Int), .ref qs[e1], rfl, rfl, sql hD', atI_nat (by rw [List.getElem?_map, hqv]; rfl), .inl ⟨rfl, _, sql (hA e1 _ hqv)⟩, _, rfl, ?_⟩
      refine ⟨_, _, _, rfl, rfl, hA e1 _ hqv, ?_, ?_⟩
      · rw [List.length_map]
        have h1 : (adj (es.take i) e1).length ≤ (es.take i).length := List.length_filterMap_le _ _
        have h2 : (es.take i).length ≤ es.length := by rw [List.length_take]; exact Nat.min_le_right _ _
        exact small_lt (by omega)
      · have hmem : qs[e1] ∈ qs := List.mem_of_getElem? hqv
        refine ⟨_, _, rfl, same_mut sm (hq _ hmem).1, by rw [upd_ne (hq _ hmem).2.1.symm]; exact hD', fun v q' hv => ?_⟩
        rw [take_snoc_of hei, adj_snoc]
        by_cases hve : e1 = v
        · subst hve
          rw [hqv] at hv
          cases hv
          rw [if_pos rfl, upd_same, List.map_append]
          rfl
        · rw [if_neg hve, upd_ne (fun z => hve ?_)]
          · exact hA v q' hv
          · rw [z] at hv
            exact (List.getElem?_inj (by rw [hql]; exact hlt.1) qnd).mp (by rw [hqv, hv])
    rintro σ H2 ⟨t, h, rfl, sm2, hD2, hA2⟩
    rw [hP.len, List.take_length] at hA2
    -- steps
    refine ⟨by show 1 ≤ sizeLine; decide, fun p1 n1 => ⟨_, rfl, p1, (n : Int), _, rfl, rfl, upd_same, by omega, by omega, by show 1 * (n : Int).toNat ≤ sizeLine; rw [Nat.one_mul]; exact small_sz (by omega), fun sp nsp => ?_⟩⟩
    have sm3 : Same H2 (upd H2 p1 (.lst [V.non])) := same_new (Same.refl H2) n1
    have nsp2 : H2 sp = none := Same.free sm3 nsp
    have nqs : ∀ q ∈ qs, H2 q ≠ none := fun q m z => by
      obtain ⟨v, hv⟩ := List.getElem?_of_mem m
      rw [hA2 v q hv] at z
      cases z
    have Nsp : SfN H D sp qs sp := ⟨Same.free sm2 nsp2, (ne_of_none hD2 nsp2).symm, fun q m z => nqs q m (by rw [← z]; exact nsp2)⟩
    have s0 : SfH H (upd (upd H2 p1 (.lst [V.non])) sp (.lst (stV n fun _ => none))) D sp qs n es (fun _ => none) := by
      have sm4 : Same H2 (upd (upd H2 p1 (.lst [V.non])) sp (.lst (stV n fun _ => none))) := same_new sm3 nsp
      exact ⟨sm2.trans sm4, sm4 _ _ hD2, fun v q hv => sm4 _ _ (hA2 v q hv), upd_same⟩
    rw [show ((n : Int)).toNat = n from rfl, ← stV_none]
    -- the sources
    refine ⟨_, rfl, c, rfl, for_seq hC (fun i σ H' => ∃ pl, σ = [some (.int (n : Int)), some (.ref b), some (.ref c), some (.ref D), t, h, some (.ref sp), pl, none, none, none, none] ∧
      SfH H H' D sp qs n es (fun v => if v ∈ S.take i then some 0 else none)) ⟨none, rfl, ?_⟩ ?_ ?_ ?_⟩
    · have e0 : (fun v => if v ∈ S.take 0 then some 0 else none) = (fun _ : Nat => (none : Option Nat)) := by
        funext v
        simp
      rw [e0]
      exact s0
    · rintro i σ H' _ ⟨pl, rfl, sf⟩
      exact sf.same
    · rintro i x σ H' hx ⟨pl, rfl, sf⟩
      obtain ⟨z, hz, rfl⟩ := getmap hx
      have hzn := hS z (List.mem_of_getElem? hz)
      refine ⟨_, rfl, _, rfl, sp, _, (z : Int), z, rfl, rfl, sf.hs, by rw [stV_len]; exact ixN_nat hzn, _, rfl, ?_⟩
      show SfH H (upd H' sp (.lst ((stV n _).set z (nV 0)))) D sp qs n es _
      rw [stV_set]
      have e1 : (fun v => if v = z then some 0 else if v ∈ S.take i then some 0 else none) = (fun v => if v ∈ S.take (i + 1) then some 0 else (none : Option Nat)) := by
        funext v
        rw [take_snoc_of hz]
        by_cases hv : v = z
        · simp [hv]
        · simp [hv]
      rw [e1]
      exact sf.upd_sp Nsp
    rintro σ H3 ⟨pl, rfl, sf3⟩
    rw [List.length_map, List.take_length] at sf3
    -- layer, count
    refine ⟨_, rfl, c, S.map nV, rfl, Same.sqx sf3.same hC, fun ly nly => ?_⟩
    have nq3 : ∀ {H' : Hp} {st : Nat → Option Nat}, SfH H H' D sp qs n es st → ∀ q ∈ qs, H' q ≠ none := fun s q m z => by
      obtain ⟨v, hv⟩ := List.getElem?_of_mem m
      rw [s.hA v q hv] at z
      cases z
    obtain ⟨Nly, nly2⟩ := sf3.newN (nq3 sf3) nly
    -- the layers
    refine ⟨fun m σ H' => ∃ (cc : Nat) (st : Nat → Option Nat) (lay : List Nat) (ly : Addr) (t h pl fr : Option V), σ = [some (.int (n : Int)), some (.ref b), some (.ref c), some (.ref D), t, h, some (.ref sp), pl, some (.ref ly), some (.int (cc : Int)), fr, none] ∧
      SfH H H' D sp qs n es st ∧ SfN H D sp qs ly ∧ ly ≠ sp ∧ H' ly = some (.lst (lay.map nV)) ∧ Bfs n es S cc st lay ∧ m = 2 * openN n st + (if lay = [] then 0 else 1),
      ⟨_, 0, _, S, ly, t, h, pl, none, rfl, sf3.upd_other Nly nly2, Nly, nly2, upd_same, Bfs.start hS, rfl⟩, ?_⟩
    rintro m σ H4 ⟨cc, st, lay, ly4, t4, h4, pl4, fr4, rfl, sf4, Nl4, nls, hly, bf, rfl⟩
    refine ⟨_, rfl, !(lay.map nV).isEmpty, .inl ⟨_, sql hly, rfl⟩, ?_⟩
    cases hlay : lay with
    | nil =>
      subst hlay
      refine iteF ⟨_, rfl, ?_⟩
      exact q sp H4 st sf4.same Nsp.new sf4.hs fun v hv => bf.done he hv
    | cons l0 lr =>
      rw [← hlay]
      have hne : lay ≠ [] := by rw [hlay]; exact List.cons_ne_nil _ _
      have e5 : (!(lay.map nV).isEmpty) = true := by rw [hlay]; rfl
      rw [e5]
      refine iteT ⟨_, fun σ' H' z => z, ?_⟩
      -- count += 1; fresh = []
      refine ⟨_, rfl, _, _, rfl, rfl, Nat.zero_le _, fun fr nfr => ?_⟩
      obtain ⟨Nfr, nfrs⟩ := sf4.newN (nq3 sf4) nfr
      have nfl : ly4 ≠ fr := ne_of_none hly nfr
      -- for place in layer
      refine ⟨_, rfl, ly4, rfl, ⟨_, sql (show (upd H4 fr (.lst [])) ly4 = _ by rw [upd_ne nfl]; exact hly)⟩, ?_⟩
      refine for_list (xs := lay.map nV) (fun i σ H' => ∃ (T fl : List Nat) (h pl : Option V), σ = [some (.int (n : Int)), some (.ref b), some (.ref c), some (.ref D), t4, h, some (.ref sp), pl, some (.ref ly4), some (.int ((cc : Int) + 1)), some (.ref fr), none] ∧
        T = (lay.take i).flatMap (adj es) ∧ SfH H H' D sp qs n es (nx cc st T) ∧ H' ly4 = some (.lst (lay.map nV)) ∧ H' fr = some (.lst (fl.map nV)) ∧ (∀ v, v ∈ fl ↔ v < n ∧ st v = none ∧ v ∈ T) ∧ fl.length + openN n (nx cc st T) ≤ openN n st)
        ⟨[], [], h4, pl4, rfl, rfl, by rw [nx_nil]; exact sf4.upd_other Nfr nfrs, by rw [upd_ne nfl]; exact hly, upd_same, fun v => by simp, by rw [nx_nil]; simp⟩ ?_ ?_ ?_
      · rintro i σ H' _ ⟨T, fl, h, pl, rfl, _, _, hl5, _⟩
        exact sql hl5
      · rintro i x σ H' hx ⟨T, fl, h, pl, rfl, rfl, sf5, hl5, hf5, hfl, hfn⟩
        obtain ⟨z, hz, rfl⟩ := getmap hx
        have hzn : z < n := ((bf.lay z).mp (List.mem_of_getElem? hz)).1
        have hqz : qs[z]? = some qs[z] := List.getElem?_eq_getElem (by rw [hql]; exact hzn)
        refine ⟨_, rfl, _, rfl, D, _, (z : Int), .ref qs[z], rfl, rfl, sql sf5.hD, atI_nat (by rw [List.getElem?_map, hqz]; rfl), qs[z], rfl, ⟨_, sql (sf5.hA z _ hqz)⟩, ?_⟩
        refine for_list (xs := (adj es z).map nV) (fun j σ H' => ∃ (T fl : List Nat) (h : Option V), σ = [some (.int (n : Int)), some (.ref b), some (.ref c), some (.ref D), t4, h, some (.ref sp), some (nV z), some (.ref ly4), some (.int ((cc : Int) + 1)), some (.ref fr), none] ∧
          T = (lay.take i).flatMap (adj es) ++ (adj es z).take j ∧ SfH H H' D sp qs n es (nx cc st T) ∧ H' ly4 = some (.lst (lay.map nV)) ∧ H' fr = some (.lst (fl.map nV)) ∧ (∀ v, v ∈ fl ↔ v < n ∧ st v = none ∧ v ∈ T) ∧ fl.length + openN n (nx cc st T) ≤ openN n st)
          ⟨_, fl, h, rfl, rfl, by rw [List.take_zero, List.append_nil]; exact sf5, hl5, hf5, by rw [List.take_zero, List.append_nil]; exact hfl, by rw [List.take_zero, List.append_nil]; exact hfn⟩ ?_ ?_ ?_
        · rintro j σ H' _ ⟨T, fl, h, rfl, _, sf6, _⟩
          exact sql (sf6.hA z _ hqz)
        · rintro j x σ H' hx ⟨T, fl, h, rfl, rfl, sf6, hl6, hf6, hfl6, hfn6⟩
          obtain ⟨y, hy, rfl⟩ := getmap hx
          have hyn : y < n := (he _ (mem_adj.mp (List.mem_of_getElem? hy))).2
          generalize hT : (lay.take i).flatMap (adj es) ++ (adj es z).take j = T at sf6 hfl6 hfn6
          have hT2 : (lay.take i).flatMap (adj es) ++ (adj es z).take (j + 1) = T ++ [y] := by rw [take_snoc_of hy, ← List.append_assoc, hT]
          refine ⟨_, rfl, _, rfl, sp, _, (y : Int), oV (nx cc st T y), rfl, rfl, sql sf6.hs, atI_nat (stV_get hyn), rfl, _, rfl, ?_⟩
          cases e7 : nx cc st T y with
          | some d =>
            refine iteF ⟨_, fl, _, rfl, hT2.symm, ?_, hl6, hf6, fun v => ?_, ?_⟩
            · rw [nx_old e7]; exact sf6
            · rw [hfl6 v]
              constructor
              · rintro ⟨h1, h2, h3⟩
                exact ⟨h1, h2, List.mem_append_left _ h3⟩
              · rintro ⟨h1, h2, h3⟩
                refine ⟨h1, h2, ?_⟩
                rcases List.mem_append.mp h3 with h3 | h3
                · exact h3
                · rw [List.mem_singleton.mp h3] at h2 ⊢
                  by_cases hm : y ∈ T
                  · exact hm
                  · rw [nx_none.mpr ⟨h2, hm⟩] at e7
                    cases e7
            · rw [nx_old e7]; exact hfn6
          | none =>
            obtain ⟨e8, e9⟩ := nx_none.mp e7
            refine iteT ?_
            have hcc : (V.int ((cc : Int) + 1)) = nV (cc + 1) := rfl
            refine ⟨_, rfl, _, rfl, _, rfl, sp, _, (y : Int), y, rfl, rfl, sf6.hs, by rw [stV_len]; exact ixN_nat hyn, ?_⟩
            have hfr : ∀ o, (upd H' sp o) fr = some (.lst (fl.map nV)) := fun o => by rw [upd_ne nfrs]; exact hf6
            refine ⟨_, rfl, .inl ⟨rfl, _, sql (hfr _)⟩, _, rfl, fr, _, _, rfl, rfl, hfr _, ?_, ?_⟩
            · have h1 : openN n st ≤ n := by
                unfold openN
                have := List.countP_le_length (p := fun v => (st v).isNone) (l := List.range n)
                rw [List.length_range] at this
                exact this
              rw [List.length_map]
              exact small_lt (by omega)
            · rw [hcc, stV_set, nx_new e7]
              refine ⟨_, fl ++ [y], _, rfl, hT2.symm, (sf6.upd_sp Nsp).upd_other Nfr nfrs, ?_, ?_, fun v => ?_, ?_⟩
              · rw [upd_ne nfl, upd_ne nls]; exact hl6
              · rw [upd_same, List.map_append]; rfl
              · rw [List.mem_append, hfl6 v, List.mem_singleton, List.mem_append, List.mem_singleton]
                constructor
                · rintro (⟨h1, h2, h3⟩ | rfl)
                  · exact ⟨h1, h2, .inl h3⟩
                  · exact ⟨hyn, e8, .inr rfl⟩
                · rintro ⟨h1, h2, h3 | rfl⟩
                  · exact .inl ⟨h1, h2, h3⟩
                  · exact .inr rfl
              · have h9 : openN n (nx cc st (T ++ [y])) < openN n (nx cc st T) := openN_lt (fun v hv => by
                  obtain ⟨a1, a2⟩ := nx_none.mp hv
                  exact nx_none.mpr ⟨a1, fun z => a2 (List.mem_append_left _ z)⟩) hyn e7 (fun z => (nx_none.mp z).2 (by simp))
                rw [List.length_append, List.length_singleton]
                omega
        · rintro σ H' ⟨T, fl, h, rfl, rfl, sf6, hl6, hf6, hfl6, hfn6⟩
          rw [List.length_map, List.take_length] at sf6 hfl6 hfn6
          have hT3 : (lay.take (i + 1)).flatMap (adj es) = (lay.take i).flatMap (adj es) ++ adj es z := by
            rw [take_snoc_of hz, List.flatMap_append]
            simp
          exact ⟨_, fl, h, _, rfl, rfl, by rw [hT3]; exact sf6, hl6, hf6, by rw [hT3]; exact hfl6, by rw [hT3]; exact hfn6⟩
      · rintro σ H' ⟨T, fl, h, pl, rfl, rfl, sf5, hl5, hf5, hfl, hfn⟩
        rw [List.length_map, List.take_length] at sf5 hfl hfn
        refine ⟨_, rfl, _, ?_, cc + 1, nx cc st (lay.flatMap (adj es)), fl, fr, _, h, pl, _, rfl, sf5, Nfr, nfrs, hf5, ?_, rfl⟩
        · have h1 : (if lay = [] then 0 else 1) = 1 := if_neg hne
          rw [h1]
          cases fl with
          | nil => simp only [List.length_nil, if_pos] at hfn ⊢; omega
          | cons f0 fr0 => rw [List.length_cons] at hfn; rw [if_neg (List.cons_ne_nil _ _)]; omega
        · refine bf.next he hS (fun v => ?_) hfl
          rw [List.mem_flatMap]
          constructor
          · rintro ⟨u, hu, hv⟩
            exact ⟨u, hu, mem_adj.mp hv⟩
          · rintro ⟨u, hu, hv⟩
            exact ⟨u, hu, mem_adj.mpr hv⟩

abbrev s_leads_to_all : Stmt := topS 12
abbrev sl_leads_to_all : List Str := ["many", "pairs", "places", "steps", "place"]
theorem sc_leads_to_all : FnScope ["many", "pairs", "places", "steps", "place"] ["many", "pairs", "places"] (defScope s_leads_to_all) := ⟨rfl, rfl, rfl, by decide +kernel, rfl, by decide +kernel, by decide +kernel⟩
def spLeads (K : PySem.W.Frag) : Sp := fun vs H Q _ => ∃ (n : Nat) (b c : Addr) (pvs : List V) (es : Es) (gs : List Nat), vs = [.int (n : Int), .ref b, .ref c] ∧ SqX K H b pvs ∧ Prs K H pvs es ∧ SqT K H c (gs.map nV) ∧
  (∀ e ∈ es, e.1 < n ∧ e.2 < n) ∧ (∀ g ∈ gs, g < n) ∧ 0 < n ∧ n ≤ 1000 ∧ es.length ≤ 1000 ∧ gs.length ≤ 1000 ∧
  ∀ H' (ok : Bool), Same H H' → (ok = true ↔ ∀ g ∈ gs, Rch es [0] g) → Q (.bl ok) H'
theorem ok_leads_to_all (B : Bt mg) (h_steps_from : Has P w K mg base "steps_from" 1 ["many", "pairs", "sources"] (spSteps K)) (D0 : Df K mg "leads_to_all" s_leads_to_all ["many", "pairs", "places"]) : Has P w K mg base "leads_to_all" 2 ["many", "pairs", "places"] (spLeads K) := by
  refine D0.has fun f fd F => F.ok sc_leads_to_all (fun vs H Q E h => ?_) (fun cdv A outer s H vs Q E hr h => ?_)
  · obtain ⟨n, b, c, pvs, es, S, rfl, _⟩ := h
    rfl
  · obtain ⟨n, b, c, pvs, es, gs, rfl, hB, hP, hC, he, hg, h0, hn, hel, hgl, q⟩ := h
    refine ⟨_, (pss_cons (ps_set (i := 3) sc_leads_to_all.nd rfl (.inr rfl) (pcall h_steps_from hr (by decide) (by rfl) (pa_cons (pv 0) (pa_cons (pv 1) (pa_cons (pe_tup (pa_cons pe_int pa_nil)) pa_nil)))))
  (pss_one (ps_ret (pe_callB (k_all (K := K) rfl rfl) (by rfl) B.all bo_all (pa_cons (pe_lc (own := [("place", 4)]) (g := gName 4) rfl sc_leads_to_all.nd (k_pit (K := K) rfl (pv 2)) (blkOk_by (N := sl_leads_to_all) (sc := defScope s_leads_to_all) (by decide +kernel)) (fun _ _ _ _ _ => (pg_name (i := 4) sc_leads_to_all.nd rfl (.inl rfl))) (fun _ _ _ _ _ => pts_nil) (fun _ _ _ _ _ => (pe_cmpR op_notN (pe_ix (k_ixl (K := K) rfl) (pv 3) (pv 4) (fun _ _ => rfl)) pe_non (nomark _)))) pa_nil))))), ?_⟩
    refine ⟨_, rfl, _, rfl, by show 1 ≤ sizeLine; decide, fun t0 nt0 => ?_⟩
    have s1 := same_new (o := .tup [.int 0]) (Same.refl H) nt0
    refine ⟨n, b, t0, pvs, es, [0], rfl, Same.sqx s1 hB, hP.same s1, .inr (sqt upd_same), he, fun s hs => by rw [List.mem_singleton.mp hs]; exact h0, hn, hel, fun p H2 st s2 np hp hst => ?_⟩
    have s12 := s1.trans s2
    refine ⟨_, rfl, c, rfl, ⟨_, Same.sqt s12 hC⟩, fun D nD => ?_⟩
    refine lc_val walk_tup calm_at (fun i => (gs[i]?).bind fun g => some (V.bl (st g).isSome)) (by rw [List.length_map]; omega) nD (fun H3 s3 => Same.sqt s3 (Same.sqt s12 hC)) ?_ fun H3 s3 h3 => ?_
    · rintro i x H3 H4 hi s3 ⟨rfl, hx⟩ Kt kt
      obtain ⟨g, hgi, rfl⟩ := getmap hx
      have hgn := hg g (List.mem_of_getElem? hgi)
      refine ⟨rfl, tyes ?_⟩
      refine iteT ?_
      refine ⟨_, rfl, _, rfl, p, _, (g : Int), oV (st g), rfl, rfl, sql (s3 _ _ hp), atI_nat (stV_get hgn), rfl, ?_⟩
      have k0 := kt _ (Same.refl _)
      rw [hgi] at k0
      have e : (!decide (oV (st g) = .non)) = (st g).isSome := by
        cases st g with
        | none => rfl
        | some d => rfl
      rw [e]
      exact k0
    · rw [List.length_map, fm_range, fm_some] at h3
      refine ⟨D, gs.map fun g => (st g).isSome, rfl, sql (by rw [h3, List.map_map]; rfl), ?_⟩
      refine q H3 _ (s12.trans s3) ?_
      rw [List.all_eq_true]
      constructor
      · intro h g hgm
        have h1 := h _ (List.mem_map.mpr ⟨g, hgm, rfl⟩)
        have h2 := (hst g (hg g hgm)).2
        refine Classical.byContradiction fun z => ?_
        rw [h2.mpr z] at h1
        cases h1
      · intro h x hx
        obtain ⟨g, hgm, rfl⟩ := List.mem_map.mp hx
        have h2 := (hst g (hg g hgm)).2
        cases e : st g with
        | none => exact absurd (h g hgm) (h2.mp e)
        | some d => rfl

abbrev s_Map_many : Stmt := inClass (topS 27) 1
abbrev sl_Map_many : List Str := ["self"]
theorem sc_Map_many : FnScope ["self"] ["self"] (defScope s_Map_many) := ⟨rfl, rfl, rfl, by decide +kernel, rfl, by decide +kernel, by decide +kernel⟩
/-- what the top says of the class Map and its constants -/
structure MapC (K : PySem.W.Frag) (mg : Str → Option Value) (CMap : Addr) : Prop where
  cl : Cls K CMap
  n1 : NoAttr K CMap "_many"
  n2 : NoAttr K CMap "_arrows"
  n3 : NoAttr K CMap "_goals"
  mgMap : mg "Map" = some (.ref CMap)
  FEWEST_PLACES : ∃ t, mg "FEWEST_PLACES" = some (.int 2 t)
  MOST_PLACES : ∃ t, mg "MOST_PLACES" = some (.int 40 t)
  MOST_ARROWS : ∃ t, mg "MOST_ARROWS" = some (.int 60 t)
def mapF (n : Nat) (a c : Addr) : List (Str × V) := putF "_goals" (.ref c) (putF "_arrows" (.ref a) (putF "_many" (nV n) []))
theorem kn1 : ¬ (("_many" : Str) = "_arrows") := by decide +kernel
theorem kn2 : ¬ (("_many" : Str) = "_goals") := by decide +kernel
theorem kn3 : ¬ (("_arrows" : Str) = "_goals") := by decide +kernel
theorem mapF_m (n : Nat) (a c : Addr) : (mapF n a c).lookup ("_many" : Str) = some (nV n) := by
  unfold mapF
  rw [lookup_putF, if_neg kn2, lookup_putF, if_neg kn1, lookup_putF, if_pos rfl]
theorem mapF_a (n : Nat) (a c : Addr) : (mapF n a c).lookup ("_arrows" : Str) = some (.ref a) := by
  unfold mapF
  rw [lookup_putF, if_neg kn3, lookup_putF, if_pos rfl]
theorem mapF_g (n : Nat) (a c : Addr) : (mapF n a c).lookup ("_goals" : Str) = some (.ref c) := by
  unfold mapF
  rw [lookup_putF, if_pos rfl]
theorem mapF_no (n : Nat) (a c : Addr) {m : Str} (h1 : ¬ m = "_goals") (h2 : ¬ m = "_arrows") (h3 : ¬ m = "_many") : (mapF n a c).lookup m = none := by
  unfold mapF
  rw [lookup_putF, if_neg h1, lookup_putF, if_neg h2, lookup_putF, if_neg h3]
  rfl
theorem mapF_many (n : Nat) (a c : Addr) : (mapF n a c).lookup ("many" : Str) = none := mapF_no n a c (by decide +kernel) (by decide +kernel) (by decide +kernel)
theorem mapF_arrows (n : Nat) (a c : Addr) : (mapF n a c).lookup ("arrows" : Str) = none := mapF_no n a c (by decide +kernel) (by decide +kernel) (by decide +kernel)
theorem mapF_goals (n : Nat) (a c : Addr) : (mapF n a c).lookup ("goals" : Str) = none := mapF_no n a c (by decide +kernel) (by decide +kernel) (by decide +kernel)
/-- a Map stands at p: n places, arrows at a (the values pvs), goals at c -/
structure MapAt (K : PySem.W.Frag) (C : Addr) (H : Hp) (p : Addr) (n : Nat) (a : Addr) (pvs : List V) (c : Addr) (gs : List Nat) : Prop where
  ob : ∃ dx, H p = some (.ins C dx (mapF n a c))
  ar : SqT K H a pvs
  go : SqT K H c (gs.map nV)
theorem MapAt.same {K : PySem.W.Frag} {C : Addr} {H H' : Hp} {p : Addr} {n : Nat} {a : Addr} {pvs : List V} {c : Addr} {gs : List Nat} (m : MapAt K C H p n a pvs c gs) (s : Same H H') : MapAt K C H' p n a pvs c gs :=
  ⟨m.ob.elim fun dx h => ⟨dx, s _ _ h⟩, Same.sqt s m.ar, Same.sqt s m.go⟩
def spMany (K : PySem.W.Frag) (C : Addr) : Sp := fun vs H Q _ => ∃ p n a pvs c gs, vs = [.ref p] ∧ MapAt K C H p n a pvs c gs ∧ Q (nV n) H
theorem ok_many {CMap : Addr} (C : MapC K mg CMap) (D0 : DfM K CMap "many" "Map.many" s_Map_many ["self"]) : HasM P w K mg base CMap "many" 1 ["self"] (spMany K CMap) := by
  refine D0.has fun f fd F => F.ok sc_Map_many (fun vs H Q E h => ?_) (fun cdv A outer s H vs Q E hr h => ?_)
  · obtain ⟨p, n, a, pvs, c, gs, rfl, _⟩ := h
    rfl
  · obtain ⟨p, n, a, pvs, c, gs, rfl, m, q⟩ := h
    obtain ⟨dx, hp⟩ := m.ob
    refine ⟨_, (pss_one (ps_ret (k_fld (K := K) rfl (pv 0) rfl))), ?_⟩
    exact ⟨_, rfl, p, CMap, dx, _, _, rfl, hp, C.cl, C.n1, mapF_m n a c, q⟩

abbrev s_Map_arrows : Stmt := inClass (topS 27) 2
abbrev sl_Map_arrows : List Str := ["self"]
theorem sc_Map_arrows : FnScope ["self"] ["self"] (defScope s_Map_arrows) := ⟨rfl, rfl, rfl, by decide +kernel, rfl, by decide +kernel, by decide +kernel⟩
def spArrows (K : PySem.W.Frag) (C : Addr) : Sp := fun vs H Q _ => ∃ p n a pvs c gs, vs = [.ref p] ∧ MapAt K C H p n a pvs c gs ∧ Q (.ref a) H
theorem ok_arrows {CMap : Addr} (C : MapC K mg CMap) (D0 : DfM K CMap "arrows" "Map.arrows" s_Map_arrows ["self"]) : HasM P w K mg base CMap "arrows" 1 ["self"] (spArrows K CMap) := by
  refine D0.has fun f fd F => F.ok sc_Map_arrows (fun vs H Q E h => ?_) (fun cdv A outer s H vs Q E hr h => ?_)
  · obtain ⟨p, n, a, pvs, c, gs, rfl, _⟩ := h
    rfl
  · obtain ⟨p, n, a, pvs, c, gs, rfl, m, q⟩ := h
    obtain ⟨dx, hp⟩ := m.ob
    refine ⟨_, (pss_one (ps_ret (k_fld (K := K) rfl (pv 0) rfl))), ?_⟩
    exact ⟨_, rfl, p, CMap, dx, _, _, rfl, hp, C.cl, C.n2, mapF_a n a c, q⟩

abbrev s_Map_goals : Stmt := inClass (topS 27) 3
abbrev sl_Map_goals : List Str := ["self"]
theorem sc_Map_goals : FnScope ["self"] ["self"] (defScope s_Map_goals) := ⟨rfl, rfl, rfl, by decide +kernel, rfl, by decide +kernel, by decide +kernel⟩
def spGoals (K : PySem.W.Frag) (C : Addr) : Sp := fun vs H Q _ => ∃ p n a pvs c gs, vs = [.ref p] ∧ MapAt K C H p n a pvs c gs ∧ Q (.ref c) H
theorem ok_goals {CMap : Addr} (C : MapC K mg CMap) (D0 : DfM K CMap "goals" "Map.goals" s_Map_goals ["self"]) : HasM P w K mg base CMap "goals" 1 ["self"] (spGoals K CMap) := by
  refine D0.has fun f fd F => F.ok sc_Map_goals (fun vs H Q E h => ?_) (fun cdv A outer s H vs Q E hr h => ?_)
  · obtain ⟨p, n, a, pvs, c, gs, rfl, _⟩ := h
    rfl
  · obtain ⟨p, n, a, pvs, c, gs, rfl, m, q⟩ := h
    obtain ⟨dx, hp⟩ := m.ob
    refine ⟨_, (pss_one (ps_ret (k_fld (K := K) rfl (pv 0) rfl))), ?_⟩
    exact ⟨_, rfl, p, CMap, dx, _, _, rfl, hp, C.cl, C.n3, mapF_g n a c, q⟩

def leftV {α : Type} (xs : List α) (ls : List Nat) : List α := (List.range xs.length).filterMap fun i => if i ∈ ls then none else xs[i]?
/-- a Map at p and what is right of it for every function -/
structure MapOk (K : PySem.W.Frag) (C : Addr) (H : Hp) (p : Addr) (n : Nat) (a : Addr) (pvs : List V) (es : Es) (c : Addr) (gs : List Nat) : Prop where
  at_ : MapAt K C H p n a pvs c gs
  pr : Prs K H pvs es
  n0 : 0 < n
  n1 : n ≤ 1000
  el : es.length ≤ 1000
  gn : gs.length ≤ 1000
  ok : ∀ e ∈ es, e.1 < n ∧ e.2 < n
  gl : ∀ g ∈ gs, g < n
theorem MapOk.same {K : PySem.W.Frag} {C : Addr} {H H' : Hp} {p : Addr} {n : Nat} {a : Addr} {pvs : List V} {es : Es} {c : Addr} {gs : List Nat} (m : MapOk K C H p n a pvs es c gs) (s : Same H H') : MapOk K C H' p n a pvs es c gs :=
  ⟨m.at_.same s, m.pr.same s, m.n0, m.n1, m.el, m.gn, m.ok, m.gl⟩
/-- the edges that are left without the arrows of the lot -/
abbrev left (es : Es) (ls : List Nat) : Es := leftV es ls
theorem mem_leftV {α : Type} {xs : List α} {ls : List Nat} {x : α} : x ∈ leftV xs ls ↔ ∃ i, xs[i]? = some x ∧ i ∉ ls := by
  unfold leftV
  rw [List.mem_filterMap]
  constructor
  · rintro ⟨i, _, h⟩
    by_cases hi : i ∈ ls
    · rw [if_pos hi] at h
      cases h
    · rw [if_neg hi] at h
      exact ⟨i, h, hi⟩
  · rintro ⟨i, h, hi⟩
    exact ⟨i, List.mem_range.mpr (List.getElem?_eq_some_iff.mp h).1, by rw [if_neg hi]; exact h⟩
theorem leftV_len {α : Type} {xs : List α} {ls : List Nat} : (leftV xs ls).length ≤ xs.length := by
  unfold leftV
  have := List.length_filterMap_le (fun i => if i ∈ ls then none else xs[i]?) (List.range xs.length)
  rw [List.length_range] at this
  exact this
theorem left_ok {es : Es} {ls : List Nat} {Pq : Nat × Nat → Prop} (h : ∀ e ∈ es, Pq e) : ∀ e ∈ left es ls, Pq e := fun e he => by
  obtain ⟨i, hi, _⟩ := mem_leftV.mp he
  exact h e (List.mem_of_getElem? hi)
theorem left_map {α β : Type} {f : Nat → Option α} {g : Nat → Option β} : ∀ {l : List Nat}, (∀ i ∈ l, (f i).isSome = (g i).isSome) →
    (l.filterMap f).length = (l.filterMap g).length ∧ ∀ (j : Nat) (x : α) (y : β), (l.filterMap f)[j]? = some x → (l.filterMap g)[j]? = some y → ∃ i ∈ l, f i = some x ∧ g i = some y
  | [], _ => ⟨rfl, fun j x y h _ => by simp at h⟩
  | i :: r, h => by
    obtain ⟨ih1, ih2⟩ := left_map (l := r) fun k hk => h k (List.mem_cons_of_mem _ hk)
    have hi := h i List.mem_cons_self
    cases ef : f i with
    | none =>
      rw [ef] at hi
      have eg : g i = none := by
        cases q : g i with
        | none => rfl
        | some y => rw [q] at hi; cases hi
      rw [List.filterMap_cons_none ef, List.filterMap_cons_none eg]
      exact ⟨ih1, fun j x y a b => (ih2 j x y a b).elim fun k ⟨hk, q⟩ => ⟨k, List.mem_cons_of_mem _ hk, q⟩⟩
    | some x0 =>
      rw [ef] at hi
      cases eg : g i with
      | none => rw [eg] at hi; cases hi
      | some y0 =>
        rw [List.filterMap_cons_some ef, List.filterMap_cons_some eg]
        refine ⟨by rw [List.length_cons, List.length_cons, ih1], fun j x y a b => ?_⟩
        cases j with
        | zero =>
          cases a
          cases b
          exact ⟨i, List.mem_cons_self, ef, eg⟩
        | succ j => exact (ih2 j x y a b).elim fun k ⟨hk, q⟩ => ⟨k, List.mem_cons_of_mem _ hk, q⟩
theorem Prs.left {K : PySem.W.Frag} {H : Hp} {vs : List V} {es : Es} (p : Prs K H vs es) (ls : List Nat) : Prs K H (leftV vs ls) (leftV es ls) := by
  have h := left_map (f := fun i => if i ∈ ls then none else vs[i]?) (g := fun i => if i ∈ ls then none else es[i]?) (l := List.range vs.length) fun i hi => by
    have h1 : i < vs.length := List.mem_range.mp hi
    by_cases hm : i ∈ ls
    · simp only [if_pos hm]
      rfl
    · simp only [if_neg hm]
      rw [List.getElem?_eq_getElem h1, List.getElem?_eq_getElem (by rw [← p.len]; exact h1)]
      rfl
  have e : leftV es ls = (List.range vs.length).filterMap fun i => if i ∈ ls then none else es[i]? := by
    unfold leftV
    rw [p.len]
  rw [e]
  refine ⟨h.1, fun j v e' a b => ?_⟩
  obtain ⟨i, _, q1, q2⟩ := h.2 j v e' a b
  by_cases hm : i ∈ ls
  · rw [if_pos hm] at q1
    cases q1
  · rw [if_neg hm] at q1 q2
    exact p.at_ i v e' q1 q2

/-- an own class whose instances are no tuples, no ints -/
structure OwnC (K : PySem.W.Frag) (C : Addr) : Prop where
  cl : Cls K C
  ha : PySem.W.findIn K (.ref C) "__class__" = some (some (.builtin "object.__class__"))
  hn : PySem.W.specialIn K (.builtin "object.__class__") "__get__" = some (some (.builtin "getset_descriptor.__get__"))
  htk : PySem.W.takesIn K (.builtin "object.__class__") = some true
  hm : PySem.W.mroIn K C (.type "object") = some true
  kt : PySem.W.kitOne K (.ref C) (.type "tuple") = some false
  ki : PySem.W.kitOne K (.ref C) (.type "int") = some false
  kb : PySem.W.kitOne K (.ref C) (.type "bool") = some false
theorem kit_sub {K : PySem.W.Frag} {C : Addr} {T : String} {r : Bool} (hm : PySem.W.kitMeta T = true) (h : PySem.W.subIn K (.ref C) (.type T) = some r) : PySem.W.kitOne K (.ref C) (.type T) = some r := by
  have e : (Value.ref C == Value.type T) = false := rfl
  unfold PySem.W.kitOne
  rw [e]
  show (if PySem.W.kitMeta T = true then PySem.W.subIn K (.ref C) (.type T) else none) = some r
  rw [if_pos hm]
  exact h

/-- what the top says of an own class: its fields are no attributes of the class -/
structure ClsC (K : PySem.W.Frag) (mg : Str → Option Value) (x : Str) (C : Addr) (fs : List Str) : Prop where
  cl : Cls K C
  na : ∀ f ∈ fs, NoAttr K C f
  mg : mg x = some (.ref C)
section
variable {K : PySem.W.Frag} {mg : Str → Option Value} {x f g k : Str} {C : Addr} {r : List Str}
theorem ClsC.n0 (h : ClsC K mg x C (f :: r)) : NoAttr K C f := h.na f List.mem_cons_self
theorem ClsC.n1 (h : ClsC K mg x C (f :: g :: r)) : NoAttr K C g := h.na g (List.mem_cons_of_mem _ List.mem_cons_self)
theorem ClsC.n2 (h : ClsC K mg x C (f :: g :: k :: r)) : NoAttr K C k := h.na k (List.mem_cons_of_mem _ (List.mem_cons_of_mem _ List.mem_cons_self))
end

abbrev s_is_pair : Stmt := topS 30
abbrev sl_is_pair : List Str := ["thing", "many", "tail", "head"]
theorem sc_is_pair : FnScope ["thing", "many", "tail", "head"] ["thing", "many"] (defScope s_is_pair) := ⟨rfl, rfl, rfl, by decide +kernel, rfl, by decide +kernel, by decide +kernel⟩
def pairV (m : Int) : List V → Bool
  | [x, y] => idxV x m && (idxV y m && !decide (x = y))
  | _ => false
/-- whether the value x is a pair for m: b -/
def PairRes (K : PySem.W.Frag) (H : Hp) (m : Int) (x : V) (b : Bool) : Prop :=
  (∃ a ys, x = .ref a ∧ SqT K H a ys ∧ (∀ y ∈ ys, ∃ s, Kn K H y s) ∧ b = pairV m ys) ∨ (∃ s, Kn K H x s ∧ (s == "tuple") = false ∧ b = false)
def spIsPair (K : PySem.W.Frag) : Sp := fun vs H Q _ => ∃ (v : V) (m : Int) (b : Bool), vs = [v, .int m] ∧ PairRes K H m v b ∧ Q (.bl b) H
theorem pairV_ne {m : Int} {ys : List V} (h : ys.length ≠ 2) : pairV m ys = false := by
  match ys, h with
  | [], _ => rfl
  | [_], _ => rfl
  | [_, _], h => exact absurd rfl h
  | _ :: _ :: _ :: _, _ => rfl
theorem ok_is_pair (B : Bt mg) (h_is_index : Has P w K mg base "is_index" 2 ["thing", "many"] (spIsIndex K)) (D0 : Df K mg "is_pair" s_is_pair ["thing", "many"]) : Has P w K mg base "is_pair" 3 ["thing", "many"] (spIsPair K) := by
  refine D0.has fun f fd F => F.ok sc_is_pair (fun vs H Q E h => ?_) (fun cdv A outer s H vs Q E hr h => ?_)
  · obtain ⟨v, m, b, rfl, _⟩ := h
    rfl
  · obtain ⟨v, m, b, rfl, h, q⟩ := h
    refine ⟨_, (pss_cons (ps_if (PW.pt (pw_or (pt_not (pt_val (pe_callB (k_isi (K := K) rfl) (by rfl) B.isinstance bo_isinstance (pa_cons (pv 0) (pa_cons (pe_bltn (v := .ty "tuple") (by rfl) B.tuple bo_tuple rfl) pa_nil))))) (pw_or1 (pt_cmpR op_ne (pe_callB (k_len (K := K) rfl) (by rfl) B.len bo_len (pa_cons (pv 0) pa_nil)) pe_int (nomark _)))))
    (pss_one (ps_ret pe_bl))
    pss_nil)
  (pss_cons (ps_asg (pv 0) (pg_tup rfl (pgs_cons (pg_name (i := 2) sc_is_pair.nd rfl (.inl rfl)) (pgs_cons (pg_name (i := 3) sc_is_pair.nd rfl (.inl rfl)) pgs_nil))))
  (pss_one (ps_ret (pe_and (pcall h_is_index hr (by decide) (by rfl) (pa_cons (pv 2) (pa_cons (pv 1) pa_nil))) (pe_and (pcall h_is_index hr (by decide) (by rfl) (pa_cons (pv 3) (pa_cons (pv 1) pa_nil))) (pe_one (pe_cmpR (k_neD (K := K) rfl hr.units) (pv 2) (pv 3) (nomark _))))))))), ?_⟩
    rcases h with ⟨a, ys, rfl, hS, hk, rfl⟩ | ⟨s, hv, hs, rfl⟩
    · refine ⟨_, rfl, _, .ty "tuple", _, _, _, rfl, .ty "tuple", (kn_of_tup hS).ty, kit_tuple (kn_of_tup hS).mem, _, rfl, iteF ?_⟩
      refine ⟨_, rfl, a, ys, rfl, .inr hS, rfl, _, rfl, ?_⟩
      by_cases h2 : ys.length = 2
      · rw [h2]
        refine iteF ?_
        match ys, h2, hS, hk, q with
        | [x, y], _, hS, hk, q =>
          obtain ⟨sx, kx⟩ := hk x (by simp)
          obtain ⟨sy, ky⟩ := hk y (by simp)
          refine ⟨_, rfl, a, _, rfl, hS, rfl, _, _, rfl, _, _, rfl, rfl, ?_⟩
          refine ⟨x, rfl, _, rfl, x, sx, m, rfl, kx, _, rfl, ?_⟩
          have q : Q (.bl (idxV x m && (idxV y m && !decide (x = y)))) H := q
          cases h3 : idxV x m with
          | false =>
            rw [h3, Bool.false_and] at q
            exact iteF q
          | true =>
            rw [h3, Bool.true_and] at q
            refine iteT ⟨y, rfl, _, rfl, y, sy, m, rfl, ky, _, rfl, ?_⟩
            cases h4 : idxV y m with
            | false =>
              rw [h4, Bool.false_and] at q
              exact iteF q
            | true =>
              rw [h4, Bool.true_and] at q
              refine iteT ?_
              match x, y, h3, h4, q with
              | .int i, .int j, _, _, q =>
                refine ⟨_, rfl, _, rfl, .int i, .int j, .int i, .int j, rfl, rfl, ?_⟩
                have e : (!PyData.eqv (.int i) (.int j)) = !decide (V.int i = V.int j) := by
                  congr 1
                  by_cases h5 : i = j
                  · subst h5
                    simp [PyData.eqv]
                  · have h6 : ¬ V.int i = V.int j := fun z => h5 (by cases z; rfl)
                    simp [PyData.eqv, h5]
                rw [e]
                exact q
      · have e : (!decide (V.int (ys.length : Int) = V.int 2)) = true := by
          have : ¬ V.int (ys.length : Int) = V.int 2 := fun z => h2 (by injection z with z; omega)
          simp [this]
        rw [e]
        refine iteT ?_
        rw [pairV_ne h2] at q
        exact q
    · refine ⟨_, rfl, _, .ty "tuple", _, _, _, rfl, .ty "tuple", hv.ty, kit_tuple hv.mem, _, rfl, ?_⟩
      rw [hs]
      exact iteT (iteT q)

abbrev s_check_pairs : Stmt := topS 29
abbrev sl_check_pairs : List Str := ["many", "pairs", "most", "pair"]
theorem sc_check_pairs : FnScope ["many", "pairs", "most", "pair"] ["many", "pairs", "most"] (defScope s_check_pairs) := ⟨rfl, rfl, rfl, by decide +kernel, rfl, by decide +kernel, by decide +kernel⟩
/-- parts of a map but the goals, all right -/
structure GoodPairs (n : Nat) (es : Es) (m : Nat) : Prop where
  n2 : 2 ≤ n
  n40 : n ≤ 40
  lm : es.length ≤ m
  ok : ∀ e ∈ es, e.1 < n ∧ e.2 < n ∧ e.1 ≠ e.2
def spCheckPairs (K : PySem.W.Frag) : Sp := fun vs H Q _ => ∃ (n : Nat) (a : Addr) (pvs : List V) (es : Es) (m : Nat), vs = [.int (n : Int), .ref a, .int (m : Int)] ∧ SqT K H a pvs ∧ Prs K H pvs es ∧ GoodPairs n es m ∧ m ≤ 60 ∧ ∀ H', Same H H' → Q .non H'
theorem TyX_same {K : PySem.W.Frag} {H H' : Hp} {v : V} {t : Value} (h : TyX K H v t) (s : Same H H') : TyX K H' v t := by
  cases h with
  | base b => cases b with
    | non => exact .base .non
    | bl x => exact .base (.bl x)
    | int i => exact .base (.int i)
    | str x => exact .base (.str x)
    | flt x => exact .base (.flt x)
    | lst e => exact .base (.lst (s _ _ e))
    | frz e => exact .base (.frz (s _ _ e))
    | tup e => exact .base (.tup (s _ _ e))
    | dK e => exact .base (.dK (s _ _ e))
    | dT e => exact .base (.dT (s _ _ e))
    | ins e a b c d f => exact .base (.ins (s _ _ e) a b c d f)
  | byt b => exact .byt b
  | set e => exact .set (s _ _ e)
  | kList a b => exact .kList a b
  | kTuple a b => exact .kTuple a b
  | kDict a b => exact .kDict a b
  | fTuple e => exact .fTuple (s _ _ e)
  | fDict e => exact .fDict (s _ _ e)
theorem Kn.same {K : PySem.W.Frag} {H H' : Hp} {v : V} {t : String} (h : Kn K H v t) (s : Same H H') : Kn K H' v t := ⟨TyX_same h.ty s, h.mem⟩
theorem PairRes.same {K : PySem.W.Frag} {H H' : Hp} {m : Int} {v : V} {b : Bool} (h : PairRes K H m v b) (s : Same H H') : PairRes K H' m v b := by
  rcases h with ⟨a, ys, e, h1, h2, h3⟩ | ⟨t, h1, h2⟩
  · exact .inl ⟨a, ys, e, Same.sqt s h1, fun y hy => (h2 y hy).elim fun t k => ⟨t, k.same s⟩, h3⟩
  · exact .inr ⟨t, h1.same s, h2⟩
theorem pairRes_of {K : PySem.W.Frag} {H : Hp} {n : Nat} {v : V} {e : Nat × Nat} (h : PairAt K H v e) (h1 : e.1 < n) (h2 : e.2 < n) (h3 : e.1 ≠ e.2) : PairRes K H (n : Int) v true := by
  obtain ⟨t, rfl, ht⟩ := h
  refine .inl ⟨t, _, rfl, ht, fun y hy => ?_, ?_⟩
  · simp only [List.mem_cons, List.not_mem_nil, or_false] at hy
    rcases hy with rfl | rfl <;> exact ⟨"int", kn_of_int⟩
  · show true = ((decide (0 ≤ (e.1 : Int)) && decide ((e.1 : Int) < (n : Int))) && ((decide (0 ≤ (e.2 : Int)) && decide ((e.2 : Int) < (n : Int))) && !decide (nV e.1 = nV e.2)))
    have h4 : ¬ nV e.1 = nV e.2 := fun z => by
      have z' : V.int (e.1 : Int) = V.int (e.2 : Int) := z
      injection z' with z'
      exact h3 (by omega)
    simp only [h4, decide_false, Bool.not_false, Bool.and_true]
    symm
    simp only [Bool.and_eq_true, decide_eq_true_eq]
    omega
theorem ok_check_pairs {CMap : Addr} (B : Bt mg) (C : MapC K mg CMap) (h_is_integer : Has P w K mg base "is_integer" 1 ["thing"] (spIsInteger K)) (h_is_pair : Has P w K mg base "is_pair" 3 ["thing", "many"] (spIsPair K)) (D0 : Df K mg "check_pairs" s_check_pairs ["many", "pairs", "most"]) : Has P w K mg base "check_pairs" 4 ["many", "pairs", "most"] (spCheckPairs K) := by
  refine D0.has fun f fd F => F.ok sc_check_pairs (fun vs H Q E h => ?_) (fun cdv A outer s H vs Q E hr h => ?_)
  · obtain ⟨n, a, pvs, es, m, rfl, _⟩ := h
    rfl
  · obtain ⟨n, a, pvs, es, m, rfl, hA, hP, g, hm, q⟩ := h
    refine ⟨_, (pss_cons (ps_if (PW.pt (pw_or (pt_not (pt_val (pcall h_is_integer hr (by decide) (by rfl) (pa_cons (pv 0) pa_nil)))) (pw_or1 (pt_not (pt_chain op_le op_le (pe_glob (v := .int 2) (by rfl) C.FEWEST_PLACES.choose_spec ⟨_, rfl⟩) (pv 0) (pe_glob (v := .int 40) (by rfl) C.MOST_PLACES.choose_spec ⟨_, rfl⟩))))))
    (pss_one ps_never)
    pss_nil)
  (pss_cons (ps_if (PW.pt (pw_or (pt_not (pt_val (pe_callB (k_isi (K := K) rfl) (by rfl) B.isinstance bo_isinstance (pa_cons (pv 1) (pa_cons (pe_bltn (v := .ty "tuple") (by rfl) B.tuple bo_tuple rfl) pa_nil))))) (pw_or1 (pt_cmpR op_gt (pe_callB (k_len (K := K) rfl) (by rfl) B.len bo_len (pa_cons (pv 1) pa_nil)) (pv 2) (nomark _)))))
    (pss_one ps_never)
    pss_nil)
  (pss_one (ps_if (pt_not (pt_val (pe_callB (k_all (K := K) rfl rfl) (by rfl) B.all bo_all (pa_cons (pe_lc (own := [("pair", 3)]) (g := gName 3) rfl sc_check_pairs.nd (k_pit (K := K) rfl (pv 1)) (blkOk_by (N := sl_check_pairs) (sc := defScope s_check_pairs) (by decide +kernel)) (fun _ _ _ _ _ => (pg_name (i := 3) sc_check_pairs.nd rfl (.inl rfl))) (fun _ _ _ _ _ => pts_nil) (fun _ _ _ _ _ => (pcall h_is_pair hr (by decide) (by rfl) (pa_cons (pv 3) (pa_cons (pv 0) pa_nil))))) pa_nil))))
    (pss_one ps_never)
    pss_nil)))), ?_⟩
    have gn2 := g.n2
    have gn40 := g.n40
    have glm := g.lm
    have hl := hP.len
    refine ⟨_, rfl, .int (n : Int), "int", rfl, kn_of_int, _, rfl, iteF ?_⟩
    refine ⟨_, rfl, _, _, rfl, rfl, _, rfl, ?_⟩
    rw [decide_eq_true (show (2 : Int) ≤ (n : Int) by omega)]
    refine iteT ⟨_, _, rfl, rfl, _, rfl, ?_⟩
    rw [decide_eq_true (show (n : Int) ≤ (40 : Int) by omega)]
    refine iteF ?_
    refine ⟨_, rfl, _, .ty "tuple", _, _, _, rfl, .ty "tuple", (kn_of_tup hA).ty, kit_tuple (kn_of_tup hA).mem, _, rfl, iteF ?_⟩
    refine ⟨_, rfl, a, pvs, rfl, .inr hA, _, rfl, _, _, rfl, rfl, _, rfl, ?_⟩
    rw [decide_eq_false (show ¬ (m : Int) < (pvs.length : Int) by omega)]
    refine iteF ?_
    refine ⟨_, rfl, a, rfl, ⟨_, hA⟩, fun D nD => ?_⟩
    refine lc_val walk_tup calm_at (fun i => (pvs[i]?).bind fun _ => some (V.bl true)) (by omega) nD (fun H3 s3 => Same.sqt s3 hA) ?_ fun H3 s3 h3 => ?_
    · rintro i x H3 H4 hi s3 ⟨rfl, hx⟩ Kt kt
      refine ⟨rfl, tyes ?_⟩
      refine iteT ?_
      obtain ⟨e, hei, he⟩ := hP.get hx
      obtain ⟨h1, h2, h3⟩ := g.ok e (List.mem_of_getElem? hei)
      refine ⟨x, rfl, _, rfl, x, (n : Int), true, rfl, (pairRes_of he h1 h2 h3).same s3, ?_⟩
      have k0 := kt _ (Same.refl _)
      rw [hx] at k0
      exact k0
    · rw [fm_range, fm_some] at h3
      refine ⟨D, pvs.map fun _ => true, rfl, sql (by rw [List.map_map]; exact h3), _, rfl, ?_⟩
      rw [show (pvs.map fun _ => true).all id = true by rw [List.all_map]; exact List.all_eq_true.mpr fun _ _ => rfl]
      refine iteF ?_
      exact q H3 s3

abbrev s_are_goals : Stmt := topS 31
abbrev sl_are_goals : List Str := ["thing", "many", "arrows"]
theorem sc_are_goals : FnScope ["thing", "many", "arrows"] ["thing", "many", "arrows"] (defScope s_are_goals) := ⟨rfl, rfl, rfl, by decide +kernel, rfl, by decide +kernel, by decide +kernel⟩
/-- what judges the value v as goals: r told of a lot, or not one at all -/
def spAreGoals (K : PySem.W.Frag) : Sp := fun vs H Q _ => ∃ (v : V) (n : Nat) (b : Addr) (pvs : List V) (es : Es), vs = [v, .int (n : Int), .ref b] ∧ SqT K H b pvs ∧ Prs K H pvs es ∧ (∀ e ∈ es, e.1 < n ∧ e.2 < n) ∧ 0 < n ∧ n ≤ 1000 ∧ es.length ≤ 1000 ∧
  ((∃ c xs, v = .ref c ∧ SqT K H c xs ∧ xs.length ≤ 1000 ∧ (∀ x ∈ xs, ∃ s, Kn K H x s) ∧
    ∀ H' (ok : Bool), Same H H' → (ok = true ↔ ∃ gs : List Nat, xs = gs.map nV ∧ lotFrom (n : Int) (-1) xs = true ∧ gs ≠ [] ∧ (∀ g ∈ gs, g ≠ 0) ∧ ∀ g ∈ gs, Rch es [0] g) → Q (.bl ok) H') ∨
   (∃ s, Kn K H v s ∧ (s == "tuple") = false ∧ Q (.bl false) H))
theorem nV_inj {gs gs' : List Nat} (h : gs.map nV = gs'.map nV) : gs = gs' := by
  refine (List.map_inj_right fun x y e => ?_).mp h
  have e' : V.int (x : Int) = V.int (y : Int) := e
  injection e' with e'
  omega
theorem ok_are_goals (B : Bt mg) (h_is_lot : Has P w K mg base "is_lot" 3 ["thing", "many"] (spIsLot K)) (h_leads_to_all : Has P w K mg base "leads_to_all" 2 ["many", "pairs", "places"] (spLeads K))
    (D0 : Df K mg "are_goals" s_are_goals ["thing", "many", "arrows"]) : Has P w K mg base "are_goals" 4 ["thing", "many", "arrows"] (spAreGoals K) := by
  refine D0.has fun f fd F => F.ok sc_are_goals (fun vs H Q E h => ?_) (fun cdv A outer s H vs Q E hr h => ?_)
  · obtain ⟨v, n, b, pvs, es, rfl, _⟩ := h
    rfl
  · obtain ⟨v, n, b, pvs, es, rfl, hB, hP, he, h0, hn, hel, h⟩ := h
    refine ⟨_, (pss_cons (ps_if (PW.pt (pw_or (pt_not (pt_val (pcall h_is_lot hr (by decide) (by rfl) (pa_cons (pv 0) (pa_cons (pv 1) pa_nil))))) (pw_or (pt_cmpR op_eq (pe_callB (k_len (K := K) rfl) (by rfl) B.len bo_len (pa_cons (pv 0) pa_nil)) pe_int (nomark _)) (pw_or1 (pt_cmpR op_eq (pe_ix (k_ixt (K := K) rfl) (pv 0) pe_int (fun _ _ => rfl)) pe_int (nomark _))))))
    (pss_one (ps_ret pe_bl))
    pss_nil)
  (pss_one (ps_ret (pcall h_leads_to_all hr (by decide) (by rfl) (pa_cons (pv 1) (pa_cons (pv 2) (pa_cons (pv 0) pa_nil))))))), ?_⟩
    rcases h with ⟨c, xs, rfl, hS, hxl, hk, q⟩ | ⟨s, hv, hs, q⟩
    · refine ⟨_, rfl, _, rfl, .ref c, (n : Int), rfl, .inl ⟨c, xs, rfl, hS, hk, _, rfl, ?_⟩⟩
      cases hlf : lotFrom (n : Int) (-1) xs with
      | false =>
        refine iteT (iteT ?_)
        refine q H false (Same.refl H) ⟨fun z => Bool.noConfusion z, ?_⟩
        rintro ⟨gs, _, h2, _⟩
        rw [hlf] at h2
        cases h2
      | true =>
        obtain ⟨gs, rfl, hg, hpw⟩ := lot_nat (Int.le_refl _) hlf
        rw [List.length_map] at hxl
        refine iteF ?_
        refine ⟨_, rfl, c, _, rfl, .inr hS, rfl, _, rfl, ?_⟩
        cases gs with
        | nil =>
          refine iteT (iteT ?_)
          refine q H false (Same.refl H) ⟨fun z => Bool.noConfusion z, ?_⟩
          rintro ⟨gs', h1, _, h3, _⟩
          exact absurd (nV_inj h1).symm h3
        | cons g0 gr =>
          have e1 : decide (V.int (((g0 :: gr).map nV).length : Int) = V.int 0) = false := by
            have : ¬ V.int (((g0 :: gr).map nV).length : Int) = V.int 0 := fun z => by
              injection z with z
              rw [List.length_map, List.length_cons] at z
              omega
            simp only [this, decide_false]
          rw [e1]
          refine iteF ?_
          refine ⟨_, rfl, c, _, (0 : Nat), nV g0, rfl, rfl, hS, atI_nat rfl, rfl, _, rfl, ?_⟩
          by_cases hz : g0 = 0
          · subst hz
            refine iteT ?_
            refine q H false (Same.refl H) ⟨fun z => Bool.noConfusion z, ?_⟩
            rintro ⟨gs', h1, _, _, h4, _⟩
            exact absurd rfl (h4 0 (by rw [← nV_inj h1]; exact List.mem_cons_self))
          · have e2 : decide (nV g0 = V.int 0) = false := by
              have : ¬ nV g0 = V.int 0 := fun z => by
                have z' : V.int (g0 : Int) = V.int 0 := z
                injection z' with z'
                omega
              simp only [this, decide_false]
            rw [e2]
            refine iteF ?_
            refine ⟨_, rfl, _, rfl, _, rfl, n, b, c, pvs, es, g0 :: gr, rfl, .inr hB, hP, hS, he, fun g hm => ?_, h0, hn, hel, hxl, fun H' ok s' hok => q H' ok s' ?_⟩
            · have := (hg g hm).1
              omega
            · rw [hok]
              constructor
              · intro h
                refine ⟨g0 :: gr, rfl, hlf, List.cons_ne_nil _ _, fun g hm => ?_, h⟩
                rcases List.mem_cons.mp hm with rfl | hm
                · exact hz
                · have := List.rel_of_pairwise_cons hpw hm
                  omega
              · rintro ⟨gs', h1, _, _, _, h5⟩
                rw [nV_inj h1]
                exact h5
    · refine ⟨_, rfl, _, rfl, v, (n : Int), rfl, .inr ⟨s, hv, hs, _, rfl, iteT (iteT q)⟩⟩

abbrev s_Map___init__ : Stmt := inClass (topS 27) 0
abbrev sl_Map___init__ : List Str := ["self", "many", "arrows", "goals"]
theorem sc_Map___init__ : FnScope ["self", "many", "arrows", "goals"] ["self", "many", "arrows", "goals"] (defScope s_Map___init__) := ⟨rfl, rfl, rfl, by decide +kernel, rfl, by decide +kernel, by decide +kernel⟩
theorem pw_len {n : Nat} : ∀ {gs : List Nat} {l : Nat}, gs.Pairwise (· < ·) → (∀ g ∈ gs, l ≤ g ∧ g < n) → gs.length ≤ n - l
  | [], _, _, _ => Nat.zero_le _
  | g :: r, l, hp, h => by
    have h1 := h g List.mem_cons_self
    have h2 : r.length ≤ n - (g + 1) := pw_len hp.of_cons fun x hx => ⟨List.rel_of_pairwise_cons hp hx, (h x (List.mem_cons_of_mem _ hx)).2⟩
    rw [List.length_cons]
    omega
theorem putF_len (f : Str) (v : V) : ∀ fs : List (Str × V), (putF f v fs).length ≤ fs.length + 1
  | [] => Nat.le_refl _
  | (g, x) :: r => by
    unfold putF
    split
    · exact Nat.le_succ _
    · rw [List.length_cons, List.length_cons]
      exact Nat.succ_le_succ (putF_len f v r)
/-- parts that make a map -/
structure GoodMap (n : Nat) (es : Es) (gs : List Nat) : Prop where
  n2 : 2 ≤ n
  n40 : n ≤ 40
  l60 : es.length ≤ 60
  ok : ∀ e ∈ es, e.1 < n ∧ e.2 < n ∧ e.1 ≠ e.2
  ne : gs ≠ []
  pw : gs.Pairwise (· < ·)
  gl : ∀ g ∈ gs, g ≠ 0 ∧ g < n
  rch : ∀ g ∈ gs, Rch es [0] g
def spMapInit (K : PySem.W.Frag) (C : Addr) : Sp := fun vs H Q _ => ∃ (p dx : Addr) (n : Nat) (a : Addr) (pvs : List V) (es : Es) (c : Addr) (gs : List Nat), vs = [.ref p, .int (n : Int), .ref a, .ref c] ∧ H p = some (.ins C dx []) ∧
  SqT K H a pvs ∧ Prs K H pvs es ∧ SqT K H c (gs.map nV) ∧ GoodMap n es gs ∧ ∀ H', MapAt K C H' p n a pvs c gs → (∀ b o, b ≠ p → H b = some o → H' b = some o) → Q .non H'
theorem ok_Map_init {CMap : Addr} (C : MapC K mg CMap) (h_check_pairs : Has P w K mg base "check_pairs" 4 ["many", "pairs", "most"] (spCheckPairs K))
    (h_are_goals : Has P w K mg base "are_goals" 4 ["thing", "many", "arrows"] (spAreGoals K)) (D0 : DfI K CMap "Map.__init__" s_Map___init__ ["self", "many", "arrows", "goals"]) : HasI P w K mg base CMap 5 ["self", "many", "arrows", "goals"] (spMapInit K CMap) := by
  refine D0.has fun f fd F => F.ok sc_Map___init__ (fun vs H Q E h => ?_) (fun cdv A outer s H vs Q E hr h => ?_)
  · obtain ⟨p, dx, n, a, pvs, es, c, gs, rfl, _⟩ := h
    rfl
  · obtain ⟨p, dx, n, a, pvs, es, c, gs, rfl, hp, hA, hP, hG, g, q⟩ := h
    refine ⟨_, (pss_cons (ps_expr (pcall h_check_pairs hr (by decide) (by rfl) (pa_cons (pv 1) (pa_cons (pv 2) (pa_cons (pe_glob (v := .int 60) (by rfl) C.MOST_ARROWS.choose_spec ⟨_, rfl⟩) pa_nil)))))
  (pss_cons (ps_if (pt_not (pt_val (pcall h_are_goals hr (by decide) (by rfl) (pa_cons (pv 3) (pa_cons (pv 1) (pa_cons (pv 2) pa_nil))))))
    (pss_one ps_never)
    pss_nil)
  (pss_cons (ps_fld (pv 0) (pv 1) rfl)
  (pss_cons (ps_fld (pv 0) (pv 2) rfl)
  (pss_one (ps_fld (pv 0) (pv 3) rfl)))))), ?_⟩
    have gn2 := g.n2
    have gn40 := g.n40
    -- many, arrows
    refine ⟨_, rfl, _, rfl, n, a, pvs, es, 60, rfl, hA, hP, ⟨g.n2, g.n40, g.l60, g.ok⟩, Nat.le_refl _, fun H1 s1 => ?_⟩
    -- goals
    refine ⟨_, rfl, _, rfl, _, rfl, .ref c, n, a, pvs, es, rfl, Same.sqt s1 hA, hP.same s1, fun e he => ⟨(g.ok e he).1, (g.ok e he).2.1⟩, by omega, by omega, by have := g.l60; omega,
      .inl ⟨c, _, rfl, Same.sqt s1 hG, ?_, fun x hx => ?_, fun H2 ok s2 hok => ⟨_, rfl, ?_⟩⟩⟩
    · rw [List.length_map]
      have h1 : gs.length ≤ n - 0 := pw_len g.pw fun x hx => ⟨Nat.zero_le _, (g.gl x hx).2⟩
      omega
    · obtain ⟨z, _, rfl⟩ := List.mem_map.mp hx
      exact ⟨"int", kn_of_int⟩
    have e2 : ok = true := hok.mpr ⟨gs, rfl, lot_of (fun x hx => ⟨by have := (g.gl x hx).2; omega, by omega⟩) g.pw, g.ne, fun x hx => (g.gl x hx).1, g.rch⟩
    rw [e2]
    refine iteF ?_
    -- the fields
    have hp2 : H2 p = some (.ins CMap dx []) := s2 _ _ (s1 _ _ hp)
    refine ⟨_, rfl, _, rfl, p, CMap, dx, _, rfl, hp2, C.cl, C.n1, by show 0 < 1000; decide, ?_⟩
    refine ⟨_, rfl, _, rfl, p, CMap, dx, _, rfl, upd_same, C.cl, C.n2, by show 1 < 1000; decide, ?_⟩
    refine ⟨_, rfl, _, rfl, p, CMap, dx, _, rfl, upd_same, C.cl, C.n3, Nat.lt_of_le_of_lt (putF_len _ _ _) (by show 1 + 1 < 1000; decide), ?_⟩
    rw [upd_upd, upd_upd]
    have keep : ∀ b o, b ≠ p → H b = some o → upd H2 p (.ins CMap dx (mapF n a c)) b = some o := fun b o nb hb => by
      rw [upd_ne nb]
      exact s2 _ _ (s1 _ _ hb)
    have kt : ∀ {x : Addr} {xs : List V}, SqT K H x xs → SqT K (upd H2 p (.ins CMap dx (mapF n a c))) x xs := fun {x xs} h => by
      rcases h with (h | ⟨o, h⟩) | h
      · exact .inl (.inl (keep _ _ (ne_of h hp (by intro z; cases z)) h))
      · exact .inl (.inr ⟨o, keep _ _ (ne_of h hp (by intro z; cases z)) h⟩)
      · exact .inr h
    exact q _ ⟨⟨dx, upd_same⟩, kt hA, kt hG⟩ keep

/-- a tuple of two lots of numbers -/
structure StdAt (K : PySem.W.Frag) (H : Hp) (t x y : Addr) (rs ls : List Nat) : Prop where
  t : SqT K H t [.ref x, .ref y]
  x : SqT K H x (rs.map nV)
  y : SqT K H y (ls.map nV)
theorem StdAt.same {K : PySem.W.Frag} {H H' : Hp} {t x y : Addr} {rs ls : List Nat} (h : StdAt K H t x y rs ls) (s : Same H H') : StdAt K H' t x y rs ls := ⟨Same.sqt s h.t, Same.sqt s h.x, Same.sqt s h.y⟩
def PairT (H : Hp) (v : V) (e : Nat × Nat) : Prop := ∃ t, v = .ref t ∧ H t = some (.tup [nV e.1, nV e.2])
theorem PairT.at_ {K : PySem.W.Frag} {H : Hp} {v : V} {e : Nat × Nat} (h : PairT H v e) : PairAt K H v e := h.elim fun t ⟨a, b⟩ => ⟨t, a, sqt b⟩
/-- what a place of a comprehension over pairs gives -/
def RelG (G : Nat × Nat → Option (Nat × Nat)) (es : Es) (i : Nat) (H : Hp) (o : Option V) : Prop :=
  ∃ e, es[i]? = some e ∧ ((∃ e' v, G e = some e' ∧ o = some v ∧ PairT H v e') ∨ (G e = none ∧ o = none))
theorem RelG.stay {G : Nat × Nat → Option (Nat × Nat)} {es : Es} {D : Addr} (i : Nat) (o : Option V) (H H' : Hp) (acc : List V) (hD : H D = some (.lst acc)) (h : RelG G es i H o)
    (k : ∀ b u, b ≠ D → H b = some u → H' b = some u) : RelG G es i H' o := by
  obtain ⟨e, he, h⟩ := h
  refine ⟨e, he, ?_⟩
  rcases h with ⟨e', v, h1, h2, t, rfl, ht⟩ | h
  · exact .inl ⟨e', _, h1, h2, t, rfl, k _ _ (ne_of ht hD (by intro z; cases z)) ht⟩
  · exact .inr h
theorem prs_rel {K : PySem.W.Frag} {H : Hp} {G : Nat × Nat → Option (Nat × Nat)} : ∀ {es : Es} {os : List (Option V)}, os.length = es.length → (∀ i o, os[i]? = some o → RelG G es i H o) → Prs K H (os.filterMap id) (es.filterMap G)
  | [], [], _, _ => ⟨rfl, fun i v e h _ => by simp at h⟩
  | e :: es, o :: os, hl, h => by
    have ih := prs_rel (K := K) (es := es) (os := os) (by simpa using hl) fun i o' hi => by
      obtain ⟨e', h1, h2⟩ := h (i + 1) o' (by simpa using hi)
      exact ⟨e', by simpa using h1, h2⟩
    obtain ⟨e0, h0, h1⟩ := h 0 o rfl
    cases (show some e = some e0 from h0)
    rcases h1 with ⟨e', v, h1, rfl, hv⟩ | ⟨h1, rfl⟩
    · rw [List.filterMap_cons_some h1, List.filterMap_cons_some (f := id) (b := v) rfl]
      refine ⟨by rw [List.length_cons, List.length_cons, ih.len], fun i x y a b => ?_⟩
      cases i with
      | zero =>
        cases a
        cases b
        exact hv.at_
      | succ i => exact ih.at_ i x y a b
    · rw [List.filterMap_cons_none h1, List.filterMap_cons_none (f := id) rfl]
      exact ih
  | [], _ :: _, hl, _ => by cases hl
  | _ :: _, [], hl, _ => by cases hl
/-- the edges between the places that are reached, without the rotten ones -/
def innG (rs : List Nat) (e : Nat × Nat) : Option (Nat × Nat) := if e.1 ∈ rs ∧ e.2 ∈ rs then some e else none
abbrev inner (es : Es) (rs ls : List Nat) : Es := (left es ls).filterMap (innG rs)
theorem fmG_ok {G : Nat × Nat → Option (Nat × Nat)} {es : Es} {Pq : Nat × Nat → Prop} (hG : ∀ e e', G e = some e' → Pq e → Pq e') (h : ∀ e ∈ es, Pq e) : ∀ e ∈ es.filterMap G, Pq e := fun e' he => by
  obtain ⟨e, h1, h2⟩ := List.mem_filterMap.mp he
  exact hG e e' h2 (h e h1)
theorem inn_ok {rs : List Nat} {e e' : Nat × Nat} {Pq : Nat × Nat → Prop} (h : innG rs e = some e') (p : Pq e) : Pq e' := by
  unfold innG at h
  split at h
  · cases h
    exact p
  · cases h
/-- a standing of the map -/
structure StdOk (n : Nat) (es : Es) (gs rs ls : List Nat) : Prop where
  rp : rs.Pairwise (· < ·)
  lp : ls.Pairwise (· < ·)
  rn : ∀ r ∈ rs, r < n
  ln : ∀ l ∈ ls, l < es.length
  r0 : 0 ∈ rs
  tl : ∀ l ∈ ls, ∀ e, es[l]? = some e → e.1 ∈ rs
  hold : ∀ r ∈ rs, Rch (inner es rs ls) [0] r
  opn : ∀ g ∈ gs, Rch (left es ls) [0] g
theorem kn_nats {K : PySem.W.Frag} {H : Hp} {gs : List Nat} : ∀ x ∈ gs.map nV, ∃ s, Kn K H x s := fun x hx => by
  obtain ⟨z, _, rfl⟩ := List.mem_map.mp hx
  exact ⟨"int", kn_of_int⟩

/-- the edges between places that are not reached -/
def unrG (rs : List Nat) (e : Nat × Nat) : Option (Nat × Nat) := if e.1 ∉ rs ∧ e.2 ∉ rs then some e else none
abbrev unr (es : Es) (rs ls : List Nat) : Es := (left es ls).filterMap (unrG rs)
theorem unr_ok {rs : List Nat} {e e' : Nat × Nat} {Pq : Nat × Nat → Prop} (h : unrG rs e = some e') (p : Pq e) : Pq e' := by
  unfold unrG at h
  split at h
  · cases h
    exact p
  · cases h
/-- edges turned about -/
def swp (e : Nat × Nat) : Nat × Nat := (e.2, e.1)
abbrev backE (es : Es) (rs ls : List Nat) : Es := (unr es rs ls).filterMap fun e => some (swp e)
abbrev openG (gs rs : List Nat) : List Nat := gs.filterMap fun g => if g ∈ rs then none else some g
theorem mem_openG {gs rs : List Nat} {g : Nat} : g ∈ openG gs rs ↔ g ∈ gs ∧ g ∉ rs := by
  unfold openG
  rw [List.mem_filterMap]
  constructor
  · rintro ⟨z, hz, h⟩
    by_cases hm : z ∈ rs
    · rw [if_pos hm] at h
      cases h
    · rw [if_neg hm] at h
      cases h
      exact ⟨hz, hm⟩
  · rintro ⟨h1, h2⟩
    exact ⟨g, h1, if_neg h2⟩

/-- a standing of a map, as it is handed in: the values, and that it is one -/
structure At (K : PySem.W.Frag) (C : Addr) (H : Hp) (p : Addr) (n : Nat) (a : Addr) (pvs : List V) (es : Es) (c : Addr) (gs : List Nat) (t x y : Addr) (rs ls : List Nat) : Prop where
  m : MapOk K C H p n a pvs es c gs
  S : StdAt K H t x y rs ls
  o : StdOk n es gs rs ls
theorem At.same {K : PySem.W.Frag} {C : Addr} {H H' : Hp} {p : Addr} {n : Nat} {a : Addr} {pvs : List V} {es : Es} {c : Addr} {gs : List Nat} {t x y : Addr} {rs ls : List Nat} (h : At K C H p n a pvs es c gs t x y rs ls) (s : Same H H') :
    At K C H' p n a pvs es c gs t x y rs ls := ⟨h.m.same s, h.S.same s, h.o⟩
theorem At.rl {K : PySem.W.Frag} {C : Addr} {H : Hp} {p : Addr} {n : Nat} {a : Addr} {pvs : List V} {es : Es} {c : Addr} {gs : List Nat} {t x y : Addr} {rs ls : List Nat} (h : At K C H p n a pvs es c gs t x y rs ls) : rs.length ≤ 1000 := by
  have := pw_len h.o.rp (l := 0) fun z hz => ⟨Nat.zero_le _, h.o.rn z hz⟩
  have := h.m.n1
  omega
theorem At.ll {K : PySem.W.Frag} {C : Addr} {H : Hp} {p : Addr} {n : Nat} {a : Addr} {pvs : List V} {es : Es} {c : Addr} {gs : List Nat} {t x y : Addr} {rs ls : List Nat} (h : At K C H p n a pvs es c gs t x y rs ls) : ls.length ≤ 1000 := by
  have := pw_len h.o.lp (l := 0) fun z hz => ⟨Nat.zero_le _, h.o.ln z hz⟩
  have := h.m.el
  omega
/-- promises of functions of a map and a standing: R of the answer and the heap -/
def spOf (K : PySem.W.Frag) (C : Addr) (R : Nat → Es → List Nat → List Nat → List Nat → Hp → V → Hp → Prop) : Sp := fun vs H Q _ =>
  ∃ (p : Addr) (n : Nat) (a : Addr) (pvs : List V) (es : Es) (c : Addr) (gs : List Nat) (t x y : Addr) (rs ls : List Nat), vs = [.ref p, .ref t] ∧ At K C H p n a pvs es c gs t x y rs ls ∧ ∀ v H', Same H H' → R n es gs rs ls H v H' → Q v H'
theorem range_pw (n : Nat) : (List.range n).Pairwise (· < ·) := List.pairwise_lt_range
theorem fm_pw {n : Nat} {F : Nat → Option Nat} (hF : ∀ i j, F i = some j → j = i) : ((List.range n).filterMap F).Pairwise (· < ·) := by
  refine List.Pairwise.filterMap F (fun a b hab x hx y hy => ?_) (range_pw n)
  rw [hF a x hx, hF b y hy]
  exact hab

/-- the place is alive -/
def Alive (es : Es) (gs rs ls : List Nat) (v : Nat) : Prop := Rch (backE es rs ls) (openG gs rs) v
def RAlive : Nat → Es → List Nat → List Nat → List Nat → Hp → V → Hp → Prop := fun n es gs rs ls H v H' => ∃ (q : Addr) (as : List Nat), v = .ref q ∧ H q = none ∧ H' q = some (.tup (as.map nV)) ∧ as.Pairwise (· < ·) ∧ ∀ u, u ∈ as ↔ u < n ∧ Alive es gs rs ls u
theorem no_alive {es : Es} {gs rs ls : List Nat} (h : ∀ g ∈ gs, g ∈ rs) {v : Nat} (ha : Alive es gs rs ls v) : False :=
  ha.ind (P := fun _ => False) (fun v hv => (mem_openG.mp hv).2 (h v (mem_openG.mp hv).1)) fun _ _ z _ => z
theorem alive_out {es : Es} {gs rs ls : List Nat} {v : Nat} (h : Alive es gs rs ls v) : v ∉ rs :=
  h.ind (P := fun v => v ∉ rs) (fun v hv => (mem_openG.mp hv).2) fun u v _ e => by
    obtain ⟨e0, h6, h7⟩ := List.mem_filterMap.mp e
    cases h7
    obtain ⟨e1, _, h9⟩ := List.mem_filterMap.mp h6
    unfold unrG at h9
    split at h9
    · rename_i hc
      cases h9
      exact hc.1
    · cases h9
theorem alive_back {es : Es} {gs rs ls : List Nat} {u v k : Nat} (ha : Alive es gs rs ls v) (hk : es[k]? = some (u, v)) (hl : k ∉ ls) (hu : u ∉ rs) (hv : v ∉ rs) : Alive es gs rs ls u := by
  refine Rch.edge ha (List.mem_filterMap.mpr ⟨(u, v), List.mem_filterMap.mpr ⟨(u, v), mem_leftV.mpr ⟨k, hk, hl⟩, ?_⟩, rfl⟩)
  unfold unrG
  exact if_pos ⟨hu, hv⟩
theorem mem_backE {es : Es} {rs ls : List Nat} {e : Nat × Nat} : e ∈ backE es rs ls ↔ ∃ k, es[k]? = some (swp e) ∧ k ∉ ls ∧ e.1 ∉ rs ∧ e.2 ∉ rs := by
  constructor
  · intro h
    obtain ⟨e0, h6, h7⟩ := List.mem_filterMap.mp h
    cases h7
    obtain ⟨e1, h8, h9⟩ := List.mem_filterMap.mp h6
    unfold unrG at h9
    split at h9
    · rename_i hc
      cases h9
      obtain ⟨k, h10, h11⟩ := mem_leftV.mp h8
      exact ⟨k, h10, h11, hc.2, hc.1⟩
    · cases h9
  · rintro ⟨k, h1, h2, h3, h4⟩
    refine List.mem_filterMap.mpr ⟨swp e, List.mem_filterMap.mpr ⟨swp e, mem_leftV.mpr ⟨k, h1, h2⟩, ?_⟩, rfl⟩
    unfold unrG
    exact if_pos ⟨h4, h3⟩

def isTry (es : Es) (rs ls : List Nat) (i : Nat) : Option Nat := (es[i]?).bind fun e => if i ∉ ls ∧ e.1 ∈ rs ∧ e.2 ∉ rs then some i else none
def triesL (es : Es) (rs ls : List Nat) : List Nat := (List.range es.length).filterMap (isTry es rs ls)
theorem isTry_some {es : Es} {rs ls : List Nat} {i j : Nat} (h : isTry es rs ls i = some j) : j = i ∧ ∃ e, es[i]? = some e ∧ i ∉ ls ∧ e.1 ∈ rs ∧ e.2 ∉ rs := by
  unfold isTry at h
  cases e : es[i]? with
  | none => rw [e] at h; cases h
  | some x =>
    rw [e] at h
    simp only [Option.bind_some] at h
    split at h
    · rename_i hc
      exact ⟨(Option.some.inj h).symm, x, rfl, hc⟩
    · cases h
theorem mem_tries {es : Es} {rs ls : List Nat} {i : Nat} : i ∈ triesL es rs ls ↔ ∃ e, es[i]? = some e ∧ i ∉ ls ∧ e.1 ∈ rs ∧ e.2 ∉ rs := by
  unfold triesL
  rw [List.mem_filterMap]
  constructor
  · rintro ⟨j, _, h⟩
    obtain ⟨h1, h2⟩ := isTry_some h
    rw [h1]
    exact h2
  · rintro ⟨e, he, h⟩
    refine ⟨i, List.mem_range.mpr (List.getElem?_eq_some_iff.mp he).1, ?_⟩
    unfold isTry
    rw [he]
    exact if_pos h
theorem tries_pw {es : Es} {rs ls : List Nat} : (triesL es rs ls).Pairwise (· < ·) := fm_pw fun i j h => (isTry_some h).1
def RTries : Nat → Es → List Nat → List Nat → List Nat → Hp → V → Hp → Prop := fun n es gs rs ls H v H' => ∃ q : Addr, v = .ref q ∧ H q = none ∧ H' q = some (.tup ((triesL es rs ls).map nV))

/-- the parts of a map as a tuple -/
structure PtsAt (K : PySem.W.Frag) (H : Hp) (t : Addr) (n : Nat) (a : Addr) (pvs : List V) (es : Es) (c : Addr) (gs : List Nat) : Prop where
  tp : SqT K H t [nV n, .ref a, .ref c]
  ar : SqT K H a pvs
  pr : Prs K H pvs es
  go : SqT K H c (gs.map nV)
  gm : GoodMap n es gs
theorem PtsAt.same {K : PySem.W.Frag} {H H' : Hp} {t : Addr} {n : Nat} {a : Addr} {pvs : List V} {es : Es} {c : Addr} {gs : List Nat} (h : PtsAt K H t n a pvs es c gs) (s : Same H H') : PtsAt K H' t n a pvs es c gs :=
  ⟨Same.sqt s h.tp, Same.sqt s h.ar, h.pr.same s, Same.sqt s h.go, h.gm⟩
theorem GoodMap.gl2 {n : Nat} {es : Es} {gs : List Nat} (g : GoodMap n es gs) : gs.length ≤ n - 0 := pw_len g.pw fun x hx => ⟨Nat.zero_le _, (g.gl x hx).2⟩

abbrev s__law_hand : Stmt := topS 39
abbrev sl__law_hand : List Str := ["_law_script", "_law_cells", "_law_cell"]
theorem sc__law_hand : FnScope ["_law_script", "_law_cells", "_law_cell"] ["_law_script"] (defScope s__law_hand) := ⟨rfl, rfl, rfl, by decide +kernel, rfl, by decide +kernel, by decide +kernel⟩
def spHand (K : PySem.W.Frag) : Sp := fun vs H Q _ => ∃ (a : Addr) (ns : List Int) (F : Hp), vs = [.ref a] ∧ SqL K H a (ns.map V.int) ∧ ns.length ≤ 1000 ∧ Same F H ∧
  ∀ h F' H', Grow (fun _ => False) F H F' H' → HandAt F' H' h → Q (.ref h) H'
theorem cutV_int (ns : List Int) (lo hi : Option Int) : ∃ ms : List Int, cutV (ns.map V.int) lo hi = ms.map V.int ∧ ms.length ≤ ns.length := by
  unfold cutV
  rw [← List.map_drop, ← List.map_take]
  refine ⟨_, rfl, ?_⟩
  rw [List.length_take, List.length_drop]
  omega
theorem ok__law_hand (B : Bt mg) (D0 : Df K mg "_law_hand" s__law_hand ["_law_script"]) : Has P w K mg base "_law_hand" 1 ["_law_script"] (spHand K) := by
  refine D0.has fun f fd F => F.ok sc__law_hand (fun vs H Q E h => ?_) (fun cdv A outer s H vs Q E hr h => ?_)
  · obtain ⟨a, ns, F, rfl, _⟩ := h
    rfl
  · obtain ⟨a, ns, F0, rfl, hS, hl, hF, q⟩ := h
    refine ⟨_, (pss_cons (ps_setLc (i := 1) (own := [("_law_cell", 2)]) (g := gName 2) rfl sc__law_hand.nd rfl rfl (sw_true rfl rfl rfl (by decide +kernel)) (k_pil (K := K) rfl (pe_slice (k_sll (K := K) rfl) (pv 0) po_none (po_some pe_int))) (blkOk_by (N := sl__law_hand) (sc := defScope s__law_hand) (by decide +kernel)) (fun _ _ _ _ _ => (pg_name (i := 2) sc__law_hand.nd rfl (.inl rfl))) (fun _ _ _ _ _ => pts_nil) (fun _ _ _ _ _ => (pe_callB call_abs (by rfl) B.abs bo_abs (pa_cons (pe_callTy call_int1 (by rfl) B.int bo_int (pa_cons (pv 2) pa_nil)) pa_nil))))
  (pss_one (ps_ret (pe_lst (pa_cons (pv 1) (pa_cons pe_int (pa_cons pe_int (pa_cons (pe_op op_add pe_int (pe_callB (k_len (K := K) rfl) (by rfl) B.len bo_len (pa_cons (pv 1) pa_nil))) (pa_cons pe_int pa_nil))))))))), ?_⟩
    obtain ⟨ms, hms, hml⟩ := cutV_int ns none (some 63)
    refine ⟨_, rfl, _, rfl, a, _, rfl, hS, fun p np => ⟨p, rfl, ⟨_, sql upd_same⟩, fun D nD => ?_⟩⟩
    rw [hms] at nD ⊢
    have s1 := same_new (o := .lst (ms.map V.int)) (Same.refl H) np
    refine lc_val (walk_list (xs := ms.map V.int)) calm_at (fun i => (ms[i]?).bind fun z => some (V.int (if z < 0 then -z else z))) (by rw [List.length_map]; omega) nD (fun H3 s3 => sql (s3 _ _ upd_same)) ?_ fun H3 s3 h3 => ?_
    · rintro i v H3 H4 hi s3 ⟨rfl, hv⟩ Kt kt
      obtain ⟨z, hz, rfl⟩ := getmap hv
      refine ⟨rfl, tyes ?_⟩
      refine iteT ?_
      refine ⟨_, rfl, .inl ⟨z, rfl, z, rfl, ?_⟩⟩
      have k0 := kt _ (Same.refl _)
      rw [hz] at k0
      exact k0
    · rw [List.length_map, fm_range, fm_some] at h3
      have eC : (ms.map fun z => V.int (if z < 0 then -z else z)) = (ms.map fun z => if z < 0 then -z else z).map V.int := by
        rw [List.map_map]
        rfl
      rw [eC] at h3
      refine ⟨_, rfl, _, rfl, D, _, rfl, .inl (sql h3), _, _, rfl, rfl, Nat.le_of_lt (small_lt (by decide : 5 ≤ 100000)), fun hh nh => ?_⟩
      have sm : Same H H3 := Same.trans s1 s3
      have hDh : D ≠ hh := ne_of_none h3 nh
      have sm2 := same_new (o := handO D 0 0 (1 + (((ms.map fun z => if z < 0 then -z else z).map V.int).length : Int)) 0) sm nh
      refine q hh (upd F0 D (.lst ((ms.map fun z => if z < 0 then -z else z).map V.int))) _ ⟨fun b o _ e => sm2 _ _ e, fun b hb z => ?_, ?_, ?_, ?_⟩ ⟨⟨D, _, 0, 0, _, 0, upd_same, upd_same, Int.le_refl _⟩, ?_⟩
      · cases e : H b with
        | none => exact hb e
        | some o => exact absurd ((sm2 _ _ e).symm.trans z) (by intro y; cases y)
      · exact same_new (Same.refl F0) (Same.free (hF.trans s1) nD)
      · intro b o e
        by_cases hb : b = D
        · subst hb
          rw [upd_same] at e
          rw [upd_ne hDh, h3]
          exact e
        · rw [upd_ne hb] at e
          exact sm2 _ _ (hF _ _ e)
      · intro b h1 h2
        by_cases hb : b = D
        · rw [hb]
          exact Same.free s1 nD
        · rw [upd_ne hb] at h1
          exact absurd h2 h1
      · rw [upd_ne hDh.symm]
        exact Same.free (hF.trans sm) nh

abbrev s__law_draw : Stmt := topS 40
abbrev sl__law_draw : List Str := ["_law_hand_here", "_law_many", "_law_cell", "_law_digit", "_law_number"]
theorem sc__law_draw : FnScope ["_law_hand_here", "_law_many", "_law_cell", "_law_digit", "_law_number"] ["_law_hand_here", "_law_many"] (defScope s__law_draw) := ⟨rfl, rfl, rfl, by decide +kernel, rfl, by decide +kernel, by decide +kernel⟩
theorem cells_at {cells : List Int} {i : Int} (h0 : 0 ≤ i) (h1 : i < (cells.length : Int)) : ∃ z, atI (cells.map V.int) i = some (.int z) := by
  obtain ⟨j, rfl⟩ : ∃ j : Nat, i = (j : Int) := ⟨i.toNat, by omega⟩
  have hj : j < cells.length := by omega
  exact ⟨cells[j], atI_nat (by rw [List.getElem?_map, List.getElem?_eq_getElem hj]; rfl)⟩
theorem cm1 {a b : Int} : CMul (a % 2147483647) b :=
  .inl ⟨Int.lt_of_lt_of_le (by decide) (Int.emod_nonneg a (by decide)), Int.lt_trans (Int.emod_lt_of_pos a (by decide)) (by decide)⟩
theorem ok__law_draw (B : Bt mg) (D0 : Df K mg "_law_draw" s__law_draw ["_law_hand_here", "_law_many"]) : Has P w K mg base "_law_draw" 1 ["_law_hand_here", "_law_many"] spDraw := by
  refine D0.has fun f fd F => F.ok sc__law_draw (fun vs H Q E h => ?_) (fun cdv A outer s H vs Q E hr h => ?_)
  · obtain ⟨h, m, F, rfl, _⟩ := h
    rfl
  · obtain ⟨h, m, F0, rfl, hm0, hml, hF, hA, q⟩ := h
    refine ⟨_, (C8.pss_cut (ps_if (PW.pt (pw_and (pt_cmpR op_eq (pe_ix (k_ixl (K := K) rfl) (pv 0) pe_int (fun _ _ => rfl)) pe_int (nomark _)) (pw_and1 (pt_cmpR op_lt (pe_ix (k_ixl (K := K) rfl) (pv 0) pe_int (fun _ _ => rfl)) (pe_callB (k_len (K := K) rfl) (by rfl) B.len bo_len (pa_cons (pe_ix (k_ixl (K := K) rfl) (pv 0) pe_int (fun _ _ => rfl)) pa_nil)) (nomark _)))))
    (pss_cons (ps_set (i := 2) sc__law_draw.nd rfl (.inl rfl) (pe_ix (k_ixl (K := K) rfl) (pe_ix (k_ixl (K := K) rfl) (pv 0) pe_int (fun _ _ => rfl)) (pe_ix (k_ixl (K := K) rfl) (pv 0) pe_int (fun _ _ => rfl)) (fun _ _ => rfl)))
  (pss_cons (ps_asg (pe_op op_add (pe_ix (k_ixl (K := K) rfl) (pv 0) pe_int (fun _ _ => rfl)) pe_int) (pg_sub (pv 0) pe_int set_list))
  (pss_cons (ps_asg (pe_op op_mod (pe_callTy call_int1 (by rfl) B.int bo_int (pa_cons (pe_op op_add (pe_op op_add (pe_op op_mul (pe_ix (k_ixl (K := K) rfl) (pv 0) pe_int (fun _ _ => rfl)) pe_int) (pv 2)) pe_int) pa_nil)) pe_int) (pg_sub (pv 0) pe_int set_list))
  (pss_one (ps_if (pt_cmpR op_ge (pv 2) (pe_op op_pow pe_int pe_int) (nomark _))
    (pss_one (ps_asg (pv 2) (pg_sub (pv 0) pe_int set_list)))
    pss_nil)))))
    pss_nil)
  (pss_cons (ps_if (pt_cmpR op_gt (pe_ix (k_ixl (K := K) rfl) (pv 0) pe_int (fun _ _ => rfl)) pe_int (nomark _))
    (pss_cons (ps_set (i := 3) sc__law_draw.nd rfl (.inl rfl) (pe_op op_mod (pe_callTy call_int1 (by rfl) B.int bo_int (pa_cons (pe_ix (k_ixl (K := K) rfl) (pv 0) pe_int (fun _ _ => rfl)) pa_nil)) (pv 1)))
  (pss_cons (ps_asg (pe_op op_fdivW (pe_ix (k_ixl (K := K) rfl) (pv 0) pe_int (fun _ _ => rfl)) (pv 1)) (pg_sub (pv 0) pe_int set_list))
  (pss_one (ps_ret (pv 3)))))
    pss_nil)
  (pss_cons (ps_asg (pe_op op_add (pe_ix (k_ixl (K := K) rfl) (pv 0) pe_int (fun _ _ => rfl)) pe_int) (pg_sub (pv 0) pe_int set_list))
  (pss_cons (ps_set (i := 4) sc__law_draw.nd rfl (.inl rfl) (pe_op op_mod (pe_callTy call_int1 (by rfl) B.int bo_int (pa_cons (pe_op op_mul (pe_callTy call_int1 (by rfl) B.int bo_int (pa_cons (pe_op op_add (pe_ix (k_ixl (K := K) rfl) (pv 0) pe_int (fun _ _ => rfl)) (pe_op op_mul pe_int (pe_ix (k_ixl (K := K) rfl) (pv 0) pe_int (fun _ _ => rfl)))) pa_nil)) pe_int) pa_nil)) pe_int))
  (pss_cons (ps_set (i := 4) sc__law_draw.nd rfl (.inl rfl) (pe_op op_mod (pe_callTy call_int1 (by rfl) B.int bo_int (pa_cons (pe_op op_mul (pv 4) (pe_op op_add (pe_op op_fdiv (pv 4) pe_int) pe_int)) pa_nil)) pe_int))
  (pss_cons (ps_set (i := 4) sc__law_draw.nd rfl (.inl rfl) (pe_op op_mod (pe_callTy call_int1 (by rfl) B.int bo_int (pa_cons (pe_op op_mul (pv 4) (pe_op op_add (pe_op op_fdiv (pv 4) pe_int) pe_int)) pa_nil)) pe_int))
  (pss_one (ps_ret (pe_op op_mod (pe_callTy call_int1 (by rfl) B.int bo_int (pa_cons (pe_op op_fdiv (pv 4) pe_int) pa_nil)) (pv 1)))))))))), ?_⟩
    refine ⟨fun σ H' => ∃ x2, σ = [some (.ref h), some (.int m), x2, none, none] ∧ HandAt F0 H' h ∧ Same F0 H' ∧ ∀ b, b ≠ h → H' b = H b, ?_, ?_⟩
    · obtain ⟨c, cells, i, r, s, k, hh, hc, hi⟩ := hA.ob
      have hcH : H c = some (.lst (cells.map V.int)) := hF _ _ hc
      have stay : ∃ x2, ([some (.ref h), some (.int m), none, none, none] : L2.St) = [some (.ref h), some (.int m), x2, none, none] ∧ HandAt F0 H h ∧ Same F0 H ∧ ∀ b, b ≠ h → H b = H b := ⟨none, rfl, hA, hF, fun _ _ => rfl⟩
      refine ⟨_, rfl, h, _, (2 : Nat), .int r, rfl, rfl, sql hh, atI_nat rfl, rfl, _, rfl, ?_⟩
      by_cases hr0 : r = 0
      · rw [hr0, decide_eq_true (rfl : V.int 0 = V.int 0)]
        refine iteT ⟨_, rfl, h, _, (1 : Nat), .int i, rfl, rfl, sql hh, atI_nat rfl, _, rfl, h, _, (0 : Nat), .ref c, rfl, rfl, sql hh, atI_nat rfl, c, _, rfl, .inl (sql hcH), _, _, rfl, rfl, _, rfl, ?_⟩
        rw [List.length_map]
        by_cases hic : i < (cells.length : Int)
        · rw [decide_eq_true hic]
          refine iteT ?_
          obtain ⟨z, hz⟩ := cells_at hi hic
          have nch : c ≠ h := fun e => by
            have := hA.nF
            rw [← e, hc] at this
            cases this
          refine ⟨_, rfl, h, _, (0 : Nat), .ref c, rfl, rfl, sql hh, atI_nat rfl, _, rfl, h, _, (1 : Nat), .int i, rfl, rfl, sql hh, atI_nat rfl, c, _, i, .int z, rfl, rfl, sql hcH, hz, ?_⟩
          refine ⟨_, rfl, h, _, (1 : Nat), .int i, rfl, rfl, sql hh, atI_nat rfl, _, _, rfl, rfl, _, rfl, h, _, (1 : Nat), 1, rfl, rfl, hh, ixN_nat (by show 1 < 5; decide), ?_⟩
          refine ⟨_, rfl, h, _, (3 : Nat), .int s, rfl, rfl, sql upd_same, atI_nat rfl, s, 69621, rfl, rfl, .inr ⟨by decide, by decide⟩, _, rfl, _, _, rfl, rfl, _, _, rfl, rfl, .inl ⟨_, rfl, _, _, rfl, rfl, (by show (0 : Int) < 2147483629; decide), _, rfl, h, _, (3 : Nat), 3, rfl, rfl, upd_same, ixN_nat (by show 3 < 5; decide), ?_⟩⟩
          rw [upd_upd]
          refine ⟨_, rfl, _, _, rfl, rfl, ⟨by decide, by decide, by decide⟩, _, _, rfl, rfl, _, rfl, ?_⟩
          by_cases hbig : (10 : Int) ^ (18 : Int).toNat ≤ z
          · rw [decide_eq_true hbig]
            refine iteT ?_
            refine ⟨_, rfl, _, rfl, h, _, (2 : Nat), 2, rfl, rfl, upd_same, ixN_nat (by show 2 < 5; decide), ?_⟩
            rw [upd_upd]
            exact ⟨_, rfl, (drew_upd hF hA.nF hc (by omega)).hand, same_mut hF hA.nF, fun b hb => upd_ne hb⟩
          · rw [decide_eq_false hbig]
            refine iteF ?_
            exact ⟨_, rfl, (drew_upd hF hA.nF hc (by omega)).hand, same_mut hF hA.nF, fun b hb => upd_ne hb⟩
        · rw [decide_eq_false hic]
          refine iteF ?_
          exact stay
      · have : ¬ V.int r = V.int 0 := fun z => hr0 (by injection z)
        rw [decide_eq_false this]
        refine iteF ?_
        exact iteF stay
    · rintro σ H1 ⟨x2, rfl, hA1, hF1, hk1⟩
      obtain ⟨c, cells, i, r, s, k, hh, hc, hi⟩ := hA1.ob
      refine ⟨_, rfl, h, _, (2 : Nat), .int r, rfl, rfl, sql hh, atI_nat rfl, _, _, rfl, rfl, _, rfl, ?_⟩
      by_cases hr0 : (0 : Int) < r
      · rw [decide_eq_true hr0]
        refine iteT ?_
        refine ⟨_, rfl, h, _, (2 : Nat), .int r, rfl, rfl, sql hh, atI_nat rfl, .inl ⟨_, rfl, _, rfl, _, _, rfl, rfl, hm0, ?_⟩⟩
        refine ⟨_, rfl, h, _, (2 : Nat), .int r, rfl, rfl, sql hh, atI_nat rfl, _, rfl, _, _, rfl, rfl, ⟨hm0, hml⟩, _, rfl, h, _, (2 : Nat), 2, rfl, rfl, hh, ixN_nat (by show 2 < 5; decide), ?_⟩
        refine ⟨_, rfl, q _ _ (Int.emod_nonneg _ (by omega)) (Int.emod_lt_of_pos _ hm0) ⟨(drew_upd hF1 hA1.nF hc hi).hand, fun b hb => (upd_ne hb).trans (hk1 b hb), same_mut hF1 hA1.nF⟩⟩
      · rw [decide_eq_false hr0]
        refine iteF ?_
        refine ⟨_, rfl, h, _, (4 : Nat), .int k, rfl, rfl, sql hh, atI_nat rfl, _, _, rfl, rfl, _, rfl, h, _, (4 : Nat), 4, rfl, rfl, hh, ixN_nat (by show 4 < 5; decide), ?_⟩
        refine ⟨_, rfl, h, _, (3 : Nat), .int s, rfl, rfl, sql upd_same, atI_nat rfl, _, rfl, h, _, (4 : Nat), .int (k + 1), rfl, rfl, sql upd_same, atI_nat rfl, _, _, rfl, rfl, .inl ⟨by decide, by decide⟩, _, _, rfl, rfl, .inl ⟨_, rfl, _, _, rfl, rfl, .inr ⟨by decide, by decide⟩, .inl ⟨_, rfl, _, _, rfl, rfl, (by show (0 : Int) < 2147483647; decide), ?_⟩⟩⟩
        refine ⟨_, rfl, _, rfl, _, _, rfl, rfl, ⟨by decide, by decide⟩, _, _, rfl, rfl, _, _, rfl, rfl, cm1, .inl ⟨_, rfl, _, _, rfl, rfl, (by show (0 : Int) < 2147483647; decide), ?_⟩⟩
        refine ⟨_, rfl, _, rfl, _, _, rfl, rfl, ⟨by decide, by decide⟩, _, _, rfl, rfl, _, _, rfl, rfl, cm1, .inl ⟨_, rfl, _, _, rfl, rfl, (by show (0 : Int) < 2147483399; decide), ?_⟩⟩
        refine ⟨_, rfl, _, _, rfl, rfl, ⟨by decide, by decide⟩, .inl ⟨_, rfl, _, rfl, _, _, rfl, rfl, hm0, ?_⟩⟩
        exact q _ _ (Int.emod_nonneg _ (by omega)) (Int.emod_lt_of_pos _ hm0) ⟨(drew_upd hF1 hA1.nF hc hi).hand, fun b hb => (upd_ne hb).trans (hk1 b hb), same_mut hF1 hA1.nF⟩

abbrev s__law_shuffled : Stmt := topS 41
abbrev sl__law_shuffled : List Str := ["_law_hand_here", "_law_things", "_law_left", "_law_found"]
theorem sc__law_shuffled : FnScope ["_law_hand_here", "_law_things", "_law_left", "_law_found"] ["_law_hand_here", "_law_things"] (defScope s__law_shuffled) := ⟨rfl, rfl, rfl, by decide +kernel, rfl, by decide +kernel, by decide +kernel⟩
def spShuffled (K : PySem.W.Frag) : Sp := fun vs H Q _ => ∃ (h a : Addr) (xs : List V) (F : Hp), vs = [.ref h, .ref a] ∧ SqX K H a xs ∧ xs.length ≤ 1000 ∧ Same F H ∧ HandAt F H h ∧
  ∀ p H' ys, ys.Perm xs → Dr F H H' h → H p = none → H' p = some (.lst ys) → Q (.ref p) H'
theorem perm_erase {y : V} : ∀ {zs : List V} {k : Nat}, zs[k]? = some y → (y :: zs.eraseIdx k).Perm zs
  | [], k, h => by simp at h
  | z :: r, 0, h => by
    cases h
    exact List.Perm.refl _
  | z :: r, k + 1, h => by
    have ih := perm_erase (zs := r) (k := k) (by simpa using h)
    rw [List.eraseIdx_cons_succ]
    exact (List.Perm.swap z y _).trans (ih.cons z)
theorem ok__law_shuffled (B : Bt mg) (h_law_draw : Has P w K mg base "_law_draw" 1 ["_law_hand_here", "_law_many"] spDraw) (D0 : Df K mg "_law_shuffled" s__law_shuffled ["_law_hand_here", "_law_things"]) : Has P w K mg base "_law_shuffled" 2 ["_law_hand_here", "_law_things"] (spShuffled K) := by
  refine D0.has fun f fd F => F.ok sc__law_shuffled (fun vs H Q E h => ?_) (fun cdv A outer s H vs Q E hr h => ?_)
  · obtain ⟨h, a, xs, F, rfl, _⟩ := h
    rfl
  · obtain ⟨h, a, xs, F0, rfl, hS, hl, hF, hA, q⟩ := h
    refine ⟨_, (pss_cons (ps_set (i := 2) sc__law_shuffled.nd rfl (.inl rfl) (pe_callTy (k_list (K := K) rfl) (by rfl) B.list bo_list (pa_cons (pv 1) pa_nil)))
  (pss_cons (ps_set (i := 3) sc__law_shuffled.nd rfl (.inl rfl) (pe_lst pa_nil))
  (pss_cons (ps_while PassesOwn.never (pt_cmpR op_gt (pe_callB (k_len (K := K) rfl) (by rfl) B.len bo_len (pa_cons (pv 2) pa_nil)) pe_int (nomark _))
    (pss_one (ps_expr (pe_bm PySem.F.plainAttrs_list PySem.F.slot_list_append PySem.F.type_list_append mt_append (pv 3) (pa_cons (pe_bm PySem.F.plainAttrs_list PySem.F.slot_list_pop PySem.F.type_list_pop mt_popAt (pv 2) (pa_cons (pcall h_law_draw hr (by decide) (by rfl) (pa_cons (pv 0) (pa_cons (pe_callB (k_len (K := K) rfl) (by rfl) B.len bo_len (pa_cons (pv 2) pa_nil)) pa_nil))) pa_nil)) pa_nil)))))
  (pss_one (ps_ret (pv 3)))))), ?_⟩
    refine ⟨_, rfl, a, xs, rfl, hS, fun l nl => ⟨Nat.zero_le _, fun p np => ?_⟩⟩
    have s1 := same_new (o := .lst xs) (Same.refl H) nl
    have s2 := same_new (o := .lst []) s1 np
    have nlh : l ≠ h := hA.ne nl
    have np0 : H p = none := Same.free s1 np
    have nph : p ≠ h := hA.ne np0
    have nlp : l ≠ p := ne_of_none upd_same np
    have nlF : F0 l = none := Same.free hF nl
    have npF : F0 p = none := Same.free hF np0
    refine ⟨fun m σ H' => ∃ (zs ys : List V), σ = [some (.ref h), some (.ref a), some (.ref l), some (.ref p)] ∧ Dr F0 H H' h ∧ H' l = some (.lst zs) ∧ H' p = some (.lst ys) ∧ (ys ++ zs).Perm xs ∧ m = zs.length,
      ⟨_, xs, [], rfl, Dr.of_same hA hF s2, by rw [upd_ne nlp, upd_same], upd_same, List.Perm.refl _, rfl⟩, ?_⟩
    rintro m σ H1 ⟨zs, ys, rfl, d1, hl1, hp1, hpm, rfl⟩
    refine ⟨_, rfl, l, zs, rfl, .inl (sql hl1), _, _, rfl, rfl, _, rfl, ?_⟩
    have hlen : ys.length + zs.length = xs.length := by
      have := hpm.length_eq
      rw [List.length_append] at this
      exact this
    cases hz : zs with
    | nil =>
      subst hz
      refine iteF ⟨_, rfl, q p H1 ys (by rw [List.append_nil] at hpm; exact hpm) d1 np0 hp1⟩
    | cons z0 zr =>
      rw [← hz]
      have hpos : 0 < zs.length := by rw [hz]; exact Nat.succ_pos _
      rw [decide_eq_true (show (0 : Int) < (zs.length : Int) by omega)]
      refine iteT ⟨_, fun σ' H' z => z, ?_⟩
      refine ⟨_, rfl, .inl ⟨rfl, _, sql hp1⟩, _, rfl, .inl ⟨rfl, _, sql hl1⟩, _, rfl, _, rfl, l, zs, rfl, .inl (sql hl1), h, (zs.length : Int), F0, rfl, by omega, small_log (by omega) (by omega), d1.sub, d1.hand, fun n H2 hn0 hn1 dd => ?_⟩
      have d2 := d1.trans dd.dr
      have hl2 : H2 l = some (.lst zs) := by rw [dd.rest l nlh]; exact hl1
      have hp2 : H2 p = some (.lst ys) := by rw [dd.rest p nph]; exact hp1
      obtain ⟨k, rfl⟩ : ∃ k : Nat, n = (k : Int) := ⟨n.toNat, by omega⟩
      have hk : k < zs.length := by omega
      refine ⟨l, zs, (k : Int), k, zs[k], rfl, rfl, hl2, by omega, by omega, seqIndex_of (by omega) (by omega), List.getElem?_eq_getElem hk, p, ys, _, rfl, rfl, by rw [upd_ne nlp.symm]; exact hp2, small_lt (by omega), ?_⟩
      refine ⟨_, ?_, zs.eraseIdx k, ys ++ [zs[k]], rfl, (d2.upd nl nlh nlF).upd np0 nph npF, by rw [upd_ne nlp, upd_same], upd_same, ?_, rfl⟩
      · rw [List.length_eraseIdx_of_lt hk]
        omega
      · rw [List.append_assoc]
        exact (List.Perm.append_left ys (perm_erase (List.getElem?_eq_getElem hk))).trans hpm

abbrev s__law_tail : Stmt := topS 43
abbrev sl__law_tail : List Str := ["_law_hand_here", "_law_pairs", "_law_goals", "_law_place", "_law_there", "_law_tail_here", "_law_head", "_law_one"]
theorem sc__law_tail : FnScope ["_law_hand_here", "_law_pairs", "_law_goals", "_law_place", "_law_there", "_law_tail_here", "_law_head", "_law_one"] ["_law_hand_here", "_law_pairs", "_law_goals", "_law_place"] (defScope s__law_tail) := ⟨rfl, rfl, rfl, by decide +kernel, rfl, by decide +kernel, by decide +kernel⟩
def spTail (K : PySem.W.Frag) : Sp := fun vs H Q _ => ∃ (h b g : Addr) (pl : Int) (pvs : List V) (es : Es) (gs : List Nat) (F : Hp), vs = [.ref h, .ref b, .ref g, .int pl] ∧ SqL K H b pvs ∧ Prs K H pvs es ∧ SqL K H g (gs.map nV) ∧ 0 ∉ gs ∧ es.length ≤ 1000 ∧ Same F H ∧ HandAt F H h ∧
  ∀ (v : Nat) H', (v = 0 ∨ ∃ e ∈ es, e.2 = v) → Dr F H H' h → Q (nV v) H'
theorem ok__law_tail (B : Bt mg) (h_law_draw : Has P w K mg base "_law_draw" 1 ["_law_hand_here", "_law_many"] spDraw) (D0 : Df K mg "_law_tail" s__law_tail ["_law_hand_here", "_law_pairs", "_law_goals", "_law_place"]) : Has P w K mg base "_law_tail" 2 ["_law_hand_here", "_law_pairs", "_law_goals", "_law_place"] (spTail K) := by
  refine D0.has fun f fd F => F.ok sc__law_tail (fun vs H Q E h => ?_) (fun cdv A outer s H vs Q E hr h => ?_)
  · obtain ⟨h, b, g, pl, pvs, es, gs, F, rfl, _⟩ := h
    rfl
  · obtain ⟨h, b, g, pl, pvs, es, gs, F0, rfl, hB, hP, hG, h0, hel, hF, hA, q⟩ := h
    refine ⟨_, (pss_cons (ps_set (i := 4) sc__law_tail.nd rfl (.inl rfl) (pe_op op_cat (pe_lst (pa_cons pe_int pa_nil)) (pe_lc (own := [("_law_tail_here", 5), ("_law_head", 6)]) (g := gTup K 2 (gCons (gName 5) (gCons (gName 6) gNil))) rfl sc__law_tail.nd (k_pil (K := K) rfl (pv 1)) (blkOk_by (N := sl__law_tail) (sc := defScope s__law_tail) (by decide +kernel)) (fun _ _ _ _ _ => (pg_tup rfl (pgs_cons (pg_name (i := 5) sc__law_tail.nd rfl (.inl rfl)) (pgs_cons (pg_name (i := 6) sc__law_tail.nd rfl (.inl rfl)) pgs_nil)))) (fun _ _ _ _ _ => pts_nil) (fun _ _ _ _ _ => (pv 6)))))
  (C8.pss_cut (ps_if (pt_cmpR op_gt (pcall h_law_draw hr (by decide) (by rfl) (pa_cons (pv 0) (pa_cons pe_int pa_nil))) pe_int (nomark _))
    (pss_one (ps_setLc (i := 4) (own := [("_law_one", 7)]) (g := gName 7) rfl sc__law_tail.nd rfl rfl (sw_true rfl rfl rfl (by decide +kernel)) (k_pil (K := K) rfl (pv 4)) (blkOk_by (N := sl__law_tail) (sc := defScope s__law_tail) (by decide +kernel)) (fun _ _ _ _ _ => (pg_name (i := 7) sc__law_tail.nd rfl (.inl rfl))) (fun _ _ _ _ _ => pts_one (pt_cmpR (k_notin (K := K) rfl) (pv 7) (pv 2) (by rfl))) (fun _ _ _ _ _ => (pv 7))))
    pss_nil)
  (pss_one (ps_ret (pe_ix (k_ixl (K := K) rfl) (pv 4) (pcall h_law_draw hr (by decide) (by rfl) (pa_cons (pv 0) (pa_cons (pe_callB (k_len (K := K) rfl) (by rfl) B.len bo_len (pa_cons (pv 4) pa_nil)) pa_nil))) (fun _ _ => rfl)))))), ?_⟩
    have hl := hP.len
    refine ⟨Nat.le_of_lt (small_lt (by decide : 1 ≤ 100000)), fun z nz => ?_⟩
    have s1 := same_new (o := .lst [.int 0]) (Same.refl H) nz
    refine ⟨_, rfl, b, rfl, ⟨_, Same.seq s1 hB⟩, fun D nD => ?_⟩
    refine lc_val walk_list calm_at (fun i => (es[i]?).bind fun e => some (nV e.2)) (by omega) nD (fun H3 s3 => Same.seq (Same.trans s1 s3) hB) ?_ fun H3 s3 h3 => ?_
    · rintro i v H3 H4 hi s3 ⟨rfl, hv⟩ Kt kt
      obtain ⟨e, hei, t, rfl, ht⟩ := hP.get hv
      have sm : Same H H4 := Same.trans s1 s3
      refine ⟨t, _, rfl, Same.sqt sm ht, rfl, _, _, rfl, _, _, rfl, rfl, rfl, tyes ?_⟩
      refine iteT ⟨_, rfl, ?_⟩
      have k0 := kt _ (Same.refl _)
      rw [hei] at k0
      exact k0
    rw [hl, fm_range, fm_some] at h3
    have s13 : Same H H3 := Same.trans s1 s3
    have hz3 : H3 z = some (.lst [.int 0]) := s3 _ _ upd_same
    have e3 : (es.map fun e => nV e.2) = (es.map (·.2)).map nV := by rw [List.map_map]; rfl
    rw [e3] at h3
    refine ⟨z, D, _, _, rfl, rfl, hz3, h3, by rw [List.length_map, List.length_map]; exact small_sz (by show 1 + es.length ≤ 100000; omega), fun th nth => ?_⟩
    have hcat : ([V.int 0] ++ (es.map (·.2)).map nV) = (0 :: es.map (·.2)).map nV := rfl
    rw [hcat]
    have s14 := same_new (o := .lst ((0 :: es.map (·.2)).map nV)) s13 nth
    have nthh : th ≠ h := hA.ne (Same.free s13 nth)
    -- if draw > 0
    refine ⟨fun σ H' => ∃ (th' : Addr) (ts : List Nat) (x : Option V), σ = [some (.ref h), some (.ref b), some (.ref g), some (.int pl), some (.ref th'), none, none, none] ∧ Dr F0 H H' h ∧ H' th' = some (.lst (ts.map nV)) ∧ th' ≠ h ∧ 0 ∈ ts ∧ ts.length ≤ 1001 ∧ (∀ v ∈ ts, v = 0 ∨ ∃ e ∈ es, e.2 = v), ?_, ?_⟩
    · have dA := Dr.of_same hA hF s14
      refine ⟨_, rfl, h, 4, F0, rfl, by decide, small_log (by decide) (by omega), dA.sub, dA.hand, fun n H5 hn0 hn1 dd => ⟨_, _, rfl, rfl, _, rfl, ?_⟩⟩
      have d5 := dA.trans dd.dr
      have hth5 : H5 th = some (.lst ((0 :: es.map (·.2)).map nV)) := by rw [dd.rest th nthh]; exact upd_same
      have hts : ∀ v ∈ (0 :: es.map (·.2)), v = 0 ∨ ∃ e ∈ es, e.2 = v := fun v hv => by
        rcases List.mem_cons.mp hv with hv | hv
        · exact .inl hv
        · obtain ⟨e, he, rfl⟩ := List.mem_map.mp hv
          exact .inr ⟨e, he, rfl⟩
      have htl : (0 :: es.map (·.2)).length ≤ 1001 := by rw [List.length_cons, List.length_map]; omega
      by_cases hn : (0 : Int) < n
      · rw [decide_eq_true hn]
        refine iteT ⟨_, rfl, th, rfl, ⟨_, sql hth5⟩, fun D2 nD2 => ?_⟩
        have hG5 : SqL K H5 g (gs.map nV) := by
          obtain ⟨c, cells, i, r, s', k, h1, _⟩ := hA.ob
          rcases hG with (hg | ⟨o, hg⟩) | hg
          · exact .inl (.inl (d5.same _ _ (fun e => by
              subst e
              rw [hg] at h1
              have h2 := Option.some.inj h1
              injection h2 with h2
              cases gs with
              | nil => cases h2
              | cons g0 gr => injection h2 with h2 _; cases h2) hg))
          · exact .inl (.inr ⟨o, d5.same _ _ (ne_of hg h1 (by intro z; cases z)) hg⟩)
          · exact .inr hg
        refine lc_val walk_list calm_at (fun i => ((0 :: es.map (·.2))[i]?).bind fun v => if v ∈ gs then none else some (nV v)) (by rw [List.length_map]; omega) nD2 (fun H6 s6 => sql (s6 _ _ hth5)) ?_ fun H6 s6 h6 => ?_
        · rintro i v H6 H7 hi s6 ⟨rfl, hv⟩ Kt kt
          obtain ⟨u, hui, rfl⟩ := getmap hv
          refine ⟨rfl, ?_⟩
          refine ⟨_, rfl, _, rfl, g, _, rfl, .inl (Same.seq s6 hG5), rfl, flat_nats _, _, rfl, ?_⟩
          rw [if_pos rfl, inV_nats]
          have k0 := kt _ (Same.refl _)
          rw [hui] at k0
          simp only [Option.bind_some] at k0
          by_cases hm : u ∈ gs
          · rw [decide_eq_true hm]
            rw [if_pos hm] at k0
            exact iteF k0
          · rw [decide_eq_false hm]
            rw [if_neg hm] at k0
            exact iteT ⟨_, rfl, k0⟩
        rw [List.length_map, fm_range] at h6
        have e6 : ((0 :: es.map (·.2)).filterMap fun v => if v ∈ gs then none else some (nV v)) = ((0 :: es.map (·.2)).filterMap fun v => if v ∈ gs then none else some v).map nV := by
          rw [List.map_filterMap]
          congr 1
          funext v
          split <;> rfl
        rw [e6] at h6
        have d6 := d5.trans (Dr.of_same d5.hand d5.sub s6)
        refine ⟨D2, _, none, rfl, d6, h6, hA.ne (d5.free nD2), ?_, Nat.le_trans (List.length_filterMap_le _ _) htl, fun v hv => ?_⟩
        · exact List.mem_filterMap.mpr ⟨0, List.mem_cons_self, if_neg h0⟩
        · obtain ⟨u, hu, e⟩ := List.mem_filterMap.mp hv
          split at e
          · cases e
          · cases e
            exact hts _ hu
      · rw [decide_eq_false hn]
        refine iteF ?_
        exact ⟨th, _, none, rfl, d5, hth5, nthh, List.mem_cons_self, htl, hts⟩
    · rintro σ H5 ⟨th', ts, x, rfl, d5, hth5, nth5, h0t, htl, hts⟩
      have hpos : 0 < ts.length := List.length_pos_of_mem h0t
      refine ⟨_, rfl, _, rfl, _, rfl, th', _, rfl, .inl (sql hth5), h, (ts.length : Int), F0, by rw [List.length_map]; rfl, by omega, small_log (by omega) (by omega), d5.sub, d5.hand, fun n H6 hn0 hn1 dd => ?_⟩
      obtain ⟨k, rfl⟩ : ∃ k : Nat, n = (k : Int) := ⟨n.toNat, by omega⟩
      have hk : k < ts.length := by omega
      have htk : ts[k]? = some ts[k] := List.getElem?_eq_getElem hk
      refine ⟨th', _, (k : Int), nV ts[k], rfl, rfl, sql (by rw [dd.rest th' nth5]; exact hth5), atI_nat (by rw [List.getElem?_map, htk]; rfl), q _ H6 (hts _ (List.mem_of_getElem? htk)) (d5.trans dd.dr)⟩

abbrev s__law_renamed : Stmt := topS 44
abbrev sl__law_renamed : List Str := ["_law_hand_here", "_law_many", "_law_pairs", "_law_goals", "_law_number", "_law_arrows", "_law_one", "_law_other", "_law_goal"]
theorem sc__law_renamed : FnScope ["_law_hand_here", "_law_many", "_law_pairs", "_law_goals", "_law_number", "_law_arrows", "_law_one", "_law_other", "_law_goal"] ["_law_hand_here", "_law_many", "_law_pairs", "_law_goals"] (defScope s__law_renamed) := ⟨rfl, rfl, rfl, by decide +kernel, rfl, by decide +kernel, by decide +kernel⟩
/-- pairs made since H0 -/
def PairN (H0 H : Hp) (v : V) (e : Nat × Nat) : Prop := ∃ t, v = .ref t ∧ H t = some (.tup [nV e.1, nV e.2]) ∧ H0 t = none
def RelN (H0 : Hp) (G : Nat × Nat → Nat × Nat) (es : Es) (i : Nat) (H : Hp) (o : Option V) : Prop := ∃ e v, es[i]? = some e ∧ o = some v ∧ PairN H0 H v (G e)
theorem RelN.stay {H0 : Hp} {G : Nat × Nat → Nat × Nat} {es : Es} {D : Addr} (i : Nat) (o : Option V) (H H' : Hp) (acc : List V) (hD : H D = some (.lst acc)) (h : RelN H0 G es i H o)
    (k : ∀ b u, b ≠ D → H b = some u → H' b = some u) : RelN H0 G es i H' o := by
  obtain ⟨e, v, he, h1, t, rfl, ht, hn⟩ := h
  exact ⟨e, _, he, h1, t, rfl, k _ _ (ne_of ht hD (by intro z; cases z)) ht, hn⟩
theorem relN_vals {H0 H : Hp} {G : Nat × Nat → Nat × Nat} {es : Es} {os : List (Option V)} (hl : os.length = es.length) (h : ∀ (i : Nat) (o : Option V), os[i]? = some o → RelN H0 G es i H o) :
    (os.filterMap id).length = es.length ∧ ∀ (i : Nat) (v : V) (e : Nat × Nat), (os.filterMap id)[i]? = some v → es[i]? = some e → PairN H0 H v (G e) := by
  have e1 : ∃ vs : List V, os = vs.map some := by
    refine ⟨os.map fun o => o.getD .non, ?_⟩
    rw [List.map_map]
    symm
    rw [show os = os.map id by rw [List.map_id]]
    rw [List.map_map]
    refine List.map_congr_left fun o ho => ?_
    obtain ⟨i, hi⟩ := List.getElem?_of_mem ho
    obtain ⟨e, v, _, rfl, _⟩ := h i o hi
    rfl
  obtain ⟨vs, rfl⟩ := e1
  have e2 : (vs.map some).filterMap id = vs := by
    rw [List.filterMap_map]
    exact List.filterMap_some
  rw [e2]
  rw [List.length_map] at hl
  refine ⟨hl, fun i v e hv he => ?_⟩
  obtain ⟨e', v', he', hv', hp⟩ := h i (some v) (by rw [List.getElem?_map, hv]; rfl)
  rw [he] at he'
  cases he'
  cases hv'
  exact hp
theorem nd_map {f : Nat → Nat} {l : List Nat} (h : ∀ a b, a ∈ l → b ∈ l → f a = f b → a = b) (nd : l.Nodup) : (l.map f).Nodup := by
  unfold List.Nodup
  rw [List.pairwise_map]
  exact List.Pairwise.imp_of_mem (fun {a b} ha hb hab e => hab (h a b ha hb e)) nd
/-- the numbers of the places anew -/
structure Num (n : Nat) (num : List Nat) : Prop where
  len : num.length = n
  nd : num.Nodup
  lt : ∀ v ∈ num, v < n
  z : num[0]? = some 0
def pi (num : List Nat) (v : Nat) : Nat := num[v]?.getD 0
theorem Num.at_ {n : Nat} {num : List Nat} (h : Num n num) {v : Nat} (hv : v < n) : num[v]? = some (pi num v) := by
  have h1 : v < num.length := by rw [h.len]; exact hv
  unfold pi
  rw [List.getElem?_eq_getElem h1]
  rfl
theorem Num.pilt {n : Nat} {num : List Nat} (h : Num n num) {v : Nat} (hv : v < n) : pi num v < n := h.lt _ (List.mem_of_getElem? (h.at_ hv))
theorem Num.inj {n : Nat} {num : List Nat} (h : Num n num) {u v : Nat} (hu : u < n) (hv : v < n) (e : pi num u = pi num v) : u = v :=
  (List.getElem?_inj (by rw [h.len]; exact hu) h.nd).mp (by rw [h.at_ hu, h.at_ hv, e])
theorem Num.pi0 {n : Nat} {num : List Nat} (h : Num n num) : pi num 0 = 0 := by
  unfold pi
  rw [h.z]
  rfl
def ren (num : List Nat) (e : Nat × Nat) : Nat × Nat := (pi num e.1, pi num e.2)
theorem Num.rch {n : Nat} {num : List Nat} (h : Num n num) {es : Es} {v : Nat} (hr : Rch es [0] v) : Rch (es.map (ren num)) [0] (pi num v) :=
  hr.ind (P := fun v => Rch (es.map (ren num)) [0] (pi num v)) (fun v hv => by
    rw [List.mem_singleton.mp hv, h.pi0]
    exact .base List.mem_cons_self) fun u v hu e => hu.edge (List.mem_map.mpr ⟨(u, v), e, rfl⟩)
theorem num_of {n : Nat} {ys : List Nat} (hn : 2 ≤ n) (h : ys.Perm ((List.range (n - 1)).map (· + 1))) : Num n (0 :: ys) where
  len := by
    rw [List.length_cons, h.length_eq, List.length_map, List.length_range]
    omega
  nd := by
    refine List.nodup_cons.mpr ⟨fun z => ?_, ?_⟩
    · obtain ⟨k, _, e⟩ := List.mem_map.mp (h.mem_iff.mp z)
      omega
    · refine h.nodup_iff.mpr ?_
      exact nd_map (fun a b _ _ hab => by omega) List.nodup_range
  lt := fun v hv => by
    rcases List.mem_cons.mp hv with rfl | hv
    · omega
    · obtain ⟨k, hk, rfl⟩ := List.mem_map.mp (h.mem_iff.mp hv)
      have := List.mem_range.mp hk
      omega
  z := rfl
theorem Prs.dr {K : PySem.W.Frag} {F H H' : Hp} {h : Addr} {vs : List V} {es : Es} (p : Prs K H vs es) (d : Dr F H H' h) (hA : HandAt F H h) : Prs K H' vs es :=
  ⟨p.len, fun i v e a b => (p.at_ i v e a b).elim fun t ⟨h1, h2⟩ => ⟨t, h1, d.sqt hA h2⟩⟩
/-- what can be renamed to a map -/
structure RawMap (n : Nat) (es : Es) (gs : List Nat) : Prop where
  n2 : 2 ≤ n
  n40 : n ≤ 40
  l60 : es.length ≤ 60
  ok : ∀ e ∈ es, e.1 < n ∧ e.2 < n ∧ e.1 ≠ e.2
  ne : gs ≠ []
  nd : gs.Nodup
  gl : ∀ g ∈ gs, g ≠ 0 ∧ g < n
  rch : ∀ g ∈ gs, Rch es [0] g
theorem good_of {n : Nat} {num : List Nat} (N : Num n num) {es : Es} {gs gs' : List Nat} (r : RawMap n es gs) (hp : gs'.Perm (gs.map (pi num))) (hs : gs'.Pairwise (· ≤ ·)) : GoodMap n (es.map (ren num)) gs' where
  n2 := r.n2
  n40 := r.n40
  l60 := by rw [List.length_map]; exact r.l60
  ok := fun e he => by
    obtain ⟨e0, h0, rfl⟩ := List.mem_map.mp he
    obtain ⟨h1, h2, h3⟩ := r.ok e0 h0
    exact ⟨N.pilt h1, N.pilt h2, fun z => h3 (N.inj h1 h2 z)⟩
  ne := fun z => by
    rw [z] at hp
    have := hp.length_eq
    rw [List.length_map] at this
    exact r.ne (List.length_eq_zero_iff.mp this.symm)
  pw := pw_lt hs (hp.nodup_iff.mpr (nd_map (fun a b ha hb e => N.inj (r.gl a ha).2 (r.gl b hb).2 e) r.nd))
  gl := fun g hg => by
    obtain ⟨g0, h0, rfl⟩ := List.mem_map.mp (hp.mem_iff.mp hg)
    obtain ⟨h1, h2⟩ := r.gl g0 h0
    exact ⟨fun z => h1 (N.inj h2 (by have := r.n2; omega) (by rw [z, N.pi0])), N.pilt h2⟩
  rch := fun g hg => by
    obtain ⟨g0, h0, rfl⟩ := List.mem_map.mp (hp.mem_iff.mp hg)
    exact N.rch (r.rch g0 h0)

def spRenamed (K : PySem.W.Frag) : Sp := fun vs H Q _ => ∃ (h b g : Addr) (n : Nat) (pvs : List V) (es : Es) (gs : List Nat) (F : Hp), vs = [.ref h, .int (n : Int), .ref b, .ref g] ∧ H b = some (.lst pvs) ∧ b ≠ h ∧ Prs K H pvs es ∧ H g = some (.lst (gs.map nV)) ∧ g ≠ h ∧ RawMap n es gs ∧ Same F H ∧ HandAt F H h ∧
  ∀ (t a c : Addr) (pvs' : List V) (es' : Es) (gs' : List Nat) (H' : Hp), Dr F H H' h → es'.length = es.length → PtsAt K (hv F H H') t n a pvs' es' c gs' → Q (.ref t) H'
theorem ok__law_renamed (B : Bt mg) (h_law_shuffled : Has P w K mg base "_law_shuffled" 2 ["_law_hand_here", "_law_things"] (spShuffled K)) (D0 : Df K mg "_law_renamed" s__law_renamed ["_law_hand_here", "_law_many", "_law_pairs", "_law_goals"]) : Has P w K mg base "_law_renamed" 3 ["_law_hand_here", "_law_many", "_law_pairs", "_law_goals"] (spRenamed K) := by
  refine D0.has fun f fd F => F.ok sc__law_renamed (fun vs H Q E h => ?_) (fun cdv A outer s H vs Q E hr h => ?_)
  · obtain ⟨h, b, g, n, pvs, es, gs, F, rfl, _⟩ := h
    rfl
  · obtain ⟨h, b, g, n, pvs, es, gs, F0, rfl, hB, nbh, hP, hG, ngh, rm, hF, hA, q⟩ := h
    refine ⟨_, (pss_cons (ps_set (i := 4) sc__law_renamed.nd rfl (.inr rfl) (pe_op op_cat (pe_lst (pa_cons pe_int pa_nil)) (pcall h_law_shuffled hr (by decide) (by rfl) (pa_cons (pv 0) (pa_cons (pe_listRg rfl (by rfl) B.list (prg_2 (by rfl) B.range pe_int (pv 1))) pa_nil)))))
  (pss_cons (ps_set (i := 5) sc__law_renamed.nd rfl (.inl rfl) (pe_callTy (k_tuple (K := K) rfl) (by rfl) B.tuple bo_tuple (pa_cons (pe_lc (own := [("_law_one", 6), ("_law_other", 7)]) (g := gTup K 2 (gCons (gName 6) (gCons (gName 7) gNil))) rfl sc__law_renamed.nd (k_pil (K := K) rfl (pv 2)) (blkOk_by (N := sl__law_renamed) (sc := defScope s__law_renamed) (by decide +kernel)) (fun _ _ _ _ _ => (pg_tup rfl (pgs_cons (pg_name (i := 6) sc__law_renamed.nd rfl (.inl rfl)) (pgs_cons (pg_name (i := 7) sc__law_renamed.nd rfl (.inl rfl)) pgs_nil)))) (fun _ _ _ _ _ => pts_nil) (fun _ _ _ _ _ => (pe_tup (pa_cons (pe_ix (k_ixl (K := K) rfl) (pv 4) (pv 6) (fun _ _ => rfl)) (pa_cons (pe_ix (k_ixl (K := K) rfl) (pv 4) (pv 7) (fun _ _ => rfl)) pa_nil))))) pa_nil)))
  (pss_one (ps_ret (pe_tup (pa_cons (pv 1) (pa_cons (pv 5) (pa_cons (pe_callTy (k_tuple (K := K) rfl) (by rfl) B.tuple bo_tuple (pa_cons (pe_callB (k_sorted (K := K) rfl) (by rfl) B.sorted bo_sorted (pa_cons (pe_lc (own := [("_law_goal", 8)]) (g := gName 8) rfl sc__law_renamed.nd (k_pil (K := K) rfl (pv 3)) (blkOk_by (N := sl__law_renamed) (sc := defScope s__law_renamed) (by decide +kernel)) (fun _ _ _ _ _ => (pg_name (i := 8) sc__law_renamed.nd rfl (.inl rfl))) (fun _ _ _ _ _ => pts_nil) (fun _ _ _ _ _ => (pe_ix (k_ixl (K := K) rfl) (pv 4) (pv 8) (fun _ _ => rfl)))) pa_nil)) pa_nil)) pa_nil)))))))), ?_⟩
    have hl := hP.len
    have rn2 := rm.n2
    have rn40 := rm.n40
    have r60 := rm.l60
    -- number
    refine ⟨Nat.le_of_lt (small_lt (by decide : 1 ≤ 100000)), fun z nz => ⟨_, rfl, _, rfl, _, (n : Int), rfl, rfl, ⟨by omega, by omega, by omega, by omega, by omega⟩, fun r nr => ?_⟩⟩
    have s1 := same_new (o := .lst [.int 0]) (Same.refl H) nz
    have s2 := same_new (o := .lst (rgV 1 (n : Int))) s1 nr
    have d2 := Dr.of_same hA hF s2
    have nzh : z ≠ h := hA.ne nz
    refine ⟨h, r, _, F0, rfl, .inl (sql upd_same), by rw [rgV_length]; omega, d2.sub, d2.hand, fun p H3 ysv hperm d3 np hp3 => ?_⟩
    have d23 := d2.trans d3
    rw [rgV1] at hperm
    obtain ⟨ys, rfl, hys⟩ := perm_nats hperm
    have N := num_of rn2 hys
    have hz3 : H3 z = some (.lst [.int 0]) := d3.same z _ nzh (by rw [upd_ne (ne_of_none upd_same nr), upd_same])
    refine ⟨z, p, _, _, rfl, rfl, hz3, hp3, by rw [List.length_map]; have := N.len; rw [List.length_cons] at this; exact small_sz (by show 1 + ys.length ≤ 100000; omega), fun nm nnm => ?_⟩
    have hcat : ([V.int 0] ++ ys.map nV) = (0 :: ys).map nV := rfl
    rw [hcat]
    generalize 0 :: ys = num at N ⊢
    have d4 := d23.trans (Dr.of_same d23.hand d23.sub (same_new (o := .lst (num.map nV)) (Same.refl H3) nnm))
    have nnm0 : H nm = none := d23.free nnm
    have nnmh : nm ≠ h := hA.ne nnm0
    generalize hH4 : upd H3 nm (.lst (num.map nV)) = H4 at d4
    have hnm4 : H4 nm = some (.lst (num.map nV)) := by rw [← hH4]; exact upd_same
    have hB4 := d4.same b _ nbh hB
    have hG4 := d4.same g _ ngh hG
    have hP4 := hP.dr d4 hA
    -- arrows
    refine ⟨_, rfl, b, rfl, ⟨_, sql hB4⟩, fun D nD => ?_⟩
    refine lc_rel walk_list calm_at (RelN H (ren num) es) RelN.stay (by omega) nD (fun H5 s5 => sql (s5 _ _ hB4)) ?_ fun H5 os s5 hol hos hD5 => ?_
    · rintro i v H5 H6 hi s5 ⟨rfl, hv⟩ Kt kt
      obtain ⟨e, hei, tt, rfl, ht⟩ := hP4.get hv
      obtain ⟨e1, e2⟩ := e
      obtain ⟨h1, h2, _⟩ := rm.ok _ (List.mem_of_getElem? hei)
      have hnm5 := s5 _ _ hnm4
      refine ⟨tt, _, rfl, Same.sqt s5 ht, rfl, _, _, rfl, _, _, rfl, rfl, rfl, tyes ?_⟩
      refine iteT ?_
      refine ⟨_, rfl, _, rfl, nm, _, (e1 : Int), nV (pi num e1), rfl, rfl, sql hnm5, atI_nat (by rw [List.getElem?_map, N.at_ h1]; rfl), _, rfl, _, rfl, nm, _, (e2 : Int), nV (pi num e2), rfl, rfl, sql hnm5, atI_nat (by rw [List.getElem?_map, N.at_ h2]; rfl), by show 2 ≤ sizeLine; decide, fun t2 nt2 => ?_⟩
      refine kt _ _ (same_new (Same.refl _) nt2) ⟨(e1, e2), _, hei, rfl, t2, rfl, upd_same, ?_⟩
      exact d4.free (Same.free s5 nt2)
    obtain ⟨hvl, hva⟩ := relN_vals (hol.trans hl) hos
    generalize os.filterMap id = pvs2 at hD5 hvl hva
    have d5 := d4.trans (Dr.of_same d4.hand d4.sub s5)
    refine ⟨D, _, rfl, .inl ⟨sql hD5, fun ar nar => ?_⟩⟩
    have nar0 : H ar = none := d5.free nar
    have s6 := same_new (o := .tup pvs2) (Same.refl H5) nar
    have d6 := d5.trans (Dr.of_same d5.hand d5.sub s6)
    generalize hH6 : upd H5 ar (.tup pvs2) = H6 at d6 s6
    have har6 : H6 ar = some (.tup pvs2) := by rw [← hH6]; exact upd_same
    have hG6 := d6.same g _ ngh hG
    have hnm6 : H6 nm = some (.lst (num.map nV)) := s6 _ _ (s5 _ _ hnm4)
    -- the goals, sorted
    refine ⟨_, rfl, _, rfl, _, rfl, g, rfl, ⟨_, sql hG6⟩, fun D2 nD2 => ?_⟩
    have hgl : gs.length ≤ n := nodup_le rm.nd fun x hx => (rm.gl x hx).2
    refine lc_val (walk_list (xs := gs.map nV)) calm_at (fun i => (gs[i]?).bind fun g => some (nV (pi num g))) (by rw [List.length_map]; omega) nD2 (fun H7 s7 => sql (s7 _ _ hG6)) ?_ fun H7 s7 h7 => ?_
    · rintro i v H7 H8 hi s7 ⟨rfl, hv⟩ Kt kt
      obtain ⟨x, hxi, rfl⟩ := getmap hv
      have hxn := (rm.gl x (List.mem_of_getElem? hxi)).2
      refine ⟨rfl, tyes ?_⟩
      refine iteT ?_
      refine ⟨_, rfl, _, rfl, nm, _, (x : Int), nV (pi num x), rfl, rfl, sql (s7 _ _ hnm6), atI_nat (by rw [List.getElem?_map, N.at_ hxn]; rfl), ?_⟩
      have k0 := kt _ (Same.refl _)
      rw [hxi] at k0
      exact k0
    rw [List.length_map, fm_range, fm_some] at h7
    refine ⟨D2, (gs.map (pi num)).map fun (n : Nat) => (n : Int), rfl, sql (by rw [h7, List.map_map, List.map_map]; rfl), fun ns so hpm hpw nso => ?_⟩
    obtain ⟨gs', hgs', hgp, hgw⟩ := sort_nats hpm hpw
    rw [hgs']
    refine ⟨so, _, rfl, .inl ⟨sql upd_same, fun c nc => ⟨Nat.le_of_lt (small_lt (by decide : 3 ≤ 100000)), fun t nt => ?_⟩⟩⟩
    have s8 := same_new (o := .tup [.int (n : Int), .ref ar, .ref c]) (same_new (o := .tup (gs'.map nV)) (same_new (o := .lst (gs'.map nV)) (Same.trans (Same.refl H6) s7) nso) nc) nt
    have d8 := d6.trans (Dr.of_same d6.hand d6.sub s8)
    have nc0 : H c = none := d6.free (Same.free s7 (Same.free (same_new (o := .lst (gs'.map nV)) (Same.refl H7) nso) nc))
    have nt0 : H t = none := d6.free (Same.free (same_new (o := .tup (gs'.map nV)) (same_new (o := .lst (gs'.map nV)) s7 nso) nc) nt)
    have nct : c ≠ t := ne_of_none upd_same nt
    refine q t ar c pvs2 (es.map (ren num)) gs' _ d8 (List.length_map _) ⟨?_, ?_, ⟨?_, fun i v e hv he => ?_⟩, ?_, good_of N rm hgp hgw⟩
    · exact sqt (hv_new hF nt0 upd_same)
    · exact sqt (hv_new hF nar0 (s8 _ _ har6))
    · rw [List.length_map, hvl]
    · rw [List.getElem?_map] at he
      cases he0 : es[i]? with
      | none => rw [he0] at he; cases he
      | some e0 =>
        rw [he0] at he
        cases he
        obtain ⟨tt, rfl, ht, hn⟩ := hva i v e0 hv he0
        exact ⟨tt, rfl, sqt (hv_new hF hn (s8 _ _ (s6 _ _ ht)))⟩
    · exact sqt (hv_new hF nc0 (by rw [upd_ne nct, upd_same]))

abbrev s_great_map : Stmt := topS 28
abbrev sl_great_map : List Str := ["many", "arrows", "goals", "chart"]
theorem sc_great_map : FnScope ["many", "arrows", "goals", "chart"] ["many", "arrows", "goals"] (defScope s_great_map) := ⟨rfl, rfl, rfl, by decide +kernel, rfl, by decide +kernel, by decide +kernel⟩
def spGreat (K : PySem.W.Frag) (C : Addr) : Sp := fun vs H Q _ => ∃ (n : Nat) (a : Addr) (pvs : List V) (c : Addr) (gs : List Nat), vs = [nV n, .ref a, .ref c] ∧ SqT K H a pvs ∧ SqT K H c (gs.map nV) ∧ ∀ p H', MapAt K C H' p n a pvs c gs → Same H H' → Q (.ref p) H'
theorem mapF_set (n m : Nat) (a b c e : Addr) : putF "_goals" (.ref e) (putF "_arrows" (.ref b) (putF "_many" (nV m) (mapF n a c))) = mapF m b e := by
  simp [mapF, putF, kn1, kn2, kn3]
theorem ok_great_map {CMap : Addr} (C : MapC K mg CMap) (h_init : HasI P w K mg base CMap 5 ["self", "many", "arrows", "goals"] (spMapInit K CMap)) (D0 : Df K mg "great_map" s_great_map ["many", "arrows", "goals"]) : Has P w K mg base "great_map" 7 ["many", "arrows", "goals"] (spGreat K CMap) := by
  refine D0.has fun f fd F => F.ok sc_great_map (fun vs H Q E h => ?_) (fun cdv A outer s H vs Q E hr h => ?_)
  · obtain ⟨n, a, pvs, c, gs, rfl, _⟩ := h
    rfl
  · obtain ⟨n, a, pvs, c, gs, rfl, hA, hG, q⟩ := h
    refine ⟨_, (pss_cons (ps_set (i := 3) sc_great_map.nd rfl (.inl rfl) (pe_make h_init.m h_init.F (hr.mono (by decide)) (by rfl) C.mgMap h_init.b .nil pass0 (pa_cons pe_int (pa_cons (pe_tup (pa_cons (pe_tup (pa_cons pe_int (pa_cons pe_int pa_nil))) pa_nil)) (pa_cons (pe_tup (pa_cons pe_int pa_nil)) pa_nil)))))
  (pss_cons (ps_fld (pv 3) (pv 0) rfl)
  (pss_cons (ps_fld (pv 3) (pv 1) rfl)
  (pss_cons (ps_fld (pv 3) (pv 2) rfl)
  (pss_one (ps_ret (pv 3))))))), ?_⟩
    refine ⟨by decide +kernel, fun t1 u1 => ⟨by show 1 ≤ sizeLine; decide +kernel, fun t2 u2 => ⟨by decide +kernel, fun t3 u3 p dx np ndx nedx => ?_⟩⟩⟩
    have nw : ∀ {H : Hp} {t : Addr} {o : HO} (u : H t = none), Same H (upd H t o) := fun u b o e => by rw [upd_ne (ne_of_none e u)]; exact e
    have e1 : Same H (upd (upd (upd H t1 (.tup [.int 0, .int 1])) t2 (.tup [.ref t1])) t3 (.tup [.int 1])) := fun b o e => nw u3 _ _ (nw u2 _ _ (nw u1 _ _ e))
    have n23 : t1 ≠ t2 := fun e => by
      subst e
      rw [upd_same] at u2
      cases u2
    have n13 : t1 ≠ t3 := fun e => by
      subst e
      rw [upd_ne n23, upd_same] at u3
      cases u3
    have n33 : t2 ≠ t3 := fun e => by
      subst e
      rw [upd_same] at u3
      cases u3
    have s5 : Same (upd (upd (upd H t1 (.tup [.int 0, .int 1])) t2 (.tup [.ref t1])) t3 (.tup [.int 1])) (upd (upd (upd (upd (upd H t1 (.tup [.int 0, .int 1])) t2 (.tup [.ref t1])) t3 (.tup [.int 1])) dx (.own p)) p (.ins CMap dx [])) := fun b o e => by
      rw [upd_ne (ne_of_none e np), upd_ne (ne_of_none e ndx)]
      exact e
    have h1 : (upd (upd (upd H t1 (.tup [.int 0, .int 1])) t2 (.tup [.ref t1])) t3 (.tup [.int 1])) t1 = some (.tup [.int 0, .int 1]) := by rw [upd_ne n13, upd_ne n23, upd_same]
    have h2 : (upd (upd (upd H t1 (.tup [.int 0, .int 1])) t2 (.tup [.ref t1])) t3 (.tup [.int 1])) t2 = some (.tup [.ref t1]) := by rw [upd_ne n33, upd_same]
    refine ⟨p, dx, 2, t2, [.ref t1], [(0, 1)], t3, [1], rfl, upd_same, .inl (.inl (s5 _ _ h2)), ?_, .inl (.inl (s5 _ _ upd_same)), ⟨by decide, by decide, by decide, by decide, by decide, by decide, by decide, ?_⟩, fun H1 m keep => ⟨rfl, ?_⟩⟩
    · refine ⟨rfl, fun i v e a b => ?_⟩
      cases i with
      | zero =>
        cases a
        cases b
        exact ⟨t1, rfl, .inl (.inl (s5 _ _ h1))⟩
      | succ i => cases a
    · intro g hg
      rw [List.mem_singleton.mp hg]
      exact ⟨1, .inr ⟨0, List.mem_singleton.mpr rfl, List.mem_singleton.mpr rfl⟩⟩
    have s01 : Same H H1 := fun b o e => keep b o (ne_of_none (e1 _ _ e) np) (s5 _ _ (e1 _ _ e))
    obtain ⟨dy, hp⟩ := m.ob
    refine ⟨_, rfl, _, rfl, p, CMap, dy, _, rfl, hp, C.cl, C.n1, by show 3 < 1000; decide, ?_⟩
    refine ⟨_, rfl, _, rfl, p, CMap, dy, _, rfl, upd_same, C.cl, C.n2, by show 3 < 1000; decide, ?_⟩
    refine ⟨_, rfl, _, rfl, p, CMap, dy, _, rfl, upd_same, C.cl, C.n3, by show 3 < 1000; decide, ?_⟩
    rw [upd_upd, upd_upd]
    rw [mapF_set]
    have sE : Same H (upd H1 p (.ins CMap dy (mapF n a c))) := fun b o e => by
      rw [upd_ne (ne_of_none (e1 _ _ e) np)]
      exact s01 _ _ e
    exact ⟨_, rfl, q p _ ⟨⟨dy, upd_same⟩, Same.sqt sE hA, Same.sqt sE hG⟩ sE⟩

abbrev s_check_one_goal : Stmt := topS 36
abbrev sl_check_one_goal : List Str := ["chart"]
theorem sc_check_one_goal : FnScope ["chart"] ["chart"] (defScope s_check_one_goal) := ⟨rfl, rfl, rfl, by decide +kernel, rfl, by decide +kernel, by decide +kernel⟩
def spOneGoal (K : PySem.W.Frag) (C : Addr) : Sp := fun vs H Q _ => ∃ (p : Addr) (n : Nat) (a : Addr) (pvs : List V) (c : Addr) (g : Nat), vs = [.ref p] ∧ MapAt K C H p n a pvs c [g] ∧ Q .non H
theorem ok_check_one_goal {CMap : Addr} (B : Bt mg) (C : MapC K mg CMap) (h_goals : HasM P w K mg base CMap "goals" 1 ["self"] (spGoals K CMap)) (D0 : Df K mg "check_one_goal" s_check_one_goal ["chart"]) : Has P w K mg base "check_one_goal" 2 ["chart"] (spOneGoal K CMap) := by
  refine D0.has fun f fd F => F.ok sc_check_one_goal (fun vs H Q E h => ?_) (fun cdv A outer s H vs Q E hr h => ?_)
  · obtain ⟨p, n, a, pvs, c, g, rfl, _⟩ := h
    rfl
  · obtain ⟨p, n, a, pvs, c, g, rfl, m, q⟩ := h
    refine ⟨_, (pss_one (ps_if (pt_cmpR op_ne (pe_callB (k_len (K := K) rfl) (by rfl) B.len bo_len (pa_cons (pe_meth0 (pv 0) C.cl h_goals.mt h_goals.F (hr.mono (by decide)) h_goals.b .nil pass0) pa_nil)) pe_int (nomark _))
    (pss_one ps_never)
    pss_nil)), ?_⟩
    obtain ⟨dx, hp⟩ := m.ob
    refine ⟨_, rfl, p, dx, _, rfl, hp, mapF_goals _ _ _, p, n, a, pvs, c, [g], rfl, m, ?_⟩
    exact ⟨c, [nV g], rfl, .inr m.go, rfl, _, rfl, iteF q⟩

def spManyGoals (K : PySem.W.Frag) (C CX : Addr) : Sp := fun vs H Q E => ∃ (p : Addr) (n : Nat) (a : Addr) (pvs : List V) (c : Addr) (gs : List Nat), vs = [.ref p] ∧ MapAt K C H p n a pvs c gs ∧ 1 < gs.length ∧ E (.ref CX) none H
theorem okx_check_one_goal {CMap CManyGoals : Addr} (B : Bt mg) (C : MapC K mg CMap) (T_ManyGoals : Ex K mg "ManyGoals" CManyGoals) (h_check_one_goal : Has P w K mg base "check_one_goal" 2 ["chart"] (spOneGoal K CMap)) (h_goals : HasM P w K mg base CMap "goals" 1 ["self"] (spGoals K CMap)) (D0 : Df K mg "check_one_goal" s_check_one_goal ["chart"]) : HasX P w K mg base "check_one_goal" 2 ["chart"] (spOr (spOneGoal K CMap) (spManyGoals K CMap CManyGoals)) := by
  refine h_check_one_goal.or (D0.hasX fun f fd F => F.okX sc_check_one_goal (fun vs H Q E h => ?_) (fun cdv A outer s H vs Q E hr h => ?_))
  · obtain ⟨p, n, a, pvs, c, gs, rfl, _⟩ := h
    rfl
  · obtain ⟨p, n, a, pvs, c, gs, rfl, m, l1, q⟩ := h
    refine ⟨_, (pss_one (ps_if (pt_cmpR op_ne (pe_callB (k_len (K := K) rfl) (by rfl) B.len bo_len (pa_cons (pe_meth0 (pv 0) C.cl h_goals.mt h_goals.F (hr.mono (by decide)) h_goals.b .nil pass0) pa_nil)) pe_int (nomark _))
    (pss_one (ps_raise0 T_ManyGoals rfl (takes_of rfl rfl rfl rfl) (by rfl)))
    pss_nil)), ?_⟩
    obtain ⟨dx, hp⟩ := m.ob
    refine ⟨_, rfl, p, dx, _, rfl, hp, mapF_goals _ _ _, p, n, a, pvs, c, gs, rfl, m, ?_⟩
    refine ⟨c, gs.map nV, rfl, .inr m.go, rfl, _, rfl, ?_⟩
    rw [List.length_map, decide_eq_false (show ¬ V.int (gs.length : Int) = V.int 1 from fun z => by
      injection z with z
      omega)]
    exact iteT q

abbrev s_turned : Stmt := topS 35
abbrev sl_turned : List Str := ["chart", "goal", "new", "arrows", "tail", "head"]
theorem sc_turned : FnScope ["chart", "goal", "new", "arrows", "tail", "head"] ["chart"] (defScope s_turned) := ⟨rfl, rfl, rfl, by decide +kernel, rfl, by decide +kernel, by decide +kernel⟩
/-- places turned: 0 and g change -/
def swq (g v : Nat) : Nat := if v = 0 then g else if v = g then 0 else v
def trn (g : Nat) (e : Nat × Nat) : Nat × Nat := (swq g e.2, swq g e.1)
def spTurned (K : PySem.W.Frag) (C : Addr) : Sp := fun vs H Q _ => ∃ (p : Addr) (n : Nat) (a : Addr) (pvs : List V) (es : Es) (c : Addr) (g : Nat), vs = [.ref p] ∧ MapOk K C H p n a pvs es c [g] ∧
  ∀ (p' a' c' : Addr) (pvs' : List V) (H' : Hp), Same H H' → MapOk K C H' p' n a' pvs' (es.map (trn g)) c' [g] → Q (.ref p') H'
theorem swq_lt {g n v : Nat} (hg : g < n) (hv : v < n) : swq g v < n := by
  unfold swq
  split
  · exact hg
  · split
    · omega
    · exact hv
theorem swq_row {g n : Nat} (gn : g < n) : (((List.range n).map nV).set 0 (nV g)).set g (V.int 0) = (List.range n).map fun v => nV (swq g v) := by
  apply List.ext_getElem?
  intro i
  rw [List.getElem?_set, List.getElem?_set, List.getElem?_map, List.getElem?_map, List.length_set, List.length_map, List.length_range]
  by_cases hi : i < n
  · rw [List.getElem?_range hi, Option.map_some, Option.map_some]
    unfold swq
    by_cases h1 : g = i
    · subst h1
      rw [if_pos rfl, if_pos gn]
      by_cases h0 : g = 0
      · rw [if_pos h0, h0]
        rfl
      · rw [if_neg h0, if_pos rfl]
        rfl
    · rw [if_neg h1]
      by_cases h0 : 0 = i
      · rw [if_pos h0, if_pos (by omega), if_pos h0.symm]
      · rw [if_neg h0, if_neg (fun z => h0 z.symm), if_neg (fun z => h1 z.symm)]
  · rw [List.getElem?_eq_none (by rw [List.length_range]; omega)]
    rw [if_neg (by omega)]
    by_cases h0 : 0 = i
    · omega
    · rw [if_neg h0]
      rfl
theorem ok_turned {CMap : Addr} (B : Bt mg) (C : MapC K mg CMap) (h_many : HasM P w K mg base CMap "many" 1 ["self"] (spMany K CMap)) (h_arrows : HasM P w K mg base CMap "arrows" 1 ["self"] (spArrows K CMap)) (h_goals : HasM P w K mg base CMap "goals" 1 ["self"] (spGoals K CMap))
    (h_check_one_goal : Has P w K mg base "check_one_goal" 2 ["chart"] (spOneGoal K CMap)) (h_great_map : Has P w K mg base "great_map" 7 ["many", "arrows", "goals"] (spGreat K CMap)) (D0 : Df K mg "turned" s_turned ["chart"]) : Has P w K mg base "turned" 8 ["chart"] (spTurned K CMap) := by
  refine D0.has fun f fd F => F.ok sc_turned (fun vs H Q E h => ?_) (fun cdv A outer s H vs Q E hr h => ?_)
  · obtain ⟨p, n, a, pvs, es, c, g, rfl, _⟩ := h
    rfl
  · obtain ⟨p, n, a, pvs, es, c, g, rfl, m, q⟩ := h
    refine ⟨_, (pss_cons (ps_expr (pcall h_check_one_goal hr (by decide) (by rfl) (pa_cons (pv 0) pa_nil)))
  (pss_cons (ps_set (i := 1) sc_turned.nd rfl (.inl rfl) (pe_ix (k_ixt (K := K) rfl) (pe_meth0 (pv 0) C.cl h_goals.mt h_goals.F (hr.mono (by decide)) h_goals.b .nil pass0) pe_int (fun _ _ => rfl)))
  (pss_cons (ps_set (i := 2) sc_turned.nd rfl (.inr rfl) (pe_listRg rfl (by rfl) B.list (prg_1 (by rfl) B.range (pe_meth0 (pv 0) C.cl h_many.mt h_many.F (hr.mono (by decide)) h_many.b .nil pass0))))
  (pss_cons (ps_asg (pv 1) (pg_sub (pv 2) pe_int set_list))
  (pss_cons (ps_asg pe_int (pg_sub (pv 2) (pv 1) set_list))
  (pss_cons (ps_set (i := 3) sc_turned.nd rfl (.inl rfl) (pe_callTy (k_tuple (K := K) rfl) (by rfl) B.tuple bo_tuple (pa_cons (pe_lc (own := [("tail", 4), ("head", 5)]) (g := gTup K 2 (gCons (gName 4) (gCons (gName 5) gNil))) rfl sc_turned.nd (k_pit (K := K) rfl (pe_meth0 (pv 0) C.cl h_arrows.mt h_arrows.F (hr.mono (by decide)) h_arrows.b .nil pass0)) (blkOk_by (N := sl_turned) (sc := defScope s_turned) (by decide +kernel)) (fun _ _ _ _ _ => (pg_tup rfl (pgs_cons (pg_name (i := 4) sc_turned.nd rfl (.inl rfl)) (pgs_cons (pg_name (i := 5) sc_turned.nd rfl (.inl rfl)) pgs_nil)))) (fun _ _ _ _ _ => pts_nil) (fun _ _ _ _ _ => (pe_tup (pa_cons (pe_ix (k_ixl (K := K) rfl) (pv 2) (pv 5) (fun _ _ => rfl)) (pa_cons (pe_ix (k_ixl (K := K) rfl) (pv 2) (pv 4) (fun _ _ => rfl)) pa_nil))))) pa_nil)))
  (pss_one (ps_ret (pcall h_great_map hr (by decide) (by rfl) (pa_cons (pe_meth0 (pv 0) C.cl h_many.mt h_many.F (hr.mono (by decide)) h_many.b .nil pass0) (pa_cons (pv 3) (pa_cons (pe_tup (pa_cons (pv 1) pa_nil)) pa_nil)))))))))))), ?_⟩
    obtain ⟨dx, hp⟩ := m.at_.ob
    have gn := m.gl g List.mem_cons_self
    have n1 := m.n1
    refine ⟨_, rfl, p, n, a, pvs, c, g, rfl, m.at_, ?_⟩
    refine ⟨_, rfl, p, dx, _, rfl, hp, mapF_goals _ _ _, p, n, a, pvs, c, [g], rfl, m.at_, c, _, (0 : Nat), nV g, rfl, rfl, m.at_.go, atI_nat rfl, ?_⟩
    refine ⟨_, rfl, p, dx, _, rfl, hp, mapF_many _ _ _, p, n, a, pvs, c, [g], rfl, m.at_, ?_⟩
    refine ⟨_, rfl, ⟨by omega, by omega, by omega, by omega, by omega⟩, fun r nr => ?_⟩
    have hr1 : (upd H r (.lst (rgV 0 (n : Int)))) r = some (.lst (rgV 0 (n : Int))) := upd_same
    have n0 := m.n0
    rw [rgV0] at *
    refine ⟨_, rfl, _, rfl, r, _, ((0 : Nat) : Int), 0, rfl, rfl, upd_same, ixN_nat (by rw [List.length_map, List.length_range]; exact n0), ?_⟩
    refine ⟨_, rfl, _, rfl, r, _, (g : Int), g, rfl, rfl, upd_same, ixN_nat (by rw [List.length_set, List.length_map, List.length_range]; exact gn), ?_⟩
    rw [upd_upd, upd_upd]
    rw [swq_row gn]
    have s1 := same_new (o := .lst ((List.range n).map fun v => nV (swq g v))) (Same.refl H) nr
    generalize hH1 : upd H r (.lst ((List.range n).map fun v => nV (swq g v))) = H1 at s1
    have hr' : H1 r = some (.lst ((List.range n).map fun v => nV (swq g v))) := by rw [← hH1]; exact upd_same
    have m1 := m.same s1
    obtain ⟨dx1, hp1⟩ := m1.at_.ob
    have hl := m1.pr.len
    have hel := m1.el
    refine ⟨_, rfl, p, dx1, _, rfl, hp1, mapF_arrows _ _ _, p, n, a, pvs, c, [g], rfl, m1.at_, a, rfl, ⟨_, m1.at_.ar⟩, fun D nD => ?_⟩
    refine lc_rel walk_tup calm_at (RelN H (trn g) es) RelN.stay (by omega) nD (fun H5 s5 => Same.sqt s5 m1.at_.ar) ?_ fun H5 os s5 hol hos hD5 => ?_
    · rintro i v H5 H6 hi s5 ⟨rfl, hv⟩ Kt kt
      obtain ⟨e, hei, tt, rfl, ht⟩ := m1.pr.get hv
      obtain ⟨e1, e2⟩ := e
      obtain ⟨h1, h2⟩ := m.ok _ (List.mem_of_getElem? hei)
      have hr5 := s5 _ _ hr'
      have at1 : ∀ {v : Nat}, v < n → ((List.range n).map fun v => nV (swq g v))[v]? = some (nV (swq g v)) := fun {v} hv => by rw [List.getElem?_map, List.getElem?_range hv]; rfl
      refine ⟨tt, _, rfl, Same.sqt s5 ht, rfl, _, _, rfl, _, _, rfl, rfl, rfl, tyes ?_⟩
      refine iteT ?_
      refine ⟨_, rfl, _, rfl, r, _, (e2 : Int), nV (swq g e2), rfl, rfl, sql hr5, atI_nat (at1 h2), _, rfl, _, rfl, r, _, (e1 : Int), nV (swq g e1), rfl, rfl, sql hr5, atI_nat (at1 h1), by show 2 ≤ sizeLine; decide, fun t2 nt2 => ?_⟩
      refine kt _ _ (same_new (Same.refl _) nt2) ⟨(e1, e2), _, hei, rfl, t2, rfl, upd_same, ?_⟩
      exact Same.free s1 (Same.free s5 nt2)
    obtain ⟨hvl, hva⟩ := relN_vals (hol.trans hl) hos
    generalize os.filterMap id = pvs2 at hD5 hvl hva
    refine ⟨D, _, rfl, .inl ⟨sql hD5, fun ar nar => ?_⟩⟩
    have s56 := same_new (o := .tup pvs2) (Same.refl H5) nar
    have s6 := Same.trans (Same.trans s1 s5) s56
    have har6 : (upd H5 ar (.tup pvs2)) ar = some (.tup pvs2) := upd_same
    generalize upd H5 ar (.tup pvs2) = H6 at s6 s56 har6
    have m6 := m.same s6
    obtain ⟨dx6, hp6⟩ := m6.at_.ob
    refine ⟨_, rfl, p, dx6, _, rfl, hp6, mapF_many _ _ _, p, n, a, pvs, c, [g], rfl, m6.at_, _, rfl, _, rfl, by show 1 ≤ sizeLine; decide, fun cc ncc => ?_⟩
    have s7 := same_new (o := .tup [nV g]) (Same.refl H6) ncc
    refine ⟨n, ar, pvs2, cc, [g], rfl, sqt (s7 _ _ har6), sqt upd_same, fun p' H8 m8 s8 => ?_⟩
    refine q p' ar cc pvs2 H8 (s6.trans (s7.trans s8)) ⟨m8, ⟨by rw [List.length_map, hvl], fun i v e hv he => ?_⟩, m.n0, m.n1, by rw [List.length_map]; exact m.el, m.gn, fun e he => ?_, m.gl⟩
    · rw [List.getElem?_map] at he
      cases he0 : es[i]? with
      | none => rw [he0] at he; cases he
      | some e0 =>
        rw [he0] at he
        cases he
        obtain ⟨tt, rfl, ht, hn⟩ := hva i v e0 hv he0
        exact ⟨tt, rfl, sqt (s8 _ _ (s7 _ _ (s56 _ _ ht)))⟩
    · obtain ⟨e0, h0, rfl⟩ := List.mem_map.mp he
      obtain ⟨h1, h2⟩ := m.ok _ h0
      exact ⟨swq_lt gn h2, swq_lt gn h1⟩

theorem okx_turned {CMap CManyGoals : Addr} (B : Bt mg) (C : MapC K mg CMap) (h_turned : Has P w K mg base "turned" 8 ["chart"] (spTurned K CMap)) (h_many : HasM P w K mg base CMap "many" 1 ["self"] (spMany K CMap)) (h_arrows : HasM P w K mg base CMap "arrows" 1 ["self"] (spArrows K CMap)) (h_goals : HasM P w K mg base CMap "goals" 1 ["self"] (spGoals K CMap))
    (hX_check_one_goal : HasX P w K mg base "check_one_goal" 2 ["chart"] (spOr (spOneGoal K CMap) (spManyGoals K CMap CManyGoals))) (h_great_map : Has P w K mg base "great_map" 7 ["many", "arrows", "goals"] (spGreat K CMap)) (D0 : Df K mg "turned" s_turned ["chart"]) : HasX P w K mg base "turned" 8 ["chart"] (spOr (spTurned K CMap) (spManyGoals K CMap CManyGoals)) := by
  refine h_turned.or (D0.hasX fun f fd F => F.okX sc_turned (fun vs H Q E h => ?_) (fun cdv A outer s H vs Q E hr h => ?_))
  · obtain ⟨p, n, a, pvs, c, gs, rfl, _⟩ := h
    rfl
  · refine ⟨_, (pss_cons (ps_expr (pcallS hX_check_one_goal hr (by decide) (by rfl) (takes_of rfl rfl rfl rfl) (pa_cons (pv 0) pa_nil)))
  (pss_cons (ps_set (i := 1) sc_turned.nd rfl (.inl rfl) (pe_ix (k_ixt (K := K) rfl) (pe_meth0 (pv 0) C.cl h_goals.mt h_goals.F (hr.mono (by decide)) h_goals.b .nil pass0) pe_int (fun _ _ => rfl)))
  (pss_cons (ps_set (i := 2) sc_turned.nd rfl (.inr rfl) (pe_listRg rfl (by rfl) B.list (prg_1 (by rfl) B.range (pe_meth0 (pv 0) C.cl h_many.mt h_many.F (hr.mono (by decide)) h_many.b .nil pass0))))
  (pss_cons (ps_asg (pv 1) (pg_sub (pv 2) pe_int set_list))
  (pss_cons (ps_asg pe_int (pg_sub (pv 2) (pv 1) set_list))
  (pss_cons (ps_set (i := 3) sc_turned.nd rfl (.inl rfl) (pe_callTy (k_tuple (K := K) rfl) (by rfl) B.tuple bo_tuple (pa_cons (pe_lc (own := [("tail", 4), ("head", 5)]) (g := gTup K 2 (gCons (gName 4) (gCons (gName 5) gNil))) rfl sc_turned.nd (k_pit (K := K) rfl (pe_meth0 (pv 0) C.cl h_arrows.mt h_arrows.F (hr.mono (by decide)) h_arrows.b .nil pass0)) (blkOk_by (N := sl_turned) (sc := defScope s_turned) (by decide +kernel)) (fun _ _ _ _ _ => (pg_tup rfl (pgs_cons (pg_name (i := 4) sc_turned.nd rfl (.inl rfl)) (pgs_cons (pg_name (i := 5) sc_turned.nd rfl (.inl rfl)) pgs_nil)))) (fun _ _ _ _ _ => pts_nil) (fun _ _ _ _ _ => (pe_tup (pa_cons (pe_ix (k_ixl (K := K) rfl) (pv 2) (pv 5) (fun _ _ => rfl)) (pa_cons (pe_ix (k_ixl (K := K) rfl) (pv 2) (pv 4) (fun _ _ => rfl)) pa_nil))))) pa_nil)))
  (pss_one (ps_ret (pcall h_great_map hr (by decide) (by rfl) (pa_cons (pe_meth0 (pv 0) C.cl h_many.mt h_many.F (hr.mono (by decide)) h_many.b .nil pass0) (pa_cons (pv 3) (pa_cons (pe_tup (pa_cons (pv 1) pa_nil)) pa_nil)))))))))))), ?_⟩
    obtain ⟨p, n, a, pvs, c, gs, rfl, m, l1, q⟩ := h
    exact ⟨_, rfl, .inr ⟨p, n, a, pvs, c, gs, rfl, m, l1, q⟩⟩

abbrev s__law_turned : Stmt := topS 48
abbrev sl__law_turned : List Str := ["_law_chart", "_law_told"]
theorem sc__law_turned : FnScope ["_law_chart", "_law_told"] ["_law_chart"] (defScope s__law_turned) := ⟨rfl, rfl, rfl, by decide +kernel, rfl, by decide +kernel, by decide +kernel⟩
def spLawTurned (K : PySem.W.Frag) (C : Addr) : Sp := fun vs H Q E => spTurned K C vs H Q E ∨ ∃ (p : Addr) (n : Nat) (a : Addr) (pvs : List V) (c : Addr) (gs : List Nat), vs = [.ref p] ∧ MapAt K C H p n a pvs c gs ∧ 1 < gs.length ∧ Q (.str "many") H
theorem ok__law_turned {CMap CManyGoals : Addr} (T_ManyGoals : Ex K mg "ManyGoals" CManyGoals) (m_ManyGoals_ManyGoals : PySem.W.exmOne K (.ref CManyGoals) (.ref CManyGoals) = some true) (hX_turned : HasX P w K mg base "turned" 8 ["chart"] (spOr (spTurned K CMap) (spManyGoals K CMap CManyGoals))) (D0 : Df K mg "_law_turned" s__law_turned ["_law_chart"]) : Has P w K mg base "_law_turned" 9 ["_law_chart"] (spLawTurned K CMap) := by
  refine D0.has fun f fd F => F.ok sc__law_turned (fun vs H Q E h => ?_) (fun cdv A outer s H vs Q E hr h => ?_)
  · rcases h with ⟨p, n, a, pvs, es, c, g, rfl, _⟩ | ⟨p, n, a, pvs, c, gs, rfl, _⟩ <;> rfl
  · rcases h with ⟨p, n, a, pvs, es, c, g, rfl, m, q⟩ | ⟨p, n, a, pvs, c, gs, rfl, m, l1, q⟩
    · refine ⟨_, (pss_cons (ps_set (i := 1) sc__law_turned.nd rfl (.inl rfl) pe_str)
  (pss_cons (ps_try_only rfl rfl ⟨rfl, by decide, .inl T_ManyGoals.g⟩ takes0 (fun W pn xe tk po =>
    (pss_one (ps_set (i := 1) sc__law_turned.nd rfl (.inl rfl) (pcallS hX_turned hr (by decide) (by rfl) tk (pa_cons (pv 0) pa_nil))))) (fun a oe cls d pn _ _ =>
    (pss_one (ps_set (i := 1) sc__law_turned.nd rfl (.inl rfl) pe_str))))
  (pss_one (ps_ret (pv 1))))), ?_⟩
      refine ⟨_, rfl, .inl ⟨p, n, a, pvs, es, c, g, rfl, m, fun p' a' c' pvs' H' s' m' => ?_⟩⟩
      exact ⟨_, rfl, q p' a' c' pvs' H' s' m'⟩
    · refine ⟨_, (pss_cons (ps_set (i := 1) sc__law_turned.nd rfl (.inl rfl) pe_str)
  (pss_cons (ps_try_only rfl rfl ⟨rfl, by decide, .inl T_ManyGoals.g⟩ takes0 (fun W pn xe tk po =>
    (pss_one (ps_set (i := 1) sc__law_turned.nd rfl (.inl rfl) (pcallS hX_turned hr (by decide) (by rfl) tk (pa_cons (pv 0) pa_nil))))) (fun a oe cls d pn _ _ =>
    (pss_one (ps_set (i := 1) sc__law_turned.nd rfl (.inl rfl) pe_str))))
  (pss_one (ps_ret (pv 1))))), ?_⟩
      refine ⟨_, rfl, .inr ⟨p, n, a, pvs, c, gs, rfl, m, l1, ?_⟩⟩
      refine ⟨true, m_ManyGoals_ManyGoals, fun _ ax ha => ?_, fun z => Bool.noConfusion z⟩
      exact ⟨_, rfl, q⟩

/-- the turned map: reached backward -/
theorem swq_0 (g : Nat) : swq g 0 = g := if_pos rfl
theorem swq_g {g : Nat} (h : g ≠ 0) : swq g g = 0 := by
  unfold swq
  rw [if_neg h, if_pos rfl]
theorem swq_swp (g v : Nat) : swq g (swq g v) = v := by
  unfold swq
  split <;> split <;> (try split) <;> omega
theorem swq_inj {g u v : Nat} (h : swq g u = swq g v) : u = v := by rw [← swq_swp g u, h, swq_swp]
theorem trn_trn (g : Nat) (e : Nat × Nat) : trn g (trn g e) = e := by
  unfold trn
  rw [swq_swp, swq_swp]
theorem map_trn_trn (g : Nat) (es : Es) : (es.map (trn g)).map (trn g) = es := by
  rw [List.map_map]
  conv => rhs; rw [← List.map_id es]
  exact List.map_congr_left fun e _ => trn_trn g e
theorem rch_back {es : Es} {g : Nat} : ∀ (k v : Nat), Lev es [0] k v → Rch (es.map (trn g)) [0] (swq g v) → Rch (es.map (trn g)) [0] g
  | 0, v, h, r => by
    rw [List.mem_singleton.mp h, swq_0] at r
    exact r
  | k + 1, v, h, r => by
    rcases h with h | ⟨u, h, he⟩
    · exact rch_back k v h r
    · exact rch_back k u h (r.edge (List.mem_map.mpr ⟨(u, v), he, rfl⟩))
theorem GoodMap.trn {n : Nat} {es : Es} {g : Nat} (m : GoodMap n es [g]) : GoodMap n (es.map (trn g)) [g] where
  n2 := m.n2
  n40 := m.n40
  l60 := by rw [List.length_map]; exact m.l60
  ok := fun e he => by
    obtain ⟨e0, h0, rfl⟩ := List.mem_map.mp he
    obtain ⟨h1, h2, h3⟩ := m.ok e0 h0
    have hg := (m.gl g List.mem_cons_self).2
    exact ⟨swq_lt hg h2, swq_lt hg h1, fun z => h3 (swq_inj z).symm⟩
  ne := m.ne
  pw := m.pw
  gl := m.gl
  rch := fun x hx => by
    rw [List.mem_singleton.mp hx]
    obtain ⟨k, hk⟩ := m.rch g List.mem_cons_self
    refine rch_back k g hk ?_
    rw [swq_g (m.gl g List.mem_cons_self).1]
    exact .base List.mem_cons_self

abbrev s__law_parts : Stmt := topS 42
abbrev sl__law_parts : List Str := ["_law_hand_here", "_law_places", "_law_arrows", "_law_many", "_law_goals", "_law_pairs", "_law_place", "_law_turn", "_law_way", "_law_one", "_law_other"]
theorem sc__law_parts : FnScope ["_law_hand_here", "_law_places", "_law_arrows", "_law_many", "_law_goals", "_law_pairs", "_law_place", "_law_turn", "_law_way", "_law_one", "_law_other"] ["_law_hand_here", "_law_places", "_law_arrows"] (defScope s__law_parts) := ⟨rfl, rfl, rfl, by decide +kernel, rfl, by decide +kernel, by decide +kernel⟩
/-- the pairs that are drawn so far; all heads are at most i, each head can be come to -/
structure Grown (n i : Nat) (es : Es) (gs : List Nat) : Prop where
  len : es.length ≤ i
  ok : ∀ e ∈ es, e.1 < n ∧ e.2 < n ∧ e.1 ≠ e.2
  hd : ∀ e ∈ es, e.2 ≤ i
  rch : ∀ e ∈ es, Rch es [0] e.2
  gl : ∀ g ∈ gs, g ≤ i → ∃ e ∈ es, e.2 = g
theorem Grown.add {n i v : Nat} {es : Es} {gs : List Nat} (g : Grown n i es gs) (hv : v = 0 ∨ ∃ e ∈ es, e.2 = v) (hi : i + 1 < n) : Grown n (i + 1) (es ++ [(v, i + 1)]) gs := by
  have hvr : Rch es [0] v := by
    rcases hv with rfl | ⟨e, he, rfl⟩
    · exact .base List.mem_cons_self
    · exact g.rch e he
  have hvi : v ≤ i := by
    rcases hv with rfl | ⟨e, he, rfl⟩
    · exact Nat.zero_le _
    · exact g.hd e he
  have sub : ∀ e ∈ es, e ∈ es ++ [(v, i + 1)] := fun e he => List.mem_append_left _ he
  refine ⟨by rw [List.length_append, List.length_singleton]; have := g.len; omega, fun e he => ?_, fun e he => ?_, fun e he => ?_, fun x hx hxi => ?_⟩
  · rcases List.mem_append.mp he with he | he
    · exact g.ok e he
    · rw [List.mem_singleton.mp he]
      exact ⟨by show v < n; omega, hi, by show v ≠ i + 1; omega⟩
  · rcases List.mem_append.mp he with he | he
    · exact Nat.le_succ_of_le (g.hd e he)
    · rw [List.mem_singleton.mp he]
      exact Nat.le_refl _
  · rcases List.mem_append.mp he with he | he
    · exact (g.rch e he).mono sub fun _ h => h
    · rw [List.mem_singleton.mp he]
      exact (hvr.mono sub fun _ h => h).edge (List.mem_append_right _ List.mem_cons_self)
  · by_cases h : x ≤ i
    · obtain ⟨e, he, h1⟩ := g.gl x hx h
      exact ⟨e, sub e he, h1⟩
    · exact ⟨_, List.mem_append_right _ List.mem_cons_self, by show i + 1 = x; omega⟩
theorem Grown.skip {n i : Nat} {es : Es} {gs : List Nat} (g : Grown n i es gs) (h : i + 1 ∉ gs) : Grown n (i + 1) es gs :=
  ⟨Nat.le_succ_of_le g.len, g.ok, fun e he => Nat.le_succ_of_le (g.hd e he), g.rch, fun x hx hxi => g.gl x hx (by
    have : x ≠ i + 1 := fun z => h (z ▸ hx)
    omega)⟩
theorem Prs.snoc {K : PySem.W.Frag} {H : Hp} {vs : List V} {es : Es} {v : V} {e : Nat × Nat} (p : Prs K H vs es) (h : PairAt K H v e) : Prs K H (vs ++ [v]) (es ++ [e]) where
  len := by rw [List.length_append, List.length_append, p.len]; rfl
  at_ := fun i x y a b => by
    by_cases hi : i < vs.length
    · rw [List.getElem?_append_left hi] at a
      rw [List.getElem?_append_left (by rw [← p.len]; exact hi)] at b
      exact p.at_ i x y a b
    · rw [List.getElem?_append_right (by omega)] at a
      rw [List.getElem?_append_right (by rw [← p.len]; omega)] at b
      have e0 : i - vs.length = 0 := by
        have := (List.getElem?_eq_some_iff.mp a).1
        simp at this
        omega
      rw [e0] at a
      rw [← p.len, e0] at b
      cases a
      cases b
      exact h
theorem Prs.keep {K : PySem.W.Frag} {H H' : Hp} {vs : List V} {es : Es} (p : Prs K H vs es) (k : ∀ t xs, SqT K H t xs → SqT K H' t xs) : Prs K H' vs es :=
  ⟨p.len, fun i v e a b => (p.at_ i v e a b).elim fun t ⟨h1, h2⟩ => ⟨t, h1, k _ _ h2⟩⟩
/-- a list is stored to, tuples stay -/
theorem sqt_upd {K : PySem.W.Frag} {H : Hp} {x t : Addr} {xs ys : List V} {o : HO} (hx : H x = some (.lst ys)) (s : SqT K H t xs) : SqT K (upd H x o) t xs := by
  rcases s with (s | ⟨o, s⟩) | s
  · exact .inl (.inl (by rw [upd_ne (ne_of s hx (by intro z; cases z))]; exact s))
  · exact .inl (.inr ⟨o, by rw [upd_ne (ne_of s hx (by intro z; cases z))]; exact s⟩)
  · exact .inr s
/-- values in another order are the pairs in another order -/
theorem prs_perm {K : PySem.W.Frag} {H : Hp} {vs ys : List V} {es : Es} (p : Prs K H vs es) (h : ys.Perm vs) : ∃ es' : Es, es'.Perm es ∧ Prs K H ys es' := by
  induction h generalizing es with
  | nil => exact ⟨es, List.Perm.refl _, p⟩
  | @cons x l1 l2 hp ih =>
    cases es with
    | nil => have := p.len; cases this
    | cons e er =>
      obtain ⟨es', h1, h2⟩ := ih (es := er) ⟨by have := p.len; simpa using this, fun i v e a b => p.at_ (i + 1) v e (by simpa using a) (by simpa using b)⟩
      refine ⟨e :: es', h1.cons e, by rw [List.length_cons, List.length_cons, h2.len], fun i v e' a b => ?_⟩
      cases i with
      | zero =>
        cases a
        cases b
        exact p.at_ 0 _ _ rfl rfl
      | succ i => exact h2.at_ i v e' (by simpa using a) (by simpa using b)
  | @swap x y l =>
    cases es with
    | nil => have := p.len; cases this
    | cons e er =>
      cases er with
      | nil => have := p.len; simp at this
      | cons e2 er =>
        refine ⟨e2 :: e :: er, List.Perm.swap e e2 er, by have := p.len; simpa using this, fun i v e' a b => ?_⟩
        match i, a, b with
        | 0, a, b => cases a; cases b; exact p.at_ 1 _ _ rfl rfl
        | 1, a, b => cases a; cases b; exact p.at_ 0 _ _ rfl rfl
        | i + 2, a, b => exact p.at_ (i + 2) v e' (by simpa using a) (by simpa using b)
  | trans _ _ ih1 ih2 =>
    obtain ⟨es1, h1, p1⟩ := ih2 p
    obtain ⟨es2, h2, p2⟩ := ih1 p1
    exact ⟨es2, h2.trans h1, p2⟩
theorem rgVn (a b : Nat) : rgV (a : Int) (b : Int) = ((List.range (b - a)).map (a + ·)).map nV := by
  unfold rgV
  rw [show ((b : Int) - (a : Int)).toNat = b - a by omega, List.map_map]
  refine List.map_congr_left fun i _ => ?_
  show V.int ((a : Int) + (i : Int)) = V.int ((a + i : Nat) : Int)
  congr 1
theorem mod_two {x n : Nat} (h : x < 2 * n) : (x : Int) % (n : Int) = ((if x < n then x else x - n : Nat) : Int) := by
  rw [← Int.natCast_emod]
  congr 1
  by_cases hx : x < n
  · rw [if_pos hx, Nat.mod_eq_of_lt hx]
  · rw [if_neg hx, Nat.mod_eq_sub_mod (by omega), Nat.mod_eq_of_lt (by omega)]
def spParts (K : PySem.W.Frag) : Sp := fun vs H Q _ => ∃ (h : Addr) (pl ar : Nat) (F : Hp), vs = [.ref h, .int (pl : Int), .int (ar : Int)] ∧ 2 ≤ pl ∧ pl ≤ 40 ∧ ar ≤ 60 ∧ Same F H ∧ HandAt F H h ∧
  ∀ t n a c pvs es gs H', n ≤ pl → es.length ≤ max pl ar → Dr F H H' h → PtsAt K (hv F H H') t n a pvs es c gs → Q (.ref t) H'
theorem cut_all {xs : List V} {n : Nat} (h : xs.length ≤ n) : cutV xs none (some (n : Int)) = xs := by
  unfold cutV
  rw [HT.sIx_none, HT.sIx_nat, Nat.min_eq_right h]
  simp
theorem ok__law_parts (B : Bt mg) (h_law_draw : Has P w K mg base "_law_draw" 1 ["_law_hand_here", "_law_many"] spDraw) (h_law_tail : Has P w K mg base "_law_tail" 2 ["_law_hand_here", "_law_pairs", "_law_goals", "_law_place"] (spTail K))
    (h_law_shuffled : Has P w K mg base "_law_shuffled" 2 ["_law_hand_here", "_law_things"] (spShuffled K)) (h_law_renamed : Has P w K mg base "_law_renamed" 3 ["_law_hand_here", "_law_many", "_law_pairs", "_law_goals"] (spRenamed K))
    (D0 : Df K mg "_law_parts" s__law_parts ["_law_hand_here", "_law_places", "_law_arrows"]) : Has P w K mg base "_law_parts" 4 ["_law_hand_here", "_law_places", "_law_arrows"] (spParts K) := by
  refine D0.has fun f fd F => F.ok sc__law_parts (fun vs H Q E h => ?_) (fun cdv A outer s H vs Q E hr h => ?_)
  · obtain ⟨h, pl, ar, F, rfl, _⟩ := h
    rfl
  · obtain ⟨h, pl, ar, F0, rfl, hp2, hp40, har, hF, hA, q⟩ := h
    refine ⟨_, (pss_cons (ps_set (i := 3) sc__law_parts.nd rfl (.inl rfl) (pe_op op_add pe_int (pcall h_law_draw hr (by decide) (by rfl) (pa_cons (pv 0) (pa_cons (pe_op op_sub (pv 1) pe_int) pa_nil)))))
  (pss_cons (ps_set (i := 4) sc__law_parts.nd rfl (.inl rfl) (pe_lst (pa_cons (pe_op op_sub (pv 3) pe_int) pa_nil)))
  (C8.pss_cut (ps_if (PW.pt (pw_and (pt_cmpR op_gt (pv 3) pe_int (nomark _)) (pw_and1 (pt_cmpR op_eq (pcall h_law_draw hr (by decide) (by rfl) (pa_cons (pv 0) (pa_cons pe_int pa_nil))) pe_int (nomark _)))))
    (pss_one (ps_set (i := 4) sc__law_parts.nd rfl (.inl rfl) (pe_listRg rfl (by rfl) B.list (prg_2 (by rfl) B.range (pe_op op_sub (pe_op op_sub (pv 3) pe_int) (pcall h_law_draw hr (by decide) (by rfl) (pa_cons (pv 0) (pa_cons (pe_callB (call_min2 rfl) (by rfl) B.min bo_min (pa_cons pe_int (pa_cons (pe_op op_sub (pv 3) pe_int) pa_nil))) pa_nil)))) (pv 3)))))
    pss_nil)
  (pss_cons (ps_set (i := 5) sc__law_parts.nd rfl (.inl rfl) (pe_lst pa_nil))
  (pss_cons (ps_for PassesOwn.never rfl (pi_range2 (by rfl) B.range (pa_cons pe_int (pa_cons (pv 3) pa_nil))) (pg_name (i := 6) sc__law_parts.nd rfl (.inl rfl))
    (pss_one (ps_if (PW.pt (pw_or (pt_cmpR (k_in (K := K) rfl) (pv 6) (pv 4) (by rfl)) (pw_or1 (pt_cmpR op_gt (pcall h_law_draw hr (by decide) (by rfl) (pa_cons (pv 0) (pa_cons pe_int pa_nil))) pe_int (nomark _)))))
    (pss_one (ps_expr (pe_bm PySem.F.plainAttrs_list PySem.F.slot_list_append PySem.F.type_list_append mt_append (pv 5) (pa_cons (pe_tup (pa_cons (pcall h_law_tail hr (by decide) (by rfl) (pa_cons (pv 0) (pa_cons (pv 5) (pa_cons (pv 4) (pa_cons (pv 6) pa_nil))))) (pa_cons (pv 6) pa_nil))) pa_nil))))
    pss_nil)))
  (pss_cons (ps_for PassesOwn.never rfl (pi_range1 (by rfl) B.range (pa_cons (pcall h_law_draw hr (by decide) (by rfl) (pa_cons (pv 0) (pa_cons (pe_op op_add (pe_callB (call_max2 rfl) (by rfl) B.max bo_max (pa_cons pe_int (pa_cons (pe_op op_sub (pv 2) (pe_callB (k_len (K := K) rfl) (by rfl) B.len bo_len (pa_cons (pv 5) pa_nil))) pa_nil))) pe_int) pa_nil))) pa_nil)) (pg_name (i := 7) sc__law_parts.nd rfl (.inl rfl))
    (pss_cons (ps_set (i := 8) sc__law_parts.nd rfl (.inl rfl) (pcall h_law_draw hr (by decide) (by rfl) (pa_cons (pv 0) (pa_cons pe_int pa_nil))))
  (pss_cons (ps_set (i := 9) sc__law_parts.nd rfl (.inl rfl) (pcall h_law_draw hr (by decide) (by rfl) (pa_cons (pv 0) (pa_cons (pv 3) pa_nil))))
  (pss_cons (ps_set (i := 10) sc__law_parts.nd rfl (.inl rfl) (pe_op op_mod (pe_op op_add (pe_op op_add (pv 9) pe_int) (pcall h_law_draw hr (by decide) (by rfl) (pa_cons (pv 0) (pa_cons (pe_op op_sub (pv 3) pe_int) pa_nil)))) (pv 3)))
  (C8.pss_cut (ps_if (pt_cmpR op_eq (pv 8) pe_int (nomark _))
    (pss_one (ps_asg (pe_ix (k_ixl (K := K) rfl) (pv 5) (pcall h_law_draw hr (by decide) (by rfl) (pa_cons (pv 0) (pa_cons (pe_callB (k_len (K := K) rfl) (by rfl) B.len bo_len (pa_cons (pv 5) pa_nil)) pa_nil))) (fun _ _ => rfl)) (pg_tup rfl (pgs_cons (pg_name (i := 9) sc__law_parts.nd rfl (.inl rfl)) (pgs_cons (pg_name (i := 10) sc__law_parts.nd rfl (.inl rfl)) pgs_nil)))))
    pss_nil)
  (C8.pss_cut (ps_if (pt_cmpR op_eq (pv 8) pe_int (nomark _))
    (pss_one (ps_asg (pe_ix (k_ixl (K := K) rfl) (pv 5) (pcall h_law_draw hr (by decide) (by rfl) (pa_cons (pv 0) (pa_cons (pe_callB (k_len (K := K) rfl) (by rfl) B.len bo_len (pa_cons (pv 5) pa_nil)) pa_nil))) (fun _ _ => rfl)) (pg_tup rfl (pgs_cons (pg_name (i := 10) sc__law_parts.nd rfl (.inl rfl)) (pgs_cons (pg_name (i := 9) sc__law_parts.nd rfl (.inl rfl)) pgs_nil)))))
    pss_nil)
  (pss_one (ps_expr (pe_bm PySem.F.plainAttrs_list PySem.F.slot_list_append PySem.F.type_list_append mt_append (pv 5) (pa_cons (pe_tup (pa_cons (pv 9) (pa_cons (pv 10) pa_nil))) pa_nil))))))))))
  (pss_one (ps_ret (pcall h_law_renamed hr (by decide) (by rfl) (pa_cons (pv 0) (pa_cons (pv 3) (pa_cons (pe_slice (k_sll (K := K) rfl) (pcall h_law_shuffled hr (by decide) (by rfl) (pa_cons (pv 0) (pa_cons (pv 5) pa_nil))) po_none (po_some pe_int)) (pa_cons (pv 4) pa_nil))))))))))))), ?_⟩
    -- many
    refine ⟨_, rfl, _, rfl, _, _, rfl, rfl, h, (pl : Int) - 1, F0, rfl, by omega, small_log (by omega) (by omega), hF, hA, fun n0 H1 hn0 hn1 dd1 => ⟨_, _, rfl, rfl, ?_⟩⟩
    obtain ⟨k0, rfl⟩ : ∃ k : Nat, n0 = (k : Int) := ⟨n0.toNat, by omega⟩
    obtain ⟨n, hn⟩ : ∃ n : Nat, n = k0 + 2 := ⟨_, rfl⟩
    have hnv : (2 : Int) + (k0 : Int) = (n : Int) := by omega
    have hnpl : n ≤ pl := by omega
    change gName 3 (V.int ((2 : Int) + (k0 : Int))) _ _ _
    rw [hnv]
    have d1 := dd1.dr
    -- goals
    refine ⟨_, rfl, _, _, rfl, rfl, Nat.le_of_lt (small_lt (by decide : 1 ≤ 100000)), fun g ng => ?_⟩
    have ng0 : H g = none := d1.free ng
    have ngh : g ≠ h := hA.ne ng0
    have dg := d1.trans (Dr.of_same d1.hand d1.sub (same_new (o := .lst [.int ((n : Int) - 1)]) (Same.refl H1) ng))
    refine ⟨fun σ H' => ∃ (g : Addr) (gs : List Nat), σ = [some (.ref h), some (.int (pl : Int)), some (.int (ar : Int)), some (.int (n : Int)), some (.ref g), none, none, none, none, none, none] ∧ Dr F0 H H' h ∧ g ≠ h ∧ H g = none ∧ H' g = some (.lst (gs.map nV)) ∧ gs ≠ [] ∧ gs.Nodup ∧ (∀ x ∈ gs, x ≠ 0 ∧ x < n), ?_, ?_⟩
    · have e1 : V.int ((n : Int) - 1) = nV (n - 1) := by
        show V.int ((n : Int) - 1) = V.int ((n - 1 : Nat) : Int)
        congr 1
        omega
      have one : ∀ H2, Dr F0 (upd H1 g (.lst [.int ((n : Int) - 1)])) H2 h → ∃ (g' : Addr) (gs : List Nat), ([some (.ref h), some (.int (pl : Int)), some (.int (ar : Int)), some (.int (n : Int)), some (.ref g), none, none, none, none, none, none] : L2.St) = [some (.ref h), some (.int (pl : Int)), some (.int (ar : Int)), some (.int (n : Int)), some (.ref g'), none, none, none, none, none, none] ∧
          Dr F0 H H2 h ∧ g' ≠ h ∧ H g' = none ∧ H2 g' = some (.lst (gs.map nV)) ∧ gs ≠ [] ∧ gs.Nodup ∧ (∀ x ∈ gs, x ≠ 0 ∧ x < n) := fun H2 d2 =>
        ⟨g, [n - 1], rfl, dg.trans d2, ngh, ng0, by rw [List.map_cons, List.map_nil, ← e1]; exact d2.same g _ ngh upd_same, List.cons_ne_nil _ _, by simp, fun x hx => by rw [List.mem_singleton.mp hx]; omega⟩
      refine ⟨_, rfl, _, _, rfl, rfl, _, rfl, ?_⟩
      by_cases h3 : (3 : Int) < (n : Int)
      · rw [decide_eq_true h3]
        refine iteT ⟨_, rfl, h, 3, F0, rfl, by decide, small_log (by decide) (by omega), dg.sub, dg.hand, fun n1 H2 hn0 hn1 dd2 => ⟨rfl, _, rfl, ?_⟩⟩
        by_cases hz : n1 = 0
        · rw [hz, decide_eq_true (rfl : V.int 0 = V.int 0)]
          refine iteT ?_
          have d2 := dg.trans dd2.dr
          refine ⟨_, rfl, _, _, rfl, rfl, _, rfl, _, rfl, _, _, rfl, rfl, _, _, rfl, h, _, F0, rfl, ?_, ?_, d2.sub, d2.hand, fun n3 H3 hn30 hn31 dd3 => ?_⟩
          · show (0 : Int) < (if (n : Int) - 3 < 4 then (n : Int) - 3 else 4)
            split <;> omega
          · refine small_log ?_ ?_
            · show (0 : Int) < (if (n : Int) - 3 < 4 then (n : Int) - 3 else 4)
              split <;> omega
            · show (if (n : Int) - 3 < 4 then (n : Int) - 3 else 4) < 2 ^ 8999
              split <;> omega
          have hn32 : n3 < (n : Int) - 3 := by
            have : n3 < (if (n : Int) - 3 < 4 then (n : Int) - 3 else 4) := hn31
            split at this <;> omega
          obtain ⟨lo, hlo⟩ : ∃ lo : Nat, (n : Int) - 2 - n3 = (lo : Int) := ⟨((n : Int) - 2 - n3).toNat, by omega⟩
          refine ⟨_, _, rfl, rfl, _, rfl, _, _, rfl, rfl, ⟨by omega, by omega, by omega, by omega, by omega⟩, fun g2 ng2 => ?_⟩
          have d3 := d2.trans dd3.dr
          change gName 4 (.ref g2) _ (upd H3 g2 (.lst (rgV ((n : Int) - 2 - n3) (n : Int)))) _
          rw [hlo, rgVn]
          refine ⟨g2, (List.range (n - lo)).map (lo + ·), rfl, d3.trans (Dr.of_same d3.hand d3.sub (same_new (Same.refl H3) ng2)), hA.ne (d3.free ng2), d3.free ng2, upd_same, fun z => ?_, ?_, fun x hx => ?_⟩
          · have := congrArg List.length z
            rw [List.length_map, List.length_range] at this
            simp at this
            omega
          · exact nd_map (fun a b _ _ hab => by omega) List.nodup_range
          · obtain ⟨i, hi, rfl⟩ := List.mem_map.mp hx
            have := List.mem_range.mp hi
            omega
        · have : ¬ V.int n1 = V.int 0 := fun z => hz (by injection z)
          rw [decide_eq_false this]
          refine iteF ?_
          exact one H2 dd2.dr
      · rw [decide_eq_false h3]
        refine iteF ?_
        exact iteF (one _ (Dr.refl dg.hand dg.sub))
    · rintro σ H2 ⟨g, gs, rfl, d2, ngh, ng0, hg2, hne, hnd, hgn⟩
      -- pairs
      refine ⟨Nat.zero_le _, fun p np => ?_⟩
      have np0 : H p = none := d2.free np
      have nph : p ≠ h := hA.ne np0
      have npF : F0 p = none := Same.free hF np0
      have ngp : g ≠ p := ne_of_none hg2 np
      have ngF : F0 g = none := Same.free hF ng0
      have d3 := d2.trans (Dr.of_same d2.hand d2.sub (same_new (o := .lst []) (Same.refl H2) np))
      -- for place in range(1, many)
      refine ⟨_, rfl, 1, (n : Int), rfl, ⟨by omega, by omega, by omega, by omega⟩, ?_⟩
      refine for_range (lo := 1) (n := ((n : Int) - 1).toNat) (fun i σ H' => ∃ (x : Option V) (pvs : List V) (es : Es), σ = [some (.ref h), some (.int (pl : Int)), some (.int (ar : Int)), some (.int (n : Int)), some (.ref g), some (.ref p), x, none, none, none, none] ∧ Dr F0 H H' h ∧
        H' g = some (.lst (gs.map nV)) ∧ H' p = some (.lst pvs) ∧ Prs K H' pvs es ∧ Grown n i es gs)
        ⟨none, [], [], rfl, d3, by rw [upd_ne ngp]; exact hg2, upd_same, ⟨rfl, fun i v e a _ => by simp at a⟩, ⟨Nat.le_refl _, fun e he => (List.not_mem_nil he).elim, fun e he => (List.not_mem_nil he).elim, fun e he => (List.not_mem_nil he).elim, fun x hx hx0 => absurd (Nat.le_zero.mp hx0) (hgn x hx).1⟩⟩ ?_ ?_
      · rintro i σ H4 hi ⟨x, pvs, es, rfl, d4, hg4, hp4, hpr, gr⟩
        have hin : i + 1 < n := by omega
        have epl : V.int ((1 : Int) + (i : Int)) = nV (i + 1) := by
          show V.int ((1 : Int) + (i : Int)) = V.int ((i + 1 : Nat) : Int)
          congr 1
          omega
        refine ifs_split (fun H5 => Dr F0 H4 H5 h) (fun H5 => Dr F0 H4 H5 h ∧ i + 1 ∉ gs) (fun Kt kt kf => ?_) (fun H5 d45 => ?_) fun H5 ⟨d45, hng⟩ => ?_
        · refine ⟨_, rfl, _, rfl, g, _, rfl, .inl (sql hg4), rfl, flat_nats _, _, rfl, ?_⟩
          rw [if_neg Bool.false_ne_true, show V.int ((1 : Int) + (i : Int)) = nV (i + 1) from epl, inV_nats]
          by_cases hm : i + 1 ∈ gs
          · rw [decide_eq_true hm]
            exact iteT (kt _ (Dr.refl d4.hand d4.sub))
          · rw [decide_eq_false hm]
            refine iteF ⟨_, rfl, h, 6, F0, rfl, by decide, small_log (by decide) (by omega), d4.sub, d4.hand, fun n5 H5 hn50 hn51 dd5 => ⟨_, _, rfl, rfl, _, rfl, ?_⟩⟩
            by_cases h6 : (0 : Int) < n5
            · rw [decide_eq_true h6]
              exact kt _ dd5.dr
            · rw [decide_eq_false h6]
              exact kf _ ⟨dd5.dr, hm⟩
        · have d5 := d4.trans d45
          have hg5 := d45.same g _ ngh hg4
          have hp5 := d45.same p _ nph hp4
          have hpr5 := hpr.dr d45 d4.hand
          refine ⟨_, rfl, .inl ⟨rfl, _, sql hp5⟩, _, rfl, _, rfl, _, rfl, _, rfl, h, p, g, (1 : Int) + (i : Int), pvs, es, gs, F0, rfl, sql hp5, hpr5, sql hg5, fun z => (hgn 0 z).1 rfl, by have := gr.len; omega, d5.sub, d5.hand, fun v H6 hv d56 => ?_⟩
          have d6 := d5.trans d56
          have hg6 := d56.same g _ ngh hg5
          have hp6 := d56.same p _ nph hp5
          have hpr6 := hpr5.dr d56 d5.hand
          refine ⟨_, rfl, by show 2 ≤ sizeLine; decide, fun t nt => ⟨p, _, _, rfl, rfl, by rw [upd_ne (ne_of_none hp6 nt)]; exact hp6, ?_, ?_⟩⟩
          · have := hpr.len
            have := gr.len
            exact small_lt (by omega)
          have s7 := same_new (o := .tup [nV v, .int ((1 : Int) + (i : Int))]) (Same.refl H6) nt
          have npt : p ≠ t := ne_of_none hp6 nt
          have ngt : g ≠ t := ne_of_none hg6 nt
          have hp7 : (upd H6 t (.tup [nV v, .int ((1 : Int) + (i : Int))])) p = some (.lst pvs) := s7 _ _ hp6
          refine ⟨_, pvs ++ [.ref t], es ++ [(v, i + 1)], rfl, (d6.trans (Dr.of_same d6.hand d6.sub s7)).upd np0 nph npF, by rw [upd_ne ngp, upd_ne ngt]; exact hg6, upd_same, ?_, gr.add hv hin⟩
          · refine ((hpr6.same s7).keep fun t xs => sqt_upd hp7).snoc ⟨t, rfl, sqt ?_⟩
            rw [upd_ne npt.symm, upd_same, epl]
        · have hp5 := d45.same p _ nph hp4
          refine ⟨_, pvs, es, rfl, d4.trans d45, d45.same g _ ngh hg4, hp5, hpr.dr d45 d4.hand, gr.skip hng⟩
      · rintro σ H4 ⟨x, pvs, es, rfl, d4, hg4, hp4, hpr, gr⟩
        have hpl := hpr.len
        have hrch : ∀ g ∈ gs, Rch es [0] g := fun x hx => by
          obtain ⟨e, he, rfl⟩ := gr.gl x hx (by have := (hgn x hx).2; omega)
          exact gr.rch e he
        have hpos : 0 < es.length := by
          obtain ⟨x, hx⟩ := List.exists_mem_of_ne_nil gs hne
          obtain ⟨e, he, _⟩ := gr.gl x hx (by have := (hgn x hx).2; omega)
          exact List.length_pos_of_mem he
        have hlen0 : es.length ≤ n - 1 := by have := gr.len; omega
        generalize hL : es.length = L0 at hlen0 hpos
        have hmx : ∀ z : Int, (if z > (1 : Int) then z else 1) = max 1 z := fun z => by
          rw [Int.max_def]
          split <;> split <;> omega
        refine ⟨_, rfl, _, rfl, _, rfl, p, _, rfl, .inl (sql hp4), _, _, rfl, rfl, _, _, rfl, _, _, rfl, rfl, h, _, F0, rfl, ?_, ?_, d4.sub, d4.hand, fun nT H5 hT0 hT1 dd5 => ?_⟩
        · show (0 : Int) < (if (ar : Int) - (pvs.length : Int) > 1 then (ar : Int) - (pvs.length : Int) else 1) + 1
          split <;> omega
        · refine small_log ?_ ?_
          · show (0 : Int) < (if (ar : Int) - (pvs.length : Int) > 1 then (ar : Int) - (pvs.length : Int) else 1) + 1
            split <;> omega
          · show (if (ar : Int) - (pvs.length : Int) > 1 then (ar : Int) - (pvs.length : Int) else 1) + 1 < 2 ^ 8999
            split <;> omega
        have hT2 : nT.toNat + L0 ≤ max (L0 + 1) ar := by
          have h1 : nT < (if (ar : Int) - (pvs.length : Int) > 1 then (ar : Int) - (pvs.length : Int) else 1) + 1 := hT1
          rw [Nat.max_def]
          split at h1 <;> split <;> omega
        have hLa : max (L0 + 1) ar ≤ max pl ar := by
          rw [Nat.max_def, Nat.max_def]
          split <;> split <;> omega
        have hma : max pl ar ≤ 60 := by
          rw [Nat.max_def]
          split <;> omega
        refine ⟨nT, rfl, by omega, by omega, ?_⟩
        have d45 := dd5.dr
        have d5 := d4.trans d45
        refine for_range (lo := 0) (n := nT.toNat) (fun i σ H' => ∃ (x6 x7 x8 x9 x10 : Option V) (pvs : List V) (es : Es), σ = [some (.ref h), some (.int (pl : Int)), some (.int (ar : Int)), some (.int (n : Int)), some (.ref g), some (.ref p), x6, x7, x8, x9, x10] ∧ Dr F0 H H' h ∧
          H' g = some (.lst (gs.map nV)) ∧ H' p = some (.lst pvs) ∧ Prs K H' pvs es ∧ (∀ e ∈ es, e.1 < n ∧ e.2 < n ∧ e.1 ≠ e.2) ∧ es.length = L0 + i ∧ ∀ g ∈ gs, Rch es [0] g)
          ⟨_, _, _, _, _, pvs, es, rfl, d5, d45.same g _ ngh hg4, d45.same p _ nph hp4, hpr.dr d45 d4.hand, gr.ok, hL, hrch⟩ ?_ ?_
        · rintro i σ H6 hi ⟨x6, x7, x8, x9, x10, pvs, es, rfl, d6, hg6, hp6, hpr6, hok6, hel6, hrc6⟩
          have hpl6 := hpr6.len
          have hi' : i < nT.toNat := hi
          -- way, one, other
          refine ⟨_, rfl, h, 5, F0, rfl, by decide, small_log (by decide) (by omega), d6.sub, d6.hand, fun w H7 _ _ dd7 => ?_⟩
          have d7 := d6.trans dd7.dr
          refine ⟨_, rfl, _, rfl, h, _, F0, rfl, by omega, small_log (by omega) (by omega), d7.sub, d7.hand, fun u0 H8 hu0 hu1 dd8 => ?_⟩
          have d8 := d7.trans dd8.dr
          obtain ⟨u, rfl⟩ : ∃ u : Nat, u0 = (u : Int) := ⟨u0.toNat, by omega⟩
          refine ⟨_, rfl, _, _, rfl, rfl, _, rfl, _, rfl, _, _, rfl, rfl, h, _, F0, rfl, ?_, ?_, d8.sub, d8.hand, fun e0 H9 he0 he1 dd9 => ?_⟩
          · show (0 : Int) < (n : Int) - 1
            omega
          · exact small_log (by show (0 : Int) < (n : Int) - 1; omega) (by show (n : Int) - 1 < 2 ^ 8999; omega)
          have d9 := d8.trans dd9.dr
          have he2 : e0 < (n : Int) - 1 := he1
          obtain ⟨dd, rfl⟩ : ∃ dd : Nat, e0 = (dd : Int) := ⟨e0.toNat, by omega⟩
          refine ⟨_, _, rfl, rfl, _, rfl, _, _, rfl, rfl, by show (0 : Int) < (n : Int); omega, ?_⟩
          obtain ⟨v, hv⟩ : ∃ v : Nat, v = if u + 1 + dd < n then u + 1 + dd else u + 1 + dd - n := ⟨_, rfl⟩
          have hve : V.int (((u : Int) + 1 + (dd : Int)) % (n : Int)) = nV v := by
            show V.int _ = V.int (v : Int)
            congr 1
            rw [show (u : Int) + 1 + (dd : Int) = ((u + 1 + dd : Nat) : Int) by omega, mod_two (by omega), ← hv]
          have hv1 : v < n := by rw [hv]; split <;> omega
          have hv2 : u ≠ v := by rw [hv]; split <;> omega
          have dA : Dr F0 H6 H9 h := (dd7.dr.trans dd8.dr).trans dd9.dr
          change gName 10 (V.int (((u : Int) + 1 + (dd : Int)) % (n : Int))) _ _ _
          rw [hve]
          -- the arrow that is taken again
          have mid : ∀ (H' : Hp), Dr F0 H6 H' h → Dr F0 H H' h ∧ H' g = some (.lst (gs.map nV)) ∧ H' p = some (.lst pvs) ∧ Prs K H' pvs es := fun H' d =>
            ⟨d6.trans d, d.same g _ ngh hg6, d.same p _ nph hp6, hpr6.dr d d6.hand⟩
          have pick : ∀ (H' : Hp), Dr F0 H6 H' h → ∀ k : Nat, k < pvs.length → ∃ t e1 e2, pvs[k]? = some (.ref t) ∧ SqT K H' t [nV e1, nV e2] ∧ e1 < n ∧ e2 < n ∧ e1 ≠ e2 := fun H' d k hk => by
            obtain ⟨_, _, _, hpp⟩ := mid H' d
            obtain ⟨e, he, t, ht1, ht2⟩ := hpp.get (List.getElem?_eq_getElem hk)
            obtain ⟨o1, o2, o3⟩ := hok6 e (List.mem_of_getElem? he)
            exact ⟨t, e.1, e.2, by rw [← ht1]; exact List.getElem?_eq_getElem hk, ht2, o1, o2, o3⟩
          refine ⟨fun σ H' => ∃ (u v : Nat), σ = [some (.ref h), some (.int (pl : Int)), some (.int (ar : Int)), some (.int (n : Int)), some (.ref g), some (.ref p), x6, some (.int ((0 : Int) + (i : Int))), some (.int w), some (nV u), some (nV v)] ∧ Dr F0 H6 H' h ∧ u < n ∧ v < n ∧ u ≠ v, ?_, ?_⟩
          · refine ⟨_, rfl, rfl, _, rfl, ?_⟩
            by_cases hw : w = 0
            · rw [hw, decide_eq_true (rfl : V.int 0 = V.int 0)]
              refine iteT ?_
              obtain ⟨dm, _, hpm, _⟩ := mid H9 dA
              refine ⟨_, rfl, _, rfl, _, rfl, p, _, rfl, .inl (sql hpm), h, (pvs.length : Int), F0, rfl, by omega, small_log (by omega) (by omega), dm.sub, dm.hand, fun k0 H10 hk0 hk1 dd10 => ?_⟩
              obtain ⟨k, rfl⟩ : ∃ k : Nat, k0 = (k : Int) := ⟨k0.toNat, by omega⟩
              have dB := dA.trans dd10.dr
              obtain ⟨t, e1, e2, hk, ht, o1, o2, o3⟩ := pick H10 dB k (by omega)
              obtain ⟨_, _, hpm2, _⟩ := mid H10 dB
              refine ⟨p, pvs, (k : Int), _, rfl, rfl, sql hpm2, atI_nat hk, t, _, rfl, ht, rfl, _, _, rfl, _, _, rfl, rfl, ?_⟩
              exact ⟨e1, e2, rfl, dB, o1, o2, o3⟩
            · have : ¬ V.int w = V.int 0 := fun z => hw (by injection z)
              rw [decide_eq_false this]
              refine iteF ?_
              exact ⟨u, v, rfl, dA, by omega, hv1, hv2⟩
          rintro σ H10 ⟨u, v, rfl, dB, hu, hv, huv⟩
          refine ⟨fun σ H' => ∃ (u v : Nat), σ = [some (.ref h), some (.int (pl : Int)), some (.int (ar : Int)), some (.int (n : Int)), some (.ref g), some (.ref p), x6, some (.int ((0 : Int) + (i : Int))), some (.int w), some (nV u), some (nV v)] ∧ Dr F0 H6 H' h ∧ u < n ∧ v < n ∧ u ≠ v, ?_, ?_⟩
          · refine ⟨_, rfl, rfl, _, rfl, ?_⟩
            by_cases hw : w = 1
            · rw [hw, decide_eq_true (rfl : V.int 1 = V.int 1)]
              refine iteT ?_
              obtain ⟨dm, _, hpm, _⟩ := mid H10 dB
              refine ⟨_, rfl, _, rfl, _, rfl, p, _, rfl, .inl (sql hpm), h, (pvs.length : Int), F0, rfl, by omega, small_log (by omega) (by omega), dm.sub, dm.hand, fun k0 H11 hk0 hk1 dd11 => ?_⟩
              obtain ⟨k, rfl⟩ : ∃ k : Nat, k0 = (k : Int) := ⟨k0.toNat, by omega⟩
              have dC := dB.trans dd11.dr
              obtain ⟨t, e1, e2, hk, ht, o1, o2, o3⟩ := pick H11 dC k (by omega)
              obtain ⟨_, _, hpm2, _⟩ := mid H11 dC
              refine ⟨p, pvs, (k : Int), _, rfl, rfl, sql hpm2, atI_nat hk, t, _, rfl, ht, rfl, _, _, rfl, _, _, rfl, rfl, ?_⟩
              exact ⟨e2, e1, rfl, dC, o2, o1, o3.symm⟩
            · have : ¬ V.int w = V.int 1 := fun z => hw (by injection z)
              rw [decide_eq_false this]
              refine iteF ?_
              exact ⟨u, v, rfl, dB, hu, hv, huv⟩
          rintro σ H11 ⟨u, v, rfl, dC, hu, hv, huv⟩
          obtain ⟨d11, hg11, hp11, hpr11⟩ := mid H11 dC
          refine ⟨_, rfl, .inl ⟨rfl, _, sql hp11⟩, _, rfl, _, rfl, by show 2 ≤ sizeLine; decide, fun t nt => ⟨p, _, _, rfl, rfl, by rw [upd_ne (ne_of_none hp11 nt)]; exact hp11, small_lt (by omega), ?_⟩⟩
          have s12 := same_new (o := .tup [nV u, nV v]) (Same.refl H11) nt
          have npt : p ≠ t := ne_of_none hp11 nt
          have ngt : g ≠ t := ne_of_none hg11 nt
          have hp12 : (upd H11 t (.tup [nV u, nV v])) p = some (.lst pvs) := s12 _ _ hp11
          refine ⟨_, _, _, _, _, pvs ++ [.ref t], es ++ [(u, v)], rfl, (d11.trans (Dr.of_same d11.hand d11.sub s12)).upd np0 nph npF, by rw [upd_ne ngp, upd_ne ngt]; exact hg11, upd_same, ?_, fun e he => ?_, ?_, fun x hx => ?_⟩
          · refine ((hpr11.same s12).keep fun t xs => sqt_upd hp12).snoc ⟨t, rfl, sqt ?_⟩
            rw [upd_ne npt.symm, upd_same]
          · rcases List.mem_append.mp he with he | he
            · exact hok6 e he
            · rw [List.mem_singleton.mp he]
              exact ⟨hu, hv, huv⟩
          · rw [List.length_append, hel6]
            rfl
          · exact (hrc6 x hx).mono (fun e he => List.mem_append_left _ he) fun _ h => h
        · rintro σ H6 ⟨x6, x7, x8, x9, x10, pvs, es, rfl, d6, hg6, hp6, hpr6, hok6, hel6, hrc6⟩
          have hpl6 := hpr6.len
          have hel60 : es.length ≤ max pl ar := by omega
          refine ⟨_, rfl, _, rfl, _, rfl, _, rfl, h, p, pvs, F0, rfl, .inl (sql hp6), by omega, d6.sub, d6.hand, fun sh H7 ys hperm d67 nsh hsh => ?_⟩
          have d7 := d6.trans d67
          have hsh0 := d6.free nsh
          have hpr7 := hpr6.dr d67 d6.hand
          -- the pairs in their new order, all of them
          obtain ⟨es', hpe, hpr'⟩ := prs_perm hpr7 hperm
          refine ⟨60, rfl, sh, ys, rfl, sql hsh, fun sh2 nsh2 => ?_⟩
          rw [show cutV ys none (some 60) = ys from cut_all (n := 60) (by have := hpr'.len; have := hpe.length_eq; omega)]
          have s7 := same_new (o := .lst ys) (Same.refl H7) nsh2
          have d8 := d7.trans (Dr.of_same d7.hand d7.sub s7)
          refine ⟨_, rfl, h, sh2, g, n, ys, es', gs, F0, rfl, upd_same, hA.ne (d7.free nsh2), hpr'.same s7, s7 _ _ (d67.same g _ ngh hg6), ngh, ⟨by omega, by omega, by rw [hpe.length_eq]; omega, fun e he => hok6 e (hpe.mem_iff.mp he), hne, hnd, hgn, fun x hx => (hrc6 x hx).mono (fun e he => hpe.mem_iff.mpr he) fun _ h => h⟩, d8.sub, d8.hand, fun t a c pvs2 es2 gs2 H8 d78 hl2 pt => ?_⟩
          exact q t n a c pvs2 es2 gs2 H8 hnpl (by rw [hl2, hpe.length_eq]; exact hel60) (d8.trans d78) (pt.same (hv_sub fun b hb => d8.free hb))

theorem PtsAt.dr {K : PySem.W.Frag} {F H H' : Hp} {h t : Addr} {n : Nat} {a : Addr} {pvs : List V} {es : Es} {c : Addr} {gs : List Nat} (p : PtsAt K H t n a pvs es c gs) (d : Dr F H H' h) (hA : HandAt F H h) : PtsAt K H' t n a pvs es c gs :=
  ⟨d.sqt hA p.tp, d.sqt hA p.ar, p.pr.dr d hA, d.sqt hA p.go, p.gm⟩
theorem left_same {es : Es} {ls ls' : List Nat} (hl : ∀ x, x ∈ ls' ↔ x ∈ ls) {S : List Nat} {v : Nat} (h : Rch (left es ls) S v) : Rch (left es ls') S v :=
  h.mono (fun e he => by
    obtain ⟨k, h1, h2⟩ := mem_leftV.mp he
    exact mem_leftV.mpr ⟨k, h1, fun z => h2 ((hl k).mp z)⟩) fun _ h => h

/-- where a goal is not reached, an arrow is worth a try -/
theorem worth_ex {n : Nat} {es : Es} {gs rs ls : List Nat} (o : StdOk n es gs rs ls) {g : Nat} (hg : g ∈ gs) (hn : g ∉ rs) : Alive es gs rs ls g ∧ ∃ i, i ∈ triesL es rs ls ∧ ∃ e, es[i]? = some e ∧ Alive es gs rs ls e.2 := by
  have h0 : Alive es gs rs ls g := .base (mem_openG.mpr ⟨hg, hn⟩)
  refine ⟨h0, ?_⟩
  have key : g ∈ rs ∨ (Alive es gs rs ls g → ∃ i, i ∈ triesL es rs ls ∧ ∃ e, es[i]? = some e ∧ Alive es gs rs ls e.2) := by
    refine (o.opn g hg).ind (P := fun v => v ∈ rs ∨ (Alive es gs rs ls v → ∃ i, i ∈ triesL es rs ls ∧ ∃ e, es[i]? = some e ∧ Alive es gs rs ls e.2)) (fun v hv => ?_) fun u v ih e => ?_
    · rw [List.mem_singleton.mp hv]
      exact .inl o.r0
    · by_cases hv : v ∈ rs
      · exact .inl hv
      · refine .inr fun ha => ?_
        obtain ⟨k, hk, hkl⟩ := mem_leftV.mp e
        by_cases hu : u ∈ rs
        · exact ⟨k, mem_tries.mpr ⟨_, hk, hkl, hu, hv⟩, _, hk, ha⟩
        · rcases ih with ih | ih
          · exact absurd ih hu
          · refine ih (Rch.edge ha (List.mem_filterMap.mpr ⟨(u, v), List.mem_filterMap.mpr ⟨(u, v), e, ?_⟩, rfl⟩))
            unfold unrG
            exact if_pos ⟨hu, hv⟩
  rcases key with h | h
  · exact absurd h hn
  · exact h h0

theorem dp_prs {K : PySem.W.Frag} {H : Hp} : ∀ {pvs : List V} {es : Es}, Prs K H pvs es → DpAll K H pvs (es.map dE)
  | [], [], _ => .nil
  | [], _ :: _, p => absurd p.len (by simp)
  | _ :: _, [], p => absurd p.len (by simp)
  | v :: vs, e :: es, p => by
    obtain ⟨t, rfl, ht⟩ := p.at_ 0 v e rfl rfl
    refine .cons (.tup ht (.cons (.int _) (.cons (.int _) .nil))) (dp_prs ⟨?_, fun i v e a b => p.at_ (i + 1) v e ?_ ?_⟩)
    · have := p.len
      simpa using this
    · simpa using a
    · simpa using b
theorem MapOk.of {K : PySem.W.Frag} {C : Addr} {H : Hp} {p : Addr} {n : Nat} {a : Addr} {pvs : List V} {es : Es} {c : Addr} {gs : List Nat} (m : MapAt K C H p n a pvs c gs) (pr : Prs K H pvs es) (g : GoodMap n es gs) : MapOk K C H p n a pvs es c gs :=
  ⟨m, pr, by have := g.n2; omega, by have := g.n40; omega, by have := g.l60; omega, by have := g.gl2; have := g.n40; omega, fun e he => ⟨(g.ok e he).1, (g.ok e he).2.1⟩, fun x hx => (g.gl x hx).2⟩
theorem MapOk.dr {K : PySem.W.Frag} {C : Addr} {F H H' : Hp} {h p : Addr} {n : Nat} {a : Addr} {pvs : List V} {es : Es} {c : Addr} {gs : List Nat} (m : MapOk K C H p n a pvs es c gs) (d : Dr F H H' h) (hA : HandAt F H h) : MapOk K C H' p n a pvs es c gs := by
  obtain ⟨⟨dx, hp⟩, har, hgo⟩ := m.at_
  obtain ⟨cc, cells, i, r, s, k, h1, _⟩ := hA.ob
  exact ⟨⟨⟨dx, d.same _ _ (ne_of hp h1 (by intro z; cases z)) hp⟩, d.sqt hA har, d.sqt hA hgo⟩, m.pr.dr d hA, m.n0, m.n1, m.el, m.gn, m.ok, m.gl⟩

theorem StdAt.dr {K : PySem.W.Frag} {F H H' : Hp} {h t x y : Addr} {rs ls : List Nat} (s : StdAt K H t x y rs ls) (d : Dr F H H' h) (hA : HandAt F H h) : StdAt K H' t x y rs ls := ⟨d.sqt hA s.t, d.sqt hA s.x, d.sqt hA s.y⟩
theorem StdAt.upd {K : PySem.W.Frag} {H : Hp} {t x y p : Addr} {rs ls : List Nat} {ys : List V} {o : HO} (hp : H p = some (.lst ys)) (s : StdAt K H t x y rs ls) : StdAt K (upd H p o) t x y rs ls := ⟨sqt_upd hp s.t, sqt_upd hp s.x, sqt_upd hp s.y⟩
/-- a value that is a standing of the map -/
def IsSt (K : PySem.W.Frag) (H : Hp) (n : Nat) (es : Es) (gs : List Nat) (v : V) : Prop := ∃ (u x y : Addr) (rs ls : List Nat), v = .ref u ∧ StdAt K H u x y rs ls ∧ StdOk n es gs rs ls
theorem IsSt.same {K : PySem.W.Frag} {H H' : Hp} {n : Nat} {es : Es} {gs : List Nat} {v : V} (s : Same H H') (h : IsSt K H n es gs v) : IsSt K H' n es gs v := by
  obtain ⟨u, x, y, rs, ls, e, S, o⟩ := h
  exact ⟨u, x, y, rs, ls, e, S.same s, o⟩
theorem begin_ok {n : Nat} {es : Es} {gs : List Nat} (g : GoodMap n es gs) : StdOk n es gs [0] [] where
  rp := by simp
  lp := List.Pairwise.nil
  rn := fun r hr => by rw [List.mem_singleton.mp hr]; have := g.n2; omega
  ln := fun l hl => (List.not_mem_nil hl).elim
  r0 := List.mem_cons_self
  tl := fun l hl => (List.not_mem_nil hl).elim
  hold := fun r hr => .base hr
  opn := fun x hx => (g.rch x hx).mono (fun e he => by
    obtain ⟨k, hk⟩ := List.getElem?_of_mem he
    exact mem_leftV.mpr ⟨k, hk, List.not_mem_nil⟩) fun _ h => h

/-! what changes lists alone -/
def NotL (o : HO) : Prop := (∀ ys, o ≠ .lst ys) ∧ ∀ ps, o ≠ .tbl ps
/-- all but the lists (and the tables of code objects) stays -/
def Nl (H H' : Hp) : Prop := ∀ b o, NotL o → H b = some o → H' b = some o
theorem Same.nl {H H' : Hp} (s : Same H H') : Nl H H' := fun b o _ e => s b o e
theorem Nl.trans {H H1 H2 : Hp} (a : Nl H H1) (b : Nl H1 H2) : Nl H H2 := fun x o h e => b x o h (a x o h e)
theorem Nl.refl (H : Hp) : Nl H H := fun _ _ _ e => e
theorem notL_tup {xs : List V} : NotL (.tup xs) := ⟨fun _ z => (by cases z), fun _ z => (by cases z)⟩
theorem notL_ins {C dx : Addr} {fs : List (Str × V)} : NotL (.ins C dx fs) := ⟨fun _ z => (by cases z), fun _ z => (by cases z)⟩
theorem nl_upd {H : Hp} {p : Addr} {ys : List V} {o : HO} (hp : H p = some (.lst ys)) : Nl H (upd H p o) := fun b u n e => by
  rw [upd_ne fun z => n.1 ys (by rw [z, hp] at e; exact (Option.some.inj e).symm)]
  exact e
theorem Dr.nl {F H H' : Hp} {h : Addr} (d : Dr F H H' h) (hA : HandAt F H h) : Nl H H' := fun b o n e => by
  obtain ⟨c, cells, i, r, s, k, h1, _⟩ := hA.ob
  exact d.same b o (fun z => n.1 _ (by rw [z, h1] at e; exact (Option.some.inj e).symm)) e
theorem Nl.sqt {K : PySem.W.Frag} {H H' : Hp} {a : Addr} {xs : List V} (n : Nl H H') (h : SqT K H a xs) : SqT K H' a xs := by
  rcases h with (h | ⟨o, h⟩) | h
  · exact .inl (.inl (n _ _ notL_tup h))
  · exact .inl (.inr ⟨o, n _ _ ⟨fun _ z => (by cases z), fun _ z => (by cases z)⟩ h⟩)
  · exact .inr h
section
variable {K : PySem.W.Frag} {H H' : Hp} (s : Nl H H')
include s
theorem MapAt.nl {C p : Addr} {n : Nat} {a : Addr} {pvs : List V} {c : Addr} {gs : List Nat} (m : MapAt K C H p n a pvs c gs) : MapAt K C H' p n a pvs c gs :=
  ⟨m.ob.elim fun dx h => ⟨dx, s _ _ notL_ins h⟩, s.sqt m.ar, s.sqt m.go⟩
theorem Prs.nl {vs : List V} {es : Es} (p : Prs K H vs es) : Prs K H' vs es := ⟨p.len, fun i v e a b => (p.at_ i v e a b).elim fun t ⟨h1, h2⟩ => ⟨t, h1, s.sqt h2⟩⟩
theorem MapOk.nl {C p : Addr} {n : Nat} {a : Addr} {pvs : List V} {es : Es} {c : Addr} {gs : List Nat} (m : MapOk K C H p n a pvs es c gs) : MapOk K C H' p n a pvs es c gs :=
  ⟨m.at_.nl s, m.pr.nl s, m.n0, m.n1, m.el, m.gn, m.ok, m.gl⟩
theorem StdAt.nl {t x y : Addr} {rs ls : List Nat} (h : StdAt K H t x y rs ls) : StdAt K H' t x y rs ls := ⟨s.sqt h.t, s.sqt h.x, s.sqt h.y⟩
theorem PtsAt.nl {t : Addr} {n : Nat} {a : Addr} {pvs : List V} {es : Es} {c : Addr} {gs : List Nat} (p : PtsAt K H t n a pvs es c gs) : PtsAt K H' t n a pvs es c gs := ⟨s.sqt p.tp, s.sqt p.ar, p.pr.nl s, s.sqt p.go, p.gm⟩
end
/-- all but some objects stays -/
structure Kp (L : List Addr) (H H' : Hp) : Prop where
  same : ∀ b o, b ∉ L → H b = some o → H' b = some o
  live : ∀ b, H b ≠ none → H' b ≠ none
theorem Same.live {H H' : Hp} (s : Same H H') {b : Addr} (h : H b ≠ none) : H' b ≠ none := by
  cases e : H b with
  | none => exact absurd e h
  | some o =>
    rw [s b o e]
    exact fun z => by cases z
theorem Same.kp {L : List Addr} {H H' : Hp} (s : Same H H') : Kp L H H' := ⟨fun b o _ e => s b o e, fun _ h => Same.live s h⟩
theorem Kp.trans {L : List Addr} {H H1 H2 : Hp} (a : Kp L H H1) (b : Kp L H1 H2) : Kp L H H2 := ⟨fun x o h e => b.same x o h (a.same x o h e), fun x h => b.live x (a.live x h)⟩
theorem kp_upd {L : List Addr} {H : Hp} {p : Addr} {o : HO} (hp : p ∈ L) : Kp L H (upd H p o) where
  same := fun b u n e => by rw [upd_ne (fun z => n (by rw [z]; exact hp))]; exact e
  live := fun b h => by
    by_cases z : b = p
    · rw [z, upd_same]
      exact fun z => by cases z
    · rw [upd_ne z]
      exact h
theorem Kp.nl {L : List Addr} {H H' : Hp} (k : Kp L H H') (hl : ∀ b ∈ L, ∃ ys, H b = some (.lst ys)) : Nl H H' := fun b o n e => by
  refine k.same b o (fun z => ?_) e
  obtain ⟨ys, h⟩ := hl b z
  rw [h] at e
  exact n.1 ys (Option.some.inj e).symm
/-- what was new when a draw's account began may be changed -/
theorem Dr.kp {F H0 H H' : Hp} {h : Addr} {L : List Addr} (d : Dr F H0 H h) (k : Kp L H H') (hn : ∀ b ∈ L, H0 b = none) (nh : h ∉ L) (hF : Same F H0) : Dr F H0 H' h where
  hand := by
    obtain ⟨c, cells, i, r, s, k', h1, h2, h3⟩ := d.hand.ob
    exact ⟨⟨c, cells, i, r, s, k', k.same _ _ nh h1, h2, h3⟩, d.hand.nF⟩
  same := fun b o nb e => k.same b o (fun z => by rw [hn b z] at e; cases e) (d.same b o nb e)
  sub := fun b o e => k.same b o (fun z => by
    have := hF b o e
    rw [hn b z] at this
    cases this) (d.sub b o e)

/-! how many lives are left: parts of what is left, in an order, and their greatest excess -/
def inK (es : Es) (B R : List Nat) (v k : Nat) : Bool := decide (k ∉ B) && match es[k]? with
  | some e => decide (e.1 ∈ R) && decide (e.2 = v)
  | none => false
theorem inK_iff {es : Es} {B R : List Nat} {v k : Nat} : inK es B R v k = true ↔ k ∉ B ∧ ∃ u, es[k]? = some (u, v) ∧ u ∈ R := by
  unfold inK
  cases h : es[k]? with
  | none => simp
  | some e =>
    simp only [Bool.and_eq_true, decide_eq_true_eq]
    constructor
    · rintro ⟨h1, h2, h3⟩
      exact ⟨h1, e.1, by rw [← h3], h2⟩
    · rintro ⟨h1, u, h2, h3⟩
      cases h2
      exact ⟨h1, h3, rfl⟩
/-- how many arrows, none of B, lead from places of R to v -/
def inn (es : Es) (B R : List Nat) (v : Nat) : Nat := (List.range es.length).countP (inK es B R v)
/-- an arrow, none of B -/
def Arr (es : Es) (B : List Nat) (u w : Nat) : Prop := ∃ k, k ∉ B ∧ es[k]? = some (u, w)
theorem get_lt {es : Es} {k : Nat} {e : Nat × Nat} (h : es[k]? = some e) : k ∈ List.range es.length := List.mem_range.mpr (List.getElem?_eq_some_iff.mp h).1
theorem cp_lt {l : List Nat} {P Q : Nat → Bool} (h : ∀ x ∈ l, P x = true → Q x = true) {k : Nat} (hk : k ∈ l) (h1 : P k = false) (h2 : Q k = true) : l.countP P + 1 ≤ l.countP Q := by
  obtain ⟨a, b, rfl⟩ := List.append_of_mem hk
  rw [List.countP_append, List.countP_append, List.countP_cons, List.countP_cons, h1, h2]
  have a1 : a.countP P ≤ a.countP Q := List.countP_mono_left fun x hx => h x (List.mem_append_left _ hx)
  have a2 : b.countP P ≤ b.countP Q := List.countP_mono_left fun x hx => h x (List.mem_append_right _ (List.mem_cons_of_mem _ hx))
  simp
  omega
theorem cp_one {P Q : Nat → Bool} {k : Nat} (h2 : Q k = true) : ∀ {l : List Nat}, l.Nodup → k ∈ l → (∀ x ∈ l, P x = (Q x && decide (x ≠ k))) → l.countP Q = l.countP P + 1 := by
  intro l nd hk h
  obtain ⟨a, b, rfl⟩ := List.append_of_mem hk
  have nd2 := List.nodup_append.mp nd
  have nb := (List.nodup_cons.mp nd2.2.1).1
  have a1 : a.countP P = a.countP Q := List.countP_congr fun x hx => by
    rw [h x (List.mem_append_left _ hx)]
    have : x ≠ k := fun z => nd2.2.2 x hx k List.mem_cons_self z
    simp [this]
  have a2 : b.countP P = b.countP Q := List.countP_congr fun x hx => by
    rw [h x (List.mem_append_right _ (List.mem_cons_of_mem _ hx))]
    have : x ≠ k := fun z => nb (z ▸ hx)
    simp [this]
  have hPk : P k = false := by rw [h k hk]; simp
  rw [List.countP_append, List.countP_append, List.countP_cons, List.countP_cons, h2, hPk, a1, a2]
  simp
  omega
section
variable {es : Es} {gs B R : List Nat}
theorem inn_pos {v : Nat} : 0 < inn es B R v ↔ ∃ u ∈ R, Arr es B u v := by
  unfold inn
  rw [List.countP_pos_iff]
  constructor
  · rintro ⟨k, _, h⟩
    obtain ⟨h1, u, h2, h3⟩ := inK_iff.mp h
    exact ⟨u, h3, k, h1, h2⟩
  · rintro ⟨u, h3, k, h1, h2⟩
    exact ⟨k, get_lt h2, inK_iff.mpr ⟨h1, u, h2, h3⟩⟩
theorem inn_mono {R' : List Nat} {v : Nat} (h : ∀ u ∈ R, u ∈ R') : inn es B R v ≤ inn es B R' v := List.countP_mono_left fun k _ hk => by
  obtain ⟨h1, u, h2, h3⟩ := inK_iff.mp hk
  exact inK_iff.mpr ⟨h1, u, h2, h _ h3⟩
theorem inn_congr {R' B' : List Nat} {v : Nat} (h : ∀ u, Arr es B u v ∨ Arr es B' u v → (u ∈ R ↔ u ∈ R')) (hB : ∀ k u, es[k]? = some (u, v) → (k ∈ B ↔ k ∈ B')) : inn es B R v = inn es B' R' v := List.countP_congr fun k _ => by
  rw [inK_iff, inK_iff]
  constructor
  · rintro ⟨h1, u, h2, h3⟩
    exact ⟨fun z => h1 ((hB k u h2).mpr z), u, h2, (h u (.inl ⟨k, h1, h2⟩)).mp h3⟩
  · rintro ⟨h1, u, h2, h3⟩
    exact ⟨fun z => h1 ((hB k u h2).mp z), u, h2, (h u (.inr ⟨k, h1, h2⟩)).mpr h3⟩
theorem inn_more {R' : List Nat} {u v : Nat} (h : ∀ u ∈ R, u ∈ R') (a : Arr es B u v) (h1 : u ∈ R') (h2 : u ∉ R) : inn es B R v + 1 ≤ inn es B R' v := by
  obtain ⟨k, k1, k2⟩ := a
  refine cp_lt (fun x _ hx => ?_) (get_lt k2) (Bool.eq_false_iff.mpr fun z => ?_) (inK_iff.mpr ⟨k1, u, k2, h1⟩)
  · obtain ⟨a1, w, a2, a3⟩ := inK_iff.mp hx
    exact inK_iff.mpr ⟨a1, w, a2, h _ a3⟩
  · obtain ⟨a1, w, a2, a3⟩ := inK_iff.mp z
    rw [k2] at a2
    cases a2
    exact h2 a3
theorem inn_cut {k u v : Nat} (k1 : k ∉ B) (k2 : es[k]? = some (u, v)) (k3 : u ∈ R) : inn es B R v = inn es (k :: B) R v + 1 := by
  refine cp_one (inK_iff.mpr ⟨k1, u, k2, k3⟩) List.nodup_range (get_lt k2) fun x _ => ?_
  rw [Bool.eq_iff_iff, Bool.and_eq_true, inK_iff, inK_iff, decide_eq_true_eq, List.mem_cons, not_or]
  constructor
  · rintro ⟨⟨a, b⟩, c⟩
    exact ⟨⟨b, c⟩, a⟩
  · rintro ⟨⟨b, c⟩, a⟩
    exact ⟨⟨a, b⟩, c⟩
theorem inn_other {k u v x : Nat} (k2 : es[k]? = some (u, v)) (hx : x ≠ v) : inn es (k :: B) R x = inn es B R x := inn_congr (fun _ _ => Iff.rfl) fun j w hj => by
  rw [List.mem_cons]
  refine ⟨fun h => h.elim (fun z => ?_) id, .inr⟩
  rw [z, k2] at hj
  cases hj
  exact absurd rfl hx
/-- o: an order of places beyond R, each with an arrow from before, each but goals with one to behind; m: by how many the arrows are more than the places -/
inductive PO (es : Es) (gs B : List Nat) : List Nat → List Nat → Nat → Prop
  | nil {R : List Nat} : (∀ g ∈ gs, g ∈ R) → PO es gs B R [] 0
  | cons {R : List Nat} {v : Nat} {o : List Nat} {m m' : Nat} : v ∉ R → 0 < inn es B R v → (v ∈ gs ∨ ∃ w ∈ o, Arr es B v w) → PO es gs B (v :: R) o m → m' + 1 = m + inn es B R v → PO es gs B R (v :: o) m'
variable {o : List Nat} {m : Nat}
theorem PO.congr {R' : List Nat} (h : PO es gs B R o m) (e : ∀ x, x ∈ R ↔ x ∈ R') : PO es gs B R' o m := by
  induction h generalizing R' with
  | nil h => exact .nil fun g hg => (e g).mp (h g hg)
  | @cons R v o m m' h1 h2 h3 h4 h5 ih =>
    have q : inn es B R v = inn es B R' v := inn_congr (fun u _ => e u) fun _ _ _ => Iff.rfl
    exact .cons (fun z => h1 ((e v).mpr z)) (q ▸ h2) h3 (ih fun x => by rw [List.mem_cons, List.mem_cons, e x]) (q ▸ h5)
theorem PO.out (h : PO es gs B R o m) : ∀ v ∈ o, v ∉ R := by
  induction h with
  | nil => exact fun v hv => (List.not_mem_nil hv).elim
  | cons h1 h2 h3 h4 h5 ih =>
    intro x hx
    rcases List.mem_cons.mp hx with rfl | hx
    · exact h1
    · exact fun z => ih x hx (List.mem_cons_of_mem _ z)
theorem PO.goal (h : PO es gs B R o m) {g : Nat} (hg : g ∈ gs) : g ∈ R ∨ g ∈ o := by
  induction h with
  | nil h => exact .inl (h g hg)
  | cons h1 h2 h3 h4 h5 ih =>
    rcases ih with z | z
    · rcases List.mem_cons.mp z with rfl | z
      · exact .inr List.mem_cons_self
      · exact .inl z
    · exact .inr (List.mem_cons_of_mem _ z)
theorem PO.nd (h : PO es gs B R o m) : o.Nodup := by
  induction h with
  | nil => exact .nil
  | cons h1 h2 h3 h4 h5 ih => exact List.nodup_cons.mpr ⟨fun z => h4.out _ z List.mem_cons_self, ih⟩
/-- with one more place ahead -/
theorem PO.grow (h : PO es gs B R o m) {v : Nat} (hv : v ∉ o) : ∃ m', m ≤ m' ∧ PO es gs B (v :: R) o m' ∧ (v ∉ R → (∃ w ∈ o, Arr es B v w) → m + 1 ≤ m') := by
  induction h with
  | nil h => exact ⟨0, Nat.le_refl _, .nil fun g hg => List.mem_cons_of_mem _ (h g hg), fun _ ⟨w, hw, _⟩ => (List.not_mem_nil hw).elim⟩
  | @cons R x o m m' h1 h2 h3 h4 h5 ih =>
    rw [List.mem_cons, not_or] at hv
    obtain ⟨m1, l1, p1, s1⟩ := ih hv.2
    have q : inn es B R x ≤ inn es B (v :: R) x := inn_mono fun u hu => List.mem_cons_of_mem _ hu
    refine ⟨m1 + inn es B (v :: R) x - 1, by omega, .cons ?_ (by omega) h3 (p1.congr fun z => ?_) (by omega), fun nv ⟨w, hw, a⟩ => ?_⟩
    · rw [List.mem_cons, not_or]
      exact ⟨fun z => hv.1 z.symm, h1⟩
    · simp only [List.mem_cons]
      exact or_left_comm
    · rcases List.mem_cons.mp hw with rfl | hw
      · have := inn_more (R := R) (R' := v :: R) (fun u hu => List.mem_cons_of_mem _ hu) a List.mem_cons_self nv
        omega
      · have := s1 (by rw [List.mem_cons, not_or]; exact ⟨hv.1, nv⟩) ⟨w, hw, a⟩
        omega
/-- an arrow to a place that is not in the order is no matter -/
theorem PO.cut (h : PO es gs B R o m) {k u v : Nat} (k2 : es[k]? = some (u, v)) (hv : v ∉ o) : PO es gs (k :: B) R o m := by
  induction h with
  | nil h => exact .nil h
  | @cons R x o m m' h1 h2 h3 h4 h5 ih =>
    rw [List.mem_cons, not_or] at hv
    have q := inn_other (B := B) (R := R) k2 (x := x) (fun z => hv.1 z.symm)
    refine .cons h1 (q ▸ h2) (h3.imp id fun ⟨w, hw, j, j1, j2⟩ => ⟨w, hw, j, ?_, j2⟩) (ih hv.2) (q ▸ h5)
    rw [List.mem_cons, not_or]
    refine ⟨fun z => ?_, j1⟩
    rw [z, k2] at j2
    cases j2
    exact hv.2 hw
theorem PO.uncut {k u v : Nat} (h : PO es gs (k :: B) R o m) (k2 : es[k]? = some (u, v)) (hv : v ∉ o) : PO es gs B R o m := by
  generalize hB : k :: B = B' at h
  induction h with
  | nil h => exact .nil h
  | @cons R x o m m' h1 h2 h3 h4 h5 ih =>
    subst hB
    rw [List.mem_cons, not_or] at hv
    have q := inn_other (B := B) (R := R) k2 (x := x) (fun z => hv.1 z.symm)
    exact .cons h1 (q ▸ h2) (h3.imp id fun ⟨w, hw, j, j1, j2⟩ => ⟨w, hw, j, fun z => j1 (List.mem_cons_of_mem _ z), j2⟩) (ih hv.2) (q ▸ h5)
/-- it is found sound, and not in the way -/
theorem PO.sound {v : Nat} (h : PO es gs B (v :: R) o m) (h1 : v ∉ R) (h2 : 0 < inn es B R v) : ∃ o' m', m ≤ m' ∧ PO es gs B R o' m' := by
  by_cases z : v ∈ gs ∨ ∃ w ∈ o, Arr es B v w
  · exact ⟨v :: o, m + inn es B R v - 1, by omega, .cons h1 h2 z h (by omega)⟩
  · rw [not_or] at z
    refine ⟨o, m, Nat.le_refl _, ?_⟩
    have key : ∀ {S o m}, PO es gs B S o m → (∀ w ∈ o, ¬ Arr es B v w) → ∀ S', (∀ x, x ∈ S ↔ x = v ∨ x ∈ S') → PO es gs B S' o m := by
      intro S o m h
      induction h with
      | nil h => exact fun _ S' e => .nil fun g hg => ((e g).mp (h g hg)).elim (fun y => absurd (y ▸ hg) z.1) id
      | @cons S x o m m' h1 h2 h3 h4 h5 ih =>
        intro na S' e
        have q : inn es B S x = inn es B S' x := inn_congr (fun u hu => ⟨fun y => ((e u).mp y).elim (fun w => by
          subst w
          exact (na x List.mem_cons_self (hu.elim id id)).elim) id, fun y => (e u).mpr (.inr y)⟩) fun _ _ _ => Iff.rfl
        refine .cons (fun y => h1 ((e x).mpr (.inr y))) (q ▸ h2) h3 (ih (fun w hw => na w (List.mem_cons_of_mem _ hw)) _ fun y => ?_) (q ▸ h5)
        rw [List.mem_cons, List.mem_cons, e y]
        exact or_left_comm
    exact key h (fun w hw a => z.2 ⟨w, hw, a⟩) R fun x => by rw [List.mem_cons]
/-- a way of d arrows from v to a goal, through places beyond R -/
inductive Al (es : Es) (gs B R : List Nat) : Nat → Nat → Prop
  | goal {v : Nat} : v ∈ gs → v ∉ R → Al es gs B R 0 v
  | step {v w d : Nat} : v ∉ R → Arr es B v w → Al es gs B R d w → Al es gs B R (d + 1) v
theorem Al.out {d v : Nat} (h : Al es gs B R d v) : v ∉ R := by
  cases h with
  | goal _ h => exact h
  | step h => exact h
theorem Al.min {v : Nat} : ∀ {d : Nat}, Al es gs B R d v → ∃ e, Al es gs B R e v ∧ ∀ j, j < e → ¬ Al es gs B R j v := by
  intro d
  induction d using Nat.strongRecOn with
  | ind d ih =>
    intro h
    by_cases z : ∃ j, j < d ∧ Al es gs B R j v
    · obtain ⟨j, j1, j2⟩ := z
      exact ih j j1 j2
    · exact ⟨d, h, fun j j1 j2 => z ⟨j, j1, j2⟩⟩
theorem Al.avoid {d w v : Nat} (h : Al es gs B R d w) (no : ∀ j, j ≤ d → ¬ Al es gs B R j v) : Al es gs B (v :: R) d w := by
  induction h with
  | @goal w h1 h2 =>
    refine .goal h1 ?_
    rw [List.mem_cons, not_or]
    refine ⟨fun z => ?_, h2⟩
    subst z
    exact no 0 (Nat.le_refl _) (.goal h1 h2)
  | @step w x d h1 h2 h3 ih =>
    refine .step ?_ h2 (ih fun j hj => no j (by omega))
    rw [List.mem_cons, not_or]
    refine ⟨fun z => ?_, h1⟩
    subst z
    exact no _ (Nat.le_refl _) (.step h1 h2 h3)
/-- a way that is not in the order gives one more arrow -/
theorem PO.path : ∀ {d : Nat} {R o : List Nat} {m v : Nat}, PO es gs B R o m → v ∉ o → 0 < inn es B R v → Al es gs B R d v → ∃ o' m', m + 1 ≤ m' ∧ v ∈ o' ∧ PO es gs B R o' m' := by
  intro d
  induction d using Nat.strongRecOn with
  | ind d ih =>
    intro R o m v h hv hi ha
    have nv := ha.out
    by_cases z : ∃ j, j < d ∧ Al es gs B R j v
    · obtain ⟨j, j1, j2⟩ := z
      exact ih j j1 h hv hi j2
    · cases ha with
      | goal h1 h2 => exact ((h.goal h1).elim h2 hv).elim
      | @step v p d h1 h2 h3 =>
        have hp := h3.avoid (v := v) fun j hj y => z ⟨j, by omega, y⟩
        obtain ⟨m1, l1, p1, s1⟩ := h.grow hv
        by_cases hpo : p ∈ o
        · have := s1 nv ⟨p, hpo, h2⟩
          exact ⟨v :: o, m1 + inn es B R v - 1, by omega, List.mem_cons_self, .cons nv hi (.inr ⟨p, hpo, h2⟩) p1 (by omega)⟩
        · obtain ⟨o2, m2, l2, q2, p2⟩ := ih d (Nat.lt_succ_self d) p1 hpo (inn_pos.mpr ⟨v, List.mem_cons_self, h2⟩) hp
          exact ⟨v :: o2, m2 + inn es B R v - 1, by omega, List.mem_cons_self, .cons nv hi (.inr ⟨p, q2, h2⟩) p2 (by omega)⟩
/-- one that is worth a try is found rotten -/
theorem PO.rotten {k u v d : Nat} (h : PO es gs (k :: B) R o m) (k1 : k ∉ B) (k2 : es[k]? = some (u, v)) (k3 : u ∈ R) (a : Al es gs B R d v) : ∃ o' m', m + 1 ≤ m' ∧ PO es gs B R o' m' := by
  by_cases hv : v ∈ o
  · refine ⟨o, ?_⟩
    generalize hB : k :: B = B' at h
    clear a
    induction h with
    | nil h => exact (List.not_mem_nil hv).elim
    | @cons R x o m m' h1 h2 h3 h4 h5 ih =>
      subst hB
      have h3' : x ∈ gs ∨ ∃ w ∈ o, Arr es B x w := h3.imp id fun ⟨w, hw, j, j1, j2⟩ => ⟨w, hw, j, fun z => j1 (List.mem_cons_of_mem _ z), j2⟩
      by_cases hx : x = v
      · subst hx
        have q := inn_cut k1 k2 k3
        have nx : x ∉ o := fun z => h4.out _ z List.mem_cons_self
        exact ⟨m + inn es B R x - 1, by omega, .cons h1 (by omega) h3' (h4.uncut k2 nx) (by omega)⟩
      · have q := inn_other (B := B) (R := R) k2 hx
        obtain ⟨m1, l1, p1⟩ := ih (List.mem_cons_of_mem _ k3) ((List.mem_cons.mp hv).resolve_left fun z => hx z.symm)
        exact ⟨m1 + inn es B R x - 1, by omega, .cons h1 (q ▸ h2) h3' p1 (by omega)⟩
  · exact (PO.path (h.uncut k2 hv) hv (inn_pos.mpr ⟨u, k3, k, k1, k2⟩) a).elim fun o' ⟨m', l, _, p⟩ => ⟨o', m', l, p⟩
/-- what a foe answers: rotten takes one, sound takes nothing -/
theorem PO.two (h : PO es gs B R o m) {k u v : Nat} (k1 : k ∉ B) (k2 : es[k]? = some (u, v)) (k3 : u ∈ R) (hv : v ∈ o) :
    (∃ m', m ≤ m' + 1 ∧ PO es gs (k :: B) R o m') ∨ ∃ o' m', m ≤ m' ∧ PO es gs B (v :: R) o' m' ∧ (∀ w ∈ o, w ≠ v → w ∈ o') ∧ ∀ j x, j ∉ B → es[j]? = some (x, v) → x ∈ R → j = k := by
  induction h with
  | nil => exact (List.not_mem_nil hv).elim
  | @cons R x o m m' h1 h2 h3 h4 h5 ih =>
    have nx : x ∉ o := fun z => h4.out _ z List.mem_cons_self
    by_cases hx : x = v
    · subst hx
      have q := inn_cut k1 k2 k3
      by_cases h0 : 0 < inn es (k :: B) R x
      · refine .inl ⟨m + inn es (k :: B) R x - 1, by omega, .cons h1 h0 (h3.imp id fun ⟨w, hw, j, j1, j2⟩ => ⟨w, hw, j, ?_, j2⟩) (h4.cut k2 nx) (by omega)⟩
        rw [List.mem_cons, not_or]
        refine ⟨fun z => ?_, j1⟩
        rw [z, k2] at j2
        cases j2
        exact nx hw
      · refine .inr ⟨o, m, by omega, h4, fun w hw ne => (List.mem_cons.mp hw).resolve_left ne, fun j y j1 j2 j3 => ?_⟩
        refine Classical.byContradiction fun ne => h0 (inn_pos.mpr ⟨y, j3, j, ?_, j2⟩)
        rw [List.mem_cons, not_or]
        exact ⟨ne, j1⟩
    · have hv' : v ∈ o := (List.mem_cons.mp hv).resolve_left fun z => hx z.symm
      have nv : v ∉ R := fun z => (PO.out h4 v hv') (List.mem_cons_of_mem _ z)
      have ux : u ≠ x := fun z => h1 (z ▸ k3)
      rcases ih (List.mem_cons_of_mem _ k3) hv' with ⟨m1, l1, p1⟩ | ⟨o1, m1, l1, p1, s1, t1⟩
      · have q := inn_other (B := B) (R := R) k2 hx
        refine .inl ⟨m1 + inn es (k :: B) R x - 1, by omega, .cons h1 (q ▸ h2) (h3.imp id fun ⟨w, hw, j, j1, j2⟩ => ⟨w, hw, j, ?_, j2⟩) p1 (by omega)⟩
        rw [List.mem_cons, not_or]
        refine ⟨fun z => ?_, j1⟩
        rw [z, k2] at j2
        cases j2
        exact ux rfl
      · have q : inn es B R x ≤ inn es B (v :: R) x := inn_mono fun y hy => List.mem_cons_of_mem _ hy
        have rf : ∀ w, Arr es B x w → w ≠ v := fun w ⟨j, j1, j2⟩ z => by
          subst z
          have e := t1 j x j1 j2 List.mem_cons_self
          rw [e, k2] at j2
          cases j2
          exact ux rfl
        refine .inr ⟨x :: o1, m1 + inn es B (v :: R) x - 1, by omega, .cons ?_ (by omega) (h3.imp id fun ⟨w, hw, a⟩ => ⟨w, s1 w hw (rf w a), a⟩) (p1.congr fun y => ?_) (by omega), fun w hw ne => ?_, fun j y j1 j2 j3 => t1 j y j1 j2 (List.mem_cons_of_mem _ j3)⟩
        · rw [List.mem_cons, not_or]
          exact ⟨hx, h1⟩
        · simp only [List.mem_cons]
          exact or_left_comm
        · rcases List.mem_cons.mp hw with rfl | hw
          · exact List.mem_cons_self
          · exact List.mem_cons_of_mem _ (s1 w hw ne)
theorem cp_two {P Q S : Nat → Bool} : ∀ {l : List Nat}, (∀ x ∈ l, (if P x then 1 else 0) + (if Q x then 1 else 0) ≤ (if S x then (1 : Nat) else 0)) → l.countP P + l.countP Q ≤ l.countP S
  | [], _ => Nat.le_refl _
  | x :: l, h => by
    have a := h x List.mem_cons_self
    have b := cp_two fun y hy => h y (List.mem_cons_of_mem _ hy)
    rw [List.countP_cons, List.countP_cons, List.countP_cons]
    omega
def hdN (es : Es) (R : List Nat) (k : Nat) : Bool := match es[k]? with
  | some e => decide (e.2 ∉ R)
  | none => false
/-- no more than there are arrows -/
theorem PO.le (h : PO es gs B R o m) : m + o.length ≤ (List.range es.length).countP (hdN es R) := by
  induction h with
  | nil => exact Nat.zero_le _
  | @cons R x o m m' h1 h2 h3 h4 h5 ih =>
    have : inn es B R x + (List.range es.length).countP (hdN es (x :: R)) ≤ (List.range es.length).countP (hdN es R) := by
      refine cp_two fun k _ => ?_
      unfold inK hdN
      cases es[k]? with
      | none => simp
      | some e =>
        by_cases z : e.2 = x
        · subst z
          simp [h1]
          split <;> omega
        · simp [z]
    rw [List.length_cons]
    omega
theorem PO.le_len (h : PO es gs B R o m) : m ≤ es.length := by
  have := h.le
  have := List.countP_le_length (p := hdN es R) (l := List.range es.length)
  rw [List.length_range] at this
  omega
theorem PO.done (h : PO es gs B R o m) (hd : ∀ g ∈ gs, g ∈ R) : o = [] ∧ m = 0 := by
  induction h with
  | nil => exact ⟨rfl, rfl⟩
  | @cons R x o m m' h1 h2 h3 h4 h5 ih =>
    obtain ⟨rfl, _⟩ := ih fun g hg => List.mem_cons_of_mem _ (hd g hg)
    rcases h3 with h3 | ⟨w, hw, _⟩
    · exact absurd (hd x h3) h1
    · exact (List.not_mem_nil hw).elim
/-- all of it is come to -/
theorem PO.rch (h : PO es gs B R o m) {S : List Nat} {T : List Nat} (hS : ∀ x ∈ R, Rch (leftV es B) S x) : ∀ x ∈ o, Rch (leftV es B) S x := by
  induction h with
  | nil => exact fun x hx => (List.not_mem_nil hx).elim
  | @cons R v o m m' h1 h2 h3 h4 h5 ih =>
    obtain ⟨u, hu, k, k1, k2⟩ := inn_pos.mp h2
    have hv : Rch (leftV es B) S v := (hS u hu).edge (mem_leftV.mpr ⟨k, k2, k1⟩)
    have hR : ∀ x ∈ v :: R, Rch (leftV es B) S x := fun x hx => (List.mem_cons.mp hx).elim (fun e => e ▸ hv) (hS x)
    intro x hx
    rcases List.mem_cons.mp hx with rfl | hx
    · exact hv
    · exact ih hR x hx
/-- there is one, where all goals can be come to -/
theorem PO.ex {n : Nat} (ok : ∀ e ∈ es, e.2 < n) : ∀ (d : Nat) (R : List Nat), (List.range n).countP (fun v => decide (v ∉ R)) ≤ d → (∀ g ∈ gs, Rch (leftV es B) R g) → ∃ o m, PO es gs B R o m := by
  intro d
  induction d with
  | zero =>
    intro R hd hg
    refine ⟨[], 0, .nil fun g hgs => ?_⟩
    refine (hg g hgs).ind (P := fun v => v ∈ R) (fun v h => h) fun u v hu e => Classical.byContradiction fun hv => ?_
    have : 0 < (List.range n).countP (fun v => decide (v ∉ R)) := List.countP_pos_iff.mpr ⟨v, List.mem_range.mpr (ok (u, v) (by obtain ⟨k, h, _⟩ := mem_leftV.mp e; exact List.mem_of_getElem? h)), decide_eq_true hv⟩
    omega
  | succ d ih =>
    intro R hd hg
    by_cases z : ∀ g ∈ gs, g ∈ R
    · exact ⟨[], 0, .nil z⟩
    · obtain ⟨v, nv, u, hu, a⟩ : ∃ v, v ∉ R ∧ ∃ u ∈ R, Arr es B u v := by
        refine Classical.byContradiction fun no => z fun g hgs => ?_
        refine (hg g hgs).ind (P := fun v => v ∈ R) (fun v h => h) fun u v hu e => Classical.byContradiction fun hv => no ⟨v, hv, u, hu, ?_⟩
        obtain ⟨k, h1, h2⟩ := mem_leftV.mp e
        exact ⟨k, h2, h1⟩
      obtain ⟨k, k1, k2⟩ := a
      have hvn : v ∈ List.range n := List.mem_range.mpr (ok (u, v) (List.mem_of_getElem? k2))
      have lt : (List.range n).countP (fun x => decide (x ∉ v :: R)) + 1 ≤ (List.range n).countP (fun x => decide (x ∉ R)) := by
        refine cp_lt (fun x _ hx => ?_) hvn (by simp) (decide_eq_true nv)
        rw [decide_eq_true_eq] at hx ⊢
        exact fun y => hx (List.mem_cons_of_mem _ y)
      obtain ⟨o, m, p⟩ := ih (v :: R) (by omega) fun g hgs => (hg g hgs).mono (fun _ h => h) fun _ h => List.mem_cons_of_mem _ h
      obtain ⟨o', m', _, p'⟩ := p.sound nv (inn_pos.mpr ⟨u, hu, k, k1, k2⟩)
      exact ⟨o', m', p'⟩
/-- m is the greatest excess of what is left -/
structure IsLft (es : Es) (gs B R : List Nat) (m : Nat) : Prop where
  ex : ∃ o, PO es gs B R o m
  top : ∀ o m', PO es gs B R o m' → m' ≤ m
theorem IsLft.uniq {m m' : Nat} (h : IsLft es gs B R m) (h' : IsLft es gs B R m') : m = m' := by
  obtain ⟨o, p⟩ := h.ex
  obtain ⟨o', p'⟩ := h'.ex
  exact Nat.le_antisymm (h'.top o m p) (h.top o' m' p')
theorem IsLft.of (h : ∃ o m, PO es gs B R o m) : ∃ m, IsLft es gs B R m := by
  have key : ∀ d m o, PO es gs B R o m → es.length ≤ m + d → ∃ m, IsLft es gs B R m := by
    intro d
    induction d with
    | zero => exact fun m o p hd => ⟨m, ⟨o, p⟩, fun o' m' p' => by have := p'.le_len; omega⟩
    | succ d ih =>
      intro m o p hd
      by_cases z : ∃ o' m', m < m' ∧ PO es gs B R o' m'
      · obtain ⟨o', m', lt, p'⟩ := z
        exact ih m' o' p' (by omega)
      · exact ⟨m, ⟨o, p⟩, fun o' m' p' => Nat.le_of_not_lt fun lt => z ⟨o', m', lt, p'⟩⟩
  obtain ⟨o, m, p⟩ := h
  exact key es.length m o p (by omega)
/-- it is a matter of the lots alone -/
theorem PO.sets {B' R' : List Nat} (h : PO es gs B R o m) (eR : ∀ x, x ∈ R ↔ x ∈ R') (eB : ∀ x, x ∈ B ↔ x ∈ B') : PO es gs B' R' o m := by
  refine PO.congr (R := R) ?_ eR
  clear eR
  induction h with
  | nil h => exact .nil h
  | @cons R v o m m' h1 h2 h3 h4 h5 ih =>
    have q : inn es B R v = inn es B' R v := inn_congr (fun _ _ => Iff.rfl) fun k _ _ => eB k
    exact .cons h1 (q ▸ h2) (h3.imp id fun ⟨w, hw, j, j1, j2⟩ => ⟨w, hw, j, fun z => j1 ((eB j).mpr z), j2⟩) ih (q ▸ h5)
theorem IsLft.sets {m : Nat} {B' R' : List Nat} (h : IsLft es gs B R m) (eR : ∀ x, x ∈ R ↔ x ∈ R') (eB : ∀ x, x ∈ B ↔ x ∈ B') : IsLft es gs B' R' m :=
  ⟨h.ex.elim fun o p => ⟨o, p.sets eR eB⟩, fun o m' p => h.top o m' (p.sets (fun x => (eR x).symm) fun x => (eB x).symm)⟩
/-! what news do to it -/
theorem IsLft.done {m : Nat} (h : IsLft es gs B R m) (hd : ∀ g ∈ gs, g ∈ R) : m = 0 := by
  obtain ⟨o, p⟩ := h.ex
  exact (p.done hd).2
theorem IsLft.yes {m m' u v : Nat} (h : IsLft es gs B R m) (h' : IsLft es gs B (v :: R) m') (hu : u ∈ R) (a : Arr es B u v) : m' ≤ m := by
  obtain ⟨o, p⟩ := h'.ex
  by_cases hv : v ∈ R
  · exact h.top o m' (p.congr fun x => by rw [List.mem_cons]; exact ⟨fun z => z.elim (fun e => e ▸ hv) id, .inr⟩)
  · obtain ⟨o1, m1, l1, p1⟩ := p.sound hv (inn_pos.mpr ⟨u, hu, a⟩)
    have := h.top o1 m1 p1
    omega
theorem IsLft.no {m m' k u v d : Nat} (h : IsLft es gs B R m) (h' : IsLft es gs (k :: B) R m') (k1 : k ∉ B) (k2 : es[k]? = some (u, v)) (hu : u ∈ R) (a : Al es gs B R d v) : m' + 1 ≤ m := by
  obtain ⟨o, p⟩ := h'.ex
  obtain ⟨o1, m1, l1, p1⟩ := p.rotten k1 k2 hu a
  have := h.top o1 m1 p1
  omega
/-- a foe's answer to a try -/
theorem IsLft.foe {m k u v : Nat} (h : IsLft es gs B R m) (k1 : k ∉ B) (k2 : es[k]? = some (u, v)) (hu : u ∈ R) : (∃ o m', m ≤ m' + 1 ∧ PO es gs (k :: B) R o m') ∨ ∃ o m', m ≤ m' ∧ PO es gs B (v :: R) o m' := by
  obtain ⟨o, p⟩ := h.ex
  by_cases hv : v ∈ o
  · exact (p.two k1 k2 hu hv).imp (fun ⟨m', z⟩ => ⟨o, m', z⟩) fun ⟨o', m', l, q, _⟩ => ⟨o', m', l, q⟩
  · obtain ⟨m', l, q, _⟩ := p.grow hv
    exact .inr ⟨o, m', l, q⟩
end

/-! the places that count, as spots; sets of spots as numbers -/
abbrev turnE (es : Es) : Es := es.filterMap fun e => some (swp e)
theorem mem_turnE {es : Es} {u v : Nat} : (u, v) ∈ turnE es ↔ (v, u) ∈ es := by
  unfold turnE
  rw [List.mem_filterMap]
  constructor
  · rintro ⟨e, h, z⟩
    cases z
    exact h
  · intro h
    exact ⟨(v, u), h, rfl⟩
structure Cps (n : Nat) (es : Es) (gs cps : List Nat) : Prop where
  pw : cps.Pairwise (· < ·)
  mem : ∀ v, v ∈ cps ↔ v < n ∧ Rch es [0] v ∧ Rch (turnE es) gs v
/-- the places of a set of spots -/
def plF (cps : List Nat) (F : Nat) : List Nat := (bitsL F).filterMap fun i => cps[i]?
theorem mem_plF {cps : List Nat} {F v : Nat} : v ∈ plF cps F ↔ ∃ i, F.testBit i = true ∧ cps[i]? = some v := by
  unfold plF
  rw [List.mem_filterMap]
  constructor
  · rintro ⟨i, h1, h2⟩
    exact ⟨i, mem_bitsL.mp h1, h2⟩
  · rintro ⟨i, h1, h2⟩
    exact ⟨i, mem_bitsL.mpr h1, h2⟩
/-- what the spots, their goals, the arrows between them are -/
structure Cor (es : Es) (gs cps : List Nat) (en : Nat) (om im : Nat → Nat) : Prop where
  nd : cps.Nodup
  zero : cps[0]? = some 0
  few : cps.length ≤ 9
  en : ∀ i, en.testBit i = true ↔ ∃ g ∈ gs, cps[i]? = some g
  gin : ∀ g ∈ gs, g ∈ cps
  g0 : ∀ g ∈ gs, g ≠ 0
  om : ∀ t v, cps[t]? = some v → ∀ h, (om t).testBit h = true ↔ ∃ w, cps[h]? = some w ∧ Arr es [] v w
  im : ∀ t v, cps[t]? = some v → ∀ h, (im t).testBit h = true ↔ ∃ w, cps[h]? = some w ∧ Arr es [] w v
  no : ∀ u, ¬ Arr es [] u u
theorem nd_ix {cps : List Nat} (nd : cps.Nodup) {i j v : Nat} (h1 : cps[i]? = some v) (h2 : cps[j]? = some v) : i = j := by
  obtain ⟨a, b⟩ := List.getElem?_eq_some_iff.mp h1
  obtain ⟨c, d⟩ := List.getElem?_eq_some_iff.mp h2
  rcases Nat.lt_trichotomy i j with z | z | z
  · exact absurd (b.trans d.symm) (List.pairwise_iff_getElem.mp nd i j a c z)
  · exact z
  · exact absurd (d.trans b.symm) (List.pairwise_iff_getElem.mp nd j i c a z)
theorem lt_of_bits {F n : Nat} (h : ∀ i, F.testBit i = true → i < n) : F < 2 ^ n := Nat.lt_pow_two_of_testBit F fun i hi => by
  cases e : F.testBit i with
  | false => rfl
  | true => have := h i e; omega
theorem bit_lt {F n i : Nat} (h : F < 2 ^ n) (b : F.testBit i = true) : i < n := Nat.lt_of_not_le fun z => by
  have := Nat.testBit_lt_two_pow (Nat.lt_of_lt_of_le h (Nat.pow_le_pow_right (by decide) z))
  rw [b] at this
  cases this

abbrev s_bits : Stmt := topS 18
abbrev sl_bits : List Str := ["kept", "k"]
theorem sc_bits : FnScope ["kept", "k"] ["kept"] (defScope s_bits) := ⟨rfl, rfl, rfl, by decide +kernel, rfl, by decide +kernel, by decide +kernel⟩
def spBits : Sp := fun vs H Q _ => ∃ m : Nat, vs = [nV m] ∧ m < 2 ^ 62 ∧ ∀ D H', Same H H' → H D = none → H' D = some (.lst ((bitsL m).map nV)) → Q (.ref D) H'
theorem ok_bits (B : Bt mg) (D0 : Df K mg "bits" s_bits ["kept"]) : Has P w K mg base "bits" 1 ["kept"] spBits := by
  refine D0.has fun f fd F => F.ok sc_bits (fun vs H Q E h => ?_) (fun cdv A outer s H vs Q E hr h => ?_)
  · obtain ⟨m, rfl, _⟩ := h
    rfl
  · obtain ⟨m, rfl, hm, q⟩ := h
    refine ⟨_, (pss_one (ps_ret (pe_lc (own := [("k", 1)]) (g := gName 1) rfl sc_bits.nd (pi_range1 (by rfl) B.range (pa_cons (pe_bits (pv 0)) pa_nil)) (blkOk_by (N := sl_bits) (sc := defScope s_bits) (by decide +kernel)) (fun _ _ _ _ _ => (pg_name (i := 1) sc_bits.nd rfl (.inl rfl))) (fun _ _ _ _ _ => pts_one (k_truC (K := K) rfl (pe_op op_andN (pe_op op_shrNN (pv 0) (pv 1)) pe_int) (by intro _; rfl))) (fun _ _ _ _ _ => (pv 1))))), ?_⟩
    have hb := ib_le hm
    refine ⟨_, rfl, (m : Int), rfl, ((Builtin.Int.intBits (m : Int) : Nat) : Int), rfl, by omega, by omega, fun D nD => ?_⟩
    refine lc_val walk_range calm_fn (fun i => if m.testBit i = true then some (nV i) else none) (by show (((Builtin.Int.intBits (m : Int) : Nat) : Int)).toNat ≤ 100000; omega) nD (fun _ _ => trivial) ?_ fun H1 s1 h1 => ?_
    · rintro i v H2 H3 hi s2 ⟨rfl, hv⟩ Kt kt
      have e0 : (V.int ((0 : Int) + (i : Int))) = nV i := by
        show V.int ((0 : Int) + (i : Int)) = V.int (i : Int)
        rw [Int.zero_add]
      have hv : v = nV i := Eq.trans hv e0
      subst hv
      have k0 := kt _ (Same.refl _)
      refine ⟨rfl, ?_⟩
      refine ⟨_, rfl, _, rfl, m, i, rfl, rfl, _, 1, rfl, rfl, m.testBit i, (bit1 m i).2.symm, ?_⟩
      cases hbt : m.testBit i with
      | false =>
        rw [hbt, if_neg (by decide)] at k0
        exact iteF k0
      | true =>
        rw [hbt, if_pos rfl] at k0
        exact iteT ⟨_, rfl, k0⟩
    · refine q D H1 s1 nD ?_
      rw [h1]
      congr 2
      unfold bitsL
      have e1 : (((Builtin.Int.intBits (m : Int) : Nat) : Int)).toNat = Builtin.Int.intBits (m : Int) := Int.toNat_natCast _
      show List.filterMap _ (List.range (((Builtin.Int.intBits (m : Int) : Nat) : Int)).toNat) = _
      rw [e1]
      induction List.range (Builtin.Int.intBits (m : Int)) with
      | nil => rfl
      | cons x r ih =>
        rw [List.filterMap_cons, List.filter_cons, ih]
        cases m.testBit x <;> rfl

abbrev s__sums : Stmt := topS 19
abbrev sl__sums : List Str := ["row", "sums", "number", "total"]
theorem sc__sums : FnScope ["row", "sums", "number", "total"] ["row"] (defScope s__sums) := ⟨rfl, rfl, rfl, by decide +kernel, rfl, by decide +kernel, by decide +kernel⟩
/-- sums of all lots of a row -/
def sumsL (row : List Nat) : List Nat := row.foldl (fun s n => s ++ s.map (· + n)) [0]
theorem sumsL_snoc {row : List Nat} {x : Nat} : sumsL (row ++ [x]) = sumsL row ++ (sumsL row).map (· + x) := by
  unfold sumsL
  rw [List.foldl_append]
  rfl
theorem sumsL_len (row : List Nat) : (sumsL row).length = 2 ^ row.length := by
  suffices h : ∀ s : List Nat, (row.foldl (fun s n => s ++ s.map (· + n)) s).length = s.length * 2 ^ row.length by
    unfold sumsL
    rw [h]
    simp
  induction row with
  | nil => intro s; simp
  | cons x r ih =>
    intro s
    rw [List.foldl_cons, ih, List.length_append, List.length_map, List.length_cons, Nat.pow_succ]
    have : s.length + s.length = s.length * 2 := by omega
    rw [this, Nat.mul_assoc, Nat.mul_comm 2]
def spSums (K : PySem.W.Frag) : Sp := fun vs H Q _ => ∃ (l : Addr) (row : List Nat), vs = [.ref l] ∧ SqL K H l (row.map nV) ∧ row.length ≤ 9 ∧ ∀ D H', Same H H' → H D = none → H' D = some (.lst ((sumsL row).map nV)) → Q (.ref D) H'
theorem ok__sums (D0 : Df K mg "_sums" s__sums ["row"]) : Has P w K mg base "_sums" 1 ["row"] (spSums K) := by
  refine D0.has fun f fd F => F.ok sc__sums (fun vs H Q E h => ?_) (fun cdv A outer s H vs Q E hr h => ?_)
  · obtain ⟨l, row, rfl, _⟩ := h
    rfl
  · obtain ⟨l, row, rfl, hl, hrow, q⟩ := h
    refine ⟨_, (pss_cons (ps_set (i := 1) sc__sums.nd rfl (.inl rfl) (pe_lst (pa_cons pe_int pa_nil)))
  (pss_cons (ps_for PassesOwn.never rfl (k_pil (K := K) rfl (pv 0)) (pg_name (i := 2) sc__sums.nd rfl (.inr rfl))
    (pss_one (ps_set (i := 1) sc__sums.nd rfl (.inl rfl) (pe_op op_cat (pv 1) (pe_lc (own := [("total", 3)]) (g := gName 3) rfl sc__sums.nd (k_pil (K := K) rfl (pv 1)) (blkOk_by (N := sl__sums) (sc := defScope s__sums) (by decide +kernel)) (fun _ _ _ _ _ => (pg_name (i := 3) sc__sums.nd rfl (.inl rfl))) (fun _ _ _ _ _ => pts_nil) (fun _ _ _ _ _ => (pe_op op_add (pv 3) (pv 2))))))))
  (pss_one (ps_ret (pv 1))))), ?_⟩
    refine ⟨Nat.le_of_lt (small_lt (by decide : 1 ≤ 100000)), fun D0 nD0 => ?_⟩
    refine ⟨_, rfl, l, rfl, ⟨_, Same.seq (same_new (Same.refl H) nD0) hl⟩, ?_⟩
    refine for_list (xs := row.map nV) (fun i σ H' => ∃ (x2 x3 : Option V) (D : Addr), σ = [some (.ref l), some (.ref D), x2, x3] ∧ Same H H' ∧ H D = none ∧ H' D = some (.lst ((sumsL (row.take i)).map nV))) ⟨none, none, D0, rfl, same_new (Same.refl H) nD0, nD0, upd_same⟩ (fun i σ H' hi ⟨_, _, _, _, s1, _⟩ => Same.seq s1 hl) ?_ ?_
    · rintro i x σ H1 hx ⟨x2, x3, D, rfl, s1, nD, hD⟩
      obtain ⟨k, hk, rfl⟩ := getmap hx
      have hi : i < row.length := (List.getElem?_eq_some_iff.mp hk).1
      have hlen : (sumsL (row.take i)).length ≤ 256 := by
        rw [sumsL_len, List.length_take]
        exact Nat.le_trans (Nat.pow_le_pow_right (by decide) (show min i row.length ≤ 8 by omega)) (by decide)
      refine ⟨_, rfl, _, rfl, D, rfl, ⟨_, sql hD⟩, fun E nE => ?_⟩
      refine lc_val walk_list calm_at (fun (j : Nat) => ((sumsL (row.take i))[j]?).map fun (t : Nat) => nV (t + k)) (by rw [List.length_map]; omega) nE (fun H3 s3 => sql (s3 _ _ hD)) ?_ fun H2 s2 hE => ?_
      · rintro j v H2 H3 hj s2 ⟨rfl, hv⟩ Kt kt
        obtain ⟨t, ht, rfl⟩ := getmap hv
        have k0 := kt _ (Same.refl _)
        rw [ht] at k0
        refine ⟨rfl, tyes ?_⟩
        exact ⟨_, rfl, _, rfl, _, _, rfl, rfl, k0⟩
      · have hD2 := s2 _ _ hD
        have eE : ((List.range ((sumsL (row.take i)).map nV).length).filterMap fun (j : Nat) => ((sumsL (row.take i))[j]?).map fun (t : Nat) => nV (t + k)) = ((sumsL (row.take i)).map (· + k)).map nV := by
          rw [List.length_map]
          have := fm_range (F := fun t => some (nV (t + k))) (xs := sumsL (row.take i))
          have e2 : (fun (j : Nat) => ((sumsL (row.take i))[j]?).map fun (t : Nat) => nV (t + k)) = fun (j : Nat) => ((sumsL (row.take i))[j]?).bind fun (t : Nat) => some (nV (t + k)) := by
            funext j
            cases (sumsL (row.take i))[j]? <;> rfl
          rw [e2, this, fm_some, List.map_map]
          rfl
        rw [eE] at hE
        refine ⟨D, E, _, _, rfl, rfl, hD2, hE, small_sz (by rw [List.length_map, List.length_map, List.length_map]; omega), fun G nG => ?_⟩
        refine ⟨_, _, G, rfl, (s1.trans s2).trans (same_new (Same.refl H2) nG), Same.free (s1.trans s2) nG, ?_⟩
        rw [upd_same, List.take_add_one, hk]
        show some (HO.lst _) = some (HO.lst ((sumsL (row.take i ++ [k])).map nV))
        rw [sumsL_snoc, List.map_append]
    · rintro σ H1 ⟨x2, x3, D, rfl, s1, nD, hD⟩
      rw [List.length_map, List.take_length] at hD
      exact ⟨_, rfl, q D H1 s1 nD hD⟩

abbrev s_counted_places : Stmt := topS 15
abbrev sl_counted_places : List Str := ["chart", "onward", "turned", "homeward", "tail", "head", "place"]
theorem sc_counted_places : FnScope ["chart", "onward", "turned", "homeward", "tail", "head", "place"] ["chart"] (defScope s_counted_places) := ⟨rfl, rfl, rfl, by decide +kernel, rfl, by decide +kernel, by decide +kernel⟩
def spCounted (K : PySem.W.Frag) (C : Addr) : Sp := fun vs H Q _ => ∃ (p : Addr) (n : Nat) (a : Addr) (pvs : List V) (es : Es) (c : Addr) (gs : List Nat), vs = [.ref p] ∧ MapOk K C H p n a pvs es c gs ∧
  ∀ D cps H', Same H H' → H D = none → H' D = some (.lst (cps.map nV)) → Cps n es gs cps → Q (.ref D) H'
theorem ok_counted_places {CMap : Addr} (B : Bt mg) (C : MapC K mg CMap) (h_steps_from : Has P w K mg base "steps_from" 1 ["many", "pairs", "sources"] (spSteps K))
    (h_many : HasM P w K mg base CMap "many" 1 ["self"] (spMany K CMap)) (h_arrows : HasM P w K mg base CMap "arrows" 1 ["self"] (spArrows K CMap)) (h_goals : HasM P w K mg base CMap "goals" 1 ["self"] (spGoals K CMap))
    (D0 : Df K mg "counted_places" s_counted_places ["chart"]) : Has P w K mg base "counted_places" 2 ["chart"] (spCounted K CMap) := by
  refine D0.has fun f fd F => F.ok sc_counted_places (fun vs H Q E h => ?_) (fun cdv A outer s H vs Q E hr h => ?_)
  · obtain ⟨p, n, a, pvs, es, c, gs, rfl, _⟩ := h
    rfl
  · obtain ⟨p, n, a, pvs, es, c, gs, rfl, m, q⟩ := h
    refine ⟨_, (pss_cons (ps_set (i := 1) sc_counted_places.nd rfl (.inr rfl) (pcall h_steps_from hr (by decide) (by rfl) (pa_cons (pe_meth0 (pv 0) C.cl h_many.mt h_many.F (hr.mono (by decide)) h_many.b .nil pass0) (pa_cons (pe_meth0 (pv 0) C.cl h_arrows.mt h_arrows.F (hr.mono (by decide)) h_arrows.b .nil pass0) (pa_cons (pe_tup (pa_cons pe_int pa_nil)) pa_nil)))))
  (pss_cons (ps_setLc (i := 2) (own := [("tail", 4), ("head", 5)]) (g := gTup K 2 (gCons (gName 4) (gCons (gName 5) gNil))) rfl sc_counted_places.nd rfl rfl (sw_true rfl rfl rfl (by decide +kernel)) (k_pit (K := K) rfl (pe_meth0 (pv 0) C.cl h_arrows.mt h_arrows.F (hr.mono (by decide)) h_arrows.b .nil pass0)) (blkOk_by (N := sl_counted_places) (sc := defScope s_counted_places) (by decide +kernel)) (fun _ _ _ _ _ => (pg_tup rfl (pgs_cons (pg_name (i := 4) sc_counted_places.nd rfl (.inl rfl)) (pgs_cons (pg_name (i := 5) sc_counted_places.nd rfl (.inl rfl)) pgs_nil)))) (fun _ _ _ _ _ => pts_nil) (fun _ _ _ _ _ => (pe_tup (pa_cons (pv 5) (pa_cons (pv 4) pa_nil)))))
  (pss_cons (ps_set (i := 3) sc_counted_places.nd rfl (.inr rfl) (pcall h_steps_from hr (by decide) (by rfl) (pa_cons (pe_meth0 (pv 0) C.cl h_many.mt h_many.F (hr.mono (by decide)) h_many.b .nil pass0) (pa_cons (pv 2) (pa_cons (pe_meth0 (pv 0) C.cl h_goals.mt h_goals.F (hr.mono (by decide)) h_goals.b .nil pass0) pa_nil)))))
  (pss_one (ps_ret (pe_lc (own := [("place", 6)]) (g := gName 6) rfl sc_counted_places.nd (pi_range1 (by rfl) B.range (pa_cons (pe_meth0 (pv 0) C.cl h_many.mt h_many.F (hr.mono (by decide)) h_many.b .nil pass0) pa_nil)) (blkOk_by (N := sl_counted_places) (sc := defScope s_counted_places) (by decide +kernel)) (fun _ _ _ _ _ => (pg_name (i := 6) sc_counted_places.nd rfl (.inl rfl))) (fun _ _ _ _ _ => pts_one (PW.pt (pw_and (pt_cmpR op_notN (pe_ix (k_ixl (K := K) rfl) (pv 1) (pv 6) (fun _ _ => rfl)) pe_non (nomark _)) (pw_and1 (pt_cmpR op_notN (pe_ix (k_ixl (K := K) rfl) (pv 3) (pv 6) (fun _ _ => rfl)) pe_non (nomark _)))))) (fun _ _ _ _ _ => (pv 6)))))))), ?_⟩
    have hl := m.pr.len
    have e1000 := m.el
    have n1000 := m.n1
    obtain ⟨dx, hp⟩ := m.at_.ob
    refine ⟨_, rfl, p, dx, _, rfl, hp, mapF_many _ _ _, p, n, a, pvs, c, gs, rfl, m.at_, ?_⟩
    refine ⟨_, rfl, p, dx, _, rfl, hp, mapF_arrows _ _ _, p, n, a, pvs, c, gs, rfl, m.at_, by show 1 ≤ sizeLine; decide, fun t0 nt0 => ?_⟩
    have s0 := same_new (o := .tup [V.int 0]) (Same.refl H) nt0
    have h0 : SqX K (upd H t0 (.tup [V.int 0])) t0 (([0] : List Nat).map nV) := .inr (sqt upd_same)
    generalize upd H t0 (.tup [V.int 0]) = H0 at s0 h0 ⊢
    have m0 := m.same s0
    refine ⟨n, a, t0, pvs, es, [0], rfl, .inr m0.at_.ar, m0.pr, h0, m.ok, fun s hs => by rw [List.mem_singleton.mp hs]; exact m.n0, n1000, e1000, fun r H1 st s1 nr hr1 hst => ?_⟩
    have m1 := m0.same s1
    obtain ⟨dx1, hp1⟩ := m1.at_.ob
    -- turned
    refine ⟨_, rfl, p, dx1, _, rfl, hp1, mapF_arrows _ _ _, p, n, a, pvs, c, gs, rfl, m1.at_, a, rfl, ⟨_, m1.at_.ar⟩, fun D nD => ?_⟩
    refine lc_rel walk_tup calm_at (RelG (fun e => some (swp e)) es) RelG.stay (by omega) nD (fun H4 s4 => (m1.same s4).at_.ar) ?_ fun H2 os s2 hol hos hD2 => ?_
    · rintro i v H4 H5 hi s4 ⟨rfl, hv⟩ Kt kt
      obtain ⟨e, hei, tt, rfl, ht⟩ := (m1.same s4).pr.get hv
      obtain ⟨e1, e2⟩ := e
      refine ⟨tt, _, rfl, ht, rfl, _, _, rfl, _, _, rfl, rfl, rfl, tyes ?_⟩
      refine iteT ?_
      exact ⟨_, rfl, _, rfl, by show 2 ≤ sizeLine; decide, fun t2 nt2 => kt _ _ (same_new (Same.refl _) nt2) ⟨(e1, e2), hei, .inl ⟨(e2, e1), _, rfl, rfl, t2, rfl, upd_same⟩⟩⟩
    have p2 := prs_rel (K := K) (hol.trans hl) hos
    have m2 := m1.same s2
    obtain ⟨dx2, hp2⟩ := m2.at_.ob
    refine ⟨_, rfl, p, dx2, _, rfl, hp2, mapF_many _ _ _, p, n, a, pvs, c, gs, rfl, m2.at_, _, rfl, _, rfl, p, dx2, _, rfl, hp2, mapF_goals _ _ _, p, n, a, pvs, c, gs, rfl, m2.at_, ?_⟩
    refine ⟨n, D, c, _, turnE es, gs, rfl, .inl (sql hD2), p2, .inr m2.at_.go, fun e he => ?_, m.gl, n1000, Nat.le_trans (List.length_filterMap_le _ _) e1000, fun r2 H3 st2 s3 nr2 hr2 hst2 => ?_⟩
    · obtain ⟨e1, e2⟩ := e
      have := m.ok _ (mem_turnE.mp he)
      exact ⟨this.2, this.1⟩
    have m3 := m2.same s3
    obtain ⟨dx3, hp3⟩ := m3.at_.ob
    have hr3 := s3 _ _ (s2 _ _ hr1)
    -- both ways
    refine ⟨_, rfl, p, dx3, _, rfl, hp3, mapF_many _ _ _, p, n, a, pvs, c, gs, rfl, m3.at_, (n : Int), rfl, by omega, by omega, fun D2 nD2 => ?_⟩
    refine lc_val walk_range calm_fn (fun i => if st i ≠ none ∧ st2 i ≠ none then some (nV i) else none) (by omega) nD2 (fun _ _ => trivial) ?_ fun H4 s4 hD4 => ?_
    · rintro i v H4 H5 hi s4 ⟨rfl, hv⟩ Kt kt
      have hin : i < n := by omega
      have e0 : (V.int ((0 : Int) + (i : Int))) = nV i := by
        show V.int ((0 : Int) + (i : Int)) = V.int (i : Int)
        rw [Int.zero_add]
      have hv : v = nV i := Eq.trans hv e0
      subst hv
      have k0 := kt _ (Same.refl _)
      refine ⟨rfl, ?_⟩
      refine ⟨_, rfl, _, rfl, r, _, (i : Int), _, rfl, rfl, sql (s4 _ _ hr3), atI_nat (stV_get hin), rfl, ?_⟩
      cases hs1 : st i with
      | none =>
        rw [hs1, if_neg fun z => z.1 rfl] at k0
        refine ⟨false, rfl, ?_⟩
        refine iteF ?_
        exact iteF k0
      | some d1 =>
        refine ⟨true, rfl, ?_⟩
        refine iteT ?_
        refine ⟨_, rfl, _, rfl, r2, _, (i : Int), _, rfl, rfl, sql (s4 _ _ hr2), atI_nat (stV_get hin), rfl, ?_⟩
        cases hs2 : st2 i with
        | none =>
          rw [hs1, hs2, if_neg fun z => z.2 rfl] at k0
          refine ⟨false, rfl, ?_⟩
          exact iteF k0
        | some d2 =>
          rw [hs1, hs2, if_pos ⟨fun z => (by cases z), fun z => (by cases z)⟩] at k0
          refine ⟨true, rfl, ?_⟩
          refine iteT ?_
          exact ⟨_, rfl, k0⟩
    · refine q D2 ((List.range n).filterMap fun i => if st i ≠ none ∧ st2 i ≠ none then some i else none) H4 ((((s0.trans s1).trans s2).trans s3).trans s4) (Same.free (((s0.trans s1).trans s2).trans s3) nD2) ?_ ⟨?_, fun v => ?_⟩
      · rw [hD4, List.map_filterMap]
        show some (HO.lst (List.filterMap _ (List.range (n : Int).toNat))) = _
        rw [toNat_nn]
        congr 3
        funext i
        split <;> rfl
      · exact fm_pw fun i j h => by
          split at h
          · cases h
            rfl
          · cases h
      · rw [List.mem_filterMap]
        constructor
        · rintro ⟨i, hi, h⟩
          have hin := List.mem_range.mp hi
          split at h
          · rename_i hc
            cases h
            exact ⟨hin, Classical.byContradiction fun z => hc.1 ((hst v hin).2.mpr z), Classical.byContradiction fun z => hc.2 ((hst2 v hin).2.mpr z)⟩
          · cases h
        · rintro ⟨hin, h1, h2⟩
          exact ⟨v, List.mem_range.mpr hin, if_pos ⟨fun z => (hst v hin).2.mp z h1, fun z => (hst2 v hin).2.mp z h2⟩⟩

abbrev s_check_counted : Stmt := topS 16
abbrev sl_check_counted : List Str := ["chart"]
theorem sc_check_counted : FnScope ["chart"] ["chart"] (defScope s_check_counted) := ⟨rfl, rfl, rfl, by decide +kernel, rfl, by decide +kernel, by decide +kernel⟩
def spChkCounted (K : PySem.W.Frag) (C : Addr) : Sp := fun vs H Q _ => ∃ (p : Addr) (n : Nat) (a : Addr) (pvs : List V) (es : Es) (c : Addr) (gs : List Nat), vs = [.ref p] ∧ MapOk K C H p n a pvs es c gs ∧ (∀ cps, Cps n es gs cps → cps.length ≤ 9) ∧
  ∀ H', Same H H' → Q .non H'
theorem ok_check_counted {CMap : Addr} (B : Bt mg) (K_MOST_COUNTED : ∃ t, mg "MOST_COUNTED" = some (.int 9 t)) (h_counted_places : Has P w K mg base "counted_places" 2 ["chart"] (spCounted K CMap))
    (D0 : Df K mg "check_counted" s_check_counted ["chart"]) : Has P w K mg base "check_counted" 3 ["chart"] (spChkCounted K CMap) := by
  refine D0.has fun f fd F => F.ok sc_check_counted (fun vs H Q E h => ?_) (fun cdv A outer s H vs Q E hr h => ?_)
  · obtain ⟨p, n, a, pvs, es, c, gs, rfl, _⟩ := h
    rfl
  · obtain ⟨p, n, a, pvs, es, c, gs, rfl, m, few, q⟩ := h
    refine ⟨_, (pss_one (ps_if (pt_cmpR op_gt (pe_callB (k_len (K := K) rfl) (by rfl) B.len bo_len (pa_cons (pcall h_counted_places hr (by decide) (by rfl) (pa_cons (pv 0) pa_nil)) pa_nil)) (pe_glob (v := .int 9) (by rfl) K_MOST_COUNTED.choose_spec ⟨_, rfl⟩) (nomark _))
    (pss_one ps_never)
    pss_nil)), ?_⟩
    refine ⟨_, rfl, p, n, a, pvs, es, c, gs, rfl, m, fun D cps H1 s1 nD hD hc => ?_⟩
    have h9 := few cps hc
    refine ⟨D, _, rfl, .inl (sql hD), _, _, rfl, rfl, _, rfl, ?_⟩
    rw [decide_eq_false (by rw [List.length_map]; omega)]
    exact iteF (q H1 s1)

def sbit : List Nat → Nat → Nat
  | [], _ => 0
  | x :: r, F => (if F % 2 = 1 then x else 0) + sbit r (F / 2)
theorem fold_sums : ∀ (row s : List Nat) (a F v : Nat), s[a]? = some v → F < 2 ^ row.length → (row.foldl (fun s n => s ++ s.map (· + n)) s)[a + s.length * F]? = some (v + sbit row F) := by
  intro row
  induction row with
  | nil =>
    intro s a F v h hF
    have : F = 0 := by
      rw [List.length_nil, Nat.pow_zero] at hF
      omega
    subst this
    show s[a + s.length * 0]? = some (v + 0)
    rw [Nat.mul_zero, Nat.add_zero, Nat.add_zero]
    exact h
  | cons x r ih =>
    intro s a F v h hF
    have ha := (List.getElem?_eq_some_iff.mp h).1
    rw [List.length_cons, Nat.pow_succ] at hF
    rw [List.foldl_cons]
    have key : (s ++ s.map (· + x))[a + s.length * (F % 2)]? = some (v + if F % 2 = 1 then x else 0) := by
      rcases Nat.mod_two_eq_zero_or_one F with z | z
      · rw [z, Nat.mul_zero, Nat.add_zero, List.getElem?_append_left ha, h, if_neg (by decide)]
        rfl
      · rw [z, Nat.mul_one, List.getElem?_append_right (by omega), show a + s.length - s.length = a by omega, List.getElem?_map, h, if_pos rfl]
        rfl
    have := ih (s ++ s.map (· + x)) _ (F / 2) _ key (by omega)
    have e1 : (s ++ s.map (· + x)).length = 2 * s.length := by
      rw [List.length_append, List.length_map]
      omega
    rw [e1] at this
    have e2 : a + s.length * (F % 2) + 2 * s.length * (F / 2) = a + s.length * F := by
      have : F = 2 * (F / 2) + F % 2 := by omega
      generalize F / 2 = q at *
      generalize F % 2 = b at *
      subst this
      rw [Nat.mul_add, Nat.mul_comm 2 s.length, Nat.mul_assoc]
      omega
    rw [e2] at this
    rw [this]
    show some _ = some (v + ((if F % 2 = 1 then x else 0) + sbit r (F / 2)))
    rw [Nat.add_assoc]
theorem sums_get {row : List Nat} {F : Nat} (h : F < 2 ^ row.length) : (sumsL row)[F]? = some (sbit row F) := by
  have := fold_sums row [0] 0 F 0 rfl h
  simp only [List.length_singleton, Nat.one_mul, Nat.zero_add] at this
  exact this
theorem cp_add {P Q S : Nat → Bool} : ∀ {l : List Nat}, (∀ x ∈ l, (if S x then (1 : Nat) else 0) = (if P x then 1 else 0) + (if Q x then 1 else 0)) → l.countP S = l.countP P + l.countP Q
  | [], _ => rfl
  | x :: l, h => by
    have a := h x List.mem_cons_self
    have b := cp_add fun y hy => h y (List.mem_cons_of_mem _ hy)
    rw [List.countP_cons, List.countP_cons, List.countP_cons]
    omega
theorem inn_split {es : Es} {B R R' : List Nat} {c v : Nat} (hc : c ∉ R') (h : ∀ x, x ∈ R ↔ x = c ∨ x ∈ R') : inn es B R v = inn es B [c] v + inn es B R' v := by
  refine cp_add fun k _ => ?_
  unfold inK
  cases es[k]? with
  | none => simp
  | some e =>
    by_cases z : k ∈ B
    · simp [z]
    · by_cases y : e.2 = v
      · by_cases y1 : e.1 = c
        · simp [z, y, y1, hc, h]
        · by_cases y2 : e.1 ∈ R' <;> simp [z, y, y1, y2, h]
      · simp [z, y]
theorem inn_sbit {es : Es} {v : Nat} : ∀ {cps : List Nat}, cps.Nodup → ∀ {F : Nat}, inn es [] (plF cps F) v = sbit (cps.map fun u => inn es [] [u] v) F := by
  intro cps
  induction cps with
  | nil =>
    intro _ F
    show _ = 0
    refine Nat.eq_zero_of_not_pos fun z => ?_
    obtain ⟨u, hu, _⟩ := inn_pos.mp z
    obtain ⟨i, _, h⟩ := mem_plF.mp hu
    cases h
  | cons c r ih =>
    intro nd F
    have nd' := List.nodup_cons.mp nd
    have mem : ∀ x, x ∈ plF (c :: r) F ↔ (F % 2 = 1 ∧ x = c) ∨ x ∈ plF r (F / 2) := fun x => by
      rw [mem_plF, mem_plF]
      constructor
      · rintro ⟨i, h1, h2⟩
        cases i with
        | zero =>
          rw [tb0, decide_eq_true_eq] at h1
          cases h2
          exact .inl ⟨h1, rfl⟩
        | succ i =>
          rw [tbS] at h1
          exact .inr ⟨i, h1, h2⟩
      · rintro (⟨h1, rfl⟩ | ⟨i, h1, h2⟩)
        · exact ⟨0, by rw [tb0, decide_eq_true_eq]; exact h1, rfl⟩
        · exact ⟨i + 1, by rw [tbS]; exact h1, h2⟩
    have out : c ∉ plF r (F / 2) := fun z => by
      obtain ⟨i, _, h⟩ := mem_plF.mp z
      exact nd'.1 (List.mem_of_getElem? h)
    show _ = (if F % 2 = 1 then inn es [] [c] v else 0) + sbit (r.map fun u => inn es [] [u] v) (F / 2)
    rw [← ih nd'.2]
    by_cases z : F % 2 = 1
    · rw [if_pos z]
      exact inn_split out fun x => by rw [mem x]; exact ⟨fun y => y.imp (·.2) id, fun y => y.imp (fun e => ⟨z, e⟩) id⟩
    · rw [if_neg z, Nat.zero_add]
      refine inn_congr (fun u _ => ?_) fun _ _ _ => Iff.rfl
      rw [mem u]
      exact ⟨fun y => y.elim (fun e => absurd e.1 z) id, .inr⟩
/-- the sums of a row of the table -/
def smF (es : Es) (cps : List Nat) (i F : Nat) : Nat := inn es [] (plF cps F) (cps.getD i 0)
theorem row_sums {es : Es} {cps : List Nat} {v : Nat} (nd : cps.Nodup) : sumsL (cps.map fun u => inn es [] [u] v) = (List.range (2 ^ cps.length)).map fun F => inn es [] (plF cps F) v := by
  apply List.ext_getElem?
  intro F
  by_cases h : F < 2 ^ cps.length
  · rw [sums_get (by rw [List.length_map]; exact h), List.getElem?_map, List.getElem?_range h, ← inn_sbit nd]
    rfl
  · rw [List.getElem?_eq_none (by rw [sumsL_len, List.length_map]; omega), List.getElem?_eq_none (by rw [List.length_map, List.length_range]; omega)]
/-- counted so far: arrows from the spot t to the spot h among the first k -/
def btK (es : Es) (cps : List Nat) (k h t : Nat) : Nat := (List.range k).countP fun j => decide (es[j]? = some (cps.getD t 0, cps.getD h 0))
theorem btK_succ {es : Es} {cps : List Nat} {k h t : Nat} : btK es cps (k + 1) h t = btK es cps k h t + if es[k]? = some (cps.getD t 0, cps.getD h 0) then 1 else 0 := by
  unfold btK
  rw [List.range_succ, List.countP_append, List.countP_cons, List.countP_nil]
  by_cases z : es[k]? = some (cps.getD t 0, cps.getD h 0)
  · rw [if_pos z, if_pos (decide_eq_true z)]
  · rw [if_neg z, if_neg (by rw [decide_eq_true_eq]; exact z)]
theorem btK_all {es : Es} {cps : List Nat} {h t : Nat} : btK es cps es.length h t = inn es [] [cps.getD t 0] (cps.getD h 0) := List.countP_congr fun k _ => by
  rw [inK_iff, decide_eq_true_eq]
  constructor
  · intro z
    exact ⟨List.not_mem_nil, _, z, List.mem_cons_self⟩
  · rintro ⟨_, u, z, hu⟩
    rw [List.mem_singleton.mp hu] at z
    exact z
theorem getD_some {cps : List Nat} {i v : Nat} (h : cps[i]? = some v) : cps.getD i 0 = v := by
  rw [List.getD_eq_getElem?_getD, h]
  rfl
/-- place by place: the spot -/
def atL (cps : List Nat) (k : Nat) : List (Nat × V) := (List.range k).map fun j => (cps.getD j 0, nV j)
theorem atL_keys {cps : List Nat} {k : Nat} (h : k ≤ cps.length) : (atL cps k).map (·.1) = cps.take k := by
  unfold atL
  rw [List.map_map]
  apply List.ext_getElem?
  intro j
  by_cases z : j < k
  · rw [List.getElem?_map, List.getElem?_range z, List.getElem?_take_of_lt z, List.getElem?_eq_getElem (by omega)]
    show some (cps.getD j 0) = _
    rw [getD_some (List.getElem?_eq_getElem (by omega))]
  · rw [List.getElem?_eq_none (by rw [List.length_map, List.length_range]; omega), List.getElem?_eq_none (by rw [List.length_take]; omega)]
theorem put_new {hs : List (Nat × V)} {k : Nat} {v : V} (h : k ∉ hs.map (·.1)) : putG hs k v = hs ++ [(k, v)] := by
  induction hs with
  | nil => rfl
  | cons x r ih =>
    obtain ⟨i, u⟩ := x
    rw [List.map_cons, List.mem_cons, not_or] at h
    unfold putG
    rw [if_neg fun z => h.1 z.symm, ih h.2]
    rfl
theorem atL_nd {cps : List Nat} (nd : cps.Nodup) {k : Nat} (h : k ≤ cps.length) : ((atL cps k).map (·.1)).Nodup := by
  rw [atL_keys h]
  exact (List.take_sublist k cps).nodup nd
theorem atL_snoc {cps : List Nat} (nd : cps.Nodup) {k v : Nat} (h : cps[k]? = some v) : putG (atL cps k) v (nV k) = atL cps (k + 1) := by
  have hk := (List.getElem?_eq_some_iff.mp h).1
  rw [put_new]
  · unfold atL
    rw [List.range_succ, List.map_append, List.map_singleton, getD_some h]
  · rw [atL_keys (by omega)]
    intro z
    obtain ⟨j, e⟩ := List.mem_iff_getElem?.mp z
    have hj := (List.getElem?_eq_some_iff.mp e).1
    rw [List.length_take] at hj
    rw [List.getElem?_take_of_lt (by omega)] at e
    have := nd_ix nd e h
    omega
theorem atL_get {cps : List Nat} (nd : cps.Nodup) {i v : Nat} (h : cps[i]? = some v) : getG (atL cps cps.length) v = some (nV i) := by
  refine get_of (atL_nd nd (Nat.le_refl _)) ?_
  unfold atL
  exact List.mem_map.mpr ⟨i, List.mem_range.mpr (List.getElem?_eq_some_iff.mp h).1, by rw [getD_some h]⟩
theorem atL_none {cps : List Nat} {v : Nat} (h : v ∉ cps) : getG (atL cps cps.length) v = none := by
  rw [get_none, atL_keys (Nat.le_refl _), List.take_length]
  exact h
/-- the sum of the goals' bits -/
theorem sum_bits {α : Type} {f : α → Nat} : ∀ {l : List α}, (l.map f).Nodup → ∀ i, ((l.map fun g => 2 ^ f g).sum).testBit i = true ↔ ∃ g ∈ l, f g = i
  | [], _, i => by simp
  | g :: r, nd, i => by
    rw [List.map_cons, List.nodup_cons] at nd
    have ih := sum_bits (f := f) (l := r) nd.2
    rw [List.map_cons, List.sum_cons, add_bits, Bool.or_eq_true, one_bits, decide_eq_true_eq, ih]
    · constructor
      · rintro (h | ⟨x, h1, h2⟩)
        · exact ⟨g, List.mem_cons_self, h⟩
        · exact ⟨x, List.mem_cons_of_mem _ h1, h2⟩
      · rintro ⟨x, h1, h2⟩
        rcases List.mem_cons.mp h1 with rfl | h1
        · exact .inl h2
        · exact .inr ⟨x, h1, h2⟩
    · intro j hj
      rw [one_bits, decide_eq_true_eq] at hj
      subst hj
      refine Bool.eq_false_iff.mpr fun z => ?_
      obtain ⟨x, h1, h2⟩ := (ih _).mp z
      exact nd.1 (List.mem_map.mpr ⟨x, h1, h2⟩)
/-! the object -/
theorem lk_hd {f : Str} {v : V} {fs : List (Str × V)} : (putF f v fs).lookup f = some v := by rw [lookup_putF, if_pos rfl]
theorem lk_tl {f g : Str} {v : V} {fs : List (Str × V)} (h : ¬ g = f) : (putF f v fs).lookup g = fs.lookup g := by rw [lookup_putF, if_neg h]
abbrev cf1 (sl : Addr) : List (Str × V) := putF "spots" (.ref sl) []
abbrev cf2 (sl : Addr) (s : Nat) : List (Str × V) := putF "size" (nV s) (cf1 sl)
abbrev cf3 (sl : Addr) (s : Nat) : List (Str × V) := putF "full" (nV (2 ^ s - 1)) (cf2 sl s)
abbrev cf4 (sl : Addr) (s en : Nat) : List (Str × V) := putF "ends" (nV en) (cf3 sl s)
abbrev cf5 (sl : Addr) (s en : Nat) (ol : Addr) : List (Str × V) := putF "outward" (.ref ol) (cf4 sl s en)
abbrev cf6 (sl : Addr) (s en : Nat) (ol il : Addr) : List (Str × V) := putF "inward" (.ref il) (cf5 sl s en ol)
abbrev coreF (sl : Addr) (s en : Nat) (ol il ul : Addr) : List (Str × V) := putF "sums" (.ref ul) (cf6 sl s en ol il)
section
variable {sl ol il ul : Addr} {s en : Nat}
theorem cl1 : (cf1 sl).length ≤ 1 := putF_len _ _ _
theorem cl2 : (cf2 sl s).length ≤ 2 := Nat.le_trans (putF_len _ _ _) (Nat.succ_le_succ cl1)
theorem cl3 : (cf3 sl s).length ≤ 3 := Nat.le_trans (putF_len _ _ _) (Nat.succ_le_succ cl2)
theorem cl4 : (cf4 sl s en).length ≤ 4 := Nat.le_trans (putF_len _ _ _) (Nat.succ_le_succ cl3)
theorem cl5 : (cf5 sl s en ol).length ≤ 5 := Nat.le_trans (putF_len _ _ _) (Nat.succ_le_succ cl4)
theorem cl6 : (cf6 sl s en ol il).length ≤ 6 := Nat.le_trans (putF_len _ _ _) (Nat.succ_le_succ cl5)
theorem cf_spots1 : (cf1 sl).lookup ("spots" : Str) = some (.ref sl) := lk_hd
theorem cf_spots3 : (cf3 sl s).lookup ("spots" : Str) = some (.ref sl) := (lk_tl (by decide +kernel)).trans ((lk_tl (by decide +kernel)).trans lk_hd)
theorem cf_size2 : (cf2 sl s).lookup ("size" : Str) = some (nV s) := lk_hd
theorem cf_size4 : (cf4 sl s en).lookup ("size" : Str) = some (nV s) := (lk_tl (by decide +kernel)).trans ((lk_tl (by decide +kernel)).trans lk_hd)
theorem cf_size5 : (cf5 sl s en ol).lookup ("size" : Str) = some (nV s) := (lk_tl (by decide +kernel)).trans cf_size4
theorem cf_size6 : (cf6 sl s en ol il).lookup ("size" : Str) = some (nV s) := (lk_tl (by decide +kernel)).trans cf_size5
theorem cf_out6 : (cf6 sl s en ol il).lookup ("outward" : Str) = some (.ref ol) := (lk_tl (by decide +kernel)).trans lk_hd
theorem cf_in6 : (cf6 sl s en ol il).lookup ("inward" : Str) = some (.ref il) := lk_hd
theorem co_sums : (coreF sl s en ol il ul).lookup ("sums" : Str) = some (.ref ul) := lk_hd
theorem co_inward : (coreF sl s en ol il ul).lookup ("inward" : Str) = some (.ref il) := (lk_tl (by decide +kernel)).trans cf_in6
theorem co_outward : (coreF sl s en ol il ul).lookup ("outward" : Str) = some (.ref ol) := (lk_tl (by decide +kernel)).trans cf_out6
theorem co_size : (coreF sl s en ol il ul).lookup ("size" : Str) = some (nV s) := (lk_tl (by decide +kernel)).trans cf_size6
theorem co_ends : (coreF sl s en ol il ul).lookup ("ends" : Str) = some (nV en) := (lk_tl (by decide +kernel)).trans ((lk_tl (by decide +kernel)).trans ((lk_tl (by decide +kernel)).trans lk_hd))
theorem co_full : (coreF sl s en ol il ul).lookup ("full" : Str) = some (nV (2 ^ s - 1)) := (lk_tl (by decide +kernel)).trans ((lk_tl (by decide +kernel)).trans ((lk_tl (by decide +kernel)).trans ((lk_tl (by decide +kernel)).trans lk_hd)))
theorem co_spots : (coreF sl s en ol il ul).lookup ("spots" : Str) = some (.ref sl) := (lk_tl (by decide +kernel)).trans ((lk_tl (by decide +kernel)).trans ((lk_tl (by decide +kernel)).trans ((lk_tl (by decide +kernel)).trans cf_spots3)))
end
structure CoreAt (K : PySem.W.Frag) (CC : Addr) (H : Hp) (x : Addr) (es : Es) (gs cps : List Nat) (en : Nat) (om im : Nat → Nat) : Prop where
  ob : ∃ (dx sl ol il ul : Addr) (us : List Addr), H x = some (.ins CC dx (coreF sl cps.length en ol il ul)) ∧ H sl = some (.lst (cps.map nV)) ∧ H ol = some (.lst ((List.range cps.length).map fun t => nV (om t))) ∧ H il = some (.lst ((List.range cps.length).map fun t => nV (im t))) ∧
    H ul = some (.lst (us.map V.ref)) ∧ us.length = cps.length ∧ ∀ i a, us[i]? = some a → H a = some (.lst ((List.range (2 ^ cps.length)).map fun F => nV (smF es cps i F)))
  cor : Cor es gs cps en om im
theorem CoreAt.same {K : PySem.W.Frag} {CC : Addr} {H H' : Hp} {x : Addr} {es : Es} {gs cps : List Nat} {en : Nat} {om im : Nat → Nat} (h : CoreAt K CC H x es gs cps en om im) (s : Same H H') : CoreAt K CC H' x es gs cps en om im := by
  obtain ⟨⟨dx, sl, ol, il, ul, us, h1, h2, h3, h4, h5, h6, h7⟩, c⟩ := h
  exact ⟨⟨dx, sl, ol, il, ul, us, s _ _ h1, s _ _ h2, s _ _ h3, s _ _ h4, s _ _ h5, h6, fun i a e => s _ _ (h7 i a e)⟩, c⟩
/-- all but the object at x stays -/
structure Frm (x : Addr) (H A : Hp) : Prop where
  keep : ∀ b o, b ≠ x → H b = some o → A b = some o
  gone : ∀ b, A b = none → H b = none
theorem Frm.upd {x : Addr} {H A : Hp} {o : HO} (f : Frm x H A) : Frm x H (upd A x o) where
  keep := fun b u nb e => by
    rw [upd_ne nb]
    exact f.keep b u nb e
  gone := fun b e => by
    by_cases z : b = x
    · rw [z, upd_same] at e
      cases e
    · rw [upd_ne z] at e
      exact f.gone b e
theorem Frm.same {x : Addr} {H A A' : Hp} (f : Frm x H A) (s : Same A A') : Frm x H A' := ⟨fun b o nb e => s _ _ (f.keep b o nb e), fun b e => f.gone b (Same.free s e)⟩
theorem Frm.refl {x : Addr} {H : Hp} : Frm x H H := ⟨fun _ _ _ e => e, fun _ e => e⟩
theorem Frm.sqt {K : PySem.W.Frag} {x C dx : Addr} {H A : Hp} {fs : List (Str × V)} (f : Frm x H A) (hx : H x = some (.ins C dx fs)) {b : Addr} {xs : List V} (h : SqT K H b xs) : SqT K A b xs := by
  rcases h with (h | ⟨o, h⟩) | h
  · exact .inl (.inl (f.keep _ _ (ne_of h hx (by intro z; cases z)) h))
  · exact .inl (.inr ⟨o, f.keep _ _ (ne_of h hx (by intro z; cases z)) h⟩)
  · exact .inr h
theorem Frm.map {K : PySem.W.Frag} {CMap C x dx : Addr} {H A : Hp} {p : Addr} {n : Nat} {a : Addr} {pvs : List V} {es : Es} {c : Addr} {gs : List Nat} (f : Frm x H A) (hx : H x = some (.ins C dx [])) (m : MapOk K CMap H p n a pvs es c gs) : MapOk K CMap A p n a pvs es c gs := by
  obtain ⟨d1, hd1⟩ := m.at_.ob
  have npq : p ≠ x := fun z => by
    rw [z, hx] at hd1
    have hd1 := Option.some.inj hd1
    injection hd1 with _ _ e3
    have e4 := mapF_m n a c
    rw [← e3] at e4
    cases e4
  exact ⟨⟨⟨d1, f.keep _ _ npq hd1⟩, f.sqt hx m.at_.ar, f.sqt hx m.at_.go⟩, ⟨m.pr.len, fun i v e g1 g2 => (m.pr.at_ i v e g1 g2).elim fun t ⟨h1, h2⟩ => ⟨t, h1, f.sqt hx h2⟩⟩, m.n0, m.n1, m.el, m.gn, m.ok, m.gl⟩

theorem Rch.trans {es : Es} {S S' : List Nat} (h : ∀ s ∈ S', Rch es S s) {v : Nat} (h2 : Rch es S' v) : Rch es S v := h2.ind h fun u v hu e => hu.edge e
theorem rch_turn {es : Es} {a b : Nat} (h : Rch es [a] b) : Rch (turnE es) [b] a :=
  h.ind (P := fun b => Rch (turnE es) [b] a) (fun v hv => by
    rw [List.mem_singleton.mp hv]
    exact .base List.mem_cons_self) fun u v ih e => ih.trans fun s hs => by
    rw [List.mem_singleton.mp hs]
    exact (Rch.base List.mem_cons_self).edge (mem_turnE.mpr e)
section
variable {n : Nat} {es : Es} {gs cps : List Nat}
theorem Cps.zero (h : Cps n es gs cps) (g : GoodMap n es gs) : cps[0]? = some 0 := by
  obtain ⟨x, hx⟩ := List.exists_mem_of_ne_nil gs g.ne
  have h0 : 0 ∈ cps := (h.mem 0).mpr ⟨by have := g.n2; omega, .base List.mem_cons_self, (rch_turn (g.rch x hx)).mono (fun _ z => z) fun s hs => by rw [List.mem_singleton.mp hs]; exact hx⟩
  cases cps with
  | nil => exact (List.not_mem_nil h0).elim
  | cons c r =>
    rcases List.mem_cons.mp h0 with e | h0
    · rw [← e]
      rfl
    · exact absurd (List.rel_of_pairwise_cons h.pw h0) (Nat.not_lt_zero _)
theorem Cps.goal (h : Cps n es gs cps) (g : GoodMap n es gs) : ∀ x ∈ gs, x ∈ cps := fun x hx => (h.mem x).mpr ⟨(g.gl x hx).2, g.rch x hx, .base hx⟩
end
/-- spots of places -/
theorem ix_of {cps : List Nat} {v : Nat} (h : v ∈ cps) : cps[cps.idxOf v]? = some v := by
  have := List.idxOf_lt_length_iff.mpr h
  rw [List.getElem?_eq_getElem this, List.getElem_idxOf]
theorem rep_zero (n : Nat) : (List.replicate n [V.int 0]).flatten = (List.range n).map fun _ => nV 0 := by
  apply List.ext_getElem?
  intro i
  have e : (List.replicate n [V.int 0]).flatten = List.replicate n (V.int 0) := by
    induction n with
    | zero => rfl
    | succ n ih => rw [List.replicate_succ, List.flatten_cons, ih, List.replicate_succ]; rfl
  rw [e, List.getElem?_map, List.getElem?_replicate]
  by_cases h : i < n
  · rw [if_pos h, List.getElem?_range h]
    rfl
  · rw [if_neg h, List.getElem?_eq_none (by rw [List.length_range]; omega)]
    rfl
theorem fn_get {n j : Nat} {f : Nat → V} (h : j < n) : ((List.range n).map f)[j]? = some (f j) := by
  rw [List.getElem?_map, List.getElem?_range h]
  rfl
theorem fn_set {n j : Nat} {f : Nat → V} {v : V} : ((List.range n).map f).set j v = (List.range n).map fun i => if i = j then v else f i := set_map_range

abbrev s_Core___init__ : Stmt := inClass (topS 17) 0
abbrev sl_Core___init__ : List Str := ["self", "chart", "at", "between", "tail", "head", "spot", "place", "goal", "_", "row"]
theorem sc_Core___init__ : FnScope ["self", "chart", "at", "between", "tail", "head", "spot", "place", "goal", "_", "row"] ["self", "chart"] (defScope s_Core___init__) := ⟨rfl, rfl, rfl, by decide +kernel, rfl, by decide +kernel, by decide +kernel⟩
def spCoreInit (K : PySem.W.Frag) (C CC : Addr) : Sp := fun vs H Q _ => ∃ (x dx p : Addr) (n : Nat) (a : Addr) (pvs : List V) (es : Es) (c : Addr) (gs : List Nat), vs = [.ref x, .ref p] ∧ H x = some (.ins CC dx []) ∧ MapOk K C H p n a pvs es c gs ∧ GoodMap n es gs ∧ (∀ cps, Cps n es gs cps → cps.length ≤ 9) ∧
  ∀ (cps : List Nat) (en : Nat) (om im : Nat → Nat) (H' : Hp), Frm x H H' → Cps n es gs cps → CoreAt K CC H' x es gs cps en om im → Q .non H'
/-- what the loop over the arrows has made when k of them are done -/
structure CorK (H : Hp) (es : Es) (cps : List Nat) (ol il bl : Addr) (rows : List Addr) (k : Nat) (om im : Nat → Nat) : Prop where
  out : H ol = some (.lst ((List.range cps.length).map fun t => nV (om t)))
  inw : H il = some (.lst ((List.range cps.length).map fun t => nV (im t)))
  row : ∀ h a, rows[h]? = some a → H a = some (.lst ((List.range cps.length).map fun t => nV (btK es cps k h t)))
  om : ∀ t v, cps[t]? = some v → ∀ h, (om t).testBit h = true ↔ ∃ w, cps[h]? = some w ∧ ∃ j, j < k ∧ es[j]? = some (v, w)
  im : ∀ t v, cps[t]? = some v → ∀ h, (im t).testBit h = true ↔ ∃ w, cps[h]? = some w ∧ ∃ j, j < k ∧ es[j]? = some (w, v)
theorem lt_succ_or {es : Es} {k : Nat} {p : Nat × Nat} : (∃ j, j < k + 1 ∧ es[j]? = some p) ↔ (∃ j, j < k ∧ es[j]? = some p) ∨ es[k]? = some p := by
  constructor
  · rintro ⟨j, h1, h2⟩
    rcases Nat.lt_succ_iff_lt_or_eq.mp h1 with z | z
    · exact .inl ⟨j, z, h2⟩
    · exact .inr (z ▸ h2)
  · rintro (⟨j, h1, h2⟩ | h)
    · exact ⟨j, by omega, h2⟩
    · exact ⟨k, by omega, h⟩
theorem ok_Core_init {CMap CCore : Addr} (B : Bt mg) (C : MapC K mg CMap) (C_Core : ClsC K mg "Core" CCore ["spots", "size", "full", "ends", "outward", "inward", "sums"]) (h_check_counted : Has P w K mg base "check_counted" 3 ["chart"] (spChkCounted K CMap)) (h_counted_places : Has P w K mg base "counted_places" 2 ["chart"] (spCounted K CMap))
    (h_sums : Has P w K mg base "_sums" 1 ["row"] (spSums K)) (h_arrows : HasM P w K mg base CMap "arrows" 1 ["self"] (spArrows K CMap)) (h_goals : HasM P w K mg base CMap "goals" 1 ["self"] (spGoals K CMap))
    (D0 : DfI K CCore "Core.__init__" s_Core___init__ ["self", "chart"]) : HasI P w K mg base CCore 4 ["self", "chart"] (spCoreInit K CMap CCore) := by
  refine D0.has fun f fd F => F.ok sc_Core___init__ (fun vs H Q E h => ?_) (fun cdv A outer s H vs Q E hr h => ?_)
  · obtain ⟨x, dx, p, n, a, pvs, es, c, gs, rfl, _⟩ := h
    rfl
  · obtain ⟨x, dx, p, n, a, pvs, es, c, gs, rfl, hx, m, gm, few, q⟩ := h
    refine ⟨_, (pss_cons (ps_expr (pcall h_check_counted hr (by decide) (by rfl) (pa_cons (pv 1) pa_nil)))
  (pss_cons (ps_fld (pv 0) (pcall h_counted_places hr (by decide) (by rfl) (pa_cons (pv 1) pa_nil)) rfl)
  (pss_cons (ps_fld (pv 0) (pe_callB (k_len (K := K) rfl) (by rfl) B.len bo_len (pa_cons (k_fld (K := K) rfl (pv 0) rfl) pa_nil)) rfl)
  (pss_cons (ps_fld (pv 0) (pe_op op_subN (pe_op op_oneN pe_int (k_fld (K := K) rfl (pv 0) rfl)) pe_int) rfl)
  (pss_cons (ps_set (i := 2) sc_Core___init__.nd rfl (.inr rfl) (pe_dc (own := [("spot", 6), ("place", 7)]) (g := gTup K 2 (gCons (gName 6) (gCons (gName 7) gNil))) rfl sc_Core___init__.nd (pi_enum (by rfl) B.enumerate (pa_cons (k_fld (K := K) rfl (pv 0) rfl) pa_nil)) (blkOk_by (N := sl_Core___init__) (sc := defScope s_Core___init__) (by decide +kernel)) (fun _ _ _ _ _ => (pg_tup rfl (pgs_cons (pg_name (i := 6) sc_Core___init__.nd rfl (.inl rfl)) (pgs_cons (pg_name (i := 7) sc_Core___init__.nd rfl (.inl rfl)) pgs_nil)))) (fun _ _ _ _ _ => pts_nil) (fun _ _ _ _ _ => (pv 7)) (fun _ _ _ _ _ => (pv 6))))
  (pss_cons (ps_fld (pv 0) (pe_callB (cr_sum rfl) (by rfl) B.sum bo_sum (pa_cons (pe_lc (own := [("goal", 8)]) (g := gName 8) rfl sc_Core___init__.nd (k_pit (K := K) rfl (pe_meth0 (pv 1) C.cl h_goals.mt h_goals.F (hr.mono (by decide)) h_goals.b .nil pass0)) (blkOk_by (N := sl_Core___init__) (sc := defScope s_Core___init__) (by decide +kernel)) (fun _ _ _ _ _ => (pg_name (i := 8) sc_Core___init__.nd rfl (.inl rfl))) (fun _ _ _ _ _ => pts_nil) (fun _ _ _ _ _ => (pe_op op_oneN pe_int (pe_dget (hu_of hr) (pv 2) (pv 8) (fun _ _ => rfl))))) pa_nil)) rfl)
  (pss_cons (ps_fld (pv 0) (pe_op op_rep (pe_lst (pa_cons pe_int pa_nil)) (k_fld (K := K) rfl (pv 0) rfl)) rfl)
  (pss_cons (ps_fld (pv 0) (pe_op op_rep (pe_lst (pa_cons pe_int pa_nil)) (k_fld (K := K) rfl (pv 0) rfl)) rfl)
  (pss_cons (ps_setLc (i := 3) (own := [("_", 9)]) (g := gName 9) rfl sc_Core___init__.nd rfl rfl (sw_true rfl rfl rfl (by decide +kernel)) (pi_range1 (by rfl) B.range (pa_cons (k_fld (K := K) rfl (pv 0) rfl) pa_nil)) (blkOk_by (N := sl_Core___init__) (sc := defScope s_Core___init__) (by decide +kernel)) (fun _ _ _ _ _ => (pg_name (i := 9) sc_Core___init__.nd rfl (.inl rfl))) (fun _ _ _ _ _ => pts_nil) (fun _ _ _ _ _ => (pe_op op_rep (pe_lst (pa_cons pe_int pa_nil)) (k_fld (K := K) rfl (pv 0) rfl))))
  (pss_cons (ps_for PassesOwn.never rfl (k_pit (K := K) rfl (pe_meth0 (pv 1) C.cl h_arrows.mt h_arrows.F (hr.mono (by decide)) h_arrows.b .nil pass0)) (pg_tup rfl (pgs_cons (pg_name (i := 4) sc_Core___init__.nd rfl (.inl rfl)) (pgs_cons (pg_name (i := 5) sc_Core___init__.nd rfl (.inl rfl)) pgs_nil)))
    (pss_one (ps_if (PW.pt (pw_and (pt_cmp (pc_din (hu_of hr) (pv 4) (pv 2))) (pw_and1 (pt_cmp (pc_din (hu_of hr) (pv 5) (pv 2))))))
    (pss_cons (ps_augS (k_fld (K := K) rfl (pv 0) rfl) (pe_dget (hu_of hr) (pv 2) (pv 4) (fun _ _ => rfl)) get_lst (pe_op op_oneN pe_int (pe_dget (hu_of hr) (pv 2) (pv 5) (fun _ _ => rfl))) ip_orN set_list)
  (pss_cons (ps_augS (k_fld (K := K) rfl (pv 0) rfl) (pe_dget (hu_of hr) (pv 2) (pv 5) (fun _ _ => rfl)) get_lst (pe_op op_oneN pe_int (pe_dget (hu_of hr) (pv 2) (pv 4) (fun _ _ => rfl))) ip_orN set_list)
  (pss_one (ps_augS (pe_ix (k_ixl (K := K) rfl) (pv 3) (pe_dget (hu_of hr) (pv 2) (pv 5) (fun _ _ => rfl)) (fun _ _ => rfl)) (pe_dget (hu_of hr) (pv 2) (pv 4) (fun _ _ => rfl)) get_lst pe_int ip_addN set_list))))
    pss_nil)))
  (pss_one (ps_fld (pv 0) (pe_lc (own := [("row", 10)]) (g := gName 10) rfl sc_Core___init__.nd (k_pil (K := K) rfl (pv 3)) (blkOk_by (N := sl_Core___init__) (sc := defScope s_Core___init__) (by decide +kernel)) (fun _ _ _ _ _ => (pg_name (i := 10) sc_Core___init__.nd rfl (.inl rfl))) (fun _ _ _ _ _ => pts_nil) (fun _ _ _ _ _ => (pcall h_sums hr (by decide) (by rfl) (pa_cons (pv 10) pa_nil)))) rfl)))))))))))), ?_⟩
    have hna : ∀ f, f ∈ (["spots", "size", "full", "ends", "outward", "inward", "sums"] : List Str) → NoAttr K CCore f := C_Core.na
    have nspots := hna _ (List.mem_of_getElem? (i := 0) rfl)
    have nsize := hna _ (List.mem_of_getElem? (i := 1) rfl)
    have nfull := hna _ (List.mem_of_getElem? (i := 2) rfl)
    have nends := hna _ (List.mem_of_getElem? (i := 3) rfl)
    have noutw := hna _ (List.mem_of_getElem? (i := 4) rfl)
    have ninw := hna _ (List.mem_of_getElem? (i := 5) rfl)
    have nsums := hna _ (List.mem_of_getElem? (i := 6) rfl)
    have l60 := gm.l60
    have hl := m.pr.len
    -- the places that count
    refine ⟨_, rfl, p, n, a, pvs, es, c, gs, rfl, m, few, fun H1 s1 => ?_⟩
    have m1 := m.same s1
    have hx1 := s1 _ _ hx
    refine ⟨_, rfl, p, n, a, pvs, es, c, gs, rfl, m1, fun sl cps H2 s2 nsl hsl hC => ?_⟩
    have hx2 := s2 _ _ hx1
    have s9 := few cps hC
    have xsl : x ≠ sl := ne_of_none hx1 nsl
    have F2 : Frm x H H2 := Frm.refl.same (s1.trans s2)
    refine ⟨_, rfl, x, CCore, dx, _, rfl, hx2, C_Core.cl, nspots, by show 0 < 1000; decide, ?_⟩
    have F3 := F2.upd (o := .ins CCore dx (cf1 sl))
    have hx3 : upd H2 x (.ins CCore dx (cf1 sl)) x = some (.ins CCore dx (cf1 sl)) := upd_same
    have hsl3 : upd H2 x (.ins CCore dx (cf1 sl)) sl = some (.lst (cps.map nV)) := by
      rw [upd_ne xsl.symm]
      exact hsl
    generalize upd H2 x (.ins CCore dx (cf1 sl)) = H3 at F3 hx3 hsl3 ⊢
    -- size
    refine ⟨_, rfl, x, CCore, dx, _, _, rfl, hx3, C_Core.cl, nspots, cf_spots1, sl, _, rfl, .inl (sql hsl3), ?_⟩
    refine ⟨_, rfl, x, CCore, dx, _, rfl, hx3, C_Core.cl, nsize, Nat.lt_of_le_of_lt cl1 (by decide), ?_⟩
    rw [List.length_map]
    have F4 := F3.upd (o := .ins CCore dx (cf2 sl cps.length))
    have hx4 : upd H3 x (.ins CCore dx (cf2 sl cps.length)) x = some (.ins CCore dx (cf2 sl cps.length)) := upd_same
    have hsl4 : upd H3 x (.ins CCore dx (cf2 sl cps.length)) sl = some (.lst (cps.map nV)) := by
      rw [upd_ne xsl.symm]
      exact hsl3
    generalize hH4 : upd H3 x (.ins CCore dx (cf2 sl cps.length)) = H4 at F4 hx4 hsl4
    show (_ : L2.St → Hp → Prop) _ (upd H3 x (.ins CCore dx (cf2 sl cps.length)))
    rw [hH4]
    clear hH4
    -- full
    refine ⟨_, rfl, x, CCore, dx, _, _, rfl, hx4, C_Core.cl, nsize, cf_size2, cps.length, rfl, rfl, by omega, 2 ^ cps.length, 1, rfl, rfl, Nat.one_le_two_pow, ?_⟩
    refine ⟨_, rfl, x, CCore, dx, _, rfl, hx4, C_Core.cl, nfull, Nat.lt_of_le_of_lt cl2 (by decide), ?_⟩
    have F5 := F4.upd (o := .ins CCore dx (cf3 sl cps.length))
    have hx5 : upd H4 x (.ins CCore dx (cf3 sl cps.length)) x = some (.ins CCore dx (cf3 sl cps.length)) := upd_same
    have hsl5 : upd H4 x (.ins CCore dx (cf3 sl cps.length)) sl = some (.lst (cps.map nV)) := by
      rw [upd_ne xsl.symm]
      exact hsl4
    generalize upd H4 x (.ins CCore dx (cf3 sl cps.length)) = H5 at F5 hx5 hsl5 ⊢
    -- at
    have nd : cps.Nodup := hC.pw.imp fun h => Nat.ne_of_lt h
    refine ⟨_, rfl, x, CCore, dx, _, _, rfl, hx5, C_Core.cl, nspots, cf_spots3, sl, _, rfl, sql hsl5, fun da nda => ?_⟩
    refine dc_it walk_enum (fun i H' => Same H5 H' ∧ H' da = some (.dK (kvG (atL cps i)))) ⟨same_new (Same.refl H5) nda, upd_same⟩ (fun i H' _ z => sql (z.1 _ _ hsl5)) ?_ ?_
    · rintro i v H6 H7 hi ⟨s6, hda⟩ ⟨T, x1, x2, rfl, nT, rfl, e1, e2⟩
      cases e1
      obtain ⟨u, hu, rfl⟩ := getmap (show (cps.map nV)[i]? = some x2 from e2)
      have s7 := same_new (o := .tup [.int (i : Nat), nV u]) (Same.refl H6) nT
      have hi' : i < cps.length := (List.getElem?_eq_some_iff.mp hu).1
      refine ⟨T, _, rfl, sqt upd_same, rfl, _, _, rfl, _, _, rfl, rfl, rfl, tyes ?_⟩
      refine iteT ?_
      refine ⟨_, rfl, _, rfl, _, Sum.inl (u : Int), rfl, s7 _ _ hda, by rw [kvG_len]; unfold atL; rw [List.length_map, List.length_range]; exact small_lt (by omega), same_mut (s6.trans s7) nda, ?_⟩
      rw [upd_same, putK_G (atL_nd nd (by omega))]
      show some (HO.dK (kvG (putG (atL cps i) u (nV i)))) = _
      rw [atL_snoc nd hu]
    rintro H6 ⟨s6, hda⟩
    rw [List.length_map] at hda
    have F6 := F5.same s6
    have hx6 := s6 _ _ hx5
    have hsl6 := s6 _ _ hsl5
    have m6 := F6.map hx m
    have xda : x ≠ da := ne_of_none hx5 nda
    obtain ⟨dp6, hp6⟩ := m6.at_.ob
    -- ends
    refine ⟨_, rfl, p, dp6, _, rfl, hp6, mapF_goals _ _ _, p, n, a, pvs, c, gs, rfl, m6.at_, c, rfl, ⟨_, m6.at_.go⟩, fun gl ngl => ?_⟩
    have hgn := m.gn
    refine lc_val walk_tup calm_at (fun i => (gs[i]?).map fun g => nV (2 ^ cps.idxOf g)) (by rw [List.length_map]; omega) ngl (fun H7 s7 => Same.sqt s7 m6.at_.go) ?_ fun H7 s7 hgl => ?_
    · rintro i v H7 H8 hi s7 ⟨rfl, hv⟩ Kt kt
      obtain ⟨g, hgi, rfl⟩ := getmap hv
      have k0 := kt _ (Same.refl _)
      rw [hgi] at k0
      have hix := ix_of (hC.goal gm g (List.mem_of_getElem? hgi))
      have hlt := (List.getElem?_eq_some_iff.mp hix).1
      refine ⟨rfl, tyes ?_⟩
      refine iteT ?_
      refine ⟨_, rfl, _, rfl, da, _, rfl, (by rw [← atL_get nd hix]; exact dget_G (s7 _ _ hda)), _, rfl, rfl, by omega, k0⟩
    have egl : ((List.range (gs.map nV).length).filterMap fun (i : Nat) => (gs[i]?).map fun (g : Nat) => nV (2 ^ cps.idxOf g)) = (gs.map fun g => ((2 ^ cps.idxOf g : Nat) : Int)).map V.int := by
      rw [List.length_map]
      have := fm_range (F := fun (g : Nat) => some (nV (2 ^ cps.idxOf g))) (xs := gs)
      have e2 : (fun (i : Nat) => (gs[i]?).map fun (g : Nat) => nV (2 ^ cps.idxOf g)) = fun (i : Nat) => (gs[i]?).bind fun (g : Nat) => some (nV (2 ^ cps.idxOf g)) := by
        funext j
        cases gs[j]? <;> rfl
      rw [e2, this, fm_some, List.map_map]
      rfl
    rw [egl] at hgl
    refine ⟨gl, _, rfl, sql hgl, ?_⟩
    rw [sum_nat]
    have F7 := F6.same s7
    have hx7 := s7 _ _ hx6
    refine ⟨_, rfl, x, CCore, dx, _, rfl, hx7, C_Core.cl, nends, Nat.lt_of_le_of_lt cl3 (by decide), ?_⟩
    obtain ⟨en, hen⟩ : ∃ en, en = (gs.map fun g => 2 ^ cps.idxOf g).sum := ⟨_, rfl⟩
    rw [← hen]
    have F8 := F7.upd (o := .ins CCore dx (cf4 sl cps.length en))
    have hx8 : upd H7 x (.ins CCore dx (cf4 sl cps.length en)) x = some (.ins CCore dx (cf4 sl cps.length en)) := upd_same
    have k8 : ∀ b o, b ≠ x → H7 b = some o → upd H7 x (.ins CCore dx (cf4 sl cps.length en)) b = some o := fun b o nb e => by
      rw [upd_ne nb]
      exact e
    have hsl8 := k8 _ _ xsl.symm (s7 _ _ hsl6)
    have hda8 := k8 _ _ xda.symm (s7 _ _ hda)
    clear k8
    generalize hH8 : upd H7 x (.ins CCore dx (cf4 sl cps.length en)) = H8 at F8 hx8 hsl8 hda8
    show (_ : L2.St → Hp → Prop) _ (upd H7 x (.ins CCore dx (cf4 sl cps.length en)))
    rw [hH8]
    clear hH8
    -- outward
    refine ⟨Nat.le_of_lt (small_lt (by decide : 1 ≤ 100000)), fun z1 nz1 => ?_⟩
    have sz1 := same_new (o := .lst [V.int 0]) (Same.refl H8) nz1
    refine ⟨_, rfl, x, CCore, dx, _, _, rfl, sz1 _ _ hx8, C_Core.cl, nsize, cf_size4, z1, (cps.length : Int), _, rfl, rfl, upd_same, by omega, by omega, by show 1 * _ ≤ _; rw [toNat_nn, Nat.one_mul]; exact Nat.le_of_lt (small_lt (by omega)), fun ol nol => ?_⟩
    rw [toNat_nn, rep_zero]
    have so1 := sz1.trans (same_new (o := .lst ((List.range cps.length).map fun _ => nV 0)) (Same.refl _) nol)
    have hol9 : upd (upd H8 z1 (.lst [V.int 0])) ol (.lst ((List.range cps.length).map fun _ => nV 0)) ol = some (.lst ((List.range cps.length).map fun _ => nV 0)) := upd_same
    have nol8 : H8 ol = none := Same.free sz1 nol
    generalize upd (upd H8 z1 (.lst [V.int 0])) ol (.lst ((List.range cps.length).map fun _ => nV 0)) = H9 at so1 hol9 ⊢
    have xol : x ≠ ol := ne_of_none hx8 nol8
    refine ⟨_, rfl, x, CCore, dx, _, rfl, so1 _ _ hx8, C_Core.cl, noutw, Nat.lt_of_le_of_lt cl4 (by decide), ?_⟩
    have F10 := (F8.same so1).upd (o := .ins CCore dx (cf5 sl cps.length en ol))
    have hx10 : upd H9 x (.ins CCore dx (cf5 sl cps.length en ol)) x = some (.ins CCore dx (cf5 sl cps.length en ol)) := upd_same
    have k10 : ∀ b o, b ≠ x → H9 b = some o → upd H9 x (.ins CCore dx (cf5 sl cps.length en ol)) b = some o := fun b o nb e => by
      rw [upd_ne nb]
      exact e
    have hsl10 := k10 _ _ xsl.symm (so1 _ _ hsl8)
    have hda10 := k10 _ _ xda.symm (so1 _ _ hda8)
    have hol10 := k10 _ _ xol.symm hol9
    clear k10
    generalize upd H9 x (.ins CCore dx (cf5 sl cps.length en ol)) = H10 at F10 hx10 hsl10 hda10 hol10 ⊢
    -- inward
    refine ⟨Nat.le_of_lt (small_lt (by decide : 1 ≤ 100000)), fun z2 nz2 => ?_⟩
    have sz2 := same_new (o := .lst [V.int 0]) (Same.refl H10) nz2
    refine ⟨_, rfl, x, CCore, dx, _, _, rfl, sz2 _ _ hx10, C_Core.cl, nsize, cf_size5, z2, (cps.length : Int), _, rfl, rfl, upd_same, by omega, by omega, by show 1 * _ ≤ _; rw [toNat_nn, Nat.one_mul]; exact Nat.le_of_lt (small_lt (by omega)), fun il nil => ?_⟩
    rw [toNat_nn, rep_zero]
    have so2 := sz2.trans (same_new (o := .lst ((List.range cps.length).map fun _ => nV 0)) (Same.refl _) nil)
    have hil11 : upd (upd H10 z2 (.lst [V.int 0])) il (.lst ((List.range cps.length).map fun _ => nV 0)) il = some (.lst ((List.range cps.length).map fun _ => nV 0)) := upd_same
    have nil10 : H10 il = none := Same.free sz2 nil
    generalize upd (upd H10 z2 (.lst [V.int 0])) il (.lst ((List.range cps.length).map fun _ => nV 0)) = H11 at so2 hil11 ⊢
    have xil : x ≠ il := ne_of_none hx10 nil10
    have olil : ol ≠ il := ne_of_none hol10 nil10
    refine ⟨_, rfl, x, CCore, dx, _, rfl, so2 _ _ hx10, C_Core.cl, ninw, Nat.lt_of_le_of_lt cl5 (by decide), ?_⟩
    have F12 := (F10.same so2).upd (o := .ins CCore dx (cf6 sl cps.length en ol il))
    have hx12 : upd H11 x (.ins CCore dx (cf6 sl cps.length en ol il)) x = some (.ins CCore dx (cf6 sl cps.length en ol il)) := upd_same
    have k12 : ∀ b o, b ≠ x → H11 b = some o → upd H11 x (.ins CCore dx (cf6 sl cps.length en ol il)) b = some o := fun b o nb e => by
      rw [upd_ne nb]
      exact e
    have hsl12 := k12 _ _ xsl.symm (so2 _ _ hsl10)
    have hda12 := k12 _ _ xda.symm (so2 _ _ hda10)
    have hol12 := k12 _ _ xol.symm (so2 _ _ hol10)
    have hil12 := k12 _ _ xil.symm hil11
    clear k12
    generalize upd H11 x (.ins CCore dx (cf6 sl cps.length en ol il)) = H12 at F12 hx12 hsl12 hda12 hol12 hil12 ⊢
    -- between
    refine ⟨_, rfl, x, CCore, dx, _, _, rfl, hx12, C_Core.cl, nsize, cf_size6, (cps.length : Int), rfl, by omega, by omega, fun bl nbl => ?_⟩
    refine lc_it walk_range (fun i H' => Same H12 H' ∧ ∃ rows : List Addr, rows.length = i ∧ rows.Nodup ∧ H' bl = some (.lst (rows.map V.ref)) ∧ ∀ r ∈ rows, H12 r = none ∧ r ≠ bl ∧ H' r = some (.lst ((List.range cps.length).map fun _ => nV 0)))
      ⟨same_new (Same.refl H12) nbl, [], rfl, .nil, upd_same, fun r hr => (List.not_mem_nil hr).elim⟩ (fun _ _ _ _ => trivial) ?_ ?_
    · rintro i v H14 H13 hi ⟨s13, rows, hrl, hrn, hbl, hr⟩ ⟨rfl, _⟩
      have hi' : i < cps.length := by omega
      refine ⟨rfl, tyes ?_⟩
      refine iteT ?_
      refine ⟨Nat.le_of_lt (small_lt (by decide : 1 ≤ 100000)), fun z3 nz3 => ?_⟩
      have sz3 := same_new (o := .lst [V.int 0]) (Same.refl H13) nz3
      refine ⟨_, rfl, x, CCore, dx, _, _, rfl, sz3 _ _ (s13 _ _ hx12), C_Core.cl, nsize, cf_size6, z3, (cps.length : Int), _, rfl, rfl, upd_same, by omega, by omega, by show 1 * _ ≤ _; rw [toNat_nn, Nat.one_mul]; exact Nat.le_of_lt (small_lt (by omega)), fun r nr => ?_⟩
      rw [toNat_nn, rep_zero]
      have so3 := sz3.trans (same_new (o := .lst ((List.range cps.length).map fun _ => nV 0)) (Same.refl _) nr)
      have hr14 : upd (upd H13 z3 (.lst [V.int 0])) r (.lst ((List.range cps.length).map fun _ => nV 0)) r = some (.lst ((List.range cps.length).map fun _ => nV 0)) := upd_same
      have nr13 : H13 r = none := Same.free sz3 nr
      generalize upd (upd H13 z3 (.lst [V.int 0])) r (.lst ((List.range cps.length).map fun _ => nV 0)) = H14 at so3 hr14 ⊢
      have rbl : bl ≠ r := ne_of_none hbl nr13
      refine ⟨_, so3 _ _ hbl, by rw [List.length_map]; exact small_lt (by omega), same_mut (s13.trans so3) nbl, rows ++ [r], by rw [List.length_append, hrl]; rfl, ?_, ?_, fun y hy => ?_⟩
      · rw [List.nodup_append]
        refine ⟨hrn, by simp, fun y hy z hz => ?_⟩
        rw [List.mem_singleton.mp hz]
        exact ne_of_none (hr y hy).2.2 nr13
      · rw [upd_same, List.map_append]
        rfl
      · rcases List.mem_append.mp hy with hy | hy
        · obtain ⟨h1, h2, h3⟩ := hr y hy
          exact ⟨h1, h2, by rw [upd_ne h2]; exact so3 _ _ h3⟩
        · rw [List.mem_singleton.mp hy]
          exact ⟨Same.free s13 nr13, rbl.symm, by rw [upd_ne rbl.symm]; exact hr14⟩
    rintro H13 ⟨s13, rows, hrl, hrn, hbl, hr⟩
    have hrl' : rows.length = cps.length := by rw [hrl]; show ((cps.length : Nat) : Int).toNat = _; rw [toNat_nn]
    have F13 := F12.same s13
    have hx13 := s13 _ _ hx12
    have hsl13 := s13 _ _ hsl12
    have hda13 := s13 _ _ hda12
    have hol13 := s13 _ _ hol12
    have hil13 := s13 _ _ hil12
    have m13 := F13.map hx m
    obtain ⟨dp13, hp13⟩ := m13.at_.ob
    -- what may change: outward, inward and the rows
    have old : ∀ {b : Addr} {o : HO}, H12 b = some o → b ∉ rows := fun {b o} e z => by
      rw [(hr b z).1] at e
      cases e
    have olr := old hol12
    have ilr := old hil12
    have nL : ∀ {b : Addr} {o : HO}, H12 b = some o → b ≠ ol → b ≠ il → b ∉ ol :: il :: rows := fun {b o} e h1 h2 z => by
      rcases List.mem_cons.mp z with z | z
      · exact h1 z
      · rcases List.mem_cons.mp z with z | z
        · exact h2 z
        · exact old e z
    have xL := nL hx12 xol xil
    have slol : sl ≠ ol := ne_of_none hsl8 nol8
    have slil : sl ≠ il := ne_of_none hsl10 nil10
    have slL := nL hsl12 slol slil
    have daL := nL hda12 (ne_of_none hda8 nol8) (ne_of_none hda10 nil10)
    have blL : bl ∉ ol :: il :: rows := fun z => by
      rcases List.mem_cons.mp z with z | z
      · rw [z, hol12] at nbl
        cases nbl
      · rcases List.mem_cons.mp z with z | z
        · rw [z, hil12] at nbl
          cases nbl
        · exact (hr bl z).2.1 rfl
    have Llst : ∀ b ∈ ol :: il :: rows, ∃ ys, H13 b = some (.lst ys) := fun b hb => by
      rcases List.mem_cons.mp hb with z | z
      · exact ⟨_, z ▸ hol13⟩
      · rcases List.mem_cons.mp z with z | z
        · exact ⟨_, z ▸ hil13⟩
        · exact ⟨_, (hr b z).2.2⟩
    have rowix : ∀ {h : Nat}, h < cps.length → ∃ r, rows[h]? = some r := fun {h} hh => ⟨_, List.getElem?_eq_getElem (by omega)⟩
    -- arrow by arrow
    refine ⟨_, rfl, p, dp13, _, rfl, hp13, mapF_arrows _ _ _, p, n, a, pvs, c, gs, rfl, m13.at_, a, rfl, ⟨_, m13.at_.ar⟩, ?_⟩
    refine for_tup (xs := pvs) (fun k σ H' => ∃ (x4 x5 : Option V) (om im : Nat → Nat), σ = [some (.ref x), some (.ref p), some (.ref da), some (.ref bl), x4, x5, none, none, none, none, none] ∧ Kp (ol :: il :: rows) H13 H' ∧ CorK H' es cps ol il bl rows k om im)
      ⟨none, none, fun _ => 0, fun _ => 0, rfl, Same.kp (Same.refl H13), hol13, hil13, fun h r e => ?_, fun t v _ h => ?_, fun t v _ h => ?_⟩ (fun k σ H' _ ⟨_, _, _, _, _, kp, _⟩ => (kp.nl Llst).sqt m13.at_.ar) ?_ ?_
    · exact (hr r (List.mem_of_getElem? e)).2.2
    · simp
    · simp
    · rintro k v σ H14 hv ⟨x4, x5, om, im, rfl, kp, ck⟩
      have nn := kp.nl Llst
      obtain ⟨⟨e1, e2⟩, hek, tt, rfl, ht⟩ := m13.pr.get hv
      have hx14 := kp.same _ _ xL hx13
      have hda14 := kp.same _ _ daL hda13
      have hbl14 := kp.same _ _ blL hbl
      refine ⟨tt, _, rfl, nn.sqt ht, rfl, _, _, rfl, _, _, rfl, rfl, ?_⟩
      -- an arrow that is not among them
      have skip : (∀ t h, cps[t]? = some e1 → cps[h]? = some e2 → False) → CorK H14 es cps ol il bl rows (k + 1) om im := fun no => ⟨ck.out, ck.inw, fun h r hh => by
          rw [ck.row h r hh]
          have hlt : h < cps.length := by
            have := (List.getElem?_eq_some_iff.mp hh).1
            omega
          congr 2
          refine List.map_congr_left fun t ht => ?_
          have htl := List.mem_range.mp ht
          rw [btK_succ, if_neg]
          · rfl
          · intro z
            rw [hek] at z
            have z1 := congrArg Prod.fst (Option.some.inj z)
            have z2 := congrArg Prod.snd (Option.some.inj z)
            have q1 : cps[t]? = some cps[t] := List.getElem?_eq_getElem htl
            have q2 : cps[h]? = some cps[h] := List.getElem?_eq_getElem hlt
            rw [getD_some q1] at z1
            rw [getD_some q2] at z2
            exact no t h (q1.trans (congrArg some z1.symm)) (q2.trans (congrArg some z2.symm)),
        fun t v ht h => by
          rw [ck.om t v ht h]
          refine exists_congr fun w => and_congr_right fun hw => ?_
          rw [lt_succ_or]
          refine ⟨.inl, fun z => z.elim id fun y => ?_⟩
          rw [hek] at y
          cases y
          exact (no t h ht hw).elim,
        fun t v ht h => by
          rw [ck.im t v ht h]
          refine exists_congr fun w => and_congr_right fun hw => ?_
          rw [lt_succ_or]
          refine ⟨.inl, fun z => z.elim id fun y => ?_⟩
          rw [hek] at y
          cases y
          exact (no h t hw ht).elim⟩
      refine ⟨_, rfl, _, rfl, da, _, rfl, dget_G hda14, _, rfl, ?_⟩
      by_cases hu : e1 ∈ cps
      · have hi1 := ix_of hu
        have hl1 := (List.getElem?_eq_some_iff.mp hi1).1
        obtain ⟨t, htt⟩ : ∃ t, t = cps.idxOf e1 := ⟨_, rfl⟩
        rw [← htt] at hi1 hl1
        rw [atL_get nd hi1]
        refine iteT ?_
        refine ⟨_, rfl, _, rfl, da, _, rfl, dget_G hda14, _, rfl, ?_⟩
        by_cases hw : e2 ∈ cps
        · have hi2 := ix_of hw
          have hl2 := (List.getElem?_eq_some_iff.mp hi2).1
          obtain ⟨h, hhh⟩ : ∃ h, h = cps.idxOf e2 := ⟨_, rfl⟩
          rw [← hhh] at hi2 hl2
          rw [atL_get nd hi2]
          refine iteT ?_
          have d1 : ∀ {A : Hp}, A da = some (.dK (kvG (atL cps cps.length))) → DGet A da (nV e1) (some (nV t)) := fun e => by rw [← atL_get nd hi1]; exact dget_G e
          have d2 : ∀ {A : Hp}, A da = some (.dK (kvG (atL cps cps.length))) → DGet A da (nV e2) (some (nV h)) := fun e => by rw [← atL_get nd hi2]; exact dget_G e
          obtain ⟨r, hrr⟩ := rowix hl2
          have rm := List.mem_of_getElem? hrr
          have rol : r ≠ ol := fun z => olr (z ▸ rm)
          have ril : r ≠ il := fun z => ilr (z ▸ rm)
          have nx : ∀ {b : Addr}, b ∉ ol :: il :: rows → b ≠ ol ∧ b ≠ il ∧ b ≠ r := fun {b} z => ⟨fun y => z (y ▸ List.mem_cons_self), fun y => z (y ▸ List.mem_cons_of_mem _ List.mem_cons_self), fun y => z (y ▸ List.mem_cons_of_mem _ (List.mem_cons_of_mem _ rm))⟩
          -- outward
          refine ⟨_, rfl, x, CCore, dx, _, _, rfl, hx14, C_Core.cl, noutw, cf_out6, _, rfl, _, rfl, da, _, rfl, d1 hda14, ol, _, t, _, rfl, rfl, ck.out, fn_get hl1, _, rfl, _, rfl, da, _, rfl, d2 hda14, h, rfl, rfl, by omega, om t, 2 ^ h, rfl, rfl, ol, _, (t : Int), t, rfl, rfl, ck.out, ixN_nat (by rw [List.length_map, List.length_range]; exact hl1), ?_⟩
          rw [fn_set]
          have o15 : upd H14 ol (.lst ((List.range cps.length).map fun i => if i = t then nV (om t ||| 2 ^ h) else nV (om i))) ol = _ := upd_same
          have k15 : ∀ b o, b ≠ ol → H14 b = some o → upd H14 ol (.lst ((List.range cps.length).map fun i => if i = t then nV (om t ||| 2 ^ h) else nV (om i))) b = some o := fun b o nb e => by
            rw [upd_ne nb]
            exact e
          have p15 : Kp (ol :: il :: rows) H14 (upd H14 ol (.lst ((List.range cps.length).map fun i => if i = t then nV (om t ||| 2 ^ h) else nV (om i)))) := kp_upd List.mem_cons_self
          generalize upd H14 ol (.lst ((List.range cps.length).map fun i => if i = t then nV (om t ||| 2 ^ h) else nV (om i))) = H15 at o15 k15 p15 ⊢
          have hx15 := k15 _ _ (nx xL).1 hx14
          have hda15 := k15 _ _ (nx daL).1 hda14
          have hbl15 := k15 _ _ (nx blL).1 hbl14
          have il15 := k15 _ _ olil.symm ck.inw
          -- inward
          refine ⟨_, rfl, x, CCore, dx, _, _, rfl, hx15, C_Core.cl, ninw, cf_in6, _, rfl, _, rfl, da, _, rfl, d2 hda15, il, _, h, _, rfl, rfl, il15, fn_get hl2, _, rfl, _, rfl, da, _, rfl, d1 hda15, t, rfl, rfl, by omega, im h, 2 ^ t, rfl, rfl, il, _, (h : Int), h, rfl, rfl, il15, ixN_nat (by rw [List.length_map, List.length_range]; exact hl2), ?_⟩
          rw [fn_set]
          have i16 : upd H15 il (.lst ((List.range cps.length).map fun i => if i = h then nV (im h ||| 2 ^ t) else nV (im i))) il = _ := upd_same
          have k16 : ∀ b o, b ≠ il → H15 b = some o → upd H15 il (.lst ((List.range cps.length).map fun i => if i = h then nV (im h ||| 2 ^ t) else nV (im i))) b = some o := fun b o nb e => by
            rw [upd_ne nb]
            exact e
          have p16 : Kp (ol :: il :: rows) H15 (upd H15 il (.lst ((List.range cps.length).map fun i => if i = h then nV (im h ||| 2 ^ t) else nV (im i)))) := kp_upd (List.mem_cons_of_mem _ List.mem_cons_self)
          generalize upd H15 il (.lst ((List.range cps.length).map fun i => if i = h then nV (im h ||| 2 ^ t) else nV (im i))) = H16 at i16 k16 p16 ⊢
          have hda16 := k16 _ _ (nx daL).2.1 hda15
          have hbl16 := k16 _ _ (nx blL).2.1 hbl15
          have ol16 := k16 _ _ olil o15
          have rows16 : ∀ j y, rows[j]? = some y → H16 y = some (.lst ((List.range cps.length).map fun t => nV (btK es cps k j t))) := fun j y e => by
            have ym := List.mem_of_getElem? e
            exact k16 _ _ (fun z => ilr (z ▸ ym)) (k15 _ _ (fun z => olr (z ▸ ym)) (ck.row j y e))
          have r16 := rows16 h r hrr
          -- between
          refine ⟨_, rfl, _, rfl, _, rfl, da, _, rfl, d2 hda16, bl, _, (h : Int), .ref r, rfl, rfl, sql hbl16, atI_nat (by rw [List.getElem?_map, hrr]; rfl), _, rfl, _, rfl, da, _, rfl, d1 hda16, r, _, t, _, rfl, rfl, r16, fn_get hl1, btK es cps k h t, 1, rfl, rfl, r, _, (t : Int), t, rfl, rfl, r16, ixN_nat (by rw [List.length_map, List.length_range]; exact hl1), ?_⟩
          rw [fn_set]
          have r17 : upd H16 r (.lst ((List.range cps.length).map fun i => if i = t then nV (btK es cps k h t + 1) else nV (btK es cps k h i))) r = _ := upd_same
          have k17 : ∀ b o, b ≠ r → H16 b = some o → upd H16 r (.lst ((List.range cps.length).map fun i => if i = t then nV (btK es cps k h t + 1) else nV (btK es cps k h i))) b = some o := fun b o nb e => by
            rw [upd_ne nb]
            exact e
          have p17 : Kp (ol :: il :: rows) H16 (upd H16 r (.lst ((List.range cps.length).map fun i => if i = t then nV (btK es cps k h t + 1) else nV (btK es cps k h i)))) := kp_upd (List.mem_cons_of_mem _ (List.mem_cons_of_mem _ rm))
          generalize upd H16 r (.lst ((List.range cps.length).map fun i => if i = t then nV (btK es cps k h t + 1) else nV (btK es cps k h i))) = H17 at r17 k17 p17 ⊢
          refine ⟨_, _, fun i => if i = t then om t ||| 2 ^ h else om i, fun i => if i = h then im h ||| 2 ^ t else im i, rfl, ((kp.trans p15).trans p16).trans p17, ?_, ?_, ?_, ?_, ?_⟩
          · rw [k17 _ _ rol.symm ol16]
            congr 2
            refine List.map_congr_left fun i _ => ?_
            by_cases z : i = t
            · rw [if_pos z, if_pos z]
            · rw [if_neg z, if_neg z]
          · rw [k17 _ _ ril.symm i16]
            congr 2
            refine List.map_congr_left fun i _ => ?_
            by_cases z : i = h
            · rw [if_pos z, if_pos z]
            · rw [if_neg z, if_neg z]
          · intro j y e
            have hjl := (List.getElem?_eq_some_iff.mp e).1
            have hjl' : j < cps.length := by omega
            have qj : cps[j]? = some cps[j] := List.getElem?_eq_getElem hjl'
            by_cases zj : y = r
            · have ej : j = h := nd_ix hrn e (zj ▸ hrr)
              subst ej
              rw [zj, r17]
              congr 2
              refine List.map_congr_left fun i hi => ?_
              have hil := List.mem_range.mp hi
              have qi : cps[i]? = some cps[i] := List.getElem?_eq_getElem hil
              rw [btK_succ]
              by_cases z : i = t
              · subst z
                rw [if_pos rfl, if_pos (by rw [hek, getD_some hi1, getD_some hi2])]
              · rw [if_neg z, if_neg]
                · rfl
                · intro y2
                  rw [hek] at y2
                  have y3 := congrArg Prod.fst (Option.some.inj y2)
                  rw [getD_some qi] at y3
                  exact z (nd_ix nd (qi.trans (congrArg some y3.symm)) hi1)
            · rw [k17 _ _ zj (rows16 j y e)]
              congr 2
              refine List.map_congr_left fun i hi => ?_
              rw [btK_succ, if_neg]
              · rfl
              · intro y2
                rw [hek] at y2
                have y3 := congrArg Prod.snd (Option.some.inj y2)
                rw [getD_some qj] at y3
                have ej : j = h := nd_ix nd (qj.trans (congrArg some y3.symm)) hi2
                subst ej
                rw [e] at hrr
                exact zj (Option.some.inj hrr)
          · intro t' v' ht' h'
            by_cases z : t' = t
            · subst z
              have ev : v' = e1 := Option.some.inj (ht'.symm.trans hi1)
              subst ev
              show (if t' = t' then om t' ||| 2 ^ h else om t').testBit h' = true ↔ _
              rw [if_pos rfl, Nat.testBit_or, Bool.or_eq_true, one_bits, decide_eq_true_eq, ck.om _ _ hi1]
              constructor
              · rintro (⟨w, w1, w2⟩ | rfl)
                · exact ⟨w, w1, lt_succ_or.mpr (.inl w2)⟩
                · exact ⟨e2, hi2, lt_succ_or.mpr (.inr hek)⟩
              · rintro ⟨w, w1, w2⟩
                rcases lt_succ_or.mp w2 with w2 | w2
                · exact .inl ⟨w, w1, w2⟩
                · rw [hek] at w2
                  cases w2
                  exact .inr (nd_ix nd hi2 w1)
            · show (if t' = t then om t ||| 2 ^ h else om t').testBit h' = true ↔ _
              rw [if_neg z, ck.om _ _ ht']
              refine exists_congr fun w => and_congr_right fun hw => ?_
              rw [lt_succ_or]
              refine ⟨.inl, fun y => y.elim id fun y => ?_⟩
              rw [hek] at y
              cases y
              exact (z (nd_ix nd ht' hi1)).elim
          · intro t' v' ht' h'
            by_cases z : t' = h
            · subst z
              have ev : v' = e2 := Option.some.inj (ht'.symm.trans hi2)
              subst ev
              show (if t' = t' then im t' ||| 2 ^ t else im t').testBit h' = true ↔ _
              rw [if_pos rfl, Nat.testBit_or, Bool.or_eq_true, one_bits, decide_eq_true_eq, ck.im _ _ hi2]
              constructor
              · rintro (⟨w, w1, w2⟩ | rfl)
                · exact ⟨w, w1, lt_succ_or.mpr (.inl w2)⟩
                · exact ⟨e1, hi1, lt_succ_or.mpr (.inr hek)⟩
              · rintro ⟨w, w1, w2⟩
                rcases lt_succ_or.mp w2 with w2 | w2
                · exact .inl ⟨w, w1, w2⟩
                · rw [hek] at w2
                  cases w2
                  exact .inr (nd_ix nd hi1 w1)
            · show (if t' = h then im h ||| 2 ^ t else im t').testBit h' = true ↔ _
              rw [if_neg z, ck.im _ _ ht']
              refine exists_congr fun w => and_congr_right fun hw => ?_
              rw [lt_succ_or]
              refine ⟨.inl, fun y => y.elim id fun y => ?_⟩
              rw [hek] at y
              cases y
              exact (z (nd_ix nd ht' hi2)).elim
        · rw [atL_none hw]
          refine iteF ?_
          exact ⟨_, _, om, im, rfl, kp, skip fun _ h _ z => hw (List.mem_of_getElem? z)⟩
      · rw [atL_none hu]
        refine iteF ?_
        refine iteF ?_
        exact ⟨_, _, om, im, rfl, kp, skip fun _ h z _ => hu (List.mem_of_getElem? z)⟩
    · rintro σ H14 ⟨x4, x5, om, im, rfl, kp, ck⟩
      rw [hl] at ck
      have hx14 := kp.same _ _ xL hx13
      have hbl14 := kp.same _ _ blL hbl
      have hsl14 := kp.same _ _ slL hsl13
      -- sums
      refine ⟨_, rfl, bl, rfl, ⟨_, sql hbl14⟩, fun ul nul => ?_⟩
      refine lc_it (walk_list (xs := rows.map V.ref)) (fun i H' => Same H14 H' ∧ ∃ us : List Addr, us.length = i ∧ H' ul = some (.lst (us.map V.ref)) ∧ ∀ j y, us[j]? = some y → y ≠ ul ∧ y ≠ x ∧ H' y = some (.lst ((List.range (2 ^ cps.length)).map fun F => nV (smF es cps j F))))
        ⟨same_new (Same.refl H14) nul, [], rfl, upd_same, fun j y e => by simp at e⟩ (fun i H' _ z => sql (z.1 _ _ hbl14)) ?_ ?_
      · rintro i v H15 H16 hi ⟨s15, us, hul, hu, hus⟩ ⟨rfl, hv⟩
        rw [List.getElem?_map] at hv
        obtain ⟨r, hrr, rfl⟩ := Option.map_eq_some_iff.mp hv
        have hi' : i < cps.length := by
          have := (List.getElem?_eq_some_iff.mp hrr).1
          omega
        have qi : cps[i]? = some cps[i] := List.getElem?_eq_getElem hi'
        have hrow := s15 _ _ (ck.row i r hrr)
        have erow : ((List.range cps.length).map fun t => nV (btK es cps es.length i t)) = (cps.map fun u => inn es [] [u] (cps.getD i 0)).map nV := by
          rw [List.map_map]
          apply List.ext_getElem?
          intro j
          by_cases z : j < cps.length
          · rw [fn_get z, List.getElem?_map, List.getElem?_eq_getElem z, btK_all, getD_some (List.getElem?_eq_getElem z)]
            rfl
          · rw [List.getElem?_eq_none (by rw [List.length_map, List.length_range]; omega), List.getElem?_eq_none (by rw [List.length_map]; omega)]
        rw [erow] at hrow
        refine ⟨rfl, tyes ?_⟩
        refine iteT ?_
        refine ⟨_, rfl, r, _, rfl, sql hrow, by rw [List.length_map]; exact s9, fun y H17 s17 ny hy => ?_⟩
        rw [row_sums nd, List.map_map] at hy
        have yul : y ≠ ul := fun z => by
          rw [z, hu] at ny
          cases ny
        have yx : y ≠ x := fun z => by
          rw [z, s15 _ _ hx14] at ny
          cases ny
        refine ⟨_, s17 _ _ hu, by rw [List.length_map]; exact small_lt (by omega), same_mut (s15.trans s17) nul, us ++ [y], by rw [List.length_append, hul]; rfl, ?_, fun j z e => ?_⟩
        · rw [upd_same, List.map_append]
          rfl
        · rcases Nat.lt_trichotomy j us.length with lt | lt | lt
          · rw [List.getElem?_append_left lt] at e
            obtain ⟨a1, a2, a3⟩ := hus j z e
            exact ⟨a1, a2, by rw [upd_ne a1]; exact s17 _ _ a3⟩
          · rw [lt, List.getElem?_concat_length] at e
            cases e
            refine ⟨yul, yx, ?_⟩
            rw [upd_ne yul, lt, hul]
            exact hy
          · rw [List.getElem?_eq_none (by rw [List.length_append]; show us.length + 1 ≤ j; omega)] at e
            cases e
      rintro H15 ⟨s15, us, hul, hu, hus⟩
      rw [List.length_map] at hul
      have hx15 := s15 _ _ hx14
      refine ⟨_, rfl, x, CCore, dx, _, rfl, hx15, C_Core.cl, nsums, Nat.lt_of_le_of_lt cl6 (by decide), ?_⟩
      have xul : x ≠ ul := ne_of_none hx14 nul
      refine q cps en om im _ ?_ hC ⟨⟨dx, sl, ol, il, ul, us, upd_same, ?_, ?_, ?_, ?_, by omega, fun i y e => ?_⟩, ?_⟩
      · refine Frm.upd ⟨fun b o nb e => ?_, fun b e => ?_⟩
        · have e13 := F13.keep b o nb e
          refine s15 _ _ (kp.same b o (fun z => ?_) e13)
          rcases List.mem_cons.mp z with z | z
          · have := F8.keep b o nb e
            rw [z, nol8] at this
            cases this
          · rcases List.mem_cons.mp z with z | z
            · have := F10.keep b o nb e
              rw [z, nil10] at this
              cases this
            · have := F12.keep b o nb e
              rw [(hr b z).1] at this
              cases this
        · refine F13.gone b (Classical.byContradiction fun z => kp.live b z (Same.free s15 e))
      · rw [upd_ne xsl.symm]
        exact s15 _ _ hsl14
      · rw [upd_ne xol.symm]
        exact s15 _ _ ck.out
      · rw [upd_ne xil.symm]
        exact s15 _ _ ck.inw
      · rw [upd_ne xul.symm]
        exact hu
      · obtain ⟨a1, a2, a3⟩ := hus i y e
        rw [upd_ne a2]
        exact a3
      · have arr : ∀ v w : Nat, (∃ j, j < es.length ∧ es[j]? = some (v, w)) ↔ Arr es [] v w := fun v w => ⟨fun ⟨j, _, h⟩ => ⟨j, List.not_mem_nil, h⟩, fun ⟨j, _, h⟩ => ⟨j, (List.getElem?_eq_some_iff.mp h).1, h⟩⟩
        refine ⟨nd, hC.zero gm, s9, fun i => ?_, hC.goal gm, fun g hg => (gm.gl g hg).1, fun t v ht h => ?_, fun t v ht h => ?_, fun u ⟨k, _, h⟩ => (gm.ok _ (List.mem_of_getElem? h)).2.2 rfl⟩
        · rw [hen, sum_bits (f := fun g => cps.idxOf g)]
          · constructor
            · rintro ⟨g, hg, rfl⟩
              exact ⟨g, hg, ix_of (hC.goal gm g hg)⟩
            · rintro ⟨g, hg, e⟩
              exact ⟨g, hg, nd_ix nd (ix_of (hC.goal gm g hg)) e⟩
          · unfold List.Nodup
            rw [List.pairwise_map]
            refine gm.pw.imp_of_mem fun {a b} ha hb hlt e => ?_
            have q1 := ix_of (hC.goal gm a ha)
            have q2 := ix_of (hC.goal gm b hb)
            rw [e, q2] at q1
            have := Option.some.inj q1
            omega
        · rw [ck.om t v ht h]
          exact exists_congr fun w => and_congr_right fun _ => arr v w
        · rw [ck.im t v ht h]
          exact exists_congr fun w => and_congr_right fun _ => arr w v

/-! orders of spots, set by set -/
/-- v can come next behind F, in an order of S -/
def Nx (es : Es) (cps : List Nat) (en : Nat) (om : Nat → Nat) (S F v : Nat) : Prop := S.testBit v = true ∧ F.testBit v = false ∧ 0 < smF es cps v F ∧ (en.testBit v = true ∨ ∃ i, (om v).testBit i = true ∧ S.testBit i = true ∧ F.testBit i = false)
/-- F: the first ones of an order (0, then o); m: the arrows onward among them -/
inductive Rh (es : Es) (cps : List Nat) (en : Nat) (om : Nat → Nat) (S : Nat) : Nat → Nat → List Nat → Prop
  | start : Rh es cps en om S 1 0 []
  | step {F m : Nat} {o : List Nat} {v : Nat} : Rh es cps en om S F m o → Nx es cps en om S F v → Rh es cps en om S (F ||| 2 ^ v) (m + smF es cps v F) (o ++ [v])
theorem or_pow {F v i : Nat} : (F ||| 2 ^ v).testBit i = true ↔ F.testBit i = true ∨ v = i := by
  rw [Nat.testBit_or, Bool.or_eq_true, one_bits, decide_eq_true_eq]
theorem bits1 {i : Nat} : (1 : Nat).testBit i = true ↔ i = 0 := by
  have := one_bits 0 i
  rw [Nat.pow_zero] at this
  rw [this, decide_eq_true_eq]
  exact ⟨fun h => h.symm, fun h => h.symm⟩
section
variable {es : Es} {cps : List Nat} {en : Nat} {om : Nat → Nat} {S F m : Nat} {o : List Nat}
theorem Rh.bits (h : Rh es cps en om S F m o) : (∀ i, F.testBit i = true ↔ i = 0 ∨ i ∈ o) ∧ (0 :: o).Nodup ∧ ∀ i ∈ o, S.testBit i = true := by
  induction h with
  | start => exact ⟨fun i => by rw [bits1]; simp, by simp, fun i hi => (List.not_mem_nil hi).elim⟩
  | @step F m o v h nx ih =>
    obtain ⟨i1, i2, i3⟩ := ih
    have nv : v ∉ 0 :: o := fun z => by
      have := (i1 v).mpr (List.mem_cons.mp z)
      rw [nx.2.1] at this
      cases this
    refine ⟨fun i => ?_, ?_, fun i hi => ?_⟩
    · rw [or_pow, i1 i, List.mem_append, List.mem_singleton, or_assoc]
      exact or_congr Iff.rfl (or_congr Iff.rfl ⟨fun e => e.symm, fun e => e.symm⟩)
    · have : 0 :: (o ++ [v]) = (0 :: o) ++ [v] := rfl
      rw [this, List.nodup_append]
      refine ⟨i2, by simp, fun a ha b hb e => ?_⟩
      rw [List.mem_singleton.mp hb] at e
      exact nv (e ▸ ha)
    · rcases List.mem_append.mp hi with hi | hi
      · exact i3 i hi
      · rw [List.mem_singleton.mp hi]
        exact nx.1
theorem Rh.len (h : Rh es cps en om S F m o) {m' : Nat} {o' : List Nat} (h' : Rh es cps en om S F m' o') : o.length = o'.length := by
  obtain ⟨a1, a2, _⟩ := h.bits
  obtain ⟨b1, b2, _⟩ := h'.bits
  have le : ∀ {o o' : List Nat}, (∀ i, F.testBit i = true ↔ i = 0 ∨ i ∈ o) → (∀ i, F.testBit i = true ↔ i = 0 ∨ i ∈ o') → (0 :: o).Nodup → (0 :: o').Nodup → o.length ≤ o'.length := fun {o o'} a b n n' => (List.nodup_cons.mp n).2.length_le_of_subset fun i hi => by
    have := (b i).mp ((a i).mpr (.inr hi))
    rcases this with z | z
    · exact absurd (z ▸ hi) (List.nodup_cons.mp n).1
    · exact z
  exact Nat.le_antisymm (le a1 b1 a2 b2) (le b1 a1 b2 a2)
theorem Rh.few (h : Rh es cps en om S F m o) {s : Nat} (hS : S < 2 ^ s) : o.length < s ∨ o = [] := by
  obtain ⟨_, a2, a3⟩ := h.bits
  by_cases z : o = []
  · exact .inr z
  · obtain ⟨x, hx⟩ := List.exists_mem_of_ne_nil o z
    have hs : 0 < s := by have := bit_lt hS (a3 x hx); omega
    have := nodup_le (n := s) a2 fun i hi => by
      rcases List.mem_cons.mp hi with e | hi
      · omega
      · exact bit_lt hS (a3 i hi)
    rw [List.length_cons] at this
    exact .inl (by omega)
theorem Rh.sub (h : Rh es cps en om S F m o) (h0 : S.testBit 0 = true) : ∀ i, F.testBit i = true → S.testBit i = true := fun i hi => by
  obtain ⟨a1, _, a3⟩ := h.bits
  rcases (a1 i).mp hi with e | hi
  · rw [e]
    exact h0
  · exact a3 i hi
theorem Rh.pre (h : Rh es cps en om S F m o) : ∀ k, k ≤ o.length → ∃ F' m' o', Rh es cps en om S F' m' o' ∧ o'.length = k := by
  induction h with
  | start =>
    intro k hk
    have : k = 0 := by
      rw [List.length_nil] at hk
      omega
    exact ⟨_, _, _, .start, this ▸ rfl⟩
  | @step F m o v h nx ih =>
    intro k hk
    by_cases z : k ≤ o.length
    · exact ih k z
    · rw [List.length_append, List.length_singleton] at hk
      exact ⟨_, _, _, .step h nx, by rw [List.length_append, List.length_singleton]; omega⟩
end
/-- the sets of the layer j, each with the most arrows -/
structure LayerOk (es : Es) (cps : List Nat) (en : Nat) (om : Nat → Nat) (S j : Nat) (ls : List (Nat × V)) : Prop where
  nd : (ls.map (·.1)).Nodup
  ok : ∀ F y, getG ls F = some y → ∃ m o, y = nV m ∧ Rh es cps en om S F m o ∧ o.length = j
  all : ∀ F m o, Rh es cps en om S F m o → o.length = j → ∃ m', getG ls F = some (nV m') ∧ m ≤ m'
/-- what is found up to the layer j -/
structure FoundOk (H : Hp) (es : Es) (cps : List Nat) (en : Nat) (om : Nat → Nat) (S j : Nat) (fo : List (Nat × V)) : Prop where
  nd : (fo.map (·.1)).Nodup
  ok : ∀ F y, getG fo F = some y → ∃ t m v F0 m0 o0, y = .ref t ∧ H t = some (.tup [nV m, nV v]) ∧ Rh es cps en om S F0 m0 o0 ∧ Nx es cps en om S F0 v ∧ F = F0 ||| 2 ^ v ∧ m = m0 + smF es cps v F0 ∧ ∀ m' o', Rh es cps en om S F m' o' → m' ≤ m
  all : ∀ F m o, Rh es cps en om S F m o → o ≠ [] → o.length ≤ j → getG fo F ≠ none
/-- within a layer: the pairs that are done -/
structure FreshOk (H : Hp) (es : Es) (cps : List Nat) (ls fo0 : List (Nat × V)) (PS : Nat → Nat → Prop) (fs fo : List (Nat × V)) : Prop where
  nd : (fs.map (·.1)).Nodup
  ndo : (fo.map (·.1)).Nodup
  ok : ∀ b y, getG fs b = some y → ∃ F v m0, PS F v ∧ getG ls F = some (nV m0) ∧ b = F ||| 2 ^ v ∧ y = nV (m0 + smF es cps v F) ∧ (∃ t, getG fo b = some (.ref t) ∧ H t = some (.tup [nV (m0 + smF es cps v F), nV v])) ∧
    ∀ F' v' m', PS F' v' → getG ls F' = some (nV m') → b = F' ||| 2 ^ v' → m' + smF es cps v' F' ≤ m0 + smF es cps v F
  all : ∀ F v m0, PS F v → getG ls F = some (nV m0) → getG fs (F ||| 2 ^ v) ≠ none
  old : ∀ b, getG fs b = none → getG fo b = getG fo0 b
theorem nV_inj' {a b : Nat} (h : nV a = nV b) : a = b := by
  have h : V.int (a : Int) = V.int (b : Int) := h
  injection h with h
  omega
section
variable {H H' : Hp} {es : Es} {cps : List Nat} {en : Nat} {om : Nat → Nat} {S j : Nat} {ls fo0 fs fo : List (Nat × V)} {PS PS' : Nat → Nat → Prop}
theorem FreshOk.start (h : (fo0.map (·.1)).Nodup) (no : ∀ F v, ¬ PS F v) : FreshOk H es cps ls fo0 PS [] fo0 :=
  ⟨.nil, h, fun b y e => (by cases e), fun F v _ p => (no F v p).elim, fun _ _ => rfl⟩
theorem FreshOk.tups (h : FreshOk H es cps ls fo0 PS fs fo) (k : ∀ t xs, H t = some (.tup xs) → H' t = some (.tup xs)) : FreshOk H' es cps ls fo0 PS fs fo :=
  ⟨h.nd, h.ndo, fun b y e => by
    obtain ⟨F, v, m0, a1, a2, a3, a4, ⟨t, a5, a6⟩, a7⟩ := h.ok b y e
    exact ⟨F, v, m0, a1, a2, a3, a4, ⟨t, a5, k _ _ a6⟩, a7⟩, h.all, h.old⟩
theorem FreshOk.iff (h : FreshOk H es cps ls fo0 PS fs fo) (e : ∀ F v, PS F v ↔ PS' F v) : FreshOk H es cps ls fo0 PS' fs fo := by
  have : PS = PS' := by
    funext F v
    exact propext (e F v)
  exact this ▸ h
/-- one pair more that is better than what was there -/
theorem FreshOk.better (h : FreshOk H es cps ls fo0 PS fs fo) {F v m t : Nat} (hF : getG ls F = some (nV m)) (hb : ∀ y, getG fs (F ||| 2 ^ v) = some (nV y) → y < m + smF es cps v F) (k : ∀ t xs, H t = some (.tup xs) → H' t = some (.tup xs)) (ht : H' t = some (.tup [nV (m + smF es cps v F), nV v])) :
    FreshOk H' es cps ls fo0 (fun F' v' => PS F' v' ∨ (F' = F ∧ v' = v)) (putG fs (F ||| 2 ^ v) (nV (m + smF es cps v F))) (putG fo (F ||| 2 ^ v) (.ref t)) where
  nd := put_nd h.nd
  ndo := put_nd h.ndo
  ok := fun b y e => by
    rw [get_put] at e
    by_cases z : F ||| 2 ^ v = b
    · rw [if_pos z] at e
      cases e
      refine ⟨F, v, m, .inr ⟨rfl, rfl⟩, hF, z.symm, rfl, ⟨t, by rw [get_put, if_pos z], ht⟩, fun F' v' m' hp hF' hb' => ?_⟩
      rcases hp with hp | ⟨rfl, rfl⟩
      · have nn := h.all F' v' m' hp hF'
        rw [← hb', ← z] at nn
        cases e : getG fs (F ||| 2 ^ v) with
        | none => exact absurd e nn
        | some y =>
          obtain ⟨F1, v1, m1, _, _, _, rfl, _, top⟩ := h.ok _ _ e
          have := top F' v' m' hp hF' (z.trans hb')
          have := hb _ e
          omega
      · rw [hF] at hF'
        have := nV_inj' (Option.some.inj hF')
        omega
    · rw [if_neg z] at e
      obtain ⟨F1, v1, m1, a1, a2, a3, a4, ⟨t1, a5, a6⟩, a7⟩ := h.ok b y e
      refine ⟨F1, v1, m1, .inl a1, a2, a3, a4, ⟨t1, by rw [get_put, if_neg z]; exact a5, k _ _ a6⟩, fun F' v' m' hp hF' hb' => ?_⟩
      rcases hp with hp | ⟨rfl, rfl⟩
      · exact a7 F' v' m' hp hF' hb'
      · exact absurd hb'.symm z
  all := fun F' v' m' hp hF' => by
    rw [get_put]
    by_cases z : F ||| 2 ^ v = F' ||| 2 ^ v'
    · rw [if_pos z]
      exact fun y => by cases y
    · rw [if_neg z]
      rcases hp with hp | ⟨rfl, rfl⟩
      · exact h.all F' v' m' hp hF'
      · exact absurd rfl z
  old := fun b e => by
    rw [get_put] at e ⊢
    by_cases z : F ||| 2 ^ v = b
    · rw [if_pos z] at e
      cases e
    · rw [if_neg z] at e
      rw [if_neg z]
      exact h.old b e
/-- one that is no better -/
theorem FreshOk.worse (h : FreshOk H es cps ls fo0 PS fs fo) {F v m y : Nat} (hF : getG ls F = some (nV m)) (hb : getG fs (F ||| 2 ^ v) = some (nV y)) (le : m + smF es cps v F ≤ y) : FreshOk H es cps ls fo0 (fun F' v' => PS F' v' ∨ (F' = F ∧ v' = v)) fs fo where
  nd := h.nd
  ndo := h.ndo
  ok := fun b y' e => by
    obtain ⟨F1, v1, m1, a1, a2, a3, a4, a5, a7⟩ := h.ok b y' e
    refine ⟨F1, v1, m1, .inl a1, a2, a3, a4, a5, fun F' v' m' hp hF' hb' => ?_⟩
    rcases hp with hp | ⟨rfl, rfl⟩
    · exact a7 F' v' m' hp hF' hb'
    · rw [hF] at hF'
      have := nV_inj' (Option.some.inj hF')
      rw [hb', hb] at e
      have e := Option.some.inj e
      rw [a4] at e
      have := nV_inj' e
      omega
  all := fun F' v' m' hp hF' => by
    rcases hp with hp | ⟨rfl, rfl⟩
    · exact h.all F' v' m' hp hF'
    · rw [hb]
      exact fun y => by cases y
  old := h.old
theorem LayerOk.start : LayerOk es cps en om S 0 [(1, nV 0)] where
  nd := by simp
  ok := fun F y e => by
    have e' : (if 1 = F then some (nV 0) else none) = some y := e
    by_cases z : 1 = F
    · rw [if_pos z] at e'
      cases e'
      subst z
      exact ⟨0, [], rfl, .start, rfl⟩
    · rw [if_neg z] at e'
      cases e'
  all := fun F m o h hl => by
    cases h with
    | start => exact ⟨0, rfl, Nat.le_refl _⟩
    | step h nx =>
      rw [List.length_append, List.length_singleton] at hl
      omega
theorem FoundOk.start : FoundOk H es cps en om S 0 [] where
  nd := .nil
  ok := fun F y e => by cases e
  all := fun F m o h hne hl => absurd (List.length_eq_zero_iff.mp (Nat.le_zero.mp hl)) hne
theorem FoundOk.tups (h : FoundOk H es cps en om S j fo) (k : ∀ t xs, H t = some (.tup xs) → H' t = some (.tup xs)) : FoundOk H' es cps en om S j fo :=
  ⟨h.nd, fun F y e => by
    obtain ⟨t, m, v, F0, m0, o0, a1, a2, a3⟩ := h.ok F y e
    exact ⟨t, m, v, F0, m0, o0, a1, k _ _ a2, a3⟩, h.all⟩
/-- a layer is done -/
theorem LayerOk.next (l : LayerOk es cps en om S j ls) (hp : ∀ F v, PS F v ↔ (getG ls F ≠ none ∧ Nx es cps en om S F v)) (f : FreshOk H es cps ls fo0 PS fs fo) : LayerOk es cps en om S (j + 1) fs where
  nd := f.nd
  ok := fun b y e => by
    obtain ⟨F, v, m0, a1, a2, a3, a4, _⟩ := f.ok b y e
    obtain ⟨m, o, b1, b2, b3⟩ := l.ok F _ a2
    have := nV_inj' b1
    subst this
    subst a3
    exact ⟨m0 + smF es cps v F, o ++ [v], a4, .step b2 ((hp F v).mp a1).2, by rw [List.length_append, b3]; rfl⟩
  all := fun b m o h hl => by
    cases h with
    | start => cases hl
    | @step F m o v h nx =>
      rw [List.length_append, List.length_singleton] at hl
      obtain ⟨m', c1, c2⟩ := l.all F m o h (by omega)
      have hps := (hp F v).mpr ⟨by rw [c1]; exact fun z => (by cases z), nx⟩
      have nn := f.all F v m' hps c1
      cases e : getG fs (F ||| 2 ^ v) with
      | none => exact absurd e nn
      | some y =>
        obtain ⟨F1, v1, m1, _, _, _, a4, _, top⟩ := f.ok _ _ e
        have := top F v m' hps c1 rfl
        exact ⟨_, by rw [a4], by omega⟩
theorem FoundOk.next (g : FoundOk H es cps en om S j fo0) (l : LayerOk es cps en om S j ls) (hp : ∀ F v, PS F v ↔ (getG ls F ≠ none ∧ Nx es cps en om S F v)) (f : FreshOk H es cps ls fo0 PS fs fo) : FoundOk H es cps en om S (j + 1) fo where
  nd := f.ndo
  ok := fun b y e => by
    cases hb : getG fs b with
    | none =>
      rw [f.old b hb] at e
      exact g.ok b y e
    | some z =>
      obtain ⟨F, v, m0, a1, a2, a3, a4, ⟨t, a5, a6⟩, _⟩ := f.ok b z hb
      rw [a5] at e
      cases e
      obtain ⟨m, o, b1, b2, b3⟩ := l.ok F _ a2
      have := nV_inj' b1
      subst this
      have nx := ((hp F v).mp a1).2
      refine ⟨t, _, v, F, m0, o, rfl, a6, b2, nx, a3, rfl, fun m' o' h' => ?_⟩
      have hl : o'.length = j + 1 := by
        have := (a3 ▸ h' : Rh es cps en om S (F ||| 2 ^ v) m' o').len (.step b2 nx)
        rw [List.length_append, b3] at this
        exact this
      obtain ⟨m2, c1, c2⟩ := (l.next hp f).all b m' o' h' hl
      rw [hb] at c1
      have := nV_inj' (a4.symm.trans (Option.some.inj c1))
      omega
  all := fun F m o h hne hl => by
    cases hb : getG fs F with
    | none =>
      rw [f.old F hb]
      refine g.all F m o h hne ?_
      refine Nat.le_of_lt_succ (Nat.lt_of_le_of_ne hl fun z => ?_)
      obtain ⟨m2, c1, _⟩ := (l.next hp f).all F m o h z
      rw [hb] at c1
      cases c1
    | some z =>
      obtain ⟨_, _, _, _, _, _, _, ⟨t, a5, _⟩, _⟩ := f.ok F z hb
      rw [a5]
      exact fun y => by cases y
/-- when a layer is empty all is found -/
theorem FoundOk.done (g : FoundOk H es cps en om S j fo) (l : LayerOk es cps en om S j []) : ∀ F m o, Rh es cps en om S F m o → o ≠ [] → getG fo F ≠ none := fun F m o h hne => by
  refine g.all F m o h hne (Nat.le_of_not_lt fun z => ?_)
  obtain ⟨F', m', o', h', hl⟩ := h.pre j (by omega)
  obtain ⟨m2, c1, _⟩ := l.all F' m' o' h' hl
  cases c1
end

abbrev s__next_spots : Stmt := topS 22
abbrev sl__next_spots : List Str := ["core", "spots", "first", "spot"]
theorem sc__next_spots : FnScope ["core", "spots", "first", "spot"] ["core", "spots", "first"] (defScope s__next_spots) := ⟨rfl, rfl, rfl, by decide +kernel, rfl, by decide +kernel, by decide +kernel⟩
def spNext (K : PySem.W.Frag) (CC : Addr) : Sp := fun vs H Q _ => ∃ (x : Addr) (S F : Nat) (es : Es) (gs cps : List Nat) (en : Nat) (om im : Nat → Nat), vs = [.ref x, nV S, nV F] ∧ CoreAt K CC H x es gs cps en om im ∧ S < 2 ^ cps.length ∧ (∀ i, F.testBit i = true → S.testBit i = true) ∧
  ∀ (D : Addr) (l : List Nat) (H' : Hp), Same H H' → H D = none → H' D = some (.lst (l.map nV)) → l.Nodup → (∀ v, v ∈ l ↔ Nx es cps en om S F v) → Q (.ref D) H'
theorem ok__next_spots {CCore : Addr} (C_Core : ClsC K mg "Core" CCore ["spots", "size", "full", "ends", "outward", "inward", "sums"]) (h_bits : Has P w K mg base "bits" 1 ["kept"] spBits) (D0 : Df K mg "_next_spots" s__next_spots ["core", "spots", "first"]) : Has P w K mg base "_next_spots" 2 ["core", "spots", "first"] (spNext K CCore) := by
  refine D0.has fun f fd F => F.ok sc__next_spots (fun vs H Q E h => ?_) (fun cdv A outer s H vs Q E hr h => ?_)
  · obtain ⟨x, S, Fm, es, gs, cps, en, om, im, rfl, _⟩ := h
    rfl
  · obtain ⟨x, S, Fm, es, gs, cps, en, om, im, rfl, hc, hS, hsub, q⟩ := h
    refine ⟨_, (pss_one (ps_ret (pe_lc (own := [("spot", 3)]) (g := gName 3) rfl sc__next_spots.nd (k_pil (K := K) rfl (pcall h_bits hr (by decide) (by rfl) (pa_cons (pe_op op_subN (pv 1) (pv 2)) pa_nil))) (blkOk_by (N := sl__next_spots) (sc := defScope s__next_spots) (by decide +kernel)) (fun _ _ _ _ _ => (pg_name (i := 3) sc__next_spots.nd rfl (.inl rfl))) (fun _ _ _ _ _ => pts_one (PW.pt (pw_and (pt_cmpR op_gt (pe_ix (k_ixl (K := K) rfl) (pe_ix (k_ixl (K := K) rfl) (k_fld (K := K) rfl (pv 0) rfl) (pv 3) (fun _ _ => rfl)) (pv 2) (fun _ _ => rfl)) pe_int (nomark _)) (pw_and1 (PW.pt (pw_or (k_truC (K := K) rfl (pe_op op_andN (pe_op op_shrNN (k_fld (K := K) rfl (pv 0) rfl) (pv 3)) pe_int) (by intro _; rfl)) (pw_or1 (k_truC (K := K) rfl (pe_op op_andN (pe_ix (k_ixl (K := K) rfl) (k_fld (K := K) rfl (pv 0) rfl) (pv 3) (fun _ _ => rfl)) (pe_op op_subN (pv 1) (pv 2))) (by intro _; rfl))))))))) (fun _ _ _ _ _ => (pv 3))))), ?_⟩
    have hna : ∀ f, f ∈ (["spots", "size", "full", "ends", "outward", "inward", "sums"] : List Str) → NoAttr K CCore f := C_Core.na
    have nends := hna _ (List.mem_of_getElem? (i := 3) rfl)
    have noutw := hna _ (List.mem_of_getElem? (i := 4) rfl)
    have nsums := hna _ (List.mem_of_getElem? (i := 6) rfl)
    obtain ⟨hle, hsb⟩ := sub_bits hsub
    have few := hc.cor.few
    have h512 : 2 ^ cps.length ≤ 512 := Nat.le_trans (Nat.pow_le_pow_right (by decide) few) (by decide)
    have hFl : Fm < 2 ^ cps.length := Nat.lt_of_le_of_lt hle hS
    refine ⟨_, rfl, _, rfl, S, Fm, rfl, rfl, hle, S - Fm, rfl, Nat.lt_of_lt_of_le (show S - Fm < 512 by omega) (by decide), fun bl H1 s1 nbl hbl => ?_⟩
    refine ⟨bl, rfl, ⟨_, sql hbl⟩, fun D nD => ?_⟩
    have hbn := bitsL_len (m := S - Fm) (n := 9) (by omega)
    have dec : ∀ v, Decidable (Nx es cps en om S Fm v) := fun v => Classical.propDecidable _
    refine lc_val walk_list calm_at (fun i => ((bitsL (S - Fm))[i]?).bind fun v => if Nx es cps en om S Fm v then some (nV v) else none) (by rw [List.length_map]; omega) nD (fun H3 s3 => sql (s3 _ _ hbl)) ?_ fun H2 s2 hD => ?_
    · rintro i v H2 H3 hi s2 ⟨rfl, hv⟩ Kt kt
      obtain ⟨v, hvi, rfl⟩ := getmap hv
      have hbv := mem_bitsL.mp (List.mem_of_getElem? hvi)
      rw [hsb, Bool.and_eq_true, Bool.not_eq_true'] at hbv
      have hvl := bit_lt hS hbv.1
      have k0 := kt _ (Same.refl _)
      rw [hvi] at k0
      simp only [Option.bind_some] at k0
      obtain ⟨⟨dx, sl, ol, il, ul, us, hx, hsl, hol, hil, hul, hus, hsm⟩, cor⟩ := hc.same (s1.trans s2)
      obtain ⟨u, hu⟩ : ∃ u, us[v]? = some u := ⟨_, List.getElem?_eq_getElem (by omega)⟩
      refine ⟨rfl, ?_⟩
      refine ⟨_, rfl, x, CCore, dx, _, _, rfl, hx, C_Core.cl, nsums, co_sums, _, rfl, ul, _, (v : Int), .ref u, rfl, rfl, sql hul, atI_nat (by rw [List.getElem?_map, hu]; rfl), _, rfl, u, _, (Fm : Int), _, rfl, rfl, sql (hsm v u hu), atI_nat (fn_get hFl), _, _, rfl, rfl, _, rfl, ?_⟩
      by_cases c1 : 0 < smF es cps v Fm
      · rw [decide_eq_true (by omega)]
        refine iteT ?_
        refine ⟨_, rfl, x, CCore, dx, _, _, rfl, hx, C_Core.cl, nends, co_ends, _, rfl, en, v, rfl, rfl, _, 1, rfl, rfl, en.testBit v, (bit1 en v).2.symm, ?_⟩
        cases c2 : en.testBit v with
        | true =>
          rw [if_pos ⟨hbv.1, hbv.2, c1, .inl c2⟩] at k0
          refine iteT ?_
          refine iteT ?_
          exact ⟨_, rfl, k0⟩
        | false =>
          refine iteF ?_
          refine ⟨_, rfl, x, CCore, dx, _, _, rfl, hx, C_Core.cl, noutw, co_outward, _, rfl, ol, _, (v : Int), _, rfl, rfl, sql hol, atI_nat (fn_get hvl), _, rfl, _, rfl, S, Fm, rfl, rfl, hle, om v, S - Fm, rfl, rfl, _, rfl, ?_⟩
          by_cases c3 : ∃ i, (om v).testBit i = true ∧ (S - Fm).testBit i = true
          · rw [(and0 _ _).mpr c3]
            have c3' : ∃ i, (om v).testBit i = true ∧ S.testBit i = true ∧ Fm.testBit i = false := c3.imp fun i ⟨a, b⟩ => by
              rw [hsb, Bool.and_eq_true, Bool.not_eq_true'] at b
              exact ⟨a, b⟩
            rw [if_pos ⟨hbv.1, hbv.2, c1, .inr c3'⟩] at k0
            refine iteT ?_
            exact ⟨_, rfl, k0⟩
          · rw [Bool.eq_false_iff.mpr fun z => c3 ((and0 _ _).mp z)]
            rw [if_neg fun z => z.2.2.2.elim (fun y => by rw [c2] at y; cases y) fun ⟨i, a, b⟩ => c3 ⟨i, a, by rw [hsb, Bool.and_eq_true, Bool.not_eq_true']; exact b⟩] at k0
            exact iteF k0
      · rw [decide_eq_false (by omega)]
        rw [if_neg fun z => c1 z.2.2.1] at k0
        refine iteF ?_
        exact iteF k0
    · rw [List.length_map, fm_range] at hD
      refine q D ((bitsL (S - Fm)).filter fun v => decide (Nx es cps en om S Fm v)) H2 (s1.trans s2) (Same.free s1 nD) ?_ ((bitsL_nd _).filter _) fun v => ?_
      · rw [hD]
        congr 2
        induction bitsL (S - Fm) with
        | nil => rfl
        | cons y r ih =>
          rw [List.filterMap_cons, List.filter_cons, ih]
          by_cases z : Nx es cps en om S Fm y
          · rw [if_pos z, decide_eq_true z]
            rfl
          · rw [if_neg z, decide_eq_false z]
            rfl
      · rw [List.mem_filter, mem_bitsL, decide_eq_true_eq, hsb, Bool.and_eq_true, Bool.not_eq_true']
        exact ⟨fun z => z.2, fun z => ⟨⟨z.1, z.2.1⟩, z⟩⟩

abbrev s_orders : Stmt := topS 21
abbrev sl_orders : List Str := ["core", "spots", "found", "layer", "fresh", "first", "spot", "behind", "arrows"]
theorem sc_orders : FnScope ["core", "spots", "found", "layer", "fresh", "first", "spot", "behind", "arrows"] ["core", "spots"] (defScope s_orders) := ⟨rfl, rfl, rfl, by decide +kernel, rfl, by decide +kernel, by decide +kernel⟩
/-- what is told of all first parts of orders of S -/
structure OrdOk (H : Hp) (es : Es) (cps : List Nat) (en : Nat) (om : Nat → Nat) (S : Nat) (fo : List (Nat × V)) : Prop where
  nd : (fo.map (·.1)).Nodup
  ok : ∀ F y, getG fo F = some y → ∃ t m v F0 m0 o0, y = .ref t ∧ H t = some (.tup [nV m, nV v]) ∧ Rh es cps en om S F0 m0 o0 ∧ Nx es cps en om S F0 v ∧ F = F0 ||| 2 ^ v ∧ m = m0 + smF es cps v F0 ∧ ∀ m' o', Rh es cps en om S F m' o' → m' ≤ m
  all : ∀ F m o, Rh es cps en om S F m o → o ≠ [] → getG fo F ≠ none
def spOrders (K : PySem.W.Frag) (CC : Addr) : Sp := fun vs H Q _ => ∃ (x : Addr) (S : Nat) (es : Es) (gs cps : List Nat) (en : Nat) (om im : Nat → Nat), vs = [.ref x, nV S] ∧ CoreAt K CC H x es gs cps en om im ∧ S < 2 ^ cps.length ∧ S.testBit 0 = true ∧
  ∀ (D : Addr) (fo : List (Nat × V)) (H' : Hp), Same H H' → H D = none → H' D = some (.dK (kvG fo)) → OrdOk H' es cps en om S fo → Q (.ref D) H'
theorem few_G {fo : List (Nat × V)} {n : Nat} (nd : (fo.map (·.1)).Nodup) (h : ∀ F y, getG fo F = some y → F < n) : fo.length ≤ n := by
  have := nodup_le (n := n) nd fun z hz => by
    obtain ⟨⟨k, y⟩, hx, rfl⟩ := List.mem_map.mp hz
    exact h k y (get_of nd hx)
  rw [List.length_map] at this
  exact this
theorem ok_orders {CCore : Addr} (C_Core : ClsC K mg "Core" CCore ["spots", "size", "full", "ends", "outward", "inward", "sums"]) (h_next_spots : Has P w K mg base "_next_spots" 2 ["core", "spots", "first"] (spNext K CCore)) (D0 : Df K mg "orders" s_orders ["core", "spots"]) : Has P w K mg base "orders" 3 ["core", "spots"] (spOrders K CCore) := by
  refine D0.has fun f fd F => F.ok sc_orders (fun vs H Q E h => ?_) (fun cdv A outer s H vs Q E hr h => ?_)
  · obtain ⟨x, S, es, gs, cps, en, om, im, rfl, _⟩ := h
    rfl
  · obtain ⟨x, S, es, gs, cps, en, om, im, rfl, hc, hS, h0, q⟩ := h
    refine ⟨_, (pss_cons (ps_set (i := 2) sc_orders.nd rfl (.inl rfl) pe_dnewK)
  (pss_cons (ps_set (i := 3) sc_orders.nd rfl (.inl rfl) (pe_disp (pps_cons pe_int pe_int pps_nil) (by rfl) (by rfl) (fun z => by cases z) (by decide)))
  (pss_cons (ps_while PassesOwn.never (k_tru (K := K) rfl (pv 3) (by intro _; rfl))
    (pss_cons (ps_set (i := 4) sc_orders.nd rfl (.inl rfl) pe_dnewK)
  (pss_cons (ps_lock (ps_for PassesOwn.never rfl (pi_keys (pv 3)) (pg_name (i := 5) sc_orders.nd rfl (.inl rfl))
    (pss_one (ps_for PassesOwn.never rfl (k_pil (K := K) rfl (pcall h_next_spots hr (by decide) (by rfl) (pa_cons (pv 0) (pa_cons (pv 1) (pa_cons (pv 5) pa_nil))))) (pg_name (i := 6) sc_orders.nd rfl (.inl rfl))
    (pss_cons (ps_set (i := 7) sc_orders.nd rfl (.inl rfl) (pe_op op_orN (pv 5) (pe_op op_oneN pe_int (pv 6))))
  (pss_cons (ps_set (i := 8) sc_orders.nd rfl (.inl rfl) (pe_op op_addN (pe_dget (hu_of hr) (pv 3) (pv 5) (fun _ _ => rfl)) (pe_ix (k_ixl (K := K) rfl) (pe_ix (k_ixl (K := K) rfl) (k_fld (K := K) rfl (pv 0) rfl) (pv 6) (fun _ _ => rfl)) (pv 5) (fun _ _ => rfl))))
  (pss_one (ps_if (pt_cmpR op_gt (pv 8) (pe_dget2 (hu_of hr) (pv 4) (pv 7) (pe_un un_neg pe_int) ⟨rfl, by rfl, rfl, rfl⟩) (nomark _))
    (pss_cons (ps_dput (hu_of hr) (pv 4) (pv 7) (pv 8) rfl)
  (pss_one (ps_dput (hu_of hr) (pv 2) (pv 7) (pe_tup (pa_cons (pv 8) (pa_cons (pv 6) pa_nil))) rfl)))
    pss_nil))))))))
  (pss_one (ps_set (i := 3) sc_orders.nd rfl (.inl rfl) (pv 4))))))
  (pss_one (ps_ret (pv 2)))))), ?_⟩
    have nsums : NoAttr K CCore "sums" := C_Core.na _ (List.mem_of_getElem? (i := 6) rfl)
    have s9 := hc.cor.few
    have s0 : 0 < cps.length := (List.getElem?_eq_some_iff.mp hc.cor.zero).1
    have h512 : 2 ^ cps.length ≤ 512 := Nat.le_trans (Nat.pow_le_pow_right (by decide) s9) (by decide)
    intro fa nfa ly nly
    refine ⟨upd_same, [(Sum.inl (1 : Int), .int 0)], rfl, by show 1 ≤ 15; decide, ?_⟩
    rw [upd_upd]
    have hH1 : upd (upd H fa (.dK [])) ly (.dK (mergeK [] [(Sum.inl (1 : Int), V.int 0)])) = upd (upd H fa (.dK [])) ly (.dK (kvG [(1, nV 0)])) := rfl
    rw [hH1]
    have faly : fa ≠ ly := fun z => by
      rw [← z, upd_same] at nly
      cases nly
    have nly0 : H ly = none := Same.free (same_new (Same.refl H) nfa) nly
    have sm1 : Same H (upd (upd H fa (.dK [])) ly (.dK (kvG [(1, nV 0)]))) := same_new (same_new (Same.refl H) nfa) nly
    -- layer by layer
    refine ⟨fun m σ H' => ∃ (j : Nat) (lb : Addr) (ls fo : List (Nat × V)) (x4 x5 x6 x7 x8 : Option V), σ = [some (.ref x), some (nV S), some (.ref fa), some (.ref lb), x4, x5, x6, x7, x8] ∧ Same H H' ∧ H lb = none ∧ lb ≠ fa ∧ H' fa = some (.dK (kvG fo)) ∧ H' lb = some (.dK (kvG ls)) ∧ LayerOk es cps en om S j ls ∧ FoundOk H' es cps en om S j fo ∧ m = cps.length + 1 - j,
      ⟨_, 0, ly, _, [], none, none, none, none, none, rfl, sm1, nly0, faly.symm, by rw [upd_ne faly, upd_same]; rfl, upd_same, .start, .start, rfl⟩, ?_⟩
    rintro m σ H2 ⟨j, lb, ls, fo, x4, x5, x6, x7, x8, rfl, sm2, nlb, lbfa, hfa, hlb, L, G, rfl⟩
    refine ⟨_, rfl, _, .inr (.inr ⟨_, hlb, rfl⟩), ?_⟩
    cases ls with
    | nil =>
      refine iteF ?_
      exact ⟨_, rfl, q fa fo H2 sm2 nfa hfa ⟨G.nd, G.ok, G.done L⟩⟩
    | cons l0 lr =>
      obtain ⟨ls, hls⟩ : ∃ ls, ls = l0 :: lr := ⟨_, rfl⟩
      have jlt : j < cps.length + 1 := by
        obtain ⟨F, y⟩ := l0
        obtain ⟨m, o, _, h1, h2⟩ := L.ok F y (by show (if F = F then some y else _) = _; rw [if_pos rfl])
        rcases h1.few hS with z | z
        · omega
        · rw [z] at h2
          have : j = 0 := h2.symm
          omega
      refine iteT ⟨_, fun σ' H' z => z, ?_⟩
      rw [← hls] at L hlb
      clear hls
      intro fr nfr
      have sfr := same_new (o := .dK []) (Same.refl H2) nfr
      have frlb : lb ≠ fr := ne_of_none hlb nfr
      have frfa : fa ≠ fr := ne_of_none hfa nfr
      have hlb3 := sfr _ _ hlb
      refine ⟨lb, _, hlb3, trivial, fun od => ⟨_, rfl, lb, od, rfl, .inl ⟨kvG ls, upd_same, ?_⟩⟩⟩
      have nfrH : H fr = none := Same.free sm2 nfr
      refine for_it walk_keys (fun i σ A => ∃ (x5 x6 x7 x8 : Option V) (fs fo1 : List (Nat × V)), σ = [some (.ref x), some (nV S), some (.ref fa), some (.ref lb), some (.ref fr), x5, x6, x7, x8] ∧ A lb = some (.frz od (.dK (kvG ls))) ∧ A fr = some (.dK (kvG fs)) ∧ A fa = some (.dK (kvG fo1)) ∧ Same H A ∧ (∀ t xs, H2 t = some (.tup xs) → A t = some (.tup xs)) ∧
          FreshOk A es cps ls fo (fun F v => F ∈ (ls.take i).map (·.1) ∧ Nx es cps en om S F v) fs fo1)
        ⟨x5, x6, x7, x8, [], fo, rfl, upd_same, by rw [upd_ne frlb.symm, upd_same]; rfl, by rw [upd_ne lbfa.symm, upd_ne frfa]; exact hfa, ?_, ?_, ?_⟩ (fun i σ A _ ⟨_, _, _, _, _, _, _, z, _⟩ => z) ?_ ?_
      · exact fun b o e => by
          rw [upd_ne (ne_of_none e nlb), upd_ne (ne_of_none e nfrH)]
          exact sm2 b o e
      · exact fun t xs e => by
          rw [upd_ne (ne_of e hlb (by intro z; cases z)), upd_ne (ne_of_none e nfr)]
          exact e
      · exact .start G.nd fun F v z => by simp at z
      · rintro i v σ A' A hi ⟨x5, x6, x7, x8, fs, fo1, rfl, hlbA, hfrA, hfaA, smA, tpA, FO⟩ ⟨rfl, k, y, hk, rfl⟩
        unfold kvG at hk
        rw [List.getElem?_map] at hk
        obtain ⟨⟨F, y'⟩, hF, e⟩ := Option.map_eq_some_iff.mp hk
        cases e
        have hFm := List.mem_of_getElem? hF
        have hgF := get_of L.nd hFm
        obtain ⟨m0, o0, rfl, hR, hol⟩ := L.ok F y' hgF
        have hFS := hR.sub h0
        have hFle := (sub_bits hFS).1
        have hFl : F < 2 ^ cps.length := Nat.lt_of_le_of_lt hFle hS
        refine ⟨_, rfl, _, rfl, _, rfl, x, S, F, es, gs, cps, en, om, im, rfl, hc.same smA, hS, hFS, fun nl l B s3 nnl hnl lnd lmem => ?_⟩
        refine ⟨nl, rfl, ⟨_, sql hnl⟩, ?_⟩
        have nlne : ∀ {b : Addr} {o : HO}, A b = some o → b ≠ nl := fun e => ne_of_none e nnl
        refine for_list (xs := l.map nV) (fun jj σ B => ∃ (x6 x7 x8 : Option V) (fs fo1 : List (Nat × V)), σ = [some (.ref x), some (nV S), some (.ref fa), some (.ref lb), some (.ref fr), some (nV F), x6, x7, x8] ∧ B nl = some (.lst (l.map nV)) ∧ B lb = some (.frz od (.dK (kvG ls))) ∧ B fr = some (.dK (kvG fs)) ∧ B fa = some (.dK (kvG fo1)) ∧ Same H B ∧ (∀ t xs, H2 t = some (.tup xs) → B t = some (.tup xs)) ∧
            FreshOk B es cps ls fo (fun F' v' => (F' ∈ (ls.take i).map (·.1) ∧ Nx es cps en om S F' v') ∨ (F' = F ∧ v' ∈ l.take jj)) fs fo1)
          ⟨x6, x7, x8, fs, fo1, rfl, hnl, s3 _ _ hlbA, s3 _ _ hfrA, s3 _ _ hfaA, smA.trans s3, fun t xs e => s3 _ _ (tpA t xs e), (FO.tups fun t xs e => s3 _ _ e).iff fun F' v' => ?_⟩ (fun jj σ B _ ⟨_, _, _, _, _, _, z, _⟩ => sql z) ?_ ?_
        · simp
        · rintro jj w σ B hw ⟨x6, x7, x8, fs, fo1, rfl, hnlB, hlbB, hfrB, hfaB, smB, tpB, FB⟩
          obtain ⟨v, hv, rfl⟩ := getmap hw
          have hvm := List.mem_of_getElem? hv
          have nx := (lmem v).mp hvm
          have hvl := bit_lt hS nx.1
          obtain ⟨⟨dx, sl, ol, il, ul, us, hx, hsl, ho, hil, hul, hus, hsm⟩, cor⟩ := hc.same smB
          obtain ⟨u, hu⟩ : ∃ u, us[v]? = some u := ⟨_, List.getElem?_eq_getElem (by omega)⟩
          have dF : DGet B lb (nV F) (some (nV m0)) := by
            rw [← hgF]
            exact dget_F hlbB
          have psnx : ∀ F' v', ((F' ∈ (ls.take i).map (·.1) ∧ Nx es cps en om S F' v') ∨ (F' = F ∧ v' ∈ l.take jj)) ∨ (F' = F ∧ v' = v) ↔ (F' ∈ (ls.take i).map (·.1) ∧ Nx es cps en om S F' v') ∨ (F' = F ∧ v' ∈ l.take (jj + 1)) := fun F' v' => by
            rw [List.take_add_one, hv, List.mem_append, or_assoc]
            refine or_congr Iff.rfl ?_
            rw [← and_or_left]
            refine and_congr Iff.rfl (or_congr Iff.rfl ?_)
            exact ⟨fun e => by rw [e]; exact List.mem_cons_self, fun e => List.mem_singleton.mp e⟩
          refine ⟨_, rfl, _, rfl, v, rfl, rfl, by omega, F, 2 ^ v, rfl, rfl, ?_⟩
          refine ⟨_, rfl, _, rfl, lb, _, rfl, dF, _, rfl, x, CCore, dx, _, _, rfl, hx, C_Core.cl, nsums, co_sums, _, rfl, ul, _, (v : Int), .ref u, rfl, rfl, sql hul, atI_nat (by rw [List.getElem?_map, hu]; rfl), _, rfl, u, _, (F : Int), _, rfl, rfl, sql (hsm v u hu), atI_nat (fn_get hFl), m0, smF es cps v F, rfl, rfl, ?_⟩
          refine ⟨_, rfl, _, rfl, fr, rfl, .inl ⟨_, .inl hfrB⟩, _, rfl, 1, rfl, getG fs (F ||| 2 ^ v), dget_G hfrB, ?_⟩
          obtain ⟨z, hz, hcmp⟩ : ∃ z : Int, (getG fs (F ||| 2 ^ v)).getD (V.int (-1)) = V.int z ∧ ((∀ y, getG fs (F ||| 2 ^ v) = some (nV y) → y < m0 + smF es cps v F) ↔ ((m0 + smF es cps v F : Nat) : Int) > z) := by
            cases e : getG fs (F ||| 2 ^ v) with
            | none => exact ⟨-1, rfl, ⟨fun _ => by omega, fun _ y z => (by cases z)⟩⟩
            | some y =>
              obtain ⟨F1, v1, m1, _, _, _, rfl, _⟩ := FB.ok _ y e
              refine ⟨((m1 + smF es cps v1 F1 : Nat) : Int), rfl, ⟨fun h => ?_, fun h y e2 => ?_⟩⟩
              · have := h _ rfl
                omega
              · have := nV_inj' (Option.some.inj e2)
                omega
          refine ⟨_, z, rfl, hz, _, rfl, ?_⟩
          by_cases hb : ∀ y, getG fs (F ||| 2 ^ v) = some (nV y) → y < m0 + smF es cps v F
          · rw [decide_eq_true (hcmp.mp hb)]
            refine iteT ?_
            have small : ∀ b, (∃ F1 v1 m1, ((F1 ∈ (ls.take i).map (·.1) ∧ Nx es cps en om S F1 v1) ∨ (F1 = F ∧ v1 ∈ l.take jj)) ∧ getG ls F1 = some (nV m1) ∧ b = F1 ||| 2 ^ v1) → b < 512 := fun b ⟨F1, v1, m1, a1, a2, a3⟩ => by
              obtain ⟨_, o1, _, r1, _⟩ := L.ok F1 _ a2
              have nx1 : Nx es cps en om S F1 v1 := a1.elim (fun z => z.2) fun z => z.1 ▸ (lmem v1).mp (List.mem_of_mem_take z.2)
              have := (sub_bits ((Rh.step r1 nx1).sub h0)).1
              omega
            have hfsl : fs.length ≤ 512 := few_G FB.nd fun b y e => by
              obtain ⟨F1, v1, m1, a1, a2, a3, _⟩ := FB.ok b y e
              exact small b ⟨F1, v1, m1, a1, a2, a3⟩
            have hfol : fo1.length ≤ 512 := few_G FB.ndo fun b y e => by
              cases e2 : getG fs b with
              | some z =>
                obtain ⟨F1, v1, m1, a1, a2, a3, _⟩ := FB.ok b z e2
                exact small b ⟨F1, v1, m1, a1, a2, a3⟩
              | none =>
                rw [FB.old b e2] at e
                obtain ⟨t, m, v1, F0, m1, o1, _, _, r1, nx1, a3, _⟩ := G.ok b y e
                have := (sub_bits ((Rh.step r1 nx1).sub h0)).1
                omega
            refine ⟨_, rfl, _, rfl, _, rfl, fr, _, rfl, dput_G hfrB FB.nd (small_lt (by omega)), ?_⟩
            have fafr := frfa
            have c1 : ∀ b o, b ≠ fr → B b = some o → upd B fr (.dK (kvG (putG fs (F ||| 2 ^ v) (nV (m0 + smF es cps v F))))) b = some o := fun b o nb e => by
              rw [upd_ne nb]
              exact e
            have c2 : upd B fr (.dK (kvG (putG fs (F ||| 2 ^ v) (nV (m0 + smF es cps v F))))) fr = some (.dK (kvG (putG fs (F ||| 2 ^ v) (nV (m0 + smF es cps v F))))) := upd_same
            generalize upd B fr (.dK (kvG (putG fs (F ||| 2 ^ v) (nV (m0 + smF es cps v F))))) = B1 at c1 c2 ⊢
            refine ⟨_, rfl, _, rfl, by show 2 ≤ sizeLine; decide, fun t nt => ?_⟩
            have st := same_new (o := .tup [nV (m0 + smF es cps v F), nV v]) (Same.refl B1) nt
            have ht : upd B1 t (.tup [nV (m0 + smF es cps v F), nV v]) t = some (.tup [nV (m0 + smF es cps v F), nV v]) := upd_same
            generalize upd B1 t (.tup [nV (m0 + smF es cps v F), nV v]) = B2 at st ht ⊢
            have hfa2 := st _ _ (c1 _ _ fafr hfaB)
            refine ⟨_, rfl, _, rfl, fa, _, rfl, dput_G hfa2 FB.ndo (small_lt (by omega)), ?_⟩
            have keep : ∀ b o, b ≠ fr → b ≠ fa → B b = some o → upd B2 fa (.dK (kvG (putG fo1 (F ||| 2 ^ v) (.ref t)))) b = some o := fun b o n1 n2 e => by
              rw [upd_ne n2]
              exact st _ _ (c1 b o n1 e)
            have tk : ∀ t' xs, B t' = some (.tup xs) → upd B2 fa (.dK (kvG (putG fo1 (F ||| 2 ^ v) (.ref t)))) t' = some (.tup xs) := fun t' xs e => keep t' _ (ne_of e hfrB (by intro z; cases z)) (ne_of e hfaB (by intro z; cases z)) e
            have tfa : t ≠ fa := ne_of ht hfa2 (by intro z; cases z)
            refine ⟨_, _, _, _, _, rfl, keep _ _ (ne_of hnlB hfrB (by intro z; cases z)) (ne_of hnlB hfaB (by intro z; cases z)) hnlB, keep _ _ frlb lbfa hlbB, ?_, upd_same, fun b o e => keep b o (ne_of_none e nfrH) (ne_of_none e nfa) (smB b o e), fun t' xs e => tk t' xs (tpB t' xs e), (FB.better hgF hb tk (by rw [upd_ne tfa]; exact ht)).iff psnx⟩
            rw [upd_ne fafr.symm]
            exact st _ _ c2
          · rw [decide_eq_false fun z => hb (hcmp.mpr z)]
            refine iteF ?_
            obtain ⟨y, hy, le⟩ : ∃ y, getG fs (F ||| 2 ^ v) = some (nV y) ∧ m0 + smF es cps v F ≤ y := by
              refine Classical.byContradiction fun no => hb fun y e => Nat.lt_of_not_le fun le => no ⟨y, e, le⟩
            exact ⟨_, _, _, fs, fo1, rfl, hnlB, hlbB, hfrB, hfaB, smB, tpB, (FB.worse hgF hy le).iff psnx⟩
        · rintro σ B ⟨x6, x7, x8, fs, fo1, rfl, hnlB, hlbB, hfrB, hfaB, smB, tpB, FB⟩
          refine ⟨_, _, _, _, fs, fo1, rfl, hlbB, hfrB, hfaB, smB, tpB, FB.iff fun F' v' => ?_⟩
          rw [List.length_map, List.take_length, List.take_add_one, hF, List.map_append, List.mem_append, or_and_right]
          refine or_congr Iff.rfl ?_
          constructor
          · rintro ⟨rfl, hv'⟩
            exact ⟨List.mem_cons_self, (lmem v').mp hv'⟩
          · rintro ⟨h1, h2⟩
            have e : F' = F := List.mem_singleton.mp h1
            subst e
            exact ⟨rfl, (lmem v').mpr h2⟩
      · rintro σ A ⟨x5, x6, x7, x8, fs, fo1, rfl, hlbA, hfrA, hfaA, smA, tpA, FO⟩
        rw [kvG_len, List.take_length] at FO
        have hp : ∀ F v, (F ∈ ls.map (·.1) ∧ Nx es cps en om S F v) ↔ (getG ls F ≠ none ∧ Nx es cps en om S F v) := fun F v => and_congr_left fun _ => by
          rw [Ne, get_none, Classical.not_not]
        refine ⟨hlbA, ?_⟩
        have kp : ∀ b o, b ≠ lb → A b = some o → upd A lb (.dK (kvG ls)) b = some o := fun b o nb e => by
          rw [upd_ne nb]
          exact e
        have tk : ∀ t xs, A t = some (.tup xs) → upd A lb (.dK (kvG ls)) t = some (.tup xs) := fun t xs e => kp t _ (ne_of e hlbA (by intro z; cases z)) e
        refine ⟨_, rfl, _, ?_, j + 1, fr, fs, fo1, _, _, _, _, _, rfl, fun b o e => kp b o (ne_of_none e nlb) (smA b o e), nfrH, frfa.symm, kp _ _ lbfa.symm hfaA, kp _ _ frlb.symm hfrA, L.next hp (FO.tups tk), (G.tups fun t xs e => tk t xs (tpA t xs e)).next L hp (FO.tups tk), rfl⟩
        omega

/-! orders of spots are orders of places -/
def Nxp (es : Es) (gs T R : List Nat) (v : Nat) : Prop := v ∈ T ∧ v ∉ R ∧ 0 < inn es [] R v ∧ (v ∈ gs ∨ ∃ w ∈ T, w ∉ R ∧ Arr es [] v w)
inductive Ch (es : Es) (gs T : List Nat) : List Nat → List Nat → Nat → Prop
  | nil {R : List Nat} : Ch es gs T R [] 0
  | cons {R : List Nat} {v : Nat} {b : List Nat} {m : Nat} : Nxp es gs T R v → Ch es gs T (v :: R) b m → Ch es gs T R (v :: b) (m + inn es [] R v)
section
variable {es : Es} {gs T R : List Nat}
theorem Ch.po {b : List Nat} {m : Nat} (h : Ch es gs T R b m) (no : ∀ u, ¬ Arr es [] u u) (hT : ∀ w ∈ T, w ∈ R ∨ w ∈ b) (hg : ∀ g ∈ gs, g ∈ R ∨ g ∈ b) : ∃ m', m' + b.length = m ∧ PO es gs [] R b m' := by
  induction h with
  | nil => exact ⟨0, rfl, .nil fun g z => (hg g z).elim id fun y => (List.not_mem_nil y).elim⟩
  | @cons R v b m nx h ih =>
    have mv : ∀ {w : Nat}, w ∈ R ∨ w ∈ v :: b → w ∈ v :: R ∨ w ∈ b := fun {w} z => by
      rcases z with z | z
      · exact .inl (List.mem_cons_of_mem _ z)
      · rcases List.mem_cons.mp z with z | z
        · exact .inl (z ▸ List.mem_cons_self)
        · exact .inr z
    obtain ⟨m', e, p⟩ := ih (fun w z => mv (hT w z)) fun g z => mv (hg g z)
    obtain ⟨n1, n2, n3, n4⟩ := nx
    refine ⟨m' + inn es [] R v - 1, by rw [List.length_cons]; omega, .cons n2 n3 (n4.imp id fun ⟨w, w1, w2, w3⟩ => ⟨w, ?_, w3⟩) p (by omega)⟩
    rcases hT w w1 with z | z
    · exact absurd z w2
    · rcases List.mem_cons.mp z with z | z
      · rw [z] at w3
        exact (no v w3).elim
      · exact z
theorem PO.ch {b : List Nat} {m : Nat} (h : PO es gs [] R b m) (hT : ∀ w ∈ b, w ∈ T) : Ch es gs T R b (m + b.length) := by
  induction h with
  | nil => exact .nil
  | @cons R v o m m' h1 h2 h3 h4 h5 ih =>
    have e : m' + (v :: o).length = (m + o.length) + inn es [] R v := by
      rw [List.length_cons]
      omega
    rw [e]
    refine .cons ⟨hT v List.mem_cons_self, h1, h2, h3.imp id fun ⟨w, w1, w2⟩ => ⟨w, hT w (List.mem_cons_of_mem _ w1), fun z => ?_, w2⟩⟩ (ih fun w hw => hT w (List.mem_cons_of_mem _ hw))
    exact h4.out w w1 (List.mem_cons_of_mem _ z)
theorem Ch.snoc {b : List Nat} {m v : Nat} (h : Ch es gs T R b m) (nx : Nxp es gs T (b.reverse ++ R) v) : Ch es gs T R (b ++ [v]) (m + inn es [] (b.reverse ++ R) v) := by
  induction h with
  | nil => exact .cons nx .nil
  | @cons R u b m n0 h ih =>
    have e : (u :: b).reverse ++ R = b.reverse ++ (u :: R) := by
      rw [List.reverse_cons, List.append_assoc]
      rfl
    rw [e] at nx ⊢
    have := Ch.cons n0 (ih nx)
    rw [show m + inn es [] R u + inn es [] (b.reverse ++ u :: R) v = m + inn es [] (b.reverse ++ u :: R) v + inn es [] R u by omega]
    exact this
end
section
variable {es : Es} {gs cps : List Nat} {en : Nat} {om im : Nat → Nat} {S : Nat}
theorem inn_set {R R' : List Nat} {v : Nat} (h : ∀ u, u ∈ R ↔ u ∈ R') : inn es [] R v = inn es [] R' v := inn_congr (fun u _ => h u) fun _ _ _ => Iff.rfl
/-- one step, in spots and in places -/
theorem nx_nxp (c : Cor es gs cps en om im) (hS : S < 2 ^ cps.length) {F v : Nat} {R : List Nat} (hR : ∀ u, u ∈ R ↔ u ∈ plF cps F) : (Nx es cps en om S F v → Nxp es gs (plF cps S) R (cps.getD v 0) ∧ cps[v]? = some (cps.getD v 0) ∧ inn es [] R (cps.getD v 0) = smF es cps v F) ∧
    ∀ p, Nxp es gs (plF cps S) R p → cps[v]? = some p → Nx es cps en om S F v := by
  constructor
  · intro nx
    have hv := bit_lt hS nx.1
    have ev : cps[v]? = some (cps.getD v 0) := by rw [getD_some (List.getElem?_eq_getElem hv)]; exact List.getElem?_eq_getElem hv
    have ei : inn es [] R (cps.getD v 0) = smF es cps v F := inn_set hR
    refine ⟨⟨mem_plF.mpr ⟨v, nx.1, ev⟩, fun z => ?_, ei ▸ nx.2.2.1, ?_⟩, ev, ei⟩
    · obtain ⟨i, h1, h2⟩ := mem_plF.mp ((hR _).mp z)
      have := nd_ix c.nd h2 ev
      rw [this, nx.2.1] at h1
      cases h1
    · rcases nx.2.2.2 with z | ⟨i, h1, h2, h3⟩
      · obtain ⟨g, hg, e⟩ := (c.en v).mp z
        rw [ev] at e
        have e := Option.some.inj e
        exact .inl (e ▸ hg)
      · obtain ⟨w, hw, a⟩ := (c.om v _ ev i).mp h1
        refine .inr ⟨w, mem_plF.mpr ⟨i, h2, hw⟩, fun z => ?_, a⟩
        obtain ⟨j, j1, j2⟩ := mem_plF.mp ((hR _).mp z)
        have := nd_ix c.nd j2 hw
        rw [this, h3] at j1
        cases j1
  · rintro p ⟨n1, n2, n3, n4⟩ ev
    obtain ⟨i, i1, i2⟩ := mem_plF.mp n1
    have := nd_ix c.nd i2 ev
    subst this
    refine ⟨i1, Bool.eq_false_iff.mpr fun z => n2 ((hR p).mpr (mem_plF.mpr ⟨i, z, ev⟩)), ?_, ?_⟩
    · show 0 < inn es [] (plF cps F) (cps.getD i 0)
      rw [getD_some ev, ← inn_set hR]
      exact n3
    · rcases n4 with z | ⟨w, w1, w2, a⟩
      · exact .inl ((c.en i).mpr ⟨p, z, ev⟩)
      · obtain ⟨j, j1, j2⟩ := mem_plF.mp w1
        refine .inr ⟨j, (c.om i p ev j).mpr ⟨w, j2, a⟩, j1, Bool.eq_false_iff.mpr fun z => w2 ((hR w).mpr (mem_plF.mpr ⟨j, z, j2⟩))⟩
theorem plF_or {F v p : Nat} (hv : cps[v]? = some p) {u : Nat} : u ∈ plF cps (F ||| 2 ^ v) ↔ u = p ∨ u ∈ plF cps F := by
  rw [mem_plF, mem_plF]
  constructor
  · rintro ⟨i, h1, h2⟩
    rcases or_pow.mp h1 with h1 | h1
    · exact .inr ⟨i, h1, h2⟩
    · subst h1
      rw [hv] at h2
      exact .inl (Option.some.inj h2).symm
  · rintro (rfl | ⟨i, h1, h2⟩)
    · exact ⟨v, or_pow.mpr (.inr rfl), hv⟩
    · exact ⟨i, or_pow.mpr (.inl h1), h2⟩
theorem plF_one (c : Cor es gs cps en om im) {u : Nat} : u ∈ plF cps 1 ↔ u = 0 := by
  rw [mem_plF]
  constructor
  · rintro ⟨i, h1, h2⟩
    rw [bits1.mp h1, c.zero] at h2
    exact (Option.some.inj h2).symm
  · rintro rfl
    exact ⟨0, bits1.mpr rfl, c.zero⟩
/-- the places of an order -/
abbrev plO (cps o : List Nat) : List Nat := o.map fun i => cps.getD i 0
theorem Rh.ch (c : Cor es gs cps en om im) (hS : S < 2 ^ cps.length) {F m : Nat} {o : List Nat} (h : Rh es cps en om S F m o) : Ch es gs (plF cps S) [0] (plO cps o) m ∧ ∀ u, u ∈ (plO cps o).reverse ++ [0] ↔ u ∈ plF cps F := by
  induction h with
  | start => exact ⟨.nil, fun u => by rw [plF_one c]; simp⟩
  | @step F m o v h nx ih =>
    obtain ⟨i1, i2⟩ := ih
    obtain ⟨n1, n2, n3⟩ := (nx_nxp c hS (R := (plO cps o).reverse ++ [0]) i2).1 nx
    have e : plO cps (o ++ [v]) = plO cps o ++ [cps.getD v 0] := by
      unfold plO
      rw [List.map_append]
      rfl
    rw [e, ← n3]
    refine ⟨i1.snoc n1, fun u => ?_⟩
    rw [plF_or n2, ← i2 u, List.reverse_append]
    simp
theorem Ch.rh (c : Cor es gs cps en om im) (hS : S < 2 ^ cps.length) {R b : List Nat} {m2 : Nat} (h : Ch es gs (plF cps S) R b m2) : ∀ {F m : Nat} {o : List Nat}, Rh es cps en om S F m o → (∀ u, u ∈ R ↔ u ∈ plF cps F) → ∃ F' o', Rh es cps en om S F' (m + m2) (o ++ o') ∧ plO cps o' = b := by
  induction h with
  | nil => exact fun {F m o} r _ => ⟨F, [], by rw [List.append_nil]; exact r, rfl⟩
  | @cons R p b m2 nx h ih =>
    intro F m o r hR
    obtain ⟨v, v1, v2⟩ := mem_plF.mp nx.1
    have n := (nx_nxp c hS hR).2 p nx v2
    have ei := ((nx_nxp c hS hR).1 n).2.2
    rw [getD_some v2] at ei
    obtain ⟨F', o', r', e⟩ := ih (r.step n) fun u => by rw [plF_or v2, List.mem_cons, hR u]
    refine ⟨F', v :: o', ?_, ?_⟩
    · rw [List.append_assoc, ← ei] at r'
      rw [show m + (m2 + inn es [] R p) = m + inn es [] R p + m2 by omega]
      exact r'
    · rw [← e]
      show cps.getD v 0 :: _ = _
      rw [getD_some v2]
theorem Rh.cnt {F m : Nat} {o : List Nat} (h : Rh es cps en om S F m o) : (bitsL F).length = o.length + 1 := by
  obtain ⟨a, b, _⟩ := h.bits
  have p : (bitsL F).Perm (0 :: o) := (List.perm_ext_iff_of_nodup (bitsL_nd F) b).mpr fun i => by rw [mem_bitsL, a i, List.mem_cons]
  exact p.length_eq
theorem Rh.ge {F m : Nat} {o : List Nat} (h : Rh es cps en om S F m o) : o.length ≤ m := by
  induction h with
  | start => exact Nat.le_refl _
  | step h nx ih =>
    rw [List.length_append, List.length_singleton]
    have := nx.2.2.1
    omega
/-- S: the start, all goals, and some more -/
structure Vld (cps : List Nat) (en S : Nat) : Prop where
  lt : S < 2 ^ cps.length
  b0 : S.testBit 0 = true
  en : ∀ i, en.testBit i = true → S.testBit i = true
/-- a whole order of S is a part, and each part is one -/
theorem Rh.part (c : Cor es gs cps en om im) (hS : Vld cps en S) {m : Nat} {o : List Nat} (h : Rh es cps en om S S m o) : PO es gs [] [0] (plO cps o) (m - o.length) := by
  obtain ⟨h1, h2⟩ := h.ch c hS.lt
  have mem : ∀ {w : Nat}, w ∈ plF cps S → w ∈ [0] ∨ w ∈ plO cps o := fun {w} hw => by
    rcases List.mem_append.mp ((h2 w).mpr hw) with z | z
    · exact .inr (List.mem_reverse.mp z)
    · exact .inl z
  obtain ⟨m', e, p⟩ := h1.po c.no (fun w hw => mem hw) fun g hg => by
    obtain ⟨i, hi, e⟩ := List.getElem?_of_mem (c.gin g hg) |>.elim fun i e => (⟨i, (c.en i).mpr ⟨g, hg, e⟩, e⟩ : ∃ i, en.testBit i = true ∧ cps[i]? = some g)
    exact mem (mem_plF.mpr ⟨i, hS.en i hi, e⟩)
  rw [List.length_map] at e
  have : m - o.length = m' := by omega
  rw [this]
  exact p
theorem PO.cnt {n : Nat} (ok : ∀ e ∈ es, e.1 < n ∧ e.2 < n) (hC : Cps n es gs cps) (gl : ∀ g ∈ gs, g < n) {R o : List Nat} {m : Nat} (h : PO es gs [] R o m) (hR : ∀ u ∈ R, Rch es [0] u) : ∀ v ∈ o, v ∈ cps := by
  have home : ∀ {R o m}, PO es gs [] R o m → ∀ v ∈ o, Rch (turnE es) gs v := by
    intro R o m h
    induction h with
    | nil => exact fun v hv => (List.not_mem_nil hv).elim
    | @cons R x o m m' h1 h2 h3 h4 h5 ih =>
      intro v hv
      rcases List.mem_cons.mp hv with rfl | hv
      · rcases h3 with z | ⟨w, hw, k, _, hk⟩
        · exact .base z
        · exact (ih w hw).edge (mem_turnE.mpr (List.mem_of_getElem? hk))
      · exact ih v hv
  have there : ∀ v ∈ o, Rch es [0] v := fun v hv => by
    have := h.rch (S := [0]) (T := []) (fun x hx => (hR x hx).mono (fun e he => by
      obtain ⟨k, hk⟩ := List.getElem?_of_mem he
      exact mem_leftV.mpr ⟨k, hk, List.not_mem_nil⟩) fun _ h => h) v hv
    exact this.mono (fun e he => by
      obtain ⟨k, hk, _⟩ := mem_leftV.mp he
      exact List.mem_of_getElem? hk) fun _ h => h
  intro v hv
  refine (hC.mem v).mpr ⟨(home h v hv).lt gl (fun e he => ?_), there v hv, home h v hv⟩
  obtain ⟨a, b⟩ := e
  exact (ok _ (mem_turnE.mp he)).1
theorem mask_ex (l : List Nat) : ∃ S : Nat, ∀ i, S.testBit i = true ↔ i = 0 ∨ i ∈ l := by
  induction l with
  | nil => exact ⟨1, fun i => by rw [bits1]; simp⟩
  | cons x r ih =>
    obtain ⟨S, h⟩ := ih
    refine ⟨S ||| 2 ^ x, fun i => ?_⟩
    rw [or_pow, h i, List.mem_cons, or_assoc]
    exact or_congr Iff.rfl ⟨fun z => z.elim .inr fun e => .inl e.symm, fun z => z.elim (fun e => .inr e.symm) .inl⟩
theorem PO.spots {n : Nat} (c : Cor es gs cps en om im) (ok : ∀ e ∈ es, e.1 < n ∧ e.2 < n) (hC : Cps n es gs cps) (gl : ∀ g ∈ gs, g < n) {ps : List Nat} {m : Nat} (h : PO es gs [] [0] ps m) :
    ∃ S o, Vld cps en S ∧ Rh es cps en om S S (m + o.length) o ∧ plO cps o = ps := by
  have hin := h.cnt ok hC gl fun u hu => by rw [List.mem_singleton.mp hu]; exact .base List.mem_cons_self
  obtain ⟨S, hS⟩ := mask_ex (ps.map fun p => cps.idxOf p)
  have zl : 0 < cps.length := (List.getElem?_eq_some_iff.mp c.zero).1
  have V : Vld cps en S := ⟨lt_of_bits fun i hi => by
    rcases (hS i).mp hi with e | hi
    · rw [e]
      exact zl
    · obtain ⟨p, hp, rfl⟩ := List.mem_map.mp hi
      exact (List.getElem?_eq_some_iff.mp (ix_of (hin p hp))).1, (hS 0).mpr (.inl rfl), fun i hi => by
    obtain ⟨g, hg, e⟩ := (c.en i).mp hi
    refine (hS i).mpr (.inr (List.mem_map.mpr ⟨g, ?_, nd_ix c.nd (ix_of (c.gin g hg)) e⟩))
    rcases h.goal hg with z | z
    · exact absurd (List.mem_singleton.mp z) (c.g0 g hg)
    · exact z⟩
  have hpl : ∀ w ∈ ps, w ∈ plF cps S := fun w hw => mem_plF.mpr ⟨cps.idxOf w, (hS _).mpr (.inr (List.mem_map.mpr ⟨w, hw, rfl⟩)), ix_of (hin w hw)⟩
  obtain ⟨F', o', r, e⟩ := (h.ch hpl).rh c V.lt .start fun u => by rw [plF_one c, List.mem_singleton]
  have r' : Rh es cps en om S F' (m + ps.length) o' := by
    rw [Nat.zero_add] at r
    exact r
  have lo : o'.length = ps.length := by rw [← e]; exact (List.length_map _).symm
  have eF : F' = S := by
    refine Nat.eq_of_testBit_eq fun i => ?_
    rw [Bool.eq_iff_iff, hS i, r'.bits.1 i]
    refine or_congr Iff.rfl ⟨fun hi => ?_, fun hi => ?_⟩
    · have hl := bit_lt V.lt (r'.bits.2.2 i hi)
      have ei : cps[i]? = some (cps.getD i 0) := by rw [getD_some (List.getElem?_eq_getElem hl)]; exact List.getElem?_eq_getElem hl
      have : cps.getD i 0 ∈ ps := e ▸ List.mem_map.mpr ⟨i, hi, rfl⟩
      exact List.mem_map.mpr ⟨_, this, nd_ix c.nd (ix_of (hin _ this)) ei⟩
    · obtain ⟨p, hp, rfl⟩ := List.mem_map.mp hi
      rw [← e] at hp
      obtain ⟨j, hj, ej⟩ := List.mem_map.mp hp
      have hl := bit_lt V.lt (r'.bits.2.2 j hj)
      have e2 : cps[j]? = some p := by rw [← ej, getD_some (List.getElem?_eq_getElem hl)]; exact List.getElem?_eq_getElem hl
      have e3 := ix_of (List.mem_of_getElem? e2)
      rw [nd_ix c.nd e3 e2]
      exact hj
  subst eF
  exact ⟨F', o', V, by rw [lo]; exact r', e⟩
end
/-- each valid set has its greatest excess -/
structure ExOk (es : Es) (cps : List Nat) (en : Nat) (om : Nat → Nat) (fo : List (Nat × V)) : Prop where
  nd : (fo.map (·.1)).Nodup
  ok : ∀ S y, getG fo S = some y → Vld cps en S ∧ ∃ m o, Rh es cps en om S S m o ∧ y = nV (m - o.length) ∧ ∀ m' o', Rh es cps en om S S m' o' → m' ≤ m
  all : ∀ S m o, Vld cps en S → Rh es cps en om S S m o → getG fo S ≠ none
theorem ExOk.lft {n : Nat} {es : Es} {gs cps : List Nat} {en : Nat} {om im : Nat → Nat} {fo : List (Nat × V)} (x : ExOk es cps en om fo) (c : Cor es gs cps en om im) (gm : GoodMap n es gs) (hC : Cps n es gs cps) :
    fo ≠ [] ∧ (∀ S y, getG fo S = some y → ∃ A, y = nV A ∧ ∃ ps, PO es gs [] [0] ps A) ∧ ∀ ps A, PO es gs [] [0] ps A → ∃ S A', getG fo S = some (nV A') ∧ A ≤ A' := by
  have three : ∀ ps A, PO es gs [] [0] ps A → ∃ S A', getG fo S = some (nV A') ∧ A ≤ A' := fun ps A p => by
    obtain ⟨S, o, V, r, e⟩ := p.spots c (fun e he => ⟨(gm.ok e he).1, (gm.ok e he).2.1⟩) hC fun g hg => (gm.gl g hg).2
    cases h : getG fo S with
    | none => exact absurd h (x.all S _ o V r)
    | some y =>
      obtain ⟨_, m, o1, r1, rfl, top⟩ := x.ok S y h
      have := top _ _ r
      have := r1.len r
      exact ⟨S, _, h, by omega⟩
  refine ⟨fun z => ?_, fun S y h => ?_, three⟩
  · obtain ⟨o, m, p⟩ := PO.ex (es := es) (gs := gs) (B := []) (fun e he => (gm.ok e he).2.1) n [0] (by
      refine Nat.le_trans List.countP_le_length ?_
      rw [List.length_range]
      exact Nat.le_refl _) fun g hg => (gm.rch g hg).mono (fun e he => by
        obtain ⟨k, hk⟩ := List.getElem?_of_mem he
        exact mem_leftV.mpr ⟨k, hk, List.not_mem_nil⟩) fun _ h => h
    obtain ⟨S, A', h, _⟩ := three o m p
    rw [z] at h
    cases h
  · obtain ⟨V, m, o, r, rfl, _⟩ := x.ok S y h
    exact ⟨_, rfl, _, r.part c V⟩

abbrev s_excesses : Stmt := topS 20
abbrev sl_excesses : List Str := ["core", "found", "chosen", "free", "spots", "rows", "arrows", "_"]
theorem sc_excesses : FnScope ["core", "found", "chosen", "free", "spots", "rows", "arrows", "_"] ["core"] (defScope s_excesses) := ⟨rfl, rfl, rfl, by decide +kernel, rfl, by decide +kernel, by decide +kernel⟩
def spExcesses (K : PySem.W.Frag) (CC : Addr) : Sp := fun vs H Q _ => ∃ (x : Addr) (es : Es) (gs cps : List Nat) (en : Nat) (om im : Nat → Nat), vs = [.ref x] ∧ CoreAt K CC H x es gs cps en om im ∧ gs ≠ [] ∧
  ∀ (D : Addr) (fo : List (Nat × V)) (H' : Hp), Same H H' → H D = none → H' D = some (.dK (kvG fo)) → ExOk es cps en om fo → Q (.ref D) H'
/-- the sets that are free to be chosen -/
structure Free (s en fr : Nat) : Prop where
  bit : ∀ i, fr.testBit i = true ↔ i < s ∧ i ≠ 0 ∧ en.testBit i = false
  e0 : en.testBit 0 = false
  es : ∀ i, en.testBit i = true → i < s
section
variable {s en fr ch : Nat}
theorem Free.sum (h : Free s en fr) (hc : ∀ i, ch.testBit i = true → fr.testBit i = true) : ∀ i, (ch + 1 + en).testBit i = true ↔ ch.testBit i = true ∨ i = 0 ∨ en.testBit i = true := by
  have a1 : ∀ i, (ch + 1).testBit i = (ch.testBit i || (1 : Nat).testBit i) := add_bits fun i hi => Bool.eq_false_iff.mpr fun z => ((h.bit i).mp (hc i hi)).2.1 (bits1.mp z)
  intro i
  rw [add_bits, a1, Bool.or_eq_true, Bool.or_eq_true, bits1, or_assoc]
  intro i hi
  rw [a1, Bool.or_eq_true, bits1] at hi
  rcases hi with z | z
  · exact ((h.bit i).mp (hc i z)).2.2
  · rw [z]
    exact h.e0
theorem Free.vld {cps : List Nat} (h : Free cps.length en fr) (hs : 0 < cps.length) (hc : ∀ i, ch.testBit i = true → fr.testBit i = true) : Vld cps en (ch + 1 + en) where
  lt := lt_of_bits fun i hi => by
    rcases (h.sum hc i).mp hi with z | z | z
    · exact ((h.bit i).mp (hc i z)).1
    · omega
    · exact h.es i z
  b0 := (h.sum hc 0).mpr (.inr (.inl rfl))
  en := fun i hi => (h.sum hc i).mpr (.inr (.inr hi))
theorem Free.of_vld {cps : List Nat} {S : Nat} (h : Free cps.length en fr) (V : Vld cps en S) : ∃ c, (∀ i, c.testBit i = true → fr.testBit i = true) ∧ S = c + 1 + en := by
  have h1 : ∀ i, (1 : Nat).testBit i = true → S.testBit i = true := fun i hi => by
    rw [bits1.mp hi]
    exact V.b0
  obtain ⟨l1, b1⟩ := sub_bits h1
  have h2 : ∀ i, en.testBit i = true → (S - 1).testBit i = true := fun i hi => by
    rw [b1, Bool.and_eq_true, Bool.not_eq_true']
    refine ⟨V.en i hi, Bool.eq_false_iff.mpr fun z => ?_⟩
    rw [bits1.mp z, h.e0] at hi
    cases hi
  obtain ⟨l2, b2⟩ := sub_bits h2
  refine ⟨S - 1 - en, fun i hi => ?_, by omega⟩
  rw [b2, b1, Bool.and_eq_true, Bool.and_eq_true, Bool.not_eq_true', Bool.not_eq_true'] at hi
  exact (h.bit i).mpr ⟨bit_lt V.lt hi.1.1, fun z => by rw [z] at hi; exact absurd (bits1.mpr rfl) (by rw [hi.1.2]; decide), hi.2⟩
/-- the next set -/
theorem Free.next (hc : ∀ i, ch.testBit i = true → fr.testBit i = true) (lt : ch < fr) : (∀ i, (fr - ((fr - ch - 1) &&& fr)).testBit i = true → fr.testBit i = true) ∧ ch < fr - ((fr - ch - 1) &&& fr) ∧ fr - ((fr - ch - 1) &&& fr) ≤ fr ∧
    ∀ c, (∀ i, c.testBit i = true → fr.testBit i = true) → ch < c → fr - ((fr - ch - 1) &&& fr) ≤ c := by
  have sub : ∀ i, ((fr - ch - 1) &&& fr).testBit i = true → fr.testBit i = true := fun i hi => by
    rw [Nat.testBit_and, Bool.and_eq_true] at hi
    exact hi.2
  obtain ⟨l1, b1⟩ := sub_bits sub
  have le1 : ((fr - ch - 1) &&& fr) ≤ fr - ch - 1 := Nat.and_le_left
  refine ⟨fun i hi => ?_, by omega, by omega, fun c hcb hlt => ?_⟩
  · rw [b1, Bool.and_eq_true] at hi
    exact hi.1
  · obtain ⟨l2, b2⟩ := sub_bits hcb
    obtain ⟨l3, b3⟩ := sub_bits hc
    have := and_top (f := fr) (d := fr - ch) (e := fr - c) (fun i hi => by rw [b3, Bool.and_eq_true] at hi; exact hi.1) (fun i hi => by rw [b2, Bool.and_eq_true] at hi; exact hi.1) (by omega)
    omega
end
theorem ok_excesses {CCore : Addr} (B : Bt mg) (C_Core : ClsC K mg "Core" CCore ["spots", "size", "full", "ends", "outward", "inward", "sums"]) (h_bits : Has P w K mg base "bits" 1 ["kept"] spBits) (h_orders : Has P w K mg base "orders" 3 ["core", "spots"] (spOrders K CCore)) (D0 : Df K mg "excesses" s_excesses ["core"]) : Has P w K mg base "excesses" 4 ["core"] (spExcesses K CCore) := by
  refine D0.has fun f fd F => F.ok sc_excesses (fun vs H Q E h => ?_) (fun cdv A outer s H vs Q E hr h => ?_)
  · obtain ⟨x, es, gs, cps, en, om, im, rfl, _⟩ := h
    rfl
  · obtain ⟨x, es, gs, cps, en, om, im, rfl, hc, gne, q⟩ := h
    refine ⟨_, (pss_cons (ps_set (i := 1) sc_excesses.nd rfl (.inl rfl) pe_dnewK)
  (pss_cons (ps_set (i := 2) sc_excesses.nd rfl (.inl rfl) pe_int)
  (pss_cons (ps_set (i := 3) sc_excesses.nd rfl (.inl rfl) (pe_op op_subN (pe_op op_subN (k_fld (K := K) rfl (pv 0) rfl) pe_int) (k_fld (K := K) rfl (pv 0) rfl)))
  (pss_one (ps_while PassesOwn.never (pt_val pe_bl)
    (pss_cons (ps_set (i := 4) sc_excesses.nd rfl (.inl rfl) (pe_op op_addN (pe_op op_add (pv 2) pe_int) (k_fld (K := K) rfl (pv 0) rfl)))
  (pss_cons (ps_set (i := 5) sc_excesses.nd rfl (.inl rfl) (pcall h_orders hr (by decide) (by rfl) (pa_cons (pv 0) (pa_cons (pv 4) pa_nil))))
  (C8.pss_cut (ps_if (pt_cmp (pc_din (hu_of hr) (pv 4) (pv 5)))
    (pss_cons (ps_asg (pe_dget (hu_of hr) (pv 5) (pv 4) (fun _ _ => rfl)) (pg_tup rfl (pgs_cons (pg_name (i := 6) sc_excesses.nd rfl (.inl rfl)) (pgs_cons (pg_name (i := 7) sc_excesses.nd rfl (.inl rfl)) pgs_nil))))
  (pss_one (ps_dput (hu_of hr) (pv 1) (pv 4) (pe_op op_add (pe_op op_sub (pv 6) (pe_callB (k_len (K := K) rfl) (by rfl) B.len bo_len (pa_cons (pcall h_bits hr (by decide) (by rfl) (pa_cons (pv 4) pa_nil)) pa_nil))) pe_int) rfl)))
    pss_nil)
  (pss_cons (ps_if (pt_cmpR op_eq (pv 2) (pv 3) (nomark _))
    (pss_one (ps_ret (pv 1)))
    pss_nil)
  (pss_one (ps_set (i := 2) sc_excesses.nd rfl (.inl rfl) (pe_op op_andM (pe_op op_sub (pv 2) (pv 3)) (pv 3))))))))))))), ?_⟩
    have hna : ∀ f, f ∈ (["spots", "size", "full", "ends", "outward", "inward", "sums"] : List Str) → NoAttr K CCore f := C_Core.na
    have nfull := hna _ (List.mem_of_getElem? (i := 2) rfl)
    have nends := hna _ (List.mem_of_getElem? (i := 3) rfl)
    have s9 := hc.cor.few
    have s0 : 0 < cps.length := (List.getElem?_eq_some_iff.mp hc.cor.zero).1
    have h512 : 2 ^ cps.length ≤ 512 := Nat.le_trans (Nat.pow_le_pow_right (by decide) s9) (by decide)
    -- the numbers
    have esb : ∀ i, en.testBit i = true → i < cps.length ∧ i ≠ 0 := fun i hi => by
      obtain ⟨g, hg, e⟩ := (hc.cor.en i).mp hi
      refine ⟨(List.getElem?_eq_some_iff.mp e).1, fun z => ?_⟩
      rw [z, hc.cor.zero] at e
      exact hc.cor.g0 g hg (Option.some.inj e).symm
    have fb : ∀ i, (2 ^ cps.length - 1).testBit i = decide (i < cps.length) := fun i => Nat.testBit_two_pow_sub_one cps.length i
    have sub1 : ∀ i, (1 : Nat).testBit i = true → (2 ^ cps.length - 1).testBit i = true := fun i hi => by
      rw [bits1.mp hi, fb, decide_eq_true_eq]
      exact s0
    obtain ⟨l1, b1⟩ := sub_bits sub1
    have sub2 : ∀ i, en.testBit i = true → (2 ^ cps.length - 1 - 1).testBit i = true := fun i hi => by
      rw [b1, fb, Bool.and_eq_true, decide_eq_true_eq, Bool.not_eq_true']
      exact ⟨(esb i hi).1, Bool.eq_false_iff.mpr fun z => (esb i hi).2 (bits1.mp z)⟩
    obtain ⟨l2, b2⟩ := sub_bits sub2
    obtain ⟨fr, hfr⟩ : ∃ fr, fr = 2 ^ cps.length - 1 - 1 - en := ⟨_, rfl⟩
    have FR : Free cps.length en fr := ⟨fun i => by
      rw [hfr, b2, b1, fb, Bool.and_eq_true, Bool.and_eq_true, decide_eq_true_eq, Bool.not_eq_true', Bool.not_eq_true', and_assoc]
      exact and_congr Iff.rfl (and_congr ⟨fun z y => (by rw [bits1.mpr y] at z; cases z), fun z => Bool.eq_false_iff.mpr fun y => z (bits1.mp y)⟩ Iff.rfl), Bool.eq_false_iff.mpr fun z => (esb 0 z).2 rfl, fun i hi => (esb i hi).1⟩
    intro fa nfa
    have sm1 := same_new (o := .dK []) (Same.refl H) nfa
    obtain ⟨⟨dx1, sl1, ol1, il1, ul1, us1, hx1, _⟩, _⟩ := hc.same sm1
    refine ⟨_, rfl, x, CCore, dx1, _, _, rfl, hx1, C_Core.cl, nfull, co_full, 2 ^ cps.length - 1, 1, rfl, rfl, l1, _, rfl, x, CCore, dx1, _, _, rfl, hx1, C_Core.cl, nends, co_ends, 2 ^ cps.length - 1 - 1, en, rfl, rfl, l2, ?_⟩
    rw [← hfr]
    -- set by set
    refine ⟨fun m σ H' => ∃ (ch : Nat) (fo : List (Nat × V)) (x4 x5 x6 x7 : Option V), σ = [some (.ref x), some (.ref fa), some (nV ch), some (nV fr), x4, x5, x6, x7] ∧ Same H H' ∧ H' fa = some (.dK (kvG fo)) ∧ (∀ i, ch.testBit i = true → fr.testBit i = true) ∧ (fo.map (·.1)).Nodup ∧
        (∀ S y, getG fo S = some y → Vld cps en S ∧ ∃ m o, Rh es cps en om S S m o ∧ y = nV (m - o.length) ∧ ∀ m' o', Rh es cps en om S S m' o' → m' ≤ m) ∧
        (∀ c m o, (∀ i, c.testBit i = true → fr.testBit i = true) → c < ch → Rh es cps en om (c + 1 + en) (c + 1 + en) m o → getG fo (c + 1 + en) ≠ none) ∧ m = fr - ch,
      ⟨_, 0, [], none, none, none, none, rfl, sm1, upd_same, fun i hi => (by simp at hi), .nil, fun S y e => (by cases e), fun c _ _ _ z => absurd z (Nat.not_lt_zero c), rfl⟩, ?_⟩
    rintro m σ H2 ⟨ch, fo, x4, x5, x6, x7, rfl, sm2, hfa, hch, fnd, fok, fall, rfl⟩
    have Vd := FR.vld s0 hch
    have chle := (sub_bits hch).1
    have flen : fo.length ≤ 512 := few_G fnd fun S y e => Nat.lt_of_lt_of_le (fok S y e).1.lt h512
    obtain ⟨⟨dx2, sl2, ol2, il2, ul2, us2, hx2, _⟩, _⟩ := hc.same sm2
    refine ⟨true, rfl, iteT ⟨_, fun σ' H' z => z, ?_⟩⟩
    refine ⟨_, rfl, ch, 1, rfl, rfl, _, rfl, x, CCore, dx2, _, _, rfl, hx2, C_Core.cl, nends, co_ends, ch + 1, en, rfl, rfl, ?_⟩
    refine ⟨_, rfl, _, rfl, x, ch + 1 + en, es, gs, cps, en, om, im, rfl, hc.same sm2, Vd.lt, Vd.b0, fun D hs H3 s3 nD hD O => ?_⟩
    have sm3 := sm2.trans s3
    have hfa3 := s3 _ _ hfa
    refine ⟨fun σ H' => ∃ (fo : List (Nat × V)) (x6 x7 : Option V), σ = [some (.ref x), some (.ref fa), some (nV ch), some (nV fr), some (nV (ch + 1 + en)), some (.ref D), x6, x7] ∧ Same H H' ∧ H' fa = some (.dK (kvG fo)) ∧ (fo.map (·.1)).Nodup ∧
        (∀ S y, getG fo S = some y → Vld cps en S ∧ ∃ m o, Rh es cps en om S S m o ∧ y = nV (m - o.length) ∧ ∀ m' o', Rh es cps en om S S m' o' → m' ≤ m) ∧
        (∀ c m o, (∀ i, c.testBit i = true → fr.testBit i = true) → c ≤ ch → Rh es cps en om (c + 1 + en) (c + 1 + en) m o → getG fo (c + 1 + en) ≠ none), ?_, ?_⟩
    · refine ⟨_, rfl, _, rfl, D, _, rfl, dget_G hD, _, rfl, ?_⟩
      cases e : getG hs (ch + 1 + en) with
      | none =>
        refine iteF ?_
        refine ⟨fo, x6, x7, rfl, sm3, hfa3, fnd, fok, fun c m o h1 h2 h3 => ?_⟩
        rcases Nat.lt_or_eq_of_le h2 with z | z
        · exact fall c m o h1 z h3
        · subst z
          refine absurd e (O.all _ m o h3 fun z => ?_)
          -- a goal is in it
          obtain ⟨g, hg⟩ := List.exists_mem_of_ne_nil gs gne
          obtain ⟨i, hi⟩ := List.getElem?_of_mem (hc.cor.gin g hg)
          have hei := (hc.cor.en i).mpr ⟨g, hg, hi⟩
          have := (h3.bits.1 i).mp (Vd.en i hei)
          rw [z] at this
          rcases this with y | y
          · exact (esb i hei).2 y
          · exact (List.not_mem_nil y)
      | some y =>
        refine iteT ?_
        obtain ⟨t, mm, v, F0, m0, o0, rfl, ht, r0, nx0, eF, em, top⟩ := O.ok _ y e
        have rS : Rh es cps en om (ch + 1 + en) (ch + 1 + en) mm (o0 ++ [v]) := by
          have := r0.step nx0
          rw [← eF, ← em] at this
          exact this
        have hcnt := rS.cnt
        have hge := rS.ge
        refine ⟨_, rfl, _, rfl, D, _, rfl, (by rw [← e]; exact dget_G hD), t, _, rfl, sqt ht, rfl, _, _, rfl, _, _, rfl, rfl, ?_⟩
        refine ⟨_, rfl, _, rfl, ch + 1 + en, rfl, Nat.lt_of_lt_of_le Vd.lt (Nat.le_trans h512 (by decide)), fun bl H4 s4 nbl hbl => ?_⟩
        refine ⟨bl, _, rfl, .inl (sql hbl), _, _, rfl, rfl, _, _, rfl, rfl, ?_⟩
        have hfa4 := s4 _ _ hfa3
        refine ⟨_, rfl, _, rfl, fa, _, rfl, dput_G hfa4 fnd (small_lt (by omega)), ?_⟩
        have ev : V.int ((mm : Int) - (((bitsL (ch + 1 + en)).map nV).length : Int) + 1) = nV (mm - (o0 ++ [v]).length) := by
          rw [List.length_map, hcnt]
          show V.int _ = V.int _
          congr 1
          omega
        refine ⟨putG fo (ch + 1 + en) (V.int ((mm : Int) - (((bitsL (ch + 1 + en)).map nV).length : Int) + 1)), _, _, rfl, same_mut (sm3.trans s4) nfa, upd_same, put_nd fnd, fun S y e2 => ?_, fun c m o h1 h2 h3 => ?_⟩
        · rw [get_put] at e2
          by_cases z : ch + 1 + en = S
          · rw [if_pos z] at e2
            cases e2
            subst z
            exact ⟨Vd, mm, _, rS, ev, top⟩
          · rw [if_neg z] at e2
            exact fok S y e2
        · rw [get_put]
          by_cases z : ch + 1 + en = c + 1 + en
          · rw [if_pos z]
            exact fun y => (by cases y)
          · rw [if_neg z]
            exact fall c m o h1 (Nat.lt_of_le_of_ne h2 fun y => z (by rw [y])) h3
    · rintro σ H4 ⟨fo, x6, x7, rfl, sm4, hfa4, fnd, fok, fall⟩
      refine ⟨_, rfl, _, rfl, rfl, _, rfl, ?_⟩
      by_cases z : ch = fr
      · rw [decide_eq_true (show nV ch = nV fr by rw [z])]
        refine iteT ?_
        refine ⟨_, rfl, q fa fo H4 sm4 nfa hfa4 ⟨fnd, fok, fun S m o V2 r => ?_⟩⟩
        obtain ⟨c, c1, c2⟩ := FR.of_vld V2
        have := (sub_bits c1).1
        rw [c2] at r ⊢
        exact fall c m o c1 (by omega) r
      · rw [decide_eq_false fun y => z (nV_inj' y)]
        refine iteF ?_
        have lt : ch < fr := Nat.lt_of_le_of_ne chle z
        obtain ⟨n1, n2, n3, n4⟩ := Free.next hch lt
        refine ⟨_, rfl, _, rfl, _, _, rfl, rfl, _, rfl, fr - ch, fr, (by show V.int ((ch : Int) - (fr : Int)) = V.int (-((fr - ch : Nat) : Int)); congr 1; omega), rfl, by omega, ?_⟩
        refine ⟨_, ?_, fr - ((fr - ch - 1) &&& fr), fo, _, _, _, _, rfl, sm4, hfa4, n1, fnd, fok, fun c m o h1 h2 h3 => ?_, rfl⟩
        · omega
        · exact fall c m o h1 (Nat.le_of_not_lt fun y => absurd (n4 c h1 y) (by omega)) h3

abbrev s_worst : Stmt := topS 33
abbrev sl_worst : List Str := ["chart"]
theorem sc_worst : FnScope ["chart"] ["chart"] (defScope s_worst) := ⟨rfl, rfl, rfl, by decide +kernel, rfl, by decide +kernel, by decide +kernel⟩
def spWorst (K : PySem.W.Frag) (C : Addr) : Sp := fun vs H Q _ => ∃ (p : Addr) (n : Nat) (a : Addr) (pvs : List V) (es : Es) (c : Addr) (gs : List Nat), vs = [.ref p] ∧ MapOk K C H p n a pvs es c gs ∧ GoodMap n es gs ∧ (∀ cps, Cps n es gs cps → cps.length ≤ 9) ∧
  ∀ (A : Nat) (H' : Hp), Same H H' → IsLft es gs [] [0] A → Q (nV A) H'
theorem vals_nats {fo : List (Nat × V)} (h : ∀ x ∈ fo, ∃ A : Nat, x.2 = nV A) : ∃ ks : List Nat, fo.map (·.2) = ks.map nV := by
  induction fo with
  | nil => exact ⟨[], rfl⟩
  | cons x r ih =>
    obtain ⟨A, e⟩ := h x List.mem_cons_self
    obtain ⟨ks, e2⟩ := ih fun y hy => h y (List.mem_cons_of_mem _ hy)
    exact ⟨A :: ks, by rw [List.map_cons, List.map_cons, e, e2]⟩
theorem ok_worst {CMap CCore : Addr} (B : Bt mg) (C_Core : ClsC K mg "Core" CCore ["spots", "size", "full", "ends", "outward", "inward", "sums"]) (h_Core_init : HasI P w K mg base CCore 4 ["self", "chart"] (spCoreInit K CMap CCore)) (h_excesses : Has P w K mg base "excesses" 4 ["core"] (spExcesses K CCore))
    (D0 : Df K mg "worst" s_worst ["chart"]) : Has P w K mg base "worst" 6 ["chart"] (spWorst K CMap) := by
  refine D0.has fun f fd F => F.ok sc_worst (fun vs H Q E h => ?_) (fun cdv A outer s H vs Q E hr h => ?_)
  · obtain ⟨p, n, a, pvs, es, c, gs, rfl, _⟩ := h
    rfl
  · obtain ⟨p, n, a, pvs, es, c, gs, rfl, m, gm, few, q⟩ := h
    refine ⟨_, (pss_one (ps_ret (pe_callB (k_max (K := K) rfl rfl) (by rfl) B.max bo_max (pa_cons (pe_listVals rfl (by rfl) B.list (pcall h_excesses hr (by decide) (by rfl) (pa_cons (pe_make h_Core_init.m h_Core_init.F (hr.mono (by decide)) (by rfl) C_Core.mg h_Core_init.b .nil pass0 (pa_cons (pv 0) pa_nil)) pa_nil))) pa_nil)))), ?_⟩
    refine ⟨_, rfl, ?_⟩
    intro x dx nx ndx nex
    have s1 : Same H (upd (upd H dx (.own x)) x (.ins CCore dx [])) := fun b o e => by
      rw [upd_ne (ne_of_none e nx), upd_ne (ne_of_none e ndx)]
      exact e
    refine ⟨x, dx, p, n, a, pvs, es, c, gs, rfl, upd_same, m.same s1, gm, few, fun cps en om im H2 fx hC hc => ⟨rfl, ?_⟩⟩
    have s2 : Same H H2 := fun b o e => fx.keep b o (ne_of_none e nx) (s1 b o e)
    refine ⟨x, es, gs, cps, en, om, im, rfl, hc, gm.ne, fun D fo H3 s3 nD hD X => ?_⟩
    obtain ⟨x1, x2, x3⟩ := X.lft hc.cor gm hC
    refine ⟨D, _, rfl, hD, fun l nl => ?_⟩
    obtain ⟨ks, eks⟩ := vals_nats (fo := fo) fun y hy => (x2 y.1 y.2 (get_of X.nd hy)).elim fun A z => ⟨A, z.1⟩
    have ev : (kvG fo).map (·.2) = (ks.map fun k => ((k : Nat) : Int)).map V.int := by
      unfold kvG
      rw [List.map_map, List.map_map]
      exact eks
    rw [ev]
    have mem : ∀ A, A ∈ ks ↔ ∃ S, getG fo S = some (nV A) := fun A => by
      have : nV A ∈ fo.map (·.2) ↔ A ∈ ks := by
        rw [eks, List.mem_map]
        exact ⟨fun ⟨k, h1, h2⟩ => nV_inj' h2 ▸ h1, fun h => ⟨A, h, rfl⟩⟩
      rw [← this, List.mem_map]
      exact ⟨fun ⟨y, h1, h2⟩ => ⟨y.1, by rw [← h2]; exact get_of X.nd h1⟩, fun ⟨S, h⟩ => ⟨(S, nV A), get_mem h, rfl⟩⟩
    have s4 := same_new (o := .lst ((ks.map fun k => ((k : Nat) : Int)).map V.int)) (Same.refl H3) nl
    refine ⟨l, _, rfl, sql upd_same, ?_, fun M hM top => ?_⟩
    · rw [List.length_map]
      have e1 : ks.length = fo.length := by
        have := congrArg List.length eks
        rw [List.length_map, List.length_map] at this
        exact this.symm
      rw [e1]
      exact List.length_pos_iff.mpr x1
    · obtain ⟨A, hA, rfl⟩ := List.mem_map.mp hM
      refine q A _ ((s2.trans s3).trans s4) ⟨?_, fun ps A' p' => ?_⟩
      · obtain ⟨S, hS⟩ := (mem A).mp hA
        obtain ⟨A2, e2, o, po⟩ := x2 S _ hS
        rw [nV_inj' e2]
        exact ⟨o, po⟩
      · obtain ⟨S, A2, hS, le⟩ := x3 ps A' p'
        have := top _ (List.mem_map.mpr ⟨A2, (mem A2).mpr ⟨S, hS⟩, rfl⟩)
        omega

abbrev s_Core_places : Stmt := inClass (topS 17) 1
abbrev sl_Core_places : List Str := ["self", "spots", "spot"]
theorem sc_Core_places : FnScope ["self", "spots", "spot"] ["self", "spots"] (defScope s_Core_places) := ⟨rfl, rfl, rfl, by decide +kernel, rfl, by decide +kernel, by decide +kernel⟩
def spPlaces (K : PySem.W.Frag) (CC : Addr) : Sp := fun vs H Q _ => ∃ (x : Addr) (es : Es) (gs cps : List Nat) (en : Nat) (om im : Nat → Nat) (S : Nat), vs = [.ref x, nV S] ∧ CoreAt K CC H x es gs cps en om im ∧ S < 2 ^ cps.length ∧
  ∀ (y : Addr) (H' : Hp), Same H H' → H y = none → H' y = some (.tup ((plF cps S).map nV)) → Q (.ref y) H'
theorem ok_Core_places {CCore : Addr} (B : Bt mg) (C_Core : ClsC K mg "Core" CCore ["spots", "size", "full", "ends", "outward", "inward", "sums"]) (h_bits : Has P w K mg base "bits" 1 ["kept"] spBits) (D0 : DfM K CCore "places" "Core.places" s_Core_places ["self", "spots"]) : HasM P w K mg base CCore "places" 2 ["self", "spots"] (spPlaces K CCore) := by
  refine D0.has fun f fd F => F.ok sc_Core_places (fun vs H Q E h => ?_) (fun cdv A outer s H vs Q E hr h => ?_)
  · obtain ⟨x, es, gs, cps, en, om, im, S, rfl, _⟩ := h
    rfl
  · obtain ⟨x, es, gs, cps, en, om, im, S, rfl, hc, hS, q⟩ := h
    refine ⟨_, (pss_one (ps_ret (pe_callTy (k_tuple (K := K) rfl) (by rfl) B.tuple bo_tuple (pa_cons (pe_lc (own := [("spot", 2)]) (g := gName 2) rfl sc_Core_places.nd (k_pil (K := K) rfl (pcall h_bits hr (by decide) (by rfl) (pa_cons (pv 1) pa_nil))) (blkOk_by (N := sl_Core_places) (sc := defScope s_Core_places) (by decide +kernel)) (fun _ _ _ _ _ => (pg_name (i := 2) sc_Core_places.nd rfl (.inl rfl))) (fun _ _ _ _ _ => pts_nil) (fun _ _ _ _ _ => (pe_ix (k_ixl (K := K) rfl) (k_fld (K := K) rfl (pv 0) rfl) (pv 2) (fun _ _ => rfl)))) pa_nil)))), ?_⟩
    have hS2 : S < 2 ^ 62 := Nat.lt_of_lt_of_le hS (Nat.pow_le_pow_right (by decide) (by have := hc.cor.few; omega))
    refine ⟨_, rfl, S, rfl, hS2, fun D H1 s1 nD hD => ?_⟩
    refine ⟨D, rfl, ⟨_, sql hD⟩, fun D2 nD2 => ?_⟩
    have bl : ∀ i, i ∈ bitsL S → i < cps.length := fun i hi => by
      have h1 := mem_bitsL.mp hi
      by_cases z : i < cps.length
      · exact z
      · have : 2 ^ cps.length ≤ 2 ^ i := Nat.pow_le_pow_right (by decide) (by omega)
        have h2 := Nat.ge_two_pow_of_testBit h1
        omega
    have hlen : (bitsL S).length ≤ 100000 := by
      have h1 : (bitsL S).length ≤ cps.length := nodup_le (bitsL_nd S) fun i hi => bl i hi
      have := hc.cor.few
      omega
    refine lc_val (walk_list (xs := (bitsL S).map nV)) calm_at (fun i => ((bitsL S)[i]?).bind fun k => (cps[k]?).map nV) (by rw [List.length_map]; exact hlen) nD2 (fun H2 s2 => sql (s2 _ _ hD)) ?_ fun H2 s2 h2 => ?_
    · rintro i v H2 H3 hi s2 ⟨rfl, hv⟩ Kt kt
      obtain ⟨k, hki, rfl⟩ := getmap hv
      have hk := bl k (List.mem_of_getElem? hki)
      refine ⟨rfl, tyes ?_⟩
      refine iteT ?_
      have k0 := kt _ (Same.refl _)
      rw [hki, Option.bind_some, List.getElem?_eq_getElem hk] at k0
      obtain ⟨dx, sl, ol, il, ul, us, h1, h2, _⟩ := hc.ob
      exact ⟨_, rfl, x, CCore, dx, _, _, rfl, s2 _ _ (s1 _ _ h1), C_Core.cl, C_Core.n0, co_spots, _, rfl, sl, _, (k : Int), nV cps[k], rfl, rfl, sql (s2 _ _ (s1 _ _ h2)), atI_nat (by rw [List.getElem?_map, List.getElem?_eq_getElem hk]; rfl), k0⟩
    rw [List.length_map, fm_range] at h2
    refine ⟨D2, _, rfl, .inl ⟨sql h2, fun y ny => ?_⟩⟩
    have e1 : ((bitsL S).filterMap fun k => (cps[k]?).map nV) = (plF cps S).map nV := by
      unfold plF
      rw [List.map_filterMap]
    have e2 : ((bitsL S).filterMap fun k => Option.map nV cps[k]?) = (plF cps S).map nV := e1
    have sAll : Same H H2 := fun b o e => Same.trans s1 s2 b o e
    show Q (V.ref y) (upd H2 y (.tup ((bitsL S).filterMap fun k => Option.map nV cps[k]?)))
    rw [e2]
    exact q y _ (same_new sAll ny) (Same.free sAll ny) upd_same

theorem mem_inner {es : Es} {rs ls : List Nat} {e : Nat × Nat} : e ∈ inner es rs ls ↔ ∃ k, es[k]? = some e ∧ k ∉ ls ∧ e.1 ∈ rs ∧ e.2 ∈ rs := by
  constructor
  · intro h
    obtain ⟨e1, h1, h2⟩ := List.mem_filterMap.mp h
    unfold innG at h2
    split at h2
    · rename_i hc
      cases h2
      obtain ⟨k, h3, h4⟩ := mem_leftV.mp h1
      exact ⟨k, h3, h4, hc⟩
    · cases h2
  · rintro ⟨k, h1, h2, h3⟩
    refine List.mem_filterMap.mpr ⟨e, mem_leftV.mpr ⟨k, h1, h2⟩, ?_⟩
    unfold innG
    exact if_pos h3

theorem cat_one {K : PySem.W.Frag} {H : Hp} {a b : Addr} {ls : List Nat} {k : Nat} {Q : VK} (ha : SqT K H a (ls.map nV)) (hb : SqT K H b [nV k]) (hl : ls.length ≤ 1000) (h : ∀ d H', Same H H' → SqT K H' d ((ls ++ [k]).map nV) → Q (.ref d) H') : rCatA K (.ref a) (.ref b) H Q := by
  refine ⟨a, b, _, _, rfl, rfl, ha, hb, small_sz (by rw [List.length_map]; show ls.length + 1 ≤ 100000; omega), fun e => ?_, fun _ e => absurd e (by simp), fun _ _ p np => ?_⟩
  · have e2 : ls = [] := List.map_eq_nil_iff.mp e
    refine h b H (Same.refl H) ?_
    rw [e2]
    exact hb
  · refine h p _ (same_new (Same.refl H) np) (sqt ?_)
    rw [upd_same, List.map_append]
    rfl

/-! a part as an order of places: the arrows onward in it -/
/-- the arrow leads from an earlier to a later place -/
def ldP (es : Es) (T : List Nat) (k : Nat) : Bool := match es[k]? with
  | some e => decide (e.1 ∈ T) && decide (e.2 ∈ T) && decide (T.idxOf e.1 < T.idxOf e.2)
  | none => false
theorem ldP_iff {es : Es} {T : List Nat} {k : Nat} : ldP es T k = true ↔ ∃ e, es[k]? = some e ∧ e.1 ∈ T ∧ e.2 ∈ T ∧ T.idxOf e.1 < T.idxOf e.2 := by
  unfold ldP
  cases es[k]? with
  | none => simp
  | some e => simp [and_assoc]
def ldL (es : Es) (T : List Nat) : List Nat := (List.range es.length).filter (ldP es T)
theorem mem_ldL {es : Es} {T : List Nat} {k : Nat} : k ∈ ldL es T ↔ ldP es T k = true := by
  unfold ldL
  rw [List.mem_filter]
  refine ⟨fun h => h.2, fun h => ⟨?_, h⟩⟩
  obtain ⟨e, he, _⟩ := ldP_iff.mp h
  exact List.mem_range.mpr (List.getElem?_eq_some_iff.mp he).1
theorem ldL_pw {es : Es} {T : List Nat} : (ldL es T).Pairwise (· < ·) := List.pairwise_lt_range.filter _
/-- each place but the start has an arrow to it, each that is no goal one from it -/
structure PartO (es : Es) (gs T : List Nat) : Prop where
  inn : ∀ v ∈ T, v ≠ 0 → ∃ k u, ldP es T k = true ∧ es[k]? = some (u, v)
  out : ∀ v ∈ T, v ∉ gs → ∃ k w, ldP es T k = true ∧ es[k]? = some (v, w)
/-- those of them that lead to a place of o -/
def ldH (es : Es) (T o : List Nat) (k : Nat) : Bool := ldP es T k && match es[k]? with
  | some e => decide (e.2 ∈ o)
  | none => false
theorem ldH_iff {es : Es} {T o : List Nat} {k : Nat} : ldH es T o k = true ↔ ∃ e, es[k]? = some e ∧ e.1 ∈ T ∧ e.2 ∈ T ∧ T.idxOf e.1 < T.idxOf e.2 ∧ e.2 ∈ o := by
  unfold ldH
  rw [Bool.and_eq_true, ldP_iff]
  constructor
  · rintro ⟨⟨e, he, h1, h2, h3⟩, h4⟩
    rw [he] at h4
    exact ⟨e, he, h1, h2, h3, of_decide_eq_true h4⟩
  · rintro ⟨e, he, h1, h2, h3, h4⟩
    refine ⟨⟨e, he, h1, h2, h3⟩, ?_⟩
    rw [he]
    exact decide_eq_true h4
theorem cp_sum {P Q S : Nat → Bool} : ∀ {l : List Nat}, (∀ x ∈ l, (if P x then 1 else 0) + (if Q x then 1 else 0) = (if S x then (1 : Nat) else 0)) → l.countP P + l.countP Q = l.countP S
  | [], _ => rfl
  | x :: l, h => by
    have a := h x List.mem_cons_self
    have b := cp_sum fun y hy => h y (List.mem_cons_of_mem _ hy)
    rw [List.countP_cons, List.countP_cons, List.countP_cons]
    omega
theorem idx_pre {P o : List Nat} {v u : Nat} (nd : (P ++ v :: o).Nodup) : (u ∈ P ++ v :: o ∧ (P ++ v :: o).idxOf u < (P ++ v :: o).idxOf v) ↔ u ∈ P := by
  have nv : v ∉ P := fun z => (List.nodup_append.mp nd).2.2 v z v List.mem_cons_self rfl
  have ev : (P ++ v :: o).idxOf v = P.length := by
    rw [List.idxOf_append, if_neg nv, List.idxOf_cons_self]
    omega
  rw [ev]
  constructor
  · rintro ⟨h, lt⟩
    refine Classical.byContradiction fun z => ?_
    rw [List.idxOf_append, if_neg z] at lt
    omega
  · intro h
    refine ⟨List.mem_append_left _ h, ?_⟩
    rw [List.idxOf_append, if_pos h]
    exact List.idxOf_lt_length_of_mem h
theorem idx_post {P o : List Nat} {v w : Nat} (nd : (P ++ v :: o).Nodup) : (w ∈ P ++ v :: o ∧ (P ++ v :: o).idxOf v < (P ++ v :: o).idxOf w) ↔ w ∈ o := by
  have nv : v ∉ P := fun z => (List.nodup_append.mp nd).2.2 v z v List.mem_cons_self rfl
  have ev : (P ++ v :: o).idxOf v = P.length := by
    rw [List.idxOf_append, if_neg nv, List.idxOf_cons_self]
    omega
  have nvo : v ∉ o := (List.nodup_cons.mp (List.nodup_append.mp nd).2.1).1
  rw [ev]
  constructor
  · rintro ⟨h, lt⟩
    rcases List.mem_append.mp h with z | z
    · rw [List.idxOf_append, if_pos z] at lt
      have := List.idxOf_lt_length_of_mem z
      omega
    · rcases List.mem_cons.mp z with rfl | z
      · rw [ev] at lt
        omega
      · exact z
  · intro h
    refine ⟨List.mem_append_right _ (List.mem_cons_of_mem _ h), ?_⟩
    have nw : w ∉ P := fun z => (List.nodup_append.mp nd).2.2 w z w (List.mem_cons_of_mem _ h) rfl
    have ne : v ≠ w := fun z => nvo (z ▸ h)
    have nb : (v == w) = false := beq_eq_false_iff_ne.mpr ne
    rw [List.idxOf_append, if_neg nw, List.idxOf_cons, nb]
    show P.length < o.idxOf w + 1 + P.length
    omega
section
variable {es : Es} {gs : List Nat}
theorem ldH_cons {P o : List Nat} {v : Nat} (nd : (P ++ v :: o).Nodup) : (List.range es.length).countP (ldH es (P ++ v :: o) (v :: o)) = inn es [] P v + (List.range es.length).countP (ldH es (P ++ v :: o) o) := by
  unfold inn
  refine (cp_sum fun k _ => ?_).symm
  have nvo : v ∉ o := (List.nodup_cons.mp (List.nodup_append.mp nd).2.1).1
  cases h : es[k]? with
  | none =>
    have a1 : inK es [] P v k = false := Bool.eq_false_iff.mpr fun z => by
      obtain ⟨_, u, h2, _⟩ := inK_iff.mp z
      rw [h] at h2
      cases h2
    have a2 : ∀ o', ldH es (P ++ v :: o) o' k = false := fun o' => Bool.eq_false_iff.mpr fun z => by
      obtain ⟨e, h2, _⟩ := ldH_iff.mp z
      rw [h] at h2
      cases h2
    rw [a1, a2, a2]
    rfl
  | some e =>
    obtain ⟨u, x⟩ := e
    by_cases hx : x = v
    · subst hx
      have a2 : ldH es (P ++ x :: o) o k = false := Bool.eq_false_iff.mpr fun z => by
        obtain ⟨e, h2, _, _, _, h3⟩ := ldH_iff.mp z
        rw [h] at h2
        cases h2
        exact nvo h3
      have a1 : inK es [] P x k = ldH es (P ++ x :: o) (x :: o) k := by
        rw [Bool.eq_iff_iff, inK_iff, ldH_iff]
        constructor
        · rintro ⟨_, u', h2, h3⟩
          obtain ⟨q1, q2⟩ := (idx_pre nd).mpr h3
          exact ⟨(u', x), h2, q1, List.mem_append_right _ List.mem_cons_self, q2, List.mem_cons_self⟩
        · rintro ⟨e, h2, q1, _, q2, _⟩
          rw [h] at h2
          cases h2
          exact ⟨List.not_mem_nil, u, h, (idx_pre nd).mp ⟨q1, q2⟩⟩
      rw [a1, a2]
      simp
    · have a1 : inK es [] P v k = false := Bool.eq_false_iff.mpr fun z => by
        obtain ⟨_, u, h2, _⟩ := inK_iff.mp z
        rw [h] at h2
        cases h2
        exact hx rfl
      have a2 : ldH es (P ++ v :: o) o k = ldH es (P ++ v :: o) (v :: o) k := by
        rw [Bool.eq_iff_iff, ldH_iff, ldH_iff]
        constructor
        · rintro ⟨e, q1, q2, q3, q4, q5⟩
          exact ⟨e, q1, q2, q3, q4, List.mem_cons_of_mem _ q5⟩
        · rintro ⟨e, q1, q2, q3, q4, q5⟩
          rw [h] at q1
          cases q1
          exact ⟨_, h, q2, q3, q4, (List.mem_cons.mp q5).resolve_left hx⟩
      rw [a1, a2]
      simp
theorem PO.count {T : List Nat} : ∀ {o P R : List Nat} {m : Nat}, PO es gs [] R o m → (∀ u, u ∈ R ↔ u ∈ P) → T = P ++ o → T.Nodup → (List.range es.length).countP (ldH es T o) = m + o.length := by
  intro o
  induction o with
  | nil =>
    intro P R m h _ _ _
    cases h
    rw [List.countP_eq_zero.mpr]
    · rfl
    · intro k _ z
      obtain ⟨e, _, _, _, _, q⟩ := ldH_iff.mp z
      exact List.not_mem_nil q
  | cons v o ih =>
    intro P R m h hR hT nd
    cases h with
    | cons h1 h2 h3 h4 h5 =>
      have e1 : T = (P ++ [v]) ++ o := by rw [hT]; simp
      have := ih h4 (P := P ++ [v]) (fun u => by rw [List.mem_cons, hR u, List.mem_append, List.mem_singleton]; exact or_comm) e1 nd
      subst hT
      rw [ldH_cons nd, this, inn_set (R := P) (R' := R) (fun u => (hR u).symm), List.length_cons]
      omega
/-- an order that is a part by its arrows is one as it grows -/
theorem PartO.po {T : List Nat} (p : PartO es gs T) (nd : T.Nodup) : ∀ {o P R : List Nat}, (∀ u, u ∈ R ↔ u ∈ P) → T = P ++ o → (∀ g ∈ gs, g ∈ T) → (0 ∈ P) → ∃ m, PO es gs [] R o m := by
  intro o
  induction o with
  | nil =>
    intro P R hR hT hg _
    rw [List.append_nil] at hT
    exact ⟨0, .nil fun g hgs => (hR g).mpr (hT ▸ hg g hgs)⟩
  | cons v o ih =>
    intro P R hR hT hg h0
    have e1 : T = (P ++ [v]) ++ o := by rw [hT]; simp
    obtain ⟨m, q⟩ := ih (P := P ++ [v]) (R := v :: R) (fun u => by rw [List.mem_cons, hR u, List.mem_append, List.mem_singleton]; exact or_comm) e1 hg (List.mem_append_left _ h0)
    subst hT
    have nv : v ∉ P := fun z => (List.nodup_append.mp nd).2.2 v z v List.mem_cons_self rfl
    have pos : 0 < U.inn es [] R v := by
      obtain ⟨k, u, h1, h2⟩ := p.inn v (List.mem_append_right _ List.mem_cons_self) fun z => nv (z ▸ h0)
      obtain ⟨e, he, q1, _, q2⟩ := ldP_iff.mp h1
      rw [h2] at he
      cases he
      exact inn_pos.mpr ⟨u, (hR u).mpr ((idx_pre nd).mp ⟨q1, q2⟩), k, List.not_mem_nil, h2⟩
    refine ⟨m + U.inn es [] R v - 1, .cons (fun z => nv ((hR v).mp z)) pos ?_ q (by omega)⟩
    by_cases hv : v ∈ gs
    · exact .inl hv
    · obtain ⟨k, w, h1, h2⟩ := p.out v (List.mem_append_right _ List.mem_cons_self) hv
      obtain ⟨e, he, _, q1, q2⟩ := ldP_iff.mp h1
      rw [h2] at he
      cases he
      exact .inr ⟨w, (idx_post nd).mp ⟨q1, q2⟩, k, List.not_mem_nil, h2⟩
theorem PO.nd2 {R o : List Nat} {m : Nat} (h : PO es gs [] R o m) (nd : R.Nodup) : (R ++ o).Nodup :=
  List.nodup_append.mpr ⟨nd, h.nd, fun a ha b hb e => h.out b hb (e ▸ ha)⟩
/-- and the other way -/
theorem PO.partO {R o P T : List Nat} {m : Nat} (h : PO es gs [] R o m) (hR : ∀ u, u ∈ R ↔ u ∈ P) (hT : T = P ++ o) (nd : T.Nodup) :
    ∀ v ∈ o, (∃ k u, ldP es T k = true ∧ es[k]? = some (u, v)) ∧ (v ∈ gs ∨ ∃ k w, ldP es T k = true ∧ es[k]? = some (v, w)) := by
  induction o generalizing R P m with
  | nil => exact fun v hv => (List.not_mem_nil hv).elim
  | cons x o ih =>
    cases h with
    | cons h1 h2 h3 h4 h5 =>
      have e1 : T = (P ++ [x]) ++ o := by rw [hT]; simp
      have rest := ih h4 (P := P ++ [x]) (fun u => by rw [List.mem_cons, hR u, List.mem_append, List.mem_singleton]; exact or_comm) e1
      subst hT
      intro v hv
      rcases List.mem_cons.mp hv with rfl | hv
      · refine ⟨?_, h3.imp id fun ⟨w, hw, k, _, hk⟩ => ?_⟩
        · obtain ⟨u, hu, k, _, hk⟩ := inn_pos.mp h2
          obtain ⟨q1, q2⟩ := (idx_pre nd).mpr ((hR u).mp hu)
          exact ⟨k, u, ldP_iff.mpr ⟨_, hk, q1, List.mem_append_right _ List.mem_cons_self, q2⟩, hk⟩
        · obtain ⟨q1, q2⟩ := (idx_post nd).mpr hw
          exact ⟨k, w, ldP_iff.mpr ⟨_, hk, List.mem_append_right _ List.mem_cons_self, q1, q2⟩, hk⟩
      · exact rest v hv
theorem po_part {o : List Nat} {m : Nat} (h : PO es gs [] [0] o m) (g0 : 0 ∉ gs) (gne : gs ≠ []) : (0 :: o).Nodup ∧ (∀ g ∈ gs, g ∈ 0 :: o) ∧ PartO es gs (0 :: o) ∧ (ldL es (0 :: o)).length = m + o.length := by
  have nd : (0 :: o).Nodup := h.nd2 (by simp)
  have hg : ∀ g ∈ gs, g ∈ 0 :: o := fun g hg => by
    rcases h.goal hg with z | z
    · rw [List.mem_singleton.mp z]
      exact List.mem_cons_self
    · exact List.mem_cons_of_mem _ z
  have q := h.partO (P := [0]) (T := 0 :: o) (fun _ => Iff.rfl) rfl nd
  refine ⟨nd, hg, ⟨fun v hv h0 => (q v ((List.mem_cons.mp hv).resolve_left h0)).1, fun v hv hng => ?_⟩, ?_⟩
  · rcases List.mem_cons.mp hv with rfl | hv
    · -- from the start: to the first one behind it
      have one : o ≠ [] := fun z => by
        obtain ⟨g, hgs⟩ := List.exists_mem_of_ne_nil gs gne
        have := hg g hgs
        rw [z] at this
        exact g0 (by rw [← List.mem_singleton.mp this]; exact hgs)
      cases h with
      | nil => exact absurd rfl one
      | @cons R x o m m' h1 h2 h3 h4 h5 =>
        obtain ⟨u, hu, k, _, hk⟩ := inn_pos.mp h2
        rw [List.mem_singleton.mp hu] at hk
        have nd' : ([0] ++ x :: o).Nodup := nd
        obtain ⟨q1, q2⟩ := (idx_pre nd').mpr (List.mem_cons_self (a := 0) (l := []))
        exact ⟨k, x, ldP_iff.mpr ⟨_, hk, List.mem_cons_self, List.mem_cons_of_mem _ List.mem_cons_self, q2⟩, hk⟩
    · exact (q v hv).2.resolve_left hng
  · have := h.count (T := 0 :: o) (P := [0]) (fun _ => Iff.rfl) rfl nd
    rw [← this]
    unfold ldL
    rw [← List.countP_eq_length_filter]
    refine List.countP_congr fun k _ => ?_
    rw [ldP_iff, ldH_iff]
    constructor
    · rintro ⟨e, h1, h2, h3, h4⟩
      refine ⟨e, h1, h2, h3, h4, (List.mem_cons.mp h3).resolve_left fun z => ?_⟩
      rw [z, List.idxOf_cons_self] at h4
      exact Nat.not_lt_zero _ h4
    · rintro ⟨e, h1, h2, h3, h4, _⟩
      exact ⟨e, h1, h2, h3, h4⟩
end

abbrev s__greatest_sets : Stmt := topS 37
abbrev sl__greatest_sets : List Str := ["core", "found", "greatest", "spots"]
theorem sc__greatest_sets : FnScope ["core", "found", "greatest", "spots"] ["core"] (defScope s__greatest_sets) := ⟨rfl, rfl, rfl, by decide +kernel, rfl, by decide +kernel, by decide +kernel⟩
/-- the sets with the greatest excess -/
def GrtOk (es : Es) (cps : List Nat) (en : Nat) (om : Nat → Nat) (Ss : List Nat) (A : Nat) : Prop := Ss ≠ [] ∧ Ss.Nodup ∧ ∃ fo, ExOk es cps en om fo ∧ (∀ S y, getG fo S = some (nV y) → y ≤ A) ∧ ∀ S, S ∈ Ss ↔ getG fo S = some (nV A)
def spGreatest (K : PySem.W.Frag) (CC : Addr) : Sp := fun vs H Q _ => ∃ (x : Addr) (es : Es) (gs cps : List Nat) (en : Nat) (om im : Nat → Nat), vs = [.ref x] ∧ CoreAt K CC H x es gs cps en om im ∧ gs ≠ [] ∧ (∀ fo, ExOk es cps en om fo → fo ≠ []) ∧
  ∀ (D : Addr) (Ss : List Nat) (A : Nat) (H' : Hp), Same H H' → H D = none → H' D = some (.lst (Ss.map nV)) → GrtOk es cps en om Ss A → Q (.ref D) H'
theorem calm_keys {n : Nat} {kvs : List (Key × V)} : Calm n (fun i H x H' => H' = H ∧ ∃ k v, kvs[i]? = some (k, v) ∧ x = kV k) := fun _ H _ _ _ y => by rw [y.1]; exact Same.refl H
theorem vals_natsG {fo : List (Nat × V)} (h : ∀ x ∈ fo, ∃ A : Nat, x.2 = nV A) : ∃ ks : List Nat, fo.map (·.2) = ks.map nV := by
  induction fo with
  | nil => exact ⟨[], rfl⟩
  | cons x r ih =>
    obtain ⟨A, e⟩ := h x List.mem_cons_self
    obtain ⟨ks, e2⟩ := ih fun y hy => h y (List.mem_cons_of_mem _ hy)
    exact ⟨A :: ks, by rw [List.map_cons, List.map_cons, e, e2]⟩
theorem ok_greatest_sets {CCore : Addr} (B : Bt mg) (h_excesses : Has P w K mg base "excesses" 4 ["core"] (spExcesses K CCore)) (D0 : Df K mg "_greatest_sets" s__greatest_sets ["core"]) : Has P w K mg base "_greatest_sets" 5 ["core"] (spGreatest K CCore) := by
  refine D0.has fun f fd F => F.ok sc__greatest_sets (fun vs H Q E h => ?_) (fun cdv A outer s H vs Q E hr h => ?_)
  · obtain ⟨x, es, gs, cps, en, om, im, rfl, _⟩ := h
    rfl
  · obtain ⟨x, es, gs, cps, en, om, im, rfl, hc, gne, fne, q⟩ := h
    refine ⟨_, (pss_cons (ps_set (i := 1) sc__greatest_sets.nd rfl (.inr rfl) (pcall h_excesses hr (by decide) (by rfl) (pa_cons (pv 0) pa_nil)))
  (pss_cons (ps_set (i := 2) sc__greatest_sets.nd rfl (.inr rfl) (pe_callB (k_max (K := K) rfl rfl) (by rfl) B.max bo_max (pa_cons (pe_listVals rfl (by rfl) B.list (pv 1)) pa_nil)))
  (pss_one (ps_ret (pe_lock (pe_lc (own := [("spots", 3)]) (g := gName 3) rfl sc__greatest_sets.nd (pi_keys (pv 1)) (blkOk_by (N := sl__greatest_sets) (sc := defScope s__greatest_sets) (by decide +kernel)) (fun _ _ _ _ _ => (pg_name (i := 3) sc__greatest_sets.nd rfl (.inl rfl))) (fun _ _ _ _ _ => pts_one (pt_cmpR op_eq (pe_dget (hu_of hr) (pv 1) (pv 3) (fun _ _ => rfl)) (pv 2) (nomark _))) (fun _ _ _ _ _ => (pv 3)))))))), ?_⟩
    have h512 : 2 ^ cps.length ≤ 512 := Nat.le_trans (Nat.pow_le_pow_right (by decide) hc.cor.few) (by decide)
    refine ⟨_, rfl, x, es, gs, cps, en, om, im, rfl, hc, gne, fun D fo H3 s3 nD hD X => ?_⟩
    have fo0 := fne fo X
    have flen : fo.length ≤ 512 := few_G X.nd fun S y e => Nat.lt_of_lt_of_le (X.ok S y e).1.lt h512
    refine ⟨_, rfl, D, _, rfl, hD, fun l nl => ?_⟩
    obtain ⟨ks, eks⟩ := vals_natsG (fo := fo) fun y hy => by
      obtain ⟨_, m, o, _, e, _⟩ := X.ok y.1 y.2 (get_of X.nd hy)
      exact ⟨_, e⟩
    have ev : (kvG fo).map (·.2) = (ks.map fun k => ((k : Nat) : Int)).map V.int := by
      unfold kvG
      rw [List.map_map, List.map_map]
      exact eks
    rw [ev]
    have mem : ∀ A, A ∈ ks ↔ ∃ S, getG fo S = some (nV A) := fun A => by
      have : nV A ∈ fo.map (·.2) ↔ A ∈ ks := by
        rw [eks, List.mem_map]
        exact ⟨fun ⟨k, h1, h2⟩ => nV_inj' h2 ▸ h1, fun h => ⟨A, h, rfl⟩⟩
      rw [← this, List.mem_map]
      exact ⟨fun ⟨y, h1, h2⟩ => ⟨y.1, by rw [← h2]; exact get_of X.nd h1⟩, fun ⟨S, h⟩ => ⟨(S, nV A), get_mem h, rfl⟩⟩
    have s4 := same_new (o := .lst ((ks.map fun k => ((k : Nat) : Int)).map V.int)) (Same.refl H3) nl
    refine ⟨l, _, rfl, sql upd_same, ?_, fun M hM top => ?_⟩
    · rw [List.length_map]
      have e1 : ks.length = fo.length := by
        have := congrArg List.length eks
        rw [List.length_map, List.length_map] at this
        exact this.symm
      rw [e1]
      exact List.length_pos_iff.mpr fo0
    obtain ⟨A0, hA, rfl⟩ := List.mem_map.mp hM
    have hD4 := s4 _ _ hD
    generalize upd H3 l (.lst ((ks.map fun k => ((k : Nat) : Int)).map V.int)) = H4 at s4 hD4
    have s34 := s3.trans s4
    refine ⟨D, _, hD4, trivial, fun od => ?_⟩
    refine ⟨_, rfl, D, od, rfl, .inl ⟨kvG fo, upd_same, fun D2 nD2 => ?_⟩⟩
    have nDD : D ≠ D2 := ne_of_none upd_same nD2
    have nD24 : H4 D2 = none := by
      rw [upd_ne nDD.symm] at nD2
      exact nD2
    refine lc_val walk_keys calm_keys (fun i => (fo[i]?).bind fun x => if x.2 = nV A0 then some (nV x.1) else none) (by rw [kvG_len]; omega) nD2 (fun H5 s5 => s5 _ _ upd_same) ?_ fun H5 s5 h5 => ?_
    · rintro i v H5 H6 hi s5 ⟨rfl, k, y, hk, rfl⟩ Kt kt
      unfold kvG at hk
      rw [List.getElem?_map] at hk
      obtain ⟨⟨S, y'⟩, hS, e⟩ := Option.map_eq_some_iff.mp hk
      cases e
      have k0 := kt _ (Same.refl _)
      rw [hS] at k0
      simp only [Option.bind_some] at k0
      have hg := get_of X.nd (List.mem_of_getElem? hS)
      obtain ⟨_, m1, o1, _, e1, _⟩ := X.ok _ _ hg
      have dg : DGet H6 D (nV S) (some y') := by
        rw [← hg]
        exact dget_F (s5 _ _ upd_same)
      refine ⟨rfl, ?_⟩
      subst e1
      refine ⟨_, rfl, _, rfl, D, _, rfl, dg, _, rfl, rfl, _, rfl, ?_⟩
      by_cases z : nV (m1 - o1.length) = nV A0
      · rw [if_pos z] at k0
        rw [decide_eq_true (show nV (m1 - o1.length) = V.int (A0 : Int) from z)]
        exact iteT ⟨_, rfl, k0⟩
      · rw [if_neg z] at k0
        rw [decide_eq_false (show ¬ nV (m1 - o1.length) = V.int (A0 : Int) from z)]
        exact iteF k0
    rw [kvG_len, fm_range] at h5
    obtain ⟨Ss, hSs⟩ : ∃ Ss : List Nat, Ss = fo.filterMap fun x => if x.2 = nV A0 then some x.1 else none := ⟨_, rfl⟩
    have e1 : (fo.filterMap fun x => if x.2 = nV A0 then some (nV x.1) else none) = Ss.map nV := by
      rw [hSs, List.map_filterMap]
      congr 1
      funext x
      split <;> rfl
    rw [e1] at h5
    have memS : ∀ S, S ∈ Ss ↔ getG fo S = some (nV A0) := fun S => by
      rw [hSs, List.mem_filterMap]
      constructor
      · rintro ⟨x, hx, h⟩
        split at h
        · rename_i hc
          cases h
          rw [← hc]
          exact get_of X.nd hx
        · cases h
      · intro h
        exact ⟨(S, nV A0), get_mem h, if_pos rfl⟩
    refine ⟨s5 _ _ upd_same, q D2 Ss A0 _ (fun b o e => ?_) (Same.free s34 nD24) (by rw [upd_ne nDD.symm]; exact h5) ⟨fun z => ?_, ?_, fo, X, fun S y e => ?_, memS⟩⟩
    · by_cases z : b = D
      · have := s34 b o e
        rw [z] at this ⊢
        rw [hD4] at this
        rw [upd_same]
        exact this
      · rw [upd_ne z]
        exact s5 b o (by rw [upd_ne z]; exact s34 b o e)
    · obtain ⟨S, hS⟩ := (mem A0).mp hA
      have := (memS S).mpr hS
      rw [z] at this
      cases this
    · rw [hSs]
      have sub : ∀ r : List (Nat × V), (r.filterMap fun x => if x.2 = nV A0 then some x.1 else none).Sublist (r.map (·.1)) := fun r => by
        induction r with
        | nil => exact List.Sublist.slnil
        | cons x r ih =>
          by_cases z : x.2 = nV A0
          · rw [List.filterMap_cons, if_pos z]
            exact ih.cons_cons _
          · rw [List.filterMap_cons, if_neg z]
            exact ih.cons _
      exact (sub fo).nodup X.nd
    · have := top _ (List.mem_map.mpr ⟨y, (mem y).mpr ⟨S, e⟩, rfl⟩)
      omega

abbrev s__law_orders : Stmt := topS 45
abbrev sl__law_orders : List Str := ["_law_things", "_law_found", "_law_last", "_law_turn", "_law_longer", "_law_row", "_law_one"]
theorem sc__law_orders : FnScope ["_law_things", "_law_found", "_law_last", "_law_turn", "_law_longer", "_law_row", "_law_one"] ["_law_things"] (defScope s__law_orders) := ⟨rfl, rfl, rfl, by decide +kernel, rfl, by decide +kernel, by decide +kernel⟩
/-- a row of unlike things -/
def OrdL (ts l : List Nat) : Prop := l.Nodup ∧ ∀ k ∈ l, k ∈ ts
/-- the values are these rows -/
structure RowsAt (K : PySem.W.Frag) (H : Hp) (vs : List V) (rows : List (List Nat)) : Prop where
  len : vs.length = rows.length
  at_ : ∀ (i : Nat) (v : V) (l : List Nat), vs[i]? = some v → rows[i]? = some l → ∃ t, v = .ref t ∧ SqT K H t (l.map nV)
section
variable {K : PySem.W.Frag} {H H' : Hp} {vs vs' : List V} {rows rows' : List (List Nat)}
theorem RowsAt.mono (p : RowsAt K H vs rows) (s : ∀ a xs, SqT K H a xs → SqT K H' a xs) : RowsAt K H' vs rows :=
  ⟨p.len, fun i v l a b => (p.at_ i v l a b).elim fun t ⟨h1, h2⟩ => ⟨t, h1, s _ _ h2⟩⟩
theorem RowsAt.get (p : RowsAt K H vs rows) {i : Nat} {v : V} (h : vs[i]? = some v) : ∃ t l, rows[i]? = some l ∧ v = .ref t ∧ SqT K H t (l.map nV) := by
  have hi := (List.getElem?_eq_some_iff.mp h).1
  have hj : i < rows.length := by rw [← p.len]; exact hi
  obtain ⟨t, h1, h2⟩ := p.at_ i v _ h (List.getElem?_eq_getElem hj)
  exact ⟨t, _, List.getElem?_eq_getElem hj, h1, h2⟩
theorem RowsAt.append (p : RowsAt K H vs rows) (p' : RowsAt K H vs' rows') : RowsAt K H (vs ++ vs') (rows ++ rows') where
  len := by rw [List.length_append, List.length_append, p.len, p'.len]
  at_ := fun i v e hv he => by
    by_cases h : i < vs.length
    · rw [List.getElem?_append_left h] at hv
      rw [List.getElem?_append_left (by rw [← p.len]; exact h)] at he
      exact p.at_ i v e hv he
    · rw [List.getElem?_append_right (by omega)] at hv
      rw [List.getElem?_append_right (by rw [← p.len]; omega), ← p.len] at he
      exact p'.at_ _ v e hv he
end
def moreG (l : List Nat) (one : Nat) : Option (List Nat) := if one ∈ l then none else some (l ++ [one])
def RelR (K : PySem.W.Frag) (ts l : List Nat) (i : Nat) (H : Hp) (o : Option V) : Prop := ∃ one, ts[i]? = some one ∧ ((one ∈ l ∧ o = none) ∨ (one ∉ l ∧ ∃ t, o = some (.ref t) ∧ SqT K H t ((l ++ [one]).map nV)))
theorem RelR.stay {K : PySem.W.Frag} {ts l : List Nat} {D : Addr} (i : Nat) (o : Option V) (H H' : Hp) (acc : List V) (hD : H D = some (.lst acc)) (h : RelR K ts l i H o)
    (k : ∀ b u, b ≠ D → H b = some u → H' b = some u) : RelR K ts l i H' o := by
  obtain ⟨one, h0, h⟩ := h
  refine ⟨one, h0, h.imp id fun ⟨nm, t, e, h1⟩ => ⟨nm, t, e, ?_⟩⟩
  rcases h1 with (h1 | ⟨z, h1⟩) | h1
  · exact .inl (.inl (k _ _ (ne_of h1 hD (by intro z; cases z)) h1))
  · exact .inl (.inr ⟨z, k _ _ (ne_of h1 hD (by intro z; cases z)) h1⟩)
  · exact .inr h1
theorem rows_rel {K : PySem.W.Frag} {l : List Nat} {H : Hp} : ∀ {ts : List Nat} {os : List (Option V)}, os.length = ts.length → (∀ i o, os[i]? = some o → RelR K ts l i H o) → RowsAt K H (os.filterMap id) (ts.filterMap (moreG l))
  | [], [], _, _ => ⟨rfl, fun i v l h => by simp at h⟩
  | k :: ts, o :: os, hl, h => by
    have ih := rows_rel (l := l) (ts := ts) (os := os) (by simpa using hl) fun i o' hi => by
      obtain ⟨one, h1, h2⟩ := h (i + 1) o' (by simpa using hi)
      exact ⟨one, by simpa using h1, h2⟩
    obtain ⟨one, h1, h2⟩ := h 0 o rfl
    cases h1
    rcases h2 with ⟨hm, rfl⟩ | ⟨hm, t, rfl, ht⟩
    · rw [List.filterMap_cons_none (f := id) rfl, List.filterMap_cons_none (f := moreG l) (if_pos hm)]
      exact ih
    · rw [List.filterMap_cons_some (f := id) (b := V.ref t) rfl, List.filterMap_cons_some (f := moreG l) (if_neg hm)]
      refine ⟨by rw [List.length_cons, List.length_cons, ih.len], fun i v r hv hr => ?_⟩
      cases i with
      | zero =>
        cases hv
        cases hr
        exact ⟨t, rfl, ht⟩
      | succ i => exact ih.at_ i v r hv hr
  | [], _ :: _, hl, _ => by cases hl
  | _ :: _, [], hl, _ => by cases hl
theorem mem_more {ts l r : List Nat} : r ∈ ts.filterMap (moreG l) ↔ ∃ one ∈ ts, one ∉ l ∧ r = l ++ [one] := by
  rw [List.mem_filterMap]
  constructor
  · rintro ⟨one, h1, h2⟩
    unfold moreG at h2
    split at h2
    · cases h2
    · rename_i hm
      cases h2
      exact ⟨one, h1, hm, rfl⟩
  · rintro ⟨one, h1, h2, rfl⟩
    exact ⟨one, h1, if_neg h2⟩
theorem ord_snoc {ts l : List Nat} {one : Nat} (h : OrdL ts l) (h1 : one ∈ ts) (h2 : one ∉ l) : OrdL ts (l ++ [one]) :=
  ⟨List.nodup_append.mpr ⟨h.1, by simp, fun a ha b hb e => h2 (by rw [List.mem_singleton.mp hb] at e; exact e ▸ ha)⟩, fun k hk => (List.mem_append.mp hk).elim (h.2 k) fun z => by rw [List.mem_singleton.mp z]; exact h1⟩
theorem ord_last {ts l : List Nat} {i : Nat} (h : OrdL ts l) (hl : l.length = i + 1) : ∃ r one, OrdL ts r ∧ r.length = i ∧ one ∈ ts ∧ one ∉ r ∧ l = r ++ [one] := by
  rcases List.eq_nil_or_concat l with z | ⟨r, one, z⟩
  · rw [z] at hl
    cases hl
  · rw [List.concat_eq_append] at z
    subst z
    rw [List.length_append, List.length_singleton] at hl
    have nd := List.nodup_append.mp h.1
    exact ⟨r, one, ⟨nd.1, fun k hk => h.2 k (List.mem_append_left _ hk)⟩, by omega, h.2 one (List.mem_append_right _ List.mem_cons_self), fun z => nd.2.2 one z one List.mem_cons_self rfl, rfl⟩
def spLOrders (K : PySem.W.Frag) : Sp := fun vs H Q _ => ∃ (a : Addr) (ts : List Nat), vs = [.ref a] ∧ H a = some (.lst (ts.map nV)) ∧ ts.length ≤ 5 ∧ ∀ (z : Addr) (zs : List V) (rows : List (List Nat)) (H' : Hp), Same H H' → H z = none → H' z = some (.lst zs) → RowsAt K H' zs rows → rows.length ≤ 100000 →
  (∀ l, l ∈ rows ↔ OrdL ts l ∧ l.length ≤ ts.length) → Q (.ref z) H'
theorem ok__law_orders (B : Bt mg) (D0 : Df K mg "_law_orders" s__law_orders ["_law_things"]) : Has P w K mg base "_law_orders" 1 ["_law_things"] (spLOrders K) := by
  refine D0.has fun f fd F => F.ok sc__law_orders (fun vs H Q E h => ?_) (fun cdv A outer s H vs Q E hr h => ?_)
  · obtain ⟨a, ts, rfl, _⟩ := h
    rfl
  · obtain ⟨a, ts, rfl, ha, t5, q⟩ := h
    refine ⟨_, (pss_cons (ps_set (i := 1) sc__law_orders.nd rfl (.inl rfl) (pe_lst (pa_cons (pe_tup pa_nil) pa_nil)))
  (pss_cons (ps_set (i := 2) sc__law_orders.nd rfl (.inl rfl) (pe_lst (pa_cons (pe_tup pa_nil) pa_nil)))
  (pss_cons (ps_for PassesOwn.never rfl (pi_range1 (by rfl) B.range (pa_cons (pe_callB (k_len (K := K) rfl) (by rfl) B.len bo_len (pa_cons (pv 0) pa_nil)) pa_nil)) (pg_name (i := 3) sc__law_orders.nd rfl (.inl rfl))
    (pss_cons (ps_set (i := 4) sc__law_orders.nd rfl (.inl rfl) (pe_lst pa_nil))
  (pss_cons (ps_for PassesOwn.never rfl (k_pil (K := K) rfl (pv 2)) (pg_name (i := 5) sc__law_orders.nd rfl (.inr rfl))
    (pss_one (ps_expr (pe_bm PySem.F.plainAttrs_list PySem.F.slot_list_extend PySem.F.type_list_extend mt_extend (pv 4) (pa_cons (pe_lc (own := [("_law_one", 6)]) (g := gName 6) rfl sc__law_orders.nd (k_pil (K := K) rfl (pv 0)) (blkOk_by (N := sl__law_orders) (sc := defScope s__law_orders) (by decide +kernel)) (fun _ _ _ _ _ => (pg_name (i := 6) sc__law_orders.nd rfl (.inl rfl))) (fun _ _ _ _ _ => pts_one (pt_cmpR (k_notin (K := K) rfl) (pv 6) (pv 5) (by rfl))) (fun _ _ _ _ _ => (pe_op (k_cat (K := K) rfl) (pv 5) (pe_tup (pa_cons (pv 6) pa_nil))))) pa_nil)))))
  (pss_cons (ps_expr (pe_bm PySem.F.plainAttrs_list PySem.F.slot_list_extend PySem.F.type_list_extend mt_extend (pv 1) (pa_cons (pv 4) pa_nil)))
  (pss_one (ps_set (i := 2) sc__law_orders.nd rfl (.inl rfl) (pv 4)))))))
  (pss_one (ps_ret (pv 1)))))), ?_⟩
    refine ⟨Nat.zero_le _, fun e0 ne0 => ⟨by show 1 ≤ sizeLine; decide, fun F0 nF0 => ⟨Nat.zero_le _, fun e1 ne1 => ⟨by show 1 ≤ sizeLine; decide, fun L0 nL0 => ?_⟩⟩⟩⟩
    have s1 := same_new (o := .tup []) (Same.refl H) ne0
    have s2 := same_new (o := .lst [.ref e0]) (Same.refl _) nF0
    have s3 := same_new (o := .tup []) (Same.refl _) ne1
    have s4 := same_new (o := .lst [.ref e1]) (Same.refl _) nL0
    have nF00 : H F0 = none := Same.free s1 nF0
    have nL00 : H L0 = none := Same.free ((s1.trans s2).trans s3) nL0
    have hF4 := s4 _ _ (s3 _ _ (upd_same (H := upd H e0 (.tup [])) (a := F0) (o := .lst [.ref e0])))
    have he0 := s4 _ _ (s3 _ _ (s2 _ _ (upd_same (H := H) (a := e0) (o := .tup []))))
    have he1 := s4 _ _ (upd_same (H := upd (upd H e0 (.tup [])) F0 (.lst [.ref e0])) (a := e1) (o := .tup []))
    have hL4 := upd_same (H := upd (upd (upd H e0 (.tup [])) F0 (.lst [.ref e0])) e1 (.tup [])) (a := L0) (o := .lst [.ref e1])
    have s14 := ((s1.trans s2).trans s3).trans s4
    have FL : F0 ≠ L0 := ne_of_none (s3 _ _ (upd_same (H := upd H e0 (.tup [])) (a := F0) (o := .lst [.ref e0]))) nL0
    generalize upd (upd (upd (upd H e0 (.tup [])) F0 (.lst [.ref e0])) e1 (.tup [])) L0 (.lst [.ref e1]) = H4 at s14 hF4 he0 he1 hL4
    have one0 : ∀ e, H4 e = some (.tup []) → RowsAt K H4 [.ref e] [[]] := fun e he => ⟨rfl, fun i v l h1 h2 => by
      cases i with
      | zero =>
        cases h1
        cases h2
        exact ⟨e, rfl, sqt he⟩
      | succ i => simp at h1⟩
    have nil0 : ∀ l, OrdL ts l ∧ l.length = 0 ↔ l ∈ [([] : List Nat)] := fun l => by
      rw [List.mem_singleton, List.length_eq_zero_iff]
      exact ⟨fun h => h.2, fun h => by subst h; exact ⟨⟨.nil, fun k hk => (List.not_mem_nil hk).elim⟩, rfl⟩⟩
    refine ⟨_, rfl, a, _, rfl, .inl (sql (s14 _ _ ha)), ((ts.map nV).length : Int), rfl, by omega, by rw [List.length_map]; omega, ?_⟩
    refine for_range (lo := 0) (n := (((ts.map nV).length : Nat) : Int).toNat) (fun i σ H' => ∃ (La : Addr) (fvs lvs : List V) (frs lrs : List (List Nat)) (x3 x4 x5 : Option V), σ = [some (.ref a), some (.ref F0), some (.ref La), x3, x4, x5, none] ∧ Same H H' ∧ H La = none ∧ H' F0 = some (.lst fvs) ∧ H' La = some (.lst lvs) ∧ RowsAt K H' fvs frs ∧ RowsAt K H' lvs lrs ∧
        (∀ l, l ∈ frs ↔ OrdL ts l ∧ l.length ≤ i) ∧ (∀ l, l ∈ lrs ↔ OrdL ts l ∧ l.length = i) ∧ frs.length ≤ 2 * 6 ^ i ∧ lrs.length ≤ 6 ^ i)
      ⟨L0, _, _, [[]], [[]], _, _, _, rfl, s14, nL00, hF4, hL4, one0 _ he0, one0 _ he1, fun l => by rw [Nat.le_zero]; exact (nil0 l).symm, fun l => (nil0 l).symm, by decide, by decide⟩ ?_ ?_
    · rintro i σ H5 hi ⟨La, fvs, lvs, frs, lrs, x3, x4, x5, rfl, s5, nLa, hF5, hLa5, rF, rL, mF, mL, lF, lL⟩
      have hi5 : i < 5 := by
        have : i < (((ts.map nV).length : Nat) : Int).toNat := hi
        rw [List.length_map] at this
        omega
      have p6 : 6 ^ i ≤ 1296 := Nat.pow_le_pow_right (n := 6) (by decide) (show i ≤ 4 by omega)
      refine ⟨Nat.zero_le _, fun L nL => ?_⟩
      have s6 := same_new (o := .lst []) (Same.refl H5) nL
      have hL6 := upd_same (H := H5) (a := L) (o := .lst [])
      have nL0' : H L = none := Same.free s5 nL
      generalize upd H5 L (.lst []) = H6 at s6 hL6
      refine ⟨_, rfl, La, rfl, ⟨_, sql (s6 _ _ hLa5)⟩, ?_⟩
      refine for_list (xs := lvs) (fun j σ H' => ∃ (gvs : List V) (grs : List (List Nat)) (x5 : Option V), σ = [some (.ref a), some (.ref F0), some (.ref La), some (.int ((0 : Int) + (i : Int))), some (.ref L), x5, none] ∧ Same H5 H' ∧ H' L = some (.lst gvs) ∧ RowsAt K H' gvs grs ∧ (∀ l, l ∈ grs ↔ ∃ r ∈ lrs.take j, ∃ one ∈ ts, one ∉ r ∧ l = r ++ [one]) ∧ grs.length ≤ 6 * j)
        ⟨[], [], _, rfl, s6, hL6, ⟨rfl, fun i v l h => by simp at h⟩, fun l => by simp, Nat.le_refl _⟩ ?_ ?_ ?_
      · rintro j σ H' _ ⟨gvs, grs, x5, rfl, s, _⟩
        exact sql (s _ _ hLa5)
      · rintro j v σ H7 hv ⟨gvs, grs, x5, rfl, s7, hL7, rG, mG, lG⟩
        obtain ⟨t, l, hlj, rfl, ht⟩ := (rL.mono fun a xs => Same.sqt s7).get hv
        have hjl : j < lrs.length := (List.getElem?_eq_some_iff.mp hlj).1
        have hlO := (mL l).mp (List.mem_of_getElem? hlj)
        have htk : lrs.take (j + 1) = lrs.take j ++ [l] := by rw [List.take_add_one, hlj]; rfl
        have ha7 := s7 _ _ (s5 _ _ ha)
        refine ⟨_, rfl, .inl ⟨rfl, _, sql hL7⟩, _, rfl, a, rfl, ⟨_, sql ha7⟩, fun D nD => ?_⟩
        refine lc_rel (walk_list (xs := ts.map nV)) calm_at (RelR K ts l) RelR.stay (by rw [List.length_map]; omega) nD (fun H8 s8 => sql (s8 _ _ ha7)) ?_ fun H8 os s8 hol hos h8 => ?_
        · rintro m v H8 H9 hm s8 ⟨rfl, hv⟩ Kt kt
          obtain ⟨one, ho, rfl⟩ := getmap hv
          have ht8 := Same.sqt s8 ht
          refine ⟨rfl, ?_⟩
          refine ⟨_, rfl, _, rfl, t, _, rfl, .inr ht8, rfl, flat_nats _, _, rfl, ?_⟩
          rw [if_pos rfl, inV_nats]
          by_cases z : one ∈ l
          · rw [decide_eq_true z]
            exact iteF (kt none _ (Same.refl _) ⟨one, ho, .inl ⟨z, rfl⟩⟩)
          · rw [decide_eq_false z]
            refine iteT ?_
            refine ⟨_, rfl, _, rfl, by show 1 ≤ sizeLine; decide, fun t1 nt1 => ?_⟩
            have s9 := same_new (o := .tup [nV one]) (Same.refl _) nt1
            refine cat_one (Same.sqt s9 ht8) (sqt upd_same) (by omega) fun d H10 s10 hd => ?_
            exact kt _ _ (s9.trans s10) ⟨one, ho, .inr ⟨z, d, rfl, hd⟩⟩
        have rN := rows_rel (by rw [hol, List.length_map]) hos
        have fl : (os.filterMap id).length ≤ os.length := List.length_filterMap_le _ _
        have hL8 := s8 _ _ hL7
        have gl := rG.len
        rw [List.length_map] at hol
        refine ⟨L, D, _, _, rfl, rfl, hL8, h8, small_sz (by omega), ?_⟩
        have n9 : Nl H8 (upd H8 L (.lst (gvs ++ os.filterMap id))) := nl_upd hL8
        refine ⟨gvs ++ os.filterMap id, grs ++ ts.filterMap (moreG l), _, rfl, same_mut (s7.trans s8) nL, upd_same, ((rG.mono fun a xs => Same.sqt s8).append rN).mono (fun a xs => n9.sqt), fun r => ?_, ?_⟩
        · rw [List.mem_append, mG, mem_more, htk]
          constructor
          · rintro (⟨r', h1, h2⟩ | h)
            · exact ⟨r', List.mem_append_left _ h1, h2⟩
            · exact ⟨l, List.mem_append_right _ List.mem_cons_self, h⟩
          · rintro ⟨r', h1, h2⟩
            rcases List.mem_append.mp h1 with h1 | h1
            · exact .inl ⟨r', h1, h2⟩
            · rw [List.mem_singleton.mp h1] at h2
              exact .inr h2
        · have : (ts.filterMap (moreG l)).length ≤ ts.length := List.length_filterMap_le _ _
          rw [List.length_append]
          omega
      · rintro σ H7 ⟨gvs, grs, x5, rfl, s7, hL7, rG, mG, lG⟩
        have hll := rL.len
        rw [hll, List.take_length] at mG
        have hF7 := s7 _ _ hF5
        have fl := rF.len
        have gl := rG.len
        have FL' : F0 ≠ L := ne_of_none hF5 nL
        have gl6 : grs.length ≤ 6 * lrs.length := by rw [← hll]; exact lG
        refine ⟨_, rfl, .inl ⟨rfl, _, sql hF7⟩, _, rfl, F0, L, _, _, rfl, rfl, hF7, hL7, small_sz (by omega), ?_⟩
        have n8 : Nl H7 (upd H7 F0 (.lst (fvs ++ gvs))) := nl_upd hF7
        have s08 : Same H (upd H7 F0 (.lst (fvs ++ gvs))) := same_mut (s5.trans s7) nF00
        have mN : ∀ l, l ∈ grs ↔ OrdL ts l ∧ l.length = i + 1 := fun l => by
          rw [mG]
          constructor
          · rintro ⟨r, h1, one, h2, h3, rfl⟩
            obtain ⟨o1, o2⟩ := (mL r).mp h1
            exact ⟨ord_snoc o1 h2 h3, by rw [List.length_append, o2]; rfl⟩
          · rintro ⟨o1, o2⟩
            obtain ⟨r, one, p1, p2, p3, p4, p5⟩ := ord_last o1 o2
            exact ⟨r, (mL r).mpr ⟨p1, p2⟩, one, p3, p4, p5⟩
        refine ⟨_, rfl, L, fvs ++ gvs, gvs, frs ++ grs, grs, _, _, _, rfl, s08, nL0', upd_same, by rw [upd_ne FL'.symm]; exact hL7, ((rF.mono fun a xs => Same.sqt s7).append rG).mono (fun a xs => n8.sqt), rG.mono (fun a xs => n8.sqt), fun l => ?_, mN, ?_, ?_⟩
        · rw [List.mem_append, mF, mN]
          constructor
          · rintro (⟨h1, h2⟩ | ⟨h1, h2⟩)
            · exact ⟨h1, by omega⟩
            · exact ⟨h1, by omega⟩
          · rintro ⟨h1, h2⟩
            by_cases z : l.length = i + 1
            · exact .inr ⟨h1, z⟩
            · exact .inl ⟨h1, by omega⟩
        · rw [List.length_append, Nat.pow_succ]
          omega
        · rw [Nat.pow_succ]
          omega
    · rintro σ H5 ⟨La, fvs, lvs, frs, lrs, x3, x4, x5, rfl, s5, nLa, hF5, hLa5, rF, rL, mF, mL, lF, lL⟩
      have e : (((ts.map nV).length : Nat) : Int).toNat = ts.length := by rw [List.length_map]; omega
      rw [e] at mF lF
      have p6 : 6 ^ ts.length ≤ 7776 := Nat.pow_le_pow_right (n := 6) (by decide) t5
      exact ⟨_, rfl, q F0 fvs frs H5 s5 nF00 hF5 rF (by omega) mF⟩

abbrev s__law_excess_of : Stmt := topS 46
abbrev sl__law_excess_of : List Str := ["_law_parts_here", "_law_order", "_law_many", "_law_arrows", "_law_goals", "_law_at", "_law_k", "_law_lead", "_law_heads", "_law_tails", "_law_place", "_law_pair"]
theorem sc__law_excess_of : FnScope ["_law_parts_here", "_law_order", "_law_many", "_law_arrows", "_law_goals", "_law_at", "_law_k", "_law_lead", "_law_heads", "_law_tails", "_law_place", "_law_pair"] ["_law_parts_here", "_law_order"] (defScope s__law_excess_of) := ⟨rfl, rfl, rfl, by decide +kernel, rfl, by decide +kernel, by decide +kernel⟩
/-- what the law tells of an order: its excess, if it is one of a part -/
def spLExcess (K : PySem.W.Frag) : Sp := fun vs H Q _ => ∃ (t : Addr) (n : Nat) (a : Addr) (pvs : List V) (es : Es) (c : Addr) (gs : List Nat) (x : Addr) (T : List Nat), vs = [.ref t, .ref x] ∧ PtsAt K H t n a pvs es c gs ∧ SqT K H x (T.map nV) ∧ T.Nodup ∧ T.length ≤ 40 ∧
  ∀ (v : V) (H' : Hp), Same H H' → ((PartO es gs T ∧ v = .int (((ldL es T).length : Int) - (T.length : Int) + 1)) ∨ (¬ PartO es gs T ∧ v = .non)) → Q v H'
theorem partO_iff {es : Es} {gs T hds tls : List Nat} (hh : ∀ v, v ∈ hds ↔ ∃ k u, ldP es T k = true ∧ es[k]? = some (u, v)) (ht : ∀ v, v ∈ tls ↔ ∃ k w, ldP es T k = true ∧ es[k]? = some (v, w)) :
    PartO es gs T ↔ ∀ v ∈ T, (v = 0 ∨ v ∈ hds) ∧ (v ∈ gs ∨ v ∈ tls) := by
  constructor
  · intro p v hv
    refine ⟨?_, ?_⟩
    · by_cases z : v = 0
      · exact .inl z
      · exact .inr ((hh v).mpr (p.inn v hv z))
    · by_cases z : v ∈ gs
      · exact .inl z
      · exact .inr ((ht v).mpr (p.out v hv z))
  · intro h
    exact ⟨fun v hv z => (hh v).mp ((h v hv).1.resolve_left z), fun v hv z => (ht v).mp ((h v hv).2.resolve_left z)⟩
theorem ok__law_excess_of (B : Bt mg) (D0 : Df K mg "_law_excess_of" s__law_excess_of ["_law_parts_here", "_law_order"]) : Has P w K mg base "_law_excess_of" 1 ["_law_parts_here", "_law_order"] (spLExcess K) := by
  refine D0.has fun f fd F => F.ok sc__law_excess_of (fun vs H Q E h => ?_) (fun cdv A outer s H vs Q E hr h => ?_)
  · obtain ⟨t, n, a, pvs, es, c, gs, x, T, rfl, _⟩ := h
    rfl
  · obtain ⟨t, n, a, pvs, es, c, gs, x, T, rfl, hP, hx, nd, tl, q⟩ := h
    refine ⟨_, (pss_cons (ps_asg (pv 0) (pg_tup rfl (pgs_cons (pg_name (i := 2) sc__law_excess_of.nd rfl (.inl rfl)) (pgs_cons (pg_name (i := 3) sc__law_excess_of.nd rfl (.inl rfl)) (pgs_cons (pg_name (i := 4) sc__law_excess_of.nd rfl (.inl rfl)) pgs_nil)))))
  (pss_cons (ps_set (i := 5) sc__law_excess_of.nd rfl (.inr rfl) pe_dnewK)
  (pss_cons (ps_for PassesOwn.never rfl (pi_range1 (by rfl) B.range (pa_cons (pe_callB (k_len (K := K) rfl) (by rfl) B.len bo_len (pa_cons (pv 1) pa_nil)) pa_nil)) (pg_name (i := 6) sc__law_excess_of.nd rfl (.inl rfl))
    (pss_one (ps_dput (hu_of hr) (pv 5) (pe_ix (k_ixt (K := K) rfl) (pv 1) (pv 6) (fun _ _ => rfl)) (pv 6) rfl)))
  (pss_cons (ps_setLc (i := 7) (own := [("_law_pair", 11)]) (g := gName 11) rfl sc__law_excess_of.nd rfl rfl (sw_true rfl rfl rfl (by decide +kernel)) (k_pit (K := K) rfl (pv 3)) (blkOk_by (N := sl__law_excess_of) (sc := defScope s__law_excess_of) (by decide +kernel)) (fun _ _ _ _ _ => (pg_name (i := 11) sc__law_excess_of.nd rfl (.inl rfl))) (fun _ _ _ _ _ => pts_one (PW.pt (pw_and (pt_cmp (pc_din (hu_of hr) (pe_ix (k_ixt (K := K) rfl) (pv 11) pe_int (fun _ _ => rfl)) (pv 5))) (pw_and (pt_cmp (pc_din (hu_of hr) (pe_ix (k_ixt (K := K) rfl) (pv 11) pe_int (fun _ _ => rfl)) (pv 5))) (pw_and1 (pt_cmpR op_lt (pe_dget (hu_of hr) (pv 5) (pe_ix (k_ixt (K := K) rfl) (pv 11) pe_int (fun _ _ => rfl)) (fun _ _ => rfl)) (pe_dget (hu_of hr) (pv 5) (pe_ix (k_ixt (K := K) rfl) (pv 11) pe_int (fun _ _ => rfl)) (fun _ _ => rfl)) (nomark _))))))) (fun _ _ _ _ _ => (pv 11)))
  (pss_cons (ps_setLc (i := 8) (own := [("_law_pair", 11)]) (g := gName 11) rfl sc__law_excess_of.nd rfl rfl (sw_true rfl rfl rfl (by decide +kernel)) (k_pil (K := K) rfl (pv 7)) (blkOk_by (N := sl__law_excess_of) (sc := defScope s__law_excess_of) (by decide +kernel)) (fun _ _ _ _ _ => (pg_name (i := 11) sc__law_excess_of.nd rfl (.inl rfl))) (fun _ _ _ _ _ => pts_nil) (fun _ _ _ _ _ => (pe_ix (k_ixt (K := K) rfl) (pv 11) pe_int (fun _ _ => rfl))))
  (pss_cons (ps_setLc (i := 9) (own := [("_law_pair", 11)]) (g := gName 11) rfl sc__law_excess_of.nd rfl rfl (sw_true rfl rfl rfl (by decide +kernel)) (k_pil (K := K) rfl (pv 7)) (blkOk_by (N := sl__law_excess_of) (sc := defScope s__law_excess_of) (by decide +kernel)) (fun _ _ _ _ _ => (pg_name (i := 11) sc__law_excess_of.nd rfl (.inl rfl))) (fun _ _ _ _ _ => pts_nil) (fun _ _ _ _ _ => (pe_ix (k_ixt (K := K) rfl) (pv 11) pe_int (fun _ _ => rfl))))
  (pss_cons (ps_for PassesOwn.never rfl (k_pit (K := K) rfl (pv 1)) (pg_name (i := 10) sc__law_excess_of.nd rfl (.inl rfl))
    (pss_one (ps_if (PW.pt (pw_or (PW.pt (pw_and (pt_cmpR op_ne (pv 10) pe_int (nomark _)) (pw_and1 (pt_cmpR (k_notin (K := K) rfl) (pv 10) (pv 8) (by rfl))))) (pw_or1 (PW.pt (pw_and (pt_cmpR (k_notin (K := K) rfl) (pv 10) (pv 4) (by rfl)) (pw_and1 (pt_cmpR (k_notin (K := K) rfl) (pv 10) (pv 9) (by rfl))))))))
    (pss_one (ps_ret pe_non))
    pss_nil)))
  (pss_one (ps_ret (pe_op op_add (pe_op op_sub (pe_callB (k_len (K := K) rfl) (by rfl) B.len bo_len (pa_cons (pv 7) pa_nil)) (pe_callB (k_len (K := K) rfl) (by rfl) B.len bo_len (pa_cons (pv 1) pa_nil))) pe_int)))))))))), ?_⟩
    have hl := hP.pr.len
    have g60 := hP.gm.l60
    refine ⟨_, rfl, t, _, rfl, hP.tp, rfl, _, _, rfl, _, _, rfl, _, _, rfl, rfl, ?_⟩
    intro da nda
    have s1 := same_new (o := .dK []) (Same.refl H) nda
    refine ⟨_, rfl, x, _, rfl, .inr (Same.sqt s1 hx), ((T.map nV).length : Int), rfl, by omega, by rw [List.length_map]; omega, ?_⟩
    refine for_range (lo := 0) (n := (((T.map nV).length : Nat) : Int).toNat) (fun i σ H' => ∃ x6 : Option V, σ = [some (.ref t), some (.ref x), some (nV n), some (.ref a), some (.ref c), some (.ref da), x6, none, none, none, none, none] ∧ Same H H' ∧ H' da = some (.dK (kvG (atL T i)))) ⟨_, rfl, s1, upd_same⟩ ?_ ?_
    · rintro i σ H2 hi ⟨x6, rfl, s2, hda⟩
      have hi' : i < T.length := by
        have : i < (((T.map nV).length : Nat) : Int).toNat := hi
        rw [List.length_map] at this
        omega
      have e0 : (0 : Int) + (i : Int) = (i : Int) := Int.zero_add _
      rw [e0]
      have hu : T[i]? = some T[i] := List.getElem?_eq_getElem hi'
      generalize T[i] = u at hu
      refine ⟨_, rfl, _, rfl, _, rfl, _, rfl, x, _, (i : Int), nV u, rfl, rfl, Same.sqt s2 hx, atI_nat (by rw [List.getElem?_map, hu]; rfl), da, _, rfl, dput_G hda (atL_nd nd (by omega)) (by unfold atL; rw [List.length_map, List.length_range]; exact small_lt (by omega)), ?_⟩
      refine ⟨_, rfl, same_mut s2 nda, ?_⟩
      rw [upd_same]
      show some (HO.dK (kvG (putG (atL T i) u (nV i)))) = _
      rw [atL_snoc nd hu]
    rintro σ H2 ⟨x6, rfl, s2, hda⟩
    have eT : (((T.map nV).length : Nat) : Int).toNat = T.length := by rw [List.length_map]; omega
    rw [eT] at hda
    have hP2 := hP.same s2
    -- those that lead onward
    refine ⟨_, rfl, a, rfl, ⟨_, hP2.ar⟩, fun D nD => ?_⟩
    refine lc_val (walk_tup (xs := pvs)) calm_at (fun i => if ldP es T i = true then pvs[i]? else none) (by omega) nD (fun H4 s4 => Same.sqt s4 hP2.ar) ?_ fun H4 s4 h4 => ?_
    · rintro i v H4 H5 hi s4 ⟨rfl, hv⟩ Kt kt
      have hP4 := hP2.same s4
      obtain ⟨⟨e1, e2⟩, hei, tt, rfl, ht⟩ := hP4.pr.get hv
      have hd4 := s4 _ _ hda
      have k0 := kt _ (Same.refl _)
      have no : ¬ (e1 ∈ T ∧ e2 ∈ T ∧ T.idxOf e1 < T.idxOf e2) → Kt none H5 := fun z => by
        rw [if_neg fun y => z (by
          obtain ⟨e, he, h1⟩ := ldP_iff.mp y
          rw [hei] at he
          cases he
          exact h1)] at k0
        exact k0
      refine ⟨rfl, ?_⟩
      refine ⟨_, rfl, tt, _, (0 : Nat), nV e1, rfl, rfl, ht, atI_nat rfl, _, rfl, da, _, rfl, dget_G hd4, _, rfl, ?_⟩
      by_cases m1 : e1 ∈ T
      rotate_left
      · rw [atL_none m1]
        refine iteF ?_
        exact iteF (no fun z => m1 z.1)
      have g1 := atL_get nd (ix_of m1)
      have dd1 : DGet H5 da (nV e1) (some (nV (T.idxOf e1))) := by
        rw [← g1]
        exact dget_G hd4
      rw [g1]
      refine iteT ⟨_, rfl, tt, _, (1 : Nat), nV e2, rfl, rfl, ht, atI_nat rfl, _, rfl, da, _, rfl, dget_G hd4, _, rfl, ?_⟩
      by_cases m2 : e2 ∈ T
      rotate_left
      · rw [atL_none m2]
        refine iteF ?_
        exact iteF (no fun z => m2 z.2.1)
      have g2 := atL_get nd (ix_of m2)
      have dd2 : DGet H5 da (nV e2) (some (nV (T.idxOf e2))) := by
        rw [← g2]
        exact dget_G hd4
      rw [g2]
      refine iteT ⟨_, rfl, _, rfl, tt, _, (0 : Nat), nV e1, rfl, rfl, ht, atI_nat rfl, da, _, rfl, dd1, _, rfl, _, rfl, tt, _, (1 : Nat), nV e2, rfl, rfl, ht, atI_nat rfl, da, _, rfl, dd2, _, _, rfl, rfl, _, rfl, ?_⟩
      by_cases m3 : T.idxOf e1 < T.idxOf e2
      · rw [decide_eq_true (show ((T.idxOf e1 : Nat) : Int) < ((T.idxOf e2 : Nat) : Int) by omega)]
        rw [if_pos (ldP_iff.mpr ⟨_, hei, m1, m2, m3⟩), hv] at k0
        exact iteT ⟨_, rfl, k0⟩
      · rw [decide_eq_false (show ¬ ((T.idxOf e1 : Nat) : Int) < ((T.idxOf e2 : Nat) : Int) by omega)]
        exact iteF (no fun z => m3 z.2.2)
    have e1 : ((List.range pvs.length).filterMap fun i => if ldP es T i = true then pvs[i]? else none) = (ldL es T).map fun k => pvs.getD k .non := by
      unfold ldL
      rw [hl]
      have : ∀ r : List Nat, (∀ k ∈ r, k < es.length) → (r.filterMap fun i => if ldP es T i = true then pvs[i]? else none) = (r.filter (ldP es T)).map fun k => pvs.getD k .non := fun r => by
        induction r with
        | nil => exact fun _ => rfl
        | cons k r ih =>
          intro hr
          have ih := ih fun j hj => hr j (List.mem_cons_of_mem _ hj)
          have hk : k < pvs.length := by have := hr k List.mem_cons_self; omega
          rw [List.filterMap_cons, List.filter_cons, ih]
          cases ldP es T k with
          | true =>
            rw [if_pos rfl, List.getElem?_eq_getElem hk]
            show _ :: _ = List.map _ (k :: _)
            rw [List.map_cons, List.getD_eq_getElem?_getD, List.getElem?_eq_getElem hk]
            rfl
          | false => rfl
      exact this _ fun k hk => List.mem_range.mp hk
    rw [e1] at h4
    have s24 := s2.trans s4
    have hP4 := hP.same s24
    have lk : ∀ k ∈ ldL es T, ∃ e, es[k]? = some e := fun k hk => by
      obtain ⟨e, he, _⟩ := ldP_iff.mp (mem_ldL.mp hk)
      exact ⟨e, he⟩
    have ll : (ldL es T).length ≤ es.length - 0 := pw_len ldL_pw fun k hk => ⟨Nat.zero_le _, (lk k hk).elim fun e he => (List.getElem?_eq_some_iff.mp he).1⟩
    have pick : ∀ {H' : Hp}, PtsAt K H' t n a pvs es c gs → ∀ {i : Nat} {v : V}, ((ldL es T).map fun k => pvs.getD k V.non)[i]? = some v → ∃ k e tt, (ldL es T)[i]? = some k ∧ es[k]? = some e ∧ v = .ref tt ∧ SqT K H' tt [nV e.1, nV e.2] := fun hp i v hv => by
      rw [List.getElem?_map] at hv
      obtain ⟨k, hk, rfl⟩ := Option.map_eq_some_iff.mp hv
      obtain ⟨e, he⟩ := lk k (List.mem_of_getElem? hk)
      have hkl : k < pvs.length := by rw [hl]; exact (List.getElem?_eq_some_iff.mp he).1
      have hkv : pvs[k]? = some pvs[k] := List.getElem?_eq_getElem hkl
      obtain ⟨tt, htt, ht⟩ := hp.pr.at_ k _ _ hkv he
      exact ⟨k, e, tt, hk, he, by rw [List.getD_eq_getElem?_getD, hkv]; exact htt, ht⟩
    -- their heads
    refine ⟨_, rfl, D, rfl, ⟨_, sql h4⟩, fun D2 nD2 => ?_⟩
    refine lc_val (walk_list (xs := (ldL es T).map fun k => pvs.getD k V.non)) calm_at (fun i => ((ldL es T)[i]?).bind fun k => (es[k]?).map fun e => nV e.2) (by rw [List.length_map]; omega) nD2 (fun H6 s6 => sql (s6 _ _ h4)) ?_ fun H6 s6 h6 => ?_
    · rintro i v H6 H7 hi s6 ⟨rfl, hv⟩ Kt kt
      obtain ⟨k, e, tt, hk, he, rfl, ht⟩ := pick (hP4.same s6) hv
      have k0 := kt _ (Same.refl _)
      rw [hk] at k0
      simp only [Option.bind_some, he, Option.map_some] at k0
      refine ⟨rfl, tyes ?_⟩
      refine iteT ?_
      exact ⟨_, rfl, tt, _, (1 : Nat), nV e.2, rfl, rfl, ht, atI_nat rfl, k0⟩
    obtain ⟨hds, hhd⟩ : ∃ hds : List Nat, hds = (ldL es T).filterMap fun k => (es[k]?).map fun e => e.2 := ⟨_, rfl⟩
    have eh : ((ldL es T).filterMap fun k => (es[k]?).map fun e => nV e.2) = hds.map nV := by
      rw [hhd, List.map_filterMap]
      congr 1
      funext k
      cases es[k]? <;> rfl
    rw [List.length_map, fm_range, eh] at h6
    have s26 := s24.trans s6
    have hP6 := hP.same s26
    have h46 := s6 _ _ h4
    -- their tails
    refine ⟨_, rfl, D, rfl, ⟨_, sql h46⟩, fun D3 nD3 => ?_⟩
    refine lc_val (walk_list (xs := (ldL es T).map fun k => pvs.getD k V.non)) calm_at (fun i => ((ldL es T)[i]?).bind fun k => (es[k]?).map fun e => nV e.1) (by rw [List.length_map]; omega) nD3 (fun H8 s8 => sql (s8 _ _ h46)) ?_ fun H8 s8 h8 => ?_
    · rintro i v H8 H9 hi s8 ⟨rfl, hv⟩ Kt kt
      obtain ⟨k, e, tt, hk, he, rfl, ht⟩ := pick (hP6.same s8) hv
      have k0 := kt _ (Same.refl _)
      rw [hk] at k0
      simp only [Option.bind_some, he, Option.map_some] at k0
      refine ⟨rfl, tyes ?_⟩
      refine iteT ?_
      exact ⟨_, rfl, tt, _, (0 : Nat), nV e.1, rfl, rfl, ht, atI_nat rfl, k0⟩
    obtain ⟨tls, htl⟩ : ∃ tls : List Nat, tls = (ldL es T).filterMap fun k => (es[k]?).map fun e => e.1 := ⟨_, rfl⟩
    have et : ((ldL es T).filterMap fun k => (es[k]?).map fun e => nV e.1) = tls.map nV := by
      rw [htl, List.map_filterMap]
      congr 1
      funext k
      cases es[k]? <;> rfl
    rw [List.length_map, fm_range, et] at h8
    have s28 := s26.trans s8
    have hP8 := hP.same s28
    have hx8 := Same.sqt s28 hx
    have h68 := s8 _ _ h6
    have h48 := s8 _ _ h46
    have pi := partO_iff (es := es) (gs := gs) (T := T) (hds := hds) (tls := tls) (fun v => by
      rw [hhd, List.mem_filterMap]
      constructor
      · rintro ⟨k, hk, he⟩
        obtain ⟨⟨u, w⟩, he2, rfl⟩ := Option.map_eq_some_iff.mp he
        exact ⟨k, u, mem_ldL.mp hk, he2⟩
      · rintro ⟨k, u, hk, he⟩
        exact ⟨k, mem_ldL.mpr hk, by rw [he]; rfl⟩) (fun v => by
      rw [htl, List.mem_filterMap]
      constructor
      · rintro ⟨k, hk, he⟩
        obtain ⟨⟨u, w⟩, he2, rfl⟩ := Option.map_eq_some_iff.mp he
        exact ⟨k, w, mem_ldL.mp hk, he2⟩
      · rintro ⟨k, w, hk, he⟩
        exact ⟨k, mem_ldL.mpr hk, by rw [he]; rfl⟩)
    -- place by place
    refine ⟨_, rfl, x, rfl, ⟨_, hx8⟩, ?_⟩
    refine for_tup (xs := T.map nV) (fun i σ H' => ∃ (x6 x10 : Option V), σ = [some (.ref t), some (.ref x), some (nV n), some (.ref a), some (.ref c), some (.ref da), x6, some (.ref D), some (.ref D2), some (.ref D3), x10, none] ∧ H' = H8 ∧ ∀ v ∈ T.take i, (v = 0 ∨ v ∈ hds) ∧ (v ∈ gs ∨ v ∈ tls))
      ⟨_, _, rfl, rfl, fun v hv => (by simp at hv)⟩ ?_ ?_ ?_
    · rintro i σ H' _ ⟨_, _, _, rfl, _⟩
      exact hx8
    · rintro i v σ H' hv ⟨x6, x10, rfl, rfl, done⟩
      obtain ⟨k, hk, rfl⟩ := getmap hv
      have hkT := List.mem_of_getElem? hk
      have htk : T.take (i + 1) = T.take i ++ [k] := by rw [List.take_add_one, hk]; rfl
      have out : ¬ ((k = 0 ∨ k ∈ hds) ∧ (k ∈ gs ∨ k ∈ tls)) → Q .non H' := fun z => q .non H' s28 (.inr ⟨fun p => z (pi.mp p k hkT), rfl⟩)
      refine ⟨_, rfl, rfl, _, rfl, ?_⟩
      have first : (k ≠ 0 ∧ k ∉ hds) ∨ (k = 0) ∨ (k ≠ 0 ∧ k ∈ hds) := by
        by_cases a1 : k = 0
        · exact .inr (.inl a1)
        · by_cases a2 : k ∈ hds
          · exact .inr (.inr ⟨a1, a2⟩)
          · exact .inl ⟨a1, a2⟩
      have d0 : k ≠ 0 → ¬ nV k = V.int 0 := fun z y => z (by injection y with y; omega)
      rcases first with ⟨a1, a2⟩ | a1 | ⟨a1, a2⟩
      · rw [decide_eq_false (d0 a1)]
        refine iteT ⟨_, rfl, _, rfl, D2, _, rfl, .inl (sql h68), rfl, flat_nats _, _, rfl, ?_⟩
        rw [if_pos rfl, inV_nats, decide_eq_false a2]
        refine iteT ?_
        refine iteT ?_
        exact out fun z => z.1.elim a1 a2
      case' inr.inl =>
        rw [decide_eq_true (show nV k = V.int 0 by rw [a1]; rfl)]
        refine iteF ?_
        refine iteF ?_
        have ok1 : k = 0 ∨ k ∈ hds := .inl a1
      case' inr.inr =>
        rw [decide_eq_false (d0 a1)]
        refine iteT ⟨_, rfl, _, rfl, D2, _, rfl, .inl (sql h68), rfl, flat_nats _, _, rfl, ?_⟩
        rw [if_pos rfl, inV_nats, decide_eq_true a2]
        refine iteF ?_
        have ok1 : k = 0 ∨ k ∈ hds := .inr a2
      all_goals
        refine ⟨_, rfl, _, rfl, c, _, rfl, .inr hP8.go, rfl, flat_nats _, _, rfl, ?_⟩
        rw [if_pos rfl, inV_nats]
        have ok : (k ∈ gs ∨ k ∈ tls) → ∀ v ∈ T.take (i + 1), (v = 0 ∨ v ∈ hds) ∧ (v ∈ gs ∨ v ∈ tls) := fun z v hv => by
          rw [htk] at hv
          rcases List.mem_append.mp hv with hv | hv
          · exact done v hv
          · rw [List.mem_singleton.mp hv]
            exact ⟨ok1, z⟩
        by_cases b1 : k ∈ gs
        · rw [decide_eq_true b1]
          refine iteF ?_
          refine iteF ?_
          exact ⟨_, _, rfl, rfl, ok (.inl b1)⟩
        · rw [decide_eq_false b1]
          refine iteT ⟨_, rfl, _, rfl, D3, _, rfl, .inl (sql h8), rfl, flat_nats _, _, rfl, ?_⟩
          rw [if_pos rfl, inV_nats]
          by_cases b2 : k ∈ tls
          · rw [decide_eq_true b2]
            refine iteF ?_
            exact ⟨_, _, rfl, rfl, ok (.inr b2)⟩
          · rw [decide_eq_false b2]
            refine iteT ?_
            exact out fun z => z.2.elim b1 b2
    · rintro σ H' ⟨x6, x10, rfl, rfl, done⟩
      rw [List.length_map, List.take_length] at done
      refine ⟨_, rfl, D, _, rfl, .inl (sql h48), _, rfl, x, _, rfl, .inr hx8, _, _, rfl, rfl, _, _, rfl, rfl, ?_⟩
      rw [List.length_map, List.length_map]
      exact q _ H' s28 (.inl ⟨pi.mpr done, rfl⟩)

abbrev s_Map___eq__ : Stmt := inClass (topS 27) 4
abbrev sl_Map___eq__ : List Str := ["self", "other"]
theorem sc_Map___eq__ : FnScope ["self", "other"] ["self", "other"] (defScope s_Map___eq__) := ⟨rfl, rfl, rfl, by decide +kernel, rfl, by decide +kernel, by decide +kernel⟩
/-- two maps of one many, the same arrows and goals -/
def RMap (K : PySem.W.Frag) (C : Addr) : Addr → Addr → Hp → Prop := fun p q H => ∃ (n : Nat) (a1 a2 : Addr) (pvs1 pvs2 : List V) (es : Es) (c1 c2 : Addr) (gs : List Nat), MapOk K C H p n a1 pvs1 es c1 gs ∧ MapOk K C H q n a2 pvs2 es c2 gs
theorem RMap.d {K : PySem.W.Frag} {C : Addr} {H : Hp} {p q : Addr} {n : Nat} {a1 a2 : Addr} {pvs1 pvs2 : List V} {es : Es} {c1 c2 : Addr} {gs : List Nat} (m1 : MapOk K C H p n a1 pvs1 es c1 gs) (m2 : MapOk K C H q n a2 pvs2 es c2 gs) : DIns C (RMap K C) (.ref p) (.ref q) H := by
  obtain ⟨d1, h1⟩ := m1.at_.ob
  obtain ⟨d2, h2⟩ := m2.at_.ob
  exact ⟨p, q, d1, d2, _, _, rfl, rfl, h1, h2, n, a1, a2, pvs1, pvs2, es, c1, c2, gs, m1, m2⟩
theorem ok_Map_eq {CMap : Addr} (B : Bt mg) (C : MapC K mg CMap) (O_Map : OwnC K CMap) (D0 : DfM K CMap "__eq__" "Map.__eq__" s_Map___eq__ ["self", "other"]) : HasM P w K mg base CMap "__eq__" 1 ["self", "other"] (spEq (RMap K CMap)) := by
  refine D0.has fun f fd F => F.ok sc_Map___eq__ (fun vs H Q E h => ?_) (fun cdv A outer s H vs Q E hr h => ?_)
  · obtain ⟨p, q, rfl, _⟩ := h
    rfl
  · obtain ⟨p, q, rfl, ⟨n, a1, a2, pvs1, pvs2, es, c1, c2, gs, m1, m2⟩, k⟩ := h
    obtain ⟨d1, h1⟩ := m1.at_.ob
    obtain ⟨d2, h2⟩ := m2.at_.ob
    refine ⟨_, (pss_one (ps_ret (pe_and (pe_callB (k_isi (K := K) rfl) (by rfl) B.isinstance bo_isinstance (pa_cons (pv 1) (pa_cons (pe_glob (v := .ref CMap) (by rfl) C.mgMap rfl) pa_nil))) (pe_and (pe_cmpR op_eq (k_fld (K := K) rfl (pv 0) rfl) (k_fld (K := K) rfl (pv 1) rfl) (nomark _)) (pe_and (pe_cmpR (k_eqD (K := K) rfl hr.units) (k_fld (K := K) rfl (pv 0) rfl) (k_fld (K := K) rfl (pv 1) rfl) (nomark _)) (pe_one (pe_cmpR (k_eqD (K := K) rfl hr.units) (k_fld (K := K) rfl (pv 0) rfl) (k_fld (K := K) rfl (pv 1) rfl) (nomark _)))))))), ?_⟩
    refine ⟨_, rfl, _, .ref CMap, _, .ref CMap, true, rfl, .own CMap, .base (.ins h2 O_Map.cl O_Map.ha O_Map.hn O_Map.htk O_Map.hm), ?_, _, rfl, iteT ?_⟩
    · unfold PySem.W.kitOne
      exact if_pos (by simp)
    refine ⟨_, rfl, p, CMap, d1, _, _, rfl, h1, C.cl, C.n1, mapF_m n a1 c1, _, rfl, q, CMap, d2, _, _, rfl, h2, C.cl, C.n1, mapF_m n a2 c2, rfl, _, rfl, ?_⟩
    rw [decide_eq_true rfl]
    refine iteT ?_
    refine ⟨_, rfl, p, CMap, d1, _, _, rfl, h1, C.cl, C.n2, mapF_a n a1 c1, _, rfl, q, CMap, d2, _, _, rfl, h2, C.cl, C.n2, mapF_a n a2 c2, .tuple (es.map dE), .tuple (es.map dE), .tup m1.at_.ar (dp_prs m1.pr), .tup m2.at_.ar (dp_prs m2.pr), shp_prs, shp_prs, _, rfl, ?_⟩
    rw [eqv_same shp_prs]
    refine iteT ?_
    refine ⟨_, rfl, p, CMap, d1, _, _, rfl, h1, C.cl, C.n3, mapF_g n a1 c1, _, rfl, q, CMap, d2, _, _, rfl, h2, C.cl, C.n3, mapF_g n a2 c2, .tuple (gs.map dN), .tuple (gs.map dN), .tup m1.at_.go dp_nats, .tup m2.at_.go dp_nats, shp_tup, shp_tup, ?_⟩
    rw [eqv_same shp_tup]
    exact k H fun _ _ e => e

/-! the orders of the turned map: those of the map, backward -/
theorem idx_rev : ∀ {l : List Nat}, l.Nodup → ∀ {v : Nat}, v ∈ l → l.reverse.idxOf v + l.idxOf v + 1 = l.length
  | [], _, _, h => (List.not_mem_nil h).elim
  | a :: r, nd, v, h => by
    obtain ⟨na, nr⟩ := List.nodup_cons.mp nd
    rw [List.reverse_cons, List.length_cons]
    by_cases e : a = v
    · subst e
      rw [List.idxOf_append, if_neg (fun z => na (List.mem_reverse.mp z)), List.length_reverse]
      simp
    · have hv : v ∈ r := (List.mem_cons.mp h).resolve_left fun z => e z.symm
      have ih := idx_rev nr hv
      rw [List.idxOf_append, if_pos (List.mem_reverse.mpr hv), List.idxOf_cons, beq_eq_false_iff_ne.mpr e, cond_false]
      omega
theorem idx_swq {g : Nat} : ∀ {l : List Nat} {v : Nat}, (l.map (swq g)).idxOf (swq g v) = l.idxOf v
  | [], _ => rfl
  | a :: r, v => by
    rw [List.map_cons, List.idxOf_cons, List.idxOf_cons, idx_swq (l := r)]
    by_cases e : a = v
    · subst e
      simp
    · rw [beq_eq_false_iff_ne.mpr e, beq_eq_false_iff_ne.mpr (fun z => e (swq_inj z))]
/-- the order of the turned map -/
def revT (g : Nat) (T : List Nat) : List Nat := (T.map (swq g)).reverse
theorem mem_revT {g v : Nat} {T : List Nat} : v ∈ revT g T ↔ swq g v ∈ T := by
  unfold revT
  rw [List.mem_reverse, List.mem_map]
  exact ⟨fun ⟨u, h, e⟩ => by rw [← e, swq_swp]; exact h, fun h => ⟨_, h, swq_swp g v⟩⟩
theorem revT_nd {g : Nat} {T : List Nat} (nd : T.Nodup) : (revT g T).Nodup := by
  unfold revT
  exact List.pairwise_reverse.mpr (List.pairwise_map.mpr (nd.imp fun h z => h (swq_inj z.symm)))
theorem revT_len {g : Nat} {T : List Nat} : (revT g T).length = T.length := by
  unfold revT
  rw [List.length_reverse, List.length_map]
theorem revT_idx {g v : Nat} {T : List Nat} (nd : T.Nodup) (h : v ∈ T) : (revT g T).idxOf (swq g v) + T.idxOf v + 1 = T.length := by
  have := idx_rev (l := T.map (swq g)) (List.pairwise_map.mpr (nd.imp fun h z => h (swq_inj z))) (List.mem_map.mpr ⟨v, h, rfl⟩)
  rw [idx_swq, List.length_map] at this
  exact this
theorem ldP_trn {es : Es} {g k : Nat} {T : List Nat} (nd : T.Nodup) : ldP (es.map (trn g)) (revT g T) k = ldP es T k := by
  rw [Bool.eq_iff_iff, ldP_iff, ldP_iff]
  constructor
  · rintro ⟨e', he, h1, h2, h3⟩
    rw [List.getElem?_map] at he
    obtain ⟨e, hk, rfl⟩ := Option.map_eq_some_iff.mp he
    have a1 : e.2 ∈ T := by have := mem_revT.mp h1; rwa [show (trn g e).1 = swq g e.2 from rfl, swq_swp] at this
    have a2 : e.1 ∈ T := by have := mem_revT.mp h2; rwa [show (trn g e).2 = swq g e.1 from rfl, swq_swp] at this
    have i1 := revT_idx (g := g) nd a1
    have i2 := revT_idx (g := g) nd a2
    have h3 : (revT g T).idxOf (swq g e.2) < (revT g T).idxOf (swq g e.1) := h3
    exact ⟨e, hk, a2, a1, by omega⟩
  · rintro ⟨e, hk, a2, a1, h3⟩
    have i1 := revT_idx (g := g) nd a1
    have i2 := revT_idx (g := g) nd a2
    refine ⟨trn g e, by rw [List.getElem?_map, hk]; rfl, mem_revT.mpr (by show swq g (swq g e.2) ∈ T; rw [swq_swp]; exact a1), mem_revT.mpr (by show swq g (swq g e.1) ∈ T; rw [swq_swp]; exact a2), ?_⟩
    show (revT g T).idxOf (swq g e.2) < (revT g T).idxOf (swq g e.1)
    omega
theorem PartO.trn {es : Es} {g : Nat} {T : List Nat} (p : PartO es [g] T) (nd : T.Nodup) (g0 : g ≠ 0) : PartO (es.map (trn g)) [g] (revT g T) where
  inn := fun v' hv h0 => by
    have hv := mem_revT.mp hv
    obtain ⟨k, w, h1, h2⟩ := p.out _ hv fun z => h0 (by rw [← swq_swp g v', List.mem_singleton.mp z, swq_g g0])
    exact ⟨k, swq g w, by rw [ldP_trn nd]; exact h1, by rw [List.getElem?_map, h2]; show some (swq g w, swq g (swq g v')) = _; rw [swq_swp]⟩
  out := fun v' hv hn => by
    have hv := mem_revT.mp hv
    obtain ⟨k, u, h1, h2⟩ := p.inn _ hv fun z => hn (by rw [← swq_swp g v', z, swq_0]; exact List.mem_cons_self)
    exact ⟨k, swq g u, by rw [ldP_trn nd]; exact h1, by rw [List.getElem?_map, h2]; show some (swq g (swq g v'), swq g u) = _; rw [swq_swp]⟩
theorem ldL_trn {es : Es} {g : Nat} {T : List Nat} (nd : T.Nodup) : ldL (es.map (trn g)) (revT g T) = ldL es T := by
  unfold ldL
  rw [List.length_map]
  exact List.filter_congr fun k _ => ldP_trn nd
/-- the last place of an order is the goal -/
theorem PartO.last {es : Es} {g : Nat} {T : List Nat} (p : PartO es [g] T) (nd : T.Nodup) (ne : T ≠ []) : ∃ P, T = P ++ [g] := by
  rcases List.eq_nil_or_concat T with e | ⟨P, x, e⟩
  · exact absurd e ne
  · rw [List.concat_eq_append] at e
    refine ⟨P, ?_⟩
    by_cases h : x = g
    · rw [e, h]
    · have hx : x ∈ T := by rw [e]; exact List.mem_append_right _ List.mem_cons_self
      obtain ⟨k, w, h1, h2⟩ := p.out x hx fun z => h (List.mem_singleton.mp z)
      obtain ⟨e', he, _, hw, hi⟩ := ldP_iff.mp h1
      rw [h2] at he
      cases he
      have nx : x ∉ P := fun z => by
        rw [e] at nd
        exact (List.nodup_append.mp nd).2.2 x z x List.mem_cons_self rfl
      have i1 : T.idxOf x = P.length := by
        rw [e, List.idxOf_append, if_neg nx]
        simp
      have i2 : T.idxOf w < T.length := List.idxOf_lt_length_of_mem hw
      have l2 : T.length = P.length + 1 := by rw [e, List.length_append]; rfl
      have hi : T.idxOf x < T.idxOf w := hi
      omega
theorem PO.trn {es : Es} {g : Nat} {o : List Nat} {m : Nat} (h : PO es [g] [] [0] o m) (g0 : g ≠ 0) : ∃ o', PO (es.map (trn g)) [g] [] [0] o' m ∧ ∀ v, v ∈ 0 :: o' ↔ swq g v ∈ 0 :: o := by
  have n0 : 0 ∉ [g] := fun z => g0 (List.mem_singleton.mp z).symm
  obtain ⟨nd, hg, p, cnt⟩ := po_part h n0 (by simp)
  obtain ⟨P, eP⟩ := p.last nd (by simp)
  have p' := p.trn nd g0
  have nd' := revT_nd (g := g) nd
  have eR : revT g (0 :: o) = 0 :: (P.map (swq g)).reverse := by
    rw [eP]
    unfold revT
    rw [List.map_append, List.reverse_append]
    show swq g g :: _ = _
    rw [swq_g g0]
    rfl
  have len := revT_len (g := g) (T := 0 :: o)
  have ld := ldL_trn (es := es) (g := g) nd
  have mem : ∀ v, v ∈ 0 :: (P.map (swq g)).reverse ↔ swq g v ∈ 0 :: o := fun v => by rw [← eR]; exact mem_revT
  rw [eR] at p' nd' len ld
  obtain ⟨m', q⟩ := p'.po nd' (o := (P.map (swq g)).reverse) (P := [0]) (R := [0]) (fun _ => Iff.rfl) rfl (fun x hx => by
    rw [List.mem_singleton.mp hx]
    exact (mem g).mpr (by rw [swq_g g0]; exact List.mem_cons_self)) List.mem_cons_self
  have cnt' := (po_part q n0 (by simp)).2.2.2
  rw [ld, cnt] at cnt'
  rw [List.length_cons, List.length_cons] at len
  have : m' = m := by omega
  subst this
  exact ⟨_, q, mem⟩
theorem IsLft.trn {es : Es} {g A : Nat} (h : IsLft es [g] [] [0] A) (g0 : g ≠ 0) : IsLft (es.map (trn g)) [g] [] [0] A where
  ex := by
    obtain ⟨o, p⟩ := h.ex
    obtain ⟨o', q, _⟩ := p.trn g0
    exact ⟨o', q⟩
  top := fun o m' p => by
    obtain ⟨o', q, _⟩ := p.trn g0
    rw [map_trn_trn] at q
    exact h.top o' m' q
/-- a lot of places with the excess A -/
def GLot (es : Es) (gs : List Nat) (A : Nat) (T : List Nat) : Prop := T.Pairwise (· < ·) ∧ ∃ o, PO es gs [] [0] o A ∧ ∀ v, v ∈ T ↔ v ∈ 0 :: o
theorem GLot.trn {es : Es} {g A : Nat} {T T' : List Nat} (h : GLot es [g] A T) (g0 : g ≠ 0) (pw : T'.Pairwise (· < ·)) (mem : ∀ v, v ∈ T' ↔ swq g v ∈ T) : GLot (es.map (trn g)) [g] A T' := by
  obtain ⟨_, o, p, hm⟩ := h
  obtain ⟨o', q, hq⟩ := p.trn g0
  exact ⟨pw, o', q, fun v => by rw [mem, hm, hq]⟩
/-- the rank of a lot among lots -/
def rk (T : List Nat) : Int := cv 63 63 (T.map fun (n : Nat) => (n : Int))
/-- the rows are the lots with the excess A, in their order -/
structure GRows (es : Es) (gs : List Nat) (A : Nat) (rows : List (List Nat)) : Prop where
  mem : ∀ T, T ∈ rows ↔ GLot es gs A T
  srt : rows.Pairwise fun S T => rk S < rk T
theorem rk_uniq : ∀ {l m : List (List Nat)}, (l.Pairwise fun S T => rk S < rk T) → (m.Pairwise fun S T => rk S < rk T) → (∀ T, T ∈ l ↔ T ∈ m) → l = m
  | [], [], _, _, _ => rfl
  | [], b :: m, _, _, h => ((List.not_mem_nil ((h b).mpr List.mem_cons_self))).elim
  | a :: l, [], _, _, h => ((List.not_mem_nil ((h a).mp List.mem_cons_self))).elim
  | a :: l, b :: m, h1, h2, h => by
    obtain ⟨a1, a2⟩ := List.pairwise_cons.mp h1
    obtain ⟨b1, b2⟩ := List.pairwise_cons.mp h2
    have e : a = b := by
      rcases List.mem_cons.mp ((h a).mp List.mem_cons_self) with z | z
      · exact z
      · rcases List.mem_cons.mp ((h b).mpr List.mem_cons_self) with y | y
        · exact y.symm
        · have := b1 a z
          have := a1 b y
          omega
    subst e
    rw [rk_uniq a2 b2 fun T => ?_]
    constructor
    · intro z
      rcases List.mem_cons.mp ((h T).mp (List.mem_cons_of_mem _ z)) with y | y
      · subst y
        have := a1 _ z
        omega
      · exact y
    · intro z
      rcases List.mem_cons.mp ((h T).mpr (List.mem_cons_of_mem _ z)) with y | y
      · subst y
        have := b1 _ z
        omega
      · exact y
theorem GRows.uniq {es : Es} {gs : List Nat} {A : Nat} {r1 r2 : List (List Nat)} (h1 : GRows es gs A r1) (h2 : GRows es gs A r2) : r1 = r2 := rk_uniq h1.srt h2.srt fun T => by rw [h1.mem, h2.mem]

abbrev s_greatest_lots : Stmt := topS 34
abbrev sl_greatest_lots : List Str := ["chart", "core", "spots"]
theorem sc_greatest_lots : FnScope ["chart", "core", "spots"] ["chart"] (defScope s_greatest_lots) := ⟨rfl, rfl, rfl, by decide +kernel, rfl, by decide +kernel, by decide +kernel⟩
theorem co_places {sl s en ol il ul} : (coreF sl s en ol il ul).lookup ("places" : Str) = none := by
  unfold coreF
  simp only [lookup_putF]
  repeat rw [if_neg (by decide +kernel)]
  rfl
theorem refs_rel {K : PySem.W.Frag} {H : Hp} : ∀ {rows : List (List Nat)} {os : List (Option V)}, os.length = rows.length → (∀ (i : Nat) (o : Option V), os[i]? = some o → ∃ (r : List Nat) (t : Addr), rows[i]? = some r ∧ o = some (V.ref t) ∧ SqT K H t (r.map nV)) →
    ∃ L : List (Addr × List Int), os.filterMap id = L.map (fun p => V.ref p.1) ∧ L.map (fun p => p.2) = rows.map (fun r => r.map fun (n : Nat) => (n : Int)) ∧ ∀ p ∈ L, SqT K H p.1 (p.2.map V.int)
  | [], [], _, _ => ⟨[], rfl, rfl, fun p h => (List.not_mem_nil h).elim⟩
  | r :: rows, o :: os, hl, h => by
    obtain ⟨L, e1, e2, e3⟩ := refs_rel (K := K) (H := H) (rows := rows) (os := os) (by simpa using hl) fun i o' hi => by
      obtain ⟨r', t, h1, h2⟩ := h (i + 1) o' (by simpa using hi)
      exact ⟨r', t, by simpa using h1, h2⟩
    obtain ⟨r', t, h1, rfl, ht⟩ := h 0 o rfl
    cases h1
    refine ⟨(t, r.map fun (n : Nat) => (n : Int)) :: L, by rw [List.filterMap_cons_some (f := id) (b := V.ref t) rfl, List.map_cons, e1], by rw [List.map_cons, List.map_cons, e2], fun p hp => ?_⟩
    rcases List.mem_cons.mp hp with rfl | hp
    · show SqT K H t ((r.map fun (n : Nat) => (n : Int)).map V.int)
      rw [List.map_map]
      exact ht
    · exact e3 p hp
  | [], _ :: _, hl, _ => by cases hl
  | _ :: _, [], hl, _ => by cases hl
theorem plF_pw {cps : List Nat} (pw : cps.Pairwise (· < ·)) (S : Nat) : (plF cps S).Pairwise (· < ·) := by
  unfold plF
  refine List.Pairwise.filterMap _ (fun a b hab x hx y hy => ?_) (List.Pairwise.filter _ List.pairwise_lt_range)
  obtain ⟨h1, e1⟩ := List.getElem?_eq_some_iff.mp hx
  obtain ⟨h2, e2⟩ := List.getElem?_eq_some_iff.mp hy
  rw [← e1, ← e2]
  exact List.pairwise_iff_getElem.mp pw a b h1 h2 hab
theorem plF_inj {cps : List Nat} (nd : cps.Nodup) {S T : Nat} (hS : S < 2 ^ cps.length) (hT : T < 2 ^ cps.length) (e : plF cps S = plF cps T) : S = T := by
  refine Nat.eq_of_testBit_eq fun i => ?_
  have one : ∀ {A B : Nat}, A < 2 ^ cps.length → plF cps A = plF cps B → A.testBit i = true → B.testBit i = true := fun {A B} hA e h => by
    have hi : i < cps.length := by
      refine Nat.lt_of_not_le fun z => ?_
      have h1 := Nat.ge_two_pow_of_testBit h
      have : 2 ^ cps.length ≤ 2 ^ i := Nat.pow_le_pow_right (by decide) z
      omega
    have hm : cps[i] ∈ plF cps A := mem_plF.mpr ⟨i, h, List.getElem?_eq_getElem hi⟩
    rw [e] at hm
    obtain ⟨j, hj, ej⟩ := mem_plF.mp hm
    rw [nd_ix nd (List.getElem?_eq_getElem hi) ej]
    exact hj
  cases hs : S.testBit i with
  | true => exact (one hS e hs).symm
  | false =>
    cases ht : T.testBit i with
    | true =>
      have := one hT e.symm ht
      rw [hs] at this
      cases this
    | false => rfl
theorem int_back {r : List Nat} : (r.map fun (n : Nat) => (n : Int)).map Int.toNat = r := by
  rw [List.map_map]
  conv => rhs; rw [← List.map_id r]
  exact List.map_congr_left fun x _ => Int.toNat_natCast x
theorem bd_ints {r : List Nat} (h : ∀ x ∈ r, x < 63) : TS.Bd 63 (r.map fun (n : Nat) => (n : Int)) := fun m hm => by
  obtain ⟨x, hx, rfl⟩ := List.mem_map.mp hm
  have := h x hx
  omega
/-- lots sorted by their rank: strictly, where they are unlike -/
theorem srt_rows {rows : List (List Nat)} {L L' : List (Addr × List Int)} (nd : rows.Nodup) (small : ∀ r ∈ rows, r.length ≤ 63 ∧ ∀ x ∈ r, x < 63) (e2 : L.map (fun p => p.2) = rows.map (fun r => r.map fun (n : Nat) => (n : Int))) (pm : L'.Perm L) (pw : L'.Pairwise (fun q r => cv 63 63 q.2 ≤ cv 63 63 r.2)) :
    ∃ rows' : List (List Nat), rows'.Perm rows ∧ L'.map (fun p => p.2) = rows'.map (fun r => r.map fun (n : Nat) => (n : Int)) ∧ rows'.Pairwise fun S T => rk S < rk T := by
  have p2 : (L'.map fun p => p.2).Perm (rows.map fun r => r.map fun (n : Nat) => (n : Int)) := by rw [← e2]; exact pm.map _
  obtain ⟨rows', pr, er⟩ := perm_lift p2 rows rfl
  refine ⟨rows', pr, er.symm, ?_⟩
  have nd' : rows'.Nodup := pr.nodup_iff.mpr nd
  have pw2 : (L'.map fun p => p.2).Pairwise (fun q r => cv 63 63 q ≤ cv 63 63 r) := List.pairwise_map.mpr pw
  rw [← er] at pw2
  have pw3 := List.pairwise_map.mp pw2
  refine List.Pairwise.imp_of_mem (fun {S T} hS hT h => ?_) (pw3.and nd')
  obtain ⟨hle, hne⟩ := h
  have sS := small S (pr.mem_iff.mp hS)
  have sT := small T (pr.mem_iff.mp hT)
  have ne : rk S ≠ rk T := fun e => hne (by
    have := cv_inj (B := 63) (by decide) (L := 63) (by rw [List.length_map]; exact sS.1) (by rw [List.length_map]; exact sT.1) (bd_ints sS.2) (bd_ints sT.2) e
    rw [← int_back (r := S), this, int_back])
  have hle : rk S ≤ rk T := hle
  omega
theorem rowsAt_of {K : PySem.W.Frag} {H : Hp} : ∀ {L : List (Addr × List Int)} {rows : List (List Nat)}, L.map (fun p => p.2) = rows.map (fun r => r.map fun (n : Nat) => (n : Int)) → (∀ p ∈ L, SqT K H p.1 (p.2.map V.int)) → RowsAt K H (L.map fun p => V.ref p.1) rows
  | [], [], _, _ => ⟨rfl, fun i v l h => by simp at h⟩
  | p :: L, r :: rows, e, h => by
    rw [List.map_cons, List.map_cons] at e
    injection e with e1 e2
    have ih := rowsAt_of e2 fun q hq => h q (List.mem_cons_of_mem _ hq)
    refine ⟨by rw [List.map_cons, List.length_cons, List.length_cons, ih.len], fun i v l hv hl => ?_⟩
    cases i with
    | zero =>
      cases hv
      cases hl
      have := h p List.mem_cons_self
      rw [e1, List.map_map] at this
      exact ⟨p.1, rfl, this⟩
    | succ i => exact ih.at_ i v l hv hl
  | [], _ :: _, e, _ => by cases e
  | _ :: _, [], e, _ => by cases e
/-- all lots of places with the greatest excess, in their order -/
def spGLots (K : PySem.W.Frag) (C : Addr) : Sp := fun vs H Q _ => ∃ (p : Addr) (n : Nat) (a : Addr) (pvs : List V) (es : Es) (c : Addr) (gs : List Nat), vs = [.ref p] ∧ MapOk K C H p n a pvs es c gs ∧ GoodMap n es gs ∧ (∀ cps, Cps n es gs cps → cps.length ≤ 6) ∧
  ∀ (D : Addr) (zs : List V) (rows : List (List Nat)) (A : Nat) (H' : Hp), Same H H' → H D = none → H' D = some (.lst zs) → RowsAt K H' zs rows → IsLft es gs [] [0] A → GRows es gs A rows → Q (.ref D) H'
theorem ok_greatest_lots {CMap CCore : Addr} (B : Bt mg) (C_Core : ClsC K mg "Core" CCore ["spots", "size", "full", "ends", "outward", "inward", "sums"]) (h_Core_init : HasI P w K mg base CCore 4 ["self", "chart"] (spCoreInit K CMap CCore)) (h_greatest_sets : Has P w K mg base "_greatest_sets" 5 ["core"] (spGreatest K CCore))
    (h_Core_places : HasM P w K mg base CCore "places" 2 ["self", "spots"] (spPlaces K CCore)) (D0 : Df K mg "greatest_lots" s_greatest_lots ["chart"]) : Has P w K mg base "greatest_lots" 6 ["chart"] (spGLots K CMap) := by
  refine D0.has fun f fd F => F.ok sc_greatest_lots (fun vs H Q E h => ?_) (fun cdv A outer s H vs Q E hr h => ?_)
  · obtain ⟨p, n, a, pvs, es, c, gs, rfl, _⟩ := h
    rfl
  · obtain ⟨p, n, a, pvs, es, c, gs, rfl, m, gm, few, q⟩ := h
    refine ⟨_, (pss_cons (ps_set (i := 1) sc_greatest_lots.nd rfl (.inr rfl) (pe_make h_Core_init.m h_Core_init.F (hr.mono (by decide)) (by rfl) C_Core.mg h_Core_init.b .nil pass0 (pa_cons (pv 0) pa_nil)))
  (pss_one (ps_ret (pe_callB (k_sortedV (K := K) rfl) (by rfl) B.sorted bo_sorted (pa_cons (pe_lc (own := [("spots", 2)]) (g := gName 2) rfl sc_greatest_lots.nd (k_pil (K := K) rfl (pcall h_greatest_sets hr (by decide) (by rfl) (pa_cons (pv 1) pa_nil))) (blkOk_by (N := sl_greatest_lots) (sc := defScope s_greatest_lots) (by decide +kernel)) (fun _ _ _ _ _ => (pg_name (i := 2) sc_greatest_lots.nd rfl (.inl rfl))) (fun _ _ _ _ _ => pts_nil) (fun _ _ _ _ _ => (pe_meth (pv 1) C_Core.cl h_Core_places.mt h_Core_places.F (hr.mono (by decide)) h_Core_places.b .nil pass0 (pa_cons (pv 2) pa_nil)))) pa_nil))))), ?_⟩
    refine ⟨_, rfl, ?_⟩
    intro x dx nx ndx nex
    have s1 : Same H (upd (upd H dx (.own x)) x (.ins CCore dx [])) := fun b o e => by
      rw [upd_ne (ne_of_none e nx), upd_ne (ne_of_none e ndx)]
      exact e
    refine ⟨x, dx, p, n, a, pvs, es, c, gs, rfl, upd_same, m.same s1, gm, (fun cps h => Nat.le_trans (few cps h) (by decide)), fun cps en om im H2 fx hC hc => ⟨rfl, ?_⟩⟩
    have s2 : Same H H2 := fun b o e => fx.keep b o (ne_of_none e nx) (s1 b o e)
    have h6 := few cps hC
    have p64 : 2 ^ cps.length ≤ 64 := Nat.le_trans (Nat.pow_le_pow_right (by decide) h6) (by decide)
    refine ⟨_, rfl, x, es, gs, cps, en, om, im, rfl, hc, gm.ne, fun fo X => (X.lft hc.cor gm hC).1, fun D Ss A0 H3 s3 nD hD G => ⟨D, rfl, ⟨_, sql hD⟩, fun D1 nD1 => ?_⟩⟩
    obtain ⟨Sne, Snd, fo, X, top, mem⟩ := G
    have vld : ∀ S ∈ Ss, Vld cps en S := fun S hS => (X.ok S _ ((mem S).mp hS)).1
    have Sl : Ss.length ≤ 63 := by
      have : (0 :: Ss).Nodup := List.nodup_cons.mpr ⟨fun z => by
        have := (vld 0 z).b0
        simp at this, Snd⟩
      have := this.length_le_of_subset (l₂ := List.range 64) fun S hS => by
        rcases List.mem_cons.mp hS with rfl | hS
        · simp
        · exact List.mem_range.mpr (Nat.lt_of_lt_of_le (vld S hS).lt p64)
      rw [List.length_cons, List.length_range] at this
      omega
    refine lc_rel walk_list calm_at (fun i H' o => ∃ (r : List Nat) (t : Addr), (Ss.map (plF cps))[i]? = some r ∧ o = some (V.ref t) ∧ SqT K H' t (r.map nV)) (fun i o H' H'' acc hacc ⟨r, t, h1, h2, h3⟩ k => ⟨r, t, h1, h2, ?_⟩) (by rw [List.length_map]; omega) nD1 (fun H4 s4 => sql (s4 _ _ hD)) ?_ ?_
    · rcases h3 with (h3 | ⟨z, h3⟩) | h3
      · exact .inl (.inl (k _ _ (ne_of h3 hacc (by intro z; cases z)) h3))
      · exact .inl (.inr ⟨z, k _ _ (ne_of h3 hacc (by intro z; cases z)) h3⟩)
      · exact .inr h3
    · rintro i v H4 H5 hi s4 ⟨rfl, hv⟩ Kt kt
      obtain ⟨S, hSi, rfl⟩ := getmap hv
      refine ⟨rfl, tyes ?_⟩
      refine iteT ?_
      have hc4 := (hc.same s3).same s4
      obtain ⟨dx4, sl, ol, il, ul, us, hx4, _⟩ := hc4.ob
      refine ⟨_, rfl, x, dx4, _, rfl, hx4, co_places, _, rfl, x, es, gs, cps, en, om, im, S, rfl, hc4, (vld S (List.mem_of_getElem? hSi)).lt, fun y H6 s6 ny hy => ?_⟩
      exact kt _ H6 s6 ⟨plF cps S, y, by rw [List.getElem?_map, hSi]; rfl, rfl, sqt hy⟩
    rintro H4 os s4 hol hos hD4
    obtain ⟨L, eL, e2, hL⟩ := refs_rel (rows := Ss.map (plF cps)) (os := os) (by rw [hol, List.length_map, List.length_map]) hos
    have rnd : (Ss.map (plF cps)).Nodup := by
      refine List.pairwise_map.mpr (List.Pairwise.imp_of_mem (fun {S T} hS hT h e => h ?_) Snd)
      exact plF_inj hc.cor.nd (vld S hS).lt (vld T hT).lt e
    have rsm : ∀ r ∈ Ss.map (plF cps), r.length ≤ 63 ∧ ∀ z ∈ r, z < 63 := fun r hr => by
      obtain ⟨S, hS, rfl⟩ := List.mem_map.mp hr
      have lt : ∀ z ∈ plF cps S, z < n := fun z hz => by
        obtain ⟨i, _, hi⟩ := mem_plF.mp hz
        exact ((hC.mem z).mp (List.mem_of_getElem? hi)).1
      have := pw_len (plF_pw hC.pw S) (l := 0) fun z hz => ⟨Nat.zero_le _, lt z hz⟩
      have gn := gm.n40
      exact ⟨by omega, fun z hz => by have := lt z hz; omega⟩
    have r0 : ∀ r ∈ Ss.map (plF cps), 1 ≤ r.length := fun r hr => by
      obtain ⟨S, hS, rfl⟩ := List.mem_map.mp hr
      have : 0 ∈ plF cps S := mem_plF.mpr ⟨0, (vld S hS).b0, hc.cor.zero⟩
      exact List.length_pos_of_mem this
    have Ll : L.length = Ss.length := by
      have := congrArg List.length e2
      rwa [List.length_map, List.length_map, List.length_map] at this
    refine ⟨D1, L, 63, 63, rfl, by rw [← eL]; exact sql hD4, by decide, by omega, fun p' hp' => ?_, fun L' Dr pm pw nDr => ?_⟩
    · have hm : p'.2 ∈ L.map (fun p => p.2) := List.mem_map.mpr ⟨p', hp', rfl⟩
      rw [e2] at hm
      obtain ⟨r, hr, er⟩ := List.mem_map.mp hm
      have sm := rsm r hr
      refine ⟨hL p' hp', ?_, ?_, ?_⟩
      · rw [← er, List.length_map]; exact r0 r hr
      · rw [← er, List.length_map]; exact sm.1
      · rw [← er]; exact bd_ints sm.2
    obtain ⟨rows', pr, er, srt⟩ := srt_rows rnd rsm e2 pm pw
    have s5 := same_new (o := .lst (L'.map fun q => V.ref q.1)) (Same.refl H4) nDr
    obtain ⟨x1, x2, x3⟩ := X.lft hc.cor gm hC
    have good : ∀ T, T ∈ Ss.map (plF cps) ↔ GLot es gs A0 T := fun T => by
      constructor
      · intro hT
        obtain ⟨S, hS, rfl⟩ := List.mem_map.mp hT
        obtain ⟨V0, m1, o1, r1, eA, _⟩ := X.ok S _ ((mem S).mp hS)
        have eA := nV_inj' eA
        refine ⟨plF_pw hC.pw S, plO cps o1, by rw [eA]; exact r1.part hc.cor V0, fun v => ?_⟩
        rw [← (r1.ch hc.cor V0.lt).2 v]
        simp [or_comm]
      · rintro ⟨pw', o, p, hm⟩
        obtain ⟨S, o', V0, r, e⟩ := p.spots hc.cor (fun e he => ⟨(gm.ok e he).1, (gm.ok e he).2.1⟩) hC fun g hg => (gm.gl g hg).2
        cases h : getG fo S with
        | none => exact absurd h (X.all S _ o' V0 r)
        | some y =>
          obtain ⟨_, m1, o1, r1, rfl, top1⟩ := X.ok S y h
          have t1 := top1 _ _ r
          have t2 := r1.len r
          have t3 := top S _ h
          have eq : m1 - o1.length = A0 := by omega
          rw [eq] at h
          refine List.mem_map.mpr ⟨S, (mem S).mpr h, lot_eq (plF_pw hC.pw S) pw' fun v => ?_⟩
          rw [hm, ← (r.ch hc.cor V0.lt).2 v, e]
          simp [or_comm]
    refine q Dr _ rows' A0 _ (((s2.trans s3).trans s4).trans s5) (Same.free ((s2.trans s3).trans s4) nDr) upd_same ((rowsAt_of er fun p hp => hL p (pm.mem_iff.mp hp)).mono fun a xs h => Same.sqt s5 h) ?_ ⟨fun T => by rw [pr.mem_iff, good], srt⟩
    obtain ⟨S, hS⟩ := List.exists_mem_of_ne_nil Ss Sne
    refine ⟨?_, fun o m' p => ?_⟩
    · obtain ⟨A', e, ps, hp⟩ := x2 S _ ((mem S).mp hS)
      rw [nV_inj' e]
      exact ⟨ps, hp⟩
    · obtain ⟨S', A', h1, h2⟩ := x3 o m' p
      have := top S' A' h1
      omega

abbrev s__law_is_turned_twice : Stmt := topS 49
abbrev sl__law_is_turned_twice : List Str := ["_law_hand_here", "_law_many", "_law_arrows", "_law_goals", "_law_chart", "_law_number", "_law_found", "_law_tail_here", "_law_head"]
theorem sc__law_is_turned_twice : FnScope ["_law_hand_here", "_law_many", "_law_arrows", "_law_goals", "_law_chart", "_law_number", "_law_found", "_law_tail_here", "_law_head"] ["_law_hand_here"] (defScope s__law_is_turned_twice) := ⟨rfl, rfl, rfl, by decide +kernel, rfl, by decide +kernel, by decide +kernel⟩
theorem sl_cut {K : PySem.W.Frag} {H : Hp} {a : Addr} {xs : List V} {lo hi : Option Int} {Q : VK} (h : SqT K H a xs) (q : ∀ d H', Same H H' → SqT K H' d (cutV xs lo hi) → Q (.ref d) H') : rSlA K (.ref a) lo hi H Q :=
  ⟨a, xs, rfl, h, fun e => q _ H (Same.refl H) (by unfold cutV; rw [e.1, e.2, List.drop_zero, Nat.sub_zero, List.take_length]; exact h), fun _ p np => q _ _ (same_new (Same.refl H) np) (sqt upd_same)⟩
theorem cut_one33 {g0 : List Nat} {g : Nat} : cutV ((g0 ++ [g]).map nV) (some (-1)) none = ([g] : List Nat).map nV := by
  have := cut_end (xs := (g0 ++ [g]).map nV) (j := 1) (by decide)
  rw [show (-((1 : Nat) : Int)) = -1 from rfl] at this
  rw [this, List.map_append, List.length_append]
  simp
theorem GoodMap.one {n : Nat} {es : Es} {gs : List Nat} {g : Nat} (m : GoodMap n es gs) (h : g ∈ gs) : GoodMap n es [g] where
  n2 := m.n2
  n40 := m.n40
  l60 := m.l60
  ok := m.ok
  ne := by simp
  pw := by simp
  gl := fun x hx => by rw [List.mem_singleton.mp hx]; exact m.gl g h
  rch := fun x hx => by rw [List.mem_singleton.mp hx]; exact m.rch g h
def spTwice (K : PySem.W.Frag) : Sp := fun vs H Q _ => ∃ (h : Addr) (F : Hp), vs = [.ref h] ∧ Same F H ∧ HandAt F H h ∧ ∀ H', Dr F H H' h → Q (.bl true) H'
theorem ok__law_is_turned_twice {CMap : Addr} (B : Bt mg) (C : MapC K mg CMap) (N_Map : NeC K CMap) (h_init : HasI P w K mg base CMap 5 ["self", "many", "arrows", "goals"] (spMapInit K CMap)) (h_law_parts : Has P w K mg base "_law_parts" 4 ["_law_hand_here", "_law_places", "_law_arrows"] (spParts K))
    (h_turned : Has P w K mg base "turned" 8 ["chart"] (spTurned K CMap)) (h_Map___eq__ : HasM P w K mg base CMap "__eq__" 1 ["self", "other"] (spEq (RMap K CMap))) (D0 : Df K mg "_law_is_turned_twice" s__law_is_turned_twice ["_law_hand_here"]) : Has P w K mg base "_law_is_turned_twice" 9 ["_law_hand_here"] (spTwice K) := by
  refine D0.has fun f fd F => F.ok sc__law_is_turned_twice (fun vs H Q E h => ?_) (fun cdv A outer s H vs Q E hr h => ?_)
  · obtain ⟨h, F, rfl, _⟩ := h
    rfl
  · obtain ⟨h, F0, rfl, hF, hA, q⟩ := h
    refine ⟨_, (pss_cons (ps_asg (pcall h_law_parts hr (by decide) (by rfl) (pa_cons (pv 0) (pa_cons pe_int (pa_cons pe_int pa_nil)))) (pg_tup rfl (pgs_cons (pg_name (i := 1) sc__law_is_turned_twice.nd rfl (.inl rfl)) (pgs_cons (pg_name (i := 2) sc__law_is_turned_twice.nd rfl (.inl rfl)) (pgs_cons (pg_name (i := 3) sc__law_is_turned_twice.nd rfl (.inl rfl)) pgs_nil)))))
  (pss_cons (ps_set (i := 4) sc__law_is_turned_twice.nd rfl (.inl rfl) (pe_make h_init.m h_init.F (hr.mono (by decide)) (by rfl) C.mgMap h_init.b .nil pass0 (pa_cons (pv 1) (pa_cons (pv 2) (pa_cons (pe_slice (k_slt (K := K) rfl) (pv 3) (po_some (pe_un un_neg pe_int)) po_none) pa_nil)))))
  (pss_cons (ps_set (i := 5) sc__law_is_turned_twice.nd rfl (.inr rfl) (pe_listRg rfl (by rfl) B.list (prg_1 (by rfl) B.range (pv 1))))
  (pss_cons (ps_asg (pe_ix (k_ixt (K := K) rfl) (pv 3) (pe_un un_neg pe_int) (fun _ _ => rfl)) (pg_sub (pv 5) pe_int set_list))
  (pss_cons (ps_asg pe_int (pg_sub (pv 5) (pe_ix (k_ixt (K := K) rfl) (pv 3) (pe_un un_neg pe_int) (fun _ _ => rfl)) set_list))
  (pss_cons (ps_set (i := 6) sc__law_is_turned_twice.nd rfl (.inl rfl) (pcall h_turned hr (by decide) (by rfl) (pa_cons (pv 4) pa_nil)))
  (pss_cons (ps_if (pt_cmpR (k_neM h_Map___eq__ N_Map hr (by decide)) (pv 6) (pe_make h_init.m h_init.F (hr.mono (by decide)) (by rfl) C.mgMap h_init.b .nil pass0 (pa_cons (pv 1) (pa_cons (pe_callTy (k_tuple (K := K) rfl) (by rfl) B.tuple bo_tuple (pa_cons (pe_lc (own := [("_law_tail_here", 7), ("_law_head", 8)]) (g := gTup K 2 (gCons (gName 7) (gCons (gName 8) gNil))) rfl sc__law_is_turned_twice.nd (k_pit (K := K) rfl (pv 2)) (blkOk_by (N := sl__law_is_turned_twice) (sc := defScope s__law_is_turned_twice) (by decide +kernel)) (fun _ _ _ _ _ => (pg_tup rfl (pgs_cons (pg_name (i := 7) sc__law_is_turned_twice.nd rfl (.inl rfl)) (pgs_cons (pg_name (i := 8) sc__law_is_turned_twice.nd rfl (.inl rfl)) pgs_nil)))) (fun _ _ _ _ _ => pts_nil) (fun _ _ _ _ _ => (pe_tup (pa_cons (pe_ix (k_ixl (K := K) rfl) (pv 5) (pv 8) (fun _ _ => rfl)) (pa_cons (pe_ix (k_ixl (K := K) rfl) (pv 5) (pv 7) (fun _ _ => rfl)) pa_nil))))) pa_nil)) (pa_cons (pe_slice (k_slt (K := K) rfl) (pv 3) (po_some (pe_un un_neg pe_int)) po_none) pa_nil)))) (nomark _))
    (pss_one (ps_ret pe_bl))
    pss_nil)
  (pss_one (ps_ret (pe_and (pe_cmpR (k_eqM h_Map___eq__ hr (by decide)) (pcall h_turned hr (by decide) (by rfl) (pa_cons (pv 6) pa_nil)) (pv 4) (nomark _)) (pe_one (pe_cmpR (k_eqM h_Map___eq__ hr (by decide)) (pv 4) (pe_make h_init.m h_init.F (hr.mono (by decide)) (by rfl) C.mgMap h_init.b .nil pass0 (pa_cons (pv 1) (pa_cons (pv 2) (pa_cons (pe_slice (k_slt (K := K) rfl) (pv 3) (po_some (pe_un un_neg pe_int)) po_none) pa_nil)))) (nomark _))))))))))))), ?_⟩
    refine ⟨_, rfl, h, 40, 60, F0, rfl, by decide, by decide, by decide, hF, hA, fun pt n a c pvs es gs H3 _ _ d3 hpt0 => ?_⟩
    have hpt : PtsAt K H3 pt n a pvs es c gs := hpt0.same d3.hvG.sub'
    have hl := hpt.pr.len
    have gn40 := hpt.gm.n40
    have gn2 := hpt.gm.n2
    refine ⟨pt, _, rfl, hpt.tp, rfl, _, _, rfl, _, _, rfl, _, _, rfl, rfl, ?_⟩
    obtain ⟨g0, g, eg⟩ : ∃ g0 g, gs = g0 ++ [g] := by
      rcases List.eq_nil_or_concat gs with e | ⟨g0, g, e⟩
      · exact absurd e hpt.gm.ne
      · exact ⟨g0, g, by rw [e, List.concat_eq_append]⟩
    have gin : g ∈ gs := by rw [eg]; exact List.mem_append_right _ List.mem_cons_self
    have gm1 := hpt.gm.one gin
    have gz := (hpt.gm.gl g gin).1
    have gn := (hpt.gm.gl g gin).2
    -- the map
    refine ⟨_, rfl, _, rfl, _, rfl, 1, rfl, _, rfl, ?_⟩
    unfold tNoPart
    dsimp only
    refine sl_cut hpt.go fun c1 H4 s34 hc1 => ?_
    have hc1 : SqT K H4 c1 (([g] : List Nat).map nV) := by rw [eg, cut_one33] at hc1; exact hc1
    intro p dx np ndx nedx
    have s5 : Same H4 (upd (upd H4 dx (.own p)) p (.ins CMap dx [])) := fun b o e => by
      rw [upd_ne (ne_of_none e np), upd_ne (ne_of_none e ndx)]
      exact e
    have hpt4 := hpt.same s34
    refine ⟨p, dx, n, a, pvs, es, c1, [g], rfl, upd_same, Same.sqt s5 hpt4.ar, hpt4.pr.same s5, Same.sqt s5 hc1, gm1, fun H5 mp keep => ⟨rfl, ?_⟩⟩
    have s45 : Same H4 H5 := fun b o e => keep b o (ne_of_none e np) (s5 b o e)
    have hpt5 := hpt4.same s45
    have m5 := MapOk.of mp (hpt4.pr.same s45) gm1
    -- the numbers
    refine ⟨_, rfl, (n : Int), rfl, ⟨by omega, by omega, by omega, by omega, by omega⟩, fun r nr => ?_⟩
    have hr1 : (upd H5 r (.lst (rgV 0 (n : Int)))) r = some (.lst (rgV 0 (n : Int))) := upd_same
    have s6 := same_new (o := .lst (rgV 0 (n : Int))) (Same.refl H5) nr
    have glast : ∀ H', SqT K H' c (gs.map nV) → atI (gs.map nV) (-1) = some (nV g) := fun _ _ => by
      rw [eg, List.map_append]
      exact atI_last _ _
    rw [rgV0] at *
    refine ⟨_, rfl, 1, rfl, c, _, (-1 : Int), nV g, rfl, rfl, Same.sqt s6 hpt5.go, glast _ (Same.sqt s6 hpt5.go), _, rfl, r, _, ((0 : Nat) : Int), 0, rfl, rfl, upd_same, ixN_nat (by rw [List.length_map, List.length_range]; omega), ?_⟩
    rw [upd_upd]
    have s7 := same_new (o := .lst (((List.range n).map nV).set 0 (nV g))) (Same.refl H5) nr
    refine ⟨_, rfl, _, rfl, 1, rfl, c, _, (-1 : Int), nV g, rfl, rfl, Same.sqt s7 hpt5.go, glast _ (Same.sqt s7 hpt5.go), r, _, (g : Int), g, rfl, rfl, upd_same, ixN_nat (by rw [List.length_set, List.length_map, List.length_range]; exact gn), ?_⟩
    rw [upd_upd]
    rw [swq_row gn]
    have s1 := same_new (o := .lst ((List.range n).map fun v => nV (swq g v))) (Same.refl H5) nr
    generalize hH1 : upd H5 r (.lst ((List.range n).map fun v => nV (swq g v))) = H6 at s1
    have hr' : H6 r = some (.lst ((List.range n).map fun v => nV (swq g v))) := by rw [← hH1]; exact upd_same
    have m6 := m5.same s1
    have hpt6 := hpt5.same s1
    have s36 := (s34.trans s45).trans s1
    -- turned
    refine ⟨_, rfl, p, n, a, pvs, es, c1, g, rfl, m6, fun p2 a2 c2 pvs2 H7 s67 m7 => ?_⟩
    have hpt7 := hpt6.same s67
    have hr7 := s67 _ _ hr'
    -- as it is due
    refine ⟨_, rfl, _, rfl, _, rfl, a, rfl, ⟨_, hpt7.ar⟩, fun D nD => ?_⟩
    have hl7 := hpt7.pr.len
    refine lc_rel walk_tup calm_at (RelN H7 (trn g) es) RelN.stay (by have := hpt.gm.l60; omega) nD (fun H8 s8 => Same.sqt s8 hpt7.ar) ?_ fun H8 os s8 hol hos hD8 => ?_
    · rintro i v H8 H9 hi s8 ⟨rfl, hv⟩ Kt kt
      obtain ⟨e, hei, tt, rfl, ht⟩ := hpt7.pr.get hv
      obtain ⟨e1, e2⟩ := e
      obtain ⟨h1, h2, _⟩ := hpt.gm.ok _ (List.mem_of_getElem? hei)
      have hr8 := s8 _ _ hr7
      have at1 : ∀ {v : Nat}, v < n → ((List.range n).map fun v => nV (swq g v))[v]? = some (nV (swq g v)) := fun {v} hv => by rw [List.getElem?_map, List.getElem?_range hv]; rfl
      refine ⟨tt, _, rfl, Same.sqt s8 ht, rfl, _, _, rfl, _, _, rfl, rfl, rfl, tyes ?_⟩
      refine iteT ?_
      refine ⟨_, rfl, _, rfl, r, _, (e2 : Int), nV (swq g e2), rfl, rfl, sql hr8, atI_nat (at1 h2), _, rfl, _, rfl, r, _, (e1 : Int), nV (swq g e1), rfl, rfl, sql hr8, atI_nat (at1 h1), by show 2 ≤ sizeLine; decide, fun t2 nt2 => ?_⟩
      refine kt _ _ (same_new (Same.refl _) nt2) ⟨(e1, e2), _, hei, rfl, t2, rfl, upd_same, ?_⟩
      exact Same.free s8 nt2
    obtain ⟨hvl, hva⟩ := relN_vals (hol.trans hl7) hos
    generalize os.filterMap id = pvs3 at hD8 hvl hva
    refine ⟨D, _, rfl, .inl ⟨sql hD8, fun ar nar => ?_⟩⟩
    have s89 := same_new (o := .tup pvs3) (Same.refl H8) nar
    have har9 : (upd H8 ar (.tup pvs3)) ar = some (.tup pvs3) := upd_same
    have s79 := s8.trans s89
    generalize upd H8 ar (.tup pvs3) = H9 at s89 har9 s79
    have hpt9 := hpt7.same s79
    have pr3 : Prs K H9 pvs3 (es.map (trn g)) := ⟨by rw [List.length_map, hvl], fun i v e hv he => by
      rw [List.getElem?_map] at he
      cases he0 : es[i]? with
      | none => rw [he0] at he; cases he
      | some e0 =>
        rw [he0] at he
        cases he
        obtain ⟨tt, rfl, ht, hn⟩ := hva i v e0 hv he0
        exact ⟨tt, rfl, sqt (s89 _ _ ht)⟩⟩
    refine ⟨_, rfl, 1, rfl, _, rfl, ?_⟩
    dsimp only
    refine sl_cut hpt9.go fun c3 H10 s10 hc3 => ?_
    have hc3 : SqT K H10 c3 (([g] : List Nat).map nV) := by rw [eg, cut_one33] at hc3; exact hc3
    intro p3 dx3 np3 ndx3 nedx3
    have s11 : Same H10 (upd (upd H10 dx3 (.own p3)) p3 (.ins CMap dx3 [])) := fun b o e => by
      rw [upd_ne (ne_of_none e np3), upd_ne (ne_of_none e ndx3)]
      exact e
    refine ⟨p3, dx3, n, ar, pvs3, es.map (trn g), c3, [g], rfl, upd_same, Same.sqt (s10.trans s11) (sqt har9), pr3.same (s10.trans s11), Same.sqt s11 hc3, gm1.trn, fun H12 mp3 keep3 => ⟨rfl, ?_⟩⟩
    have s1012 : Same H10 H12 := fun b o e => keep3 b o (ne_of_none e np3) (s11 b o e)
    have s912 := s10.trans s1012
    have m12 := MapOk.of mp3 (pr3.same s912) gm1.trn
    have m7' := m7.same (s79.trans s912)
    refine ⟨RMap.d m7' m12, fun H13 s13 => ⟨_, rfl, iteF ?_⟩⟩
    -- turned once more
    have s713 := (s79.trans s912).trans s13
    have m13 := m7.same s713
    refine ⟨_, rfl, p2, n, a2, pvs2, es.map (trn g), c2, g, rfl, m13, fun p4 a4 c4 pvs4 H14 s14 m14 => ?_⟩
    rw [map_trn_trn] at m14
    have s614 := (s67.trans s713).trans s14
    refine ⟨_, rfl, RMap.d m14 (m6.same s614), fun H15 s15 => ⟨_, rfl, iteT ?_⟩⟩
    have s615 := s614.trans s15
    have hpt15 := hpt6.same s615
    refine ⟨_, rfl, _, rfl, _, rfl, _, rfl, 1, rfl, _, rfl, ?_⟩
    dsimp only
    refine sl_cut hpt15.go fun c5 H16 s16 hc5 => ?_
    have hc5 : SqT K H16 c5 (([g] : List Nat).map nV) := by rw [eg, cut_one33] at hc5; exact hc5
    have hpt16 := hpt15.same s16
    intro p5 dx5 np5 ndx5 nedx5
    have s17 : Same H16 (upd (upd H16 dx5 (.own p5)) p5 (.ins CMap dx5 [])) := fun b o e => by
      rw [upd_ne (ne_of_none e np5), upd_ne (ne_of_none e ndx5)]
      exact e
    refine ⟨p5, dx5, n, a, pvs, es, c5, [g], rfl, upd_same, Same.sqt s17 hpt16.ar, hpt16.pr.same s17, Same.sqt s17 hc5, gm1, fun H18 mp5 keep5 => ⟨rfl, ?_⟩⟩
    have s1618 : Same H16 H18 := fun b o e => keep5 b o (ne_of_none e np5) (s17 b o e)
    have m18 := MapOk.of mp5 (hpt16.pr.same s1618) gm1
    have s618 := s615.trans (s16.trans s1618)
    refine ⟨RMap.d (m6.same s618) m18, fun H19 s19 => ?_⟩
    exact q H19 (d3.trans (Dr.of_same d3.hand d3.sub (s36.trans (s618.trans s19))))

abbrev s__law_lots : Stmt := topS 47
abbrev sl__law_lots : List Str := ["_law_parts_here", "_law_found", "_law_row", "_law_excess", "_law_lot", "_law_most", "_law_goal"]
theorem sc__law_lots : FnScope ["_law_parts_here", "_law_found", "_law_row", "_law_excess", "_law_lot", "_law_most", "_law_goal"] ["_law_parts_here"] (defScope s__law_lots) := ⟨rfl, rfl, rfl, by decide +kernel, rfl, by decide +kernel, by decide +kernel⟩
def kT (T : List Nat) : List Key := T.map fun (n : Nat) => (Sum.inl (n : Int) : Key)
theorem kT_v (T : List Nat) : (kT T).map kV = T.map nV := by
  unfold kT
  rw [List.map_map]
  rfl
theorem kT_inj {S T : List Nat} (h : kT S = kT T) : S = T :=
  (List.map_inj_right fun x y z => by
    have z' : (Sum.inl (x : Int) : Key) = Sum.inl (y : Int) := z
    injection z' with z'
    omega).mp h
theorem val_at {κ : Type} [DecidableEq κ] : ∀ {kvs : List (κ × V)} {k : κ} {v : V}, (kvs.map (·.1)).Nodup → (k, v) ∈ kvs → valV kvs k = some v
  | p :: r, k, v, nd, h => by
    rw [List.map_cons, List.nodup_cons] at nd
    rcases List.mem_cons.mp h with e | h
    · rw [← e]
      exact valV_pos rfl
    · rw [valV_neg fun z => nd.1 (by rw [z]; exact List.mem_map.mpr ⟨_, h, rfl⟩)]
      exact val_at nd.2 h
theorem val_mem {κ : Type} [DecidableEq κ] {kvs : List (κ × V)} {k : κ} {v : V} (h : valV kvs k = some v) : (k, v) ∈ kvs := by
  unfold valV at h
  obtain ⟨p, hp, e⟩ := Option.map_eq_some_iff.mp h
  have h1 := List.find?_some hp
  have h2 := List.mem_of_find?_eq_some hp
  rw [← of_decide_eq_true h1, ← e]
  exact h2
theorem put_keys {κ : Type} [DecidableEq κ] {kvs : List (κ × V)} {k : κ} {v : V} : (putK kvs k v).map (·.1) = if k ∈ kvs.map (·.1) then kvs.map (·.1) else kvs.map (·.1) ++ [k] := by
  unfold putK
  by_cases h : (kvs.any fun kv => decide (kv.1 = k)) = true
  · have hm : k ∈ kvs.map (·.1) := by
      obtain ⟨p, hp, e⟩ := List.any_eq_true.mp h
      exact List.mem_map.mpr ⟨p, hp, of_decide_eq_true e⟩
    rw [if_pos h, if_pos hm, List.map_map]
    refine List.map_congr_left fun p _ => ?_
    show (if p.1 = k then (p.1, v) else p).1 = p.1
    split <;> rfl
  · have hm : ¬ k ∈ kvs.map (·.1) := fun z => h (by
      obtain ⟨p, hp, e⟩ := List.mem_map.mp z
      exact List.any_eq_true.mpr ⟨p, hp, decide_eq_true e⟩)
    rw [if_neg h, if_neg hm, List.map_append]
    rfl
theorem cat_zero2 {K : PySem.W.Frag} {H : Hp} {a b : Addr} {ls : List Nat} {Q : VK} (ha : H a = some (.tup [V.int 0])) (hb : SqT K H b (ls.map nV)) (hl : ls.length ≤ 1000) (h : ∀ d H', Same H H' → H' d = some (.tup ((0 :: ls).map nV)) → Q (.ref d) H') : rCatA K (.ref a) (.ref b) H Q := by
  refine ⟨a, b, _, _, rfl, rfl, sqt ha, hb, small_sz (by rw [List.length_map]; show 1 + ls.length ≤ 100000; omega), fun e => absurd e (by simp), fun _ e => ?_, fun _ _ p np => ?_⟩
  · have e2 : ls = [] := List.map_eq_nil_iff.mp e
    refine h a H (Same.refl H) ?_
    rw [e2]
    exact ha
  · exact h p _ (same_new (Same.refl H) np) (by rw [upd_same]; rfl)
/-- what stands in the dict behind some rows -/
structure FndK (es : Es) (gs : List Nat) (rows : List (List Nat)) (kvs : List (List Key × V)) : Prop where
  nd : (kvs.map (·.1)).Nodup
  val : ∀ k v, valV kvs k = some v → ∃ T A o, k = kT T ∧ v = nV A ∧ PO es gs [] [0] o A ∧ T.Pairwise (· < ·) ∧ ∀ x, x ∈ T ↔ x ∈ 0 :: o
  top : ∀ l ∈ rows, ∀ m, PO es gs [] [0] l m → ∀ T : List Nat, T.Pairwise (· < ·) → (∀ x, x ∈ T ↔ x ∈ 0 :: l) → ∃ M, valV kvs (kT T) = some (nV M) ∧ m ≤ M
theorem FndK.put {es : Es} {gs : List Nat} {rows : List (List Nat)} {kvs : List (List Key × V)} {l T : List Nat} {m : Nat} (f : FndK es gs rows kvs) (po : PO es gs [] [0] l m) (one : ∀ m', PO es gs [] [0] l m' → m' = m) (pw : T.Pairwise (· < ·)) (mem : ∀ x, x ∈ T ↔ x ∈ 0 :: l)
    (hm : ∀ M, valV kvs (kT T) = some (nV M) → M ≤ m) : FndK es gs (rows ++ [l]) (putK kvs (kT T) (nV m)) where
  nd := by
    rw [put_keys]
    split
    · exact f.nd
    · rename_i h
      exact List.nodup_append.mpr ⟨f.nd, by simp, fun a ha b hb e => h (by rw [← List.mem_singleton.mp hb, ← e]; exact ha)⟩
  val := fun k v h => by
    rw [valV_put] at h
    split at h
    · rename_i e
      cases h
      exact ⟨T, m, l, e, rfl, po, pw, mem⟩
    · exact f.val k v h
  top := fun l' hl' m' hp T' pw' mem' => by
    rw [valV_put]
    by_cases e : kT T' = kT T
    · rw [if_pos e]
      refine ⟨m, rfl, ?_⟩
      rcases List.mem_append.mp hl' with hl' | hl'
      · obtain ⟨M, h1, h2⟩ := f.top l' hl' m' hp T' pw' mem'
        rw [e] at h1
        have := hm M h1
        omega
      · rw [List.mem_singleton.mp hl'] at hp
        exact Nat.le_of_eq (one m' hp)
    · rw [if_neg e]
      rcases List.mem_append.mp hl' with hl' | hl'
      · exact f.top l' hl' m' hp T' pw' mem'
      · refine absurd ?_ e
        rw [List.mem_singleton.mp hl'] at mem'
        rw [lot_eq pw' pw fun x => by rw [mem, mem']]
theorem FndK.skip {es : Es} {gs : List Nat} {rows : List (List Nat)} {kvs : List (List Key × V)} {l : List Nat} (f : FndK es gs rows kvs) (h : ∀ m, PO es gs [] [0] l m → ∀ T : List Nat, T.Pairwise (· < ·) → (∀ x, x ∈ T ↔ x ∈ 0 :: l) → ∃ M, valV kvs (kT T) = some (nV M) ∧ m ≤ M) : FndK es gs (rows ++ [l]) kvs :=
  ⟨f.nd, f.val, fun l' hl' m hp T pw mem => by
    rcases List.mem_append.mp hl' with hl' | hl'
    · exact f.top l' hl' m hp T pw mem
    · rw [List.mem_singleton.mp hl'] at hp mem
      exact h m hp T pw mem⟩
theorem PO.lt_all33 {n : Nat} {es : Es} {gs B R o : List Nat} {m : Nat} (h : PO es gs B R o m) (ok : ∀ e ∈ es, e.2 < n) : ∀ v ∈ o, v < n := by
  induction h with
  | nil => exact fun v hv => (List.not_mem_nil hv).elim
  | cons h1 h2 h3 h4 h5 ih =>
    intro v hv
    rcases List.mem_cons.mp hv with rfl | hv
    · obtain ⟨u, _, k, _, hk⟩ := inn_pos.mp h2
      exact ok _ (List.mem_of_getElem? hk)
    · exact ih v hv
theorem lft_good33 {n : Nat} {es : Es} {gs : List Nat} (gm : GoodMap n es gs) : ∃ A, IsLft es gs [] [0] A := by
  refine IsLft.of (PO.ex (es := es) (gs := gs) (B := []) (fun e he => (gm.ok e he).2.1) n [0] ?_ fun g hg => (gm.rch g hg).mono (fun e he => ?_) fun _ h => h)
  · refine Nat.le_trans List.countP_le_length ?_
    rw [List.length_range]
    exact Nat.le_refl _
  · obtain ⟨k, hk⟩ := List.getElem?_of_mem he
    exact mem_leftV.mpr ⟨k, hk, List.not_mem_nil⟩
theorem sqt_keep {K : PySem.W.Frag} {H H' : Hp} {f : Addr} {kvs : List (List Key × V)} (hf : H f = some (.dT kvs)) (k : ∀ b u, b ≠ f → H b = some u → H' b = some u) {a : Addr} {xs : List V} (h : SqT K H a xs) : SqT K H' a xs := by
  rcases h with (h | ⟨z, h⟩) | h
  · exact .inl (.inl (k _ _ (ne_of h hf (by intro z; cases z)) h))
  · exact .inl (.inr ⟨z, k _ _ (ne_of h hf (by intro z; cases z)) h⟩)
  · exact .inr h
/-- the greatest excess of an order, and the lots that have it -/
def spLLots33 (K : PySem.W.Frag) : Sp := fun vs H Q _ => ∃ (t : Addr) (n : Nat) (a : Addr) (pvs : List V) (es : Es) (c : Addr) (gs : List Nat), vs = [.ref t] ∧ PtsAt K H t n a pvs es c gs ∧ n ≤ 6 ∧
  ∀ (r S : Addr) (zs : List V) (rows : List (List Nat)) (A : Nat) (H' : Hp), Same H H' → SqT K H' r [nV A, .ref S] → H' S = some (.lst zs) → RowsAt K H' zs rows → IsLft es gs [] [0] A → GRows es gs A rows → Q (.ref r) H'
theorem paired_len {α β : Type} {R : α → β → Prop} : ∀ {l : List α} {m : List β}, Paired R l m → l.length = m.length
  | _, _, .nil => rfl
  | _, _, .cons _ t => by rw [List.length_cons, List.length_cons, paired_len t]
theorem paired_get {α β : Type} {R : α → β → Prop} : ∀ {l : List α} {m : List β}, Paired R l m → ∀ {i : Nat} {b : β}, m[i]? = some b → ∃ a, l[i]? = some a ∧ R a b
  | _, _, .nil, i, b, h => by simp at h
  | _, _, .cons h t, 0, b, e => by
    cases e
    exact ⟨_, rfl, h⟩
  | _, _, .cons h t, i + 1, b, e => paired_get t (i := i) (by simpa using e)
theorem vals_natsT {kvs : List (List Key × V)} (h : ∀ x ∈ kvs, ∃ A : Nat, x.2 = nV A) : ∃ ks : List Nat, kvs.map (·.2) = ks.map nV := by
  induction kvs with
  | nil => exact ⟨[], rfl⟩
  | cons x r ih =>
    obtain ⟨A, e⟩ := h x List.mem_cons_self
    obtain ⟨ks, e2⟩ := ih fun y hy => h y (List.mem_cons_of_mem _ hy)
    exact ⟨A :: ks, by rw [List.map_cons, List.map_cons, e, e2]⟩
/-- the keys with the value A -/
def keyG (A : Nat) (p : (List Key × V) × Addr) : Option V := if decide (p.1.2 = nV A) = true then some (.ref p.2) else none
theorem keys_lst {K : PySem.W.Frag} {H : Hp} {A : Nat} : ∀ {kvs : List (List Key × V)} {bs : List Addr}, Paired (fun p b => H b = some (.tup (p.1.map kV))) kvs bs → (kvs.map (·.1)).Nodup → (∀ p ∈ kvs, ∃ T, p.1 = kT T) →
    ∃ (L : List (Addr × List Int)) (rows : List (List Nat)), (kvs.zip bs).filterMap (keyG A) = L.map (fun q => V.ref q.1) ∧ L.map (fun p => p.2) = rows.map (fun r => r.map fun (n : Nat) => (n : Int)) ∧ (∀ q ∈ L, SqT K H q.1 (q.2.map V.int)) ∧
      (∀ T, T ∈ rows ↔ (kT T, nV A) ∈ kvs) ∧ rows.Nodup
  | _, _, .nil, _, _ => ⟨[], [], rfl, rfl, fun q h => (List.not_mem_nil h).elim, fun T => by simp, .nil⟩
  | _, _, @Paired.cons _ _ _ p b kvs bs h t, nd, hT => by
    rw [List.map_cons, List.nodup_cons] at nd
    obtain ⟨L, rows, e1, e2, e3, e4, e5⟩ := keys_lst t nd.2 fun q hq => hT q (List.mem_cons_of_mem _ hq)
    obtain ⟨T0, eT⟩ := hT p List.mem_cons_self
    obtain ⟨k, v⟩ := p
    have eT : k = kT T0 := eT
    subst eT
    have nT : T0 ∉ rows := fun z => nd.1 (List.mem_map.mpr ⟨_, (e4 T0).mp z, rfl⟩)
    by_cases hv : v = nV A
    · subst hv
      refine ⟨(b, T0.map fun (n : Nat) => (n : Int)) :: L, T0 :: rows, ?_, by rw [List.map_cons, List.map_cons, e2], fun q hq => ?_, fun T => ?_, List.nodup_cons.mpr ⟨nT, e5⟩⟩
      · rw [List.zip_cons_cons, List.filterMap_cons_some (b := V.ref b) (by unfold keyG; exact if_pos (decide_eq_true rfl)), e1, List.map_cons]
      · rcases List.mem_cons.mp hq with rfl | hq
        · show SqT K H b ((T0.map fun (n : Nat) => (n : Int)).map V.int)
          have h : H b = some (.tup ((kT T0).map kV)) := h
          rw [kT_v] at h
          rw [List.map_map]
          exact sqt h
        · exact e3 q hq
      · rw [List.mem_cons, List.mem_cons, e4]
        constructor
        · rintro (rfl | z)
          · exact .inl rfl
          · exact .inr z
        · rintro (z | z)
          · injection z with z _
            exact .inl (kT_inj z)
          · exact .inr z
    · refine ⟨L, rows, ?_, e2, e3, fun T => ?_, e5⟩
      · rw [List.zip_cons_cons, List.filterMap_cons_none (by unfold keyG; exact if_neg (by rw [decide_eq_true_iff]; exact hv)), e1]
      · rw [e4, List.mem_cons]
        constructor
        · exact .inr
        · rintro (z | z)
          · injection z with _ z
            exact absurd z.symm hv
          · exact z
theorem ok__law_lots (B : Bt mg) (h_law_orders : Has P w K mg base "_law_orders" 1 ["_law_things"] (spLOrders K)) (h_law_excess_of : Has P w K mg base "_law_excess_of" 1 ["_law_parts_here", "_law_order"] (spLExcess K)) (D0 : Df K mg "_law_lots" s__law_lots ["_law_parts_here"]) : Has P w K mg base "_law_lots" 2 ["_law_parts_here"] (spLLots33 K) := by
  refine D0.has fun f fd F => F.ok sc__law_lots (fun vs H Q E h => ?_) (fun cdv A outer s H vs Q E hr h => ?_)
  · obtain ⟨t, n, a, pvs, es, c, gs, rfl, _⟩ := h
    rfl
  · obtain ⟨t, n, a, pvs, es, c, gs, rfl, hP, n6, q⟩ := h
    refine ⟨_, (pss_cons (ps_set (i := 1) sc__law_lots.nd rfl (.inr rfl) pe_dnewT)
  (pss_cons (ps_for PassesOwn.never rfl (k_pil (K := K) rfl (pcall h_law_orders hr (by decide) (by rfl) (pa_cons (pe_listRg rfl (by rfl) B.list (prg_2 (by rfl) B.range pe_int (pe_ix (k_ixt (K := K) rfl) (pv 0) pe_int (fun _ _ => rfl)))) pa_nil))) (pg_name (i := 2) sc__law_lots.nd rfl (.inr rfl))
    (pss_one (ps_if (pt_val (pe_callB (k_all (K := K) rfl rfl) (by rfl) B.all bo_all (pa_cons (pe_lc (own := [("_law_goal", 6)]) (g := gName 6) rfl sc__law_lots.nd (k_pit (K := K) rfl (pe_ix (k_ixt (K := K) rfl) (pv 0) pe_int (fun _ _ => rfl))) (blkOk_by (N := sl__law_lots) (sc := defScope s__law_lots) (by decide +kernel)) (fun _ _ _ _ _ => (pg_name (i := 6) sc__law_lots.nd rfl (.inl rfl))) (fun _ _ _ _ _ => pts_nil) (fun _ _ _ _ _ => (pe_cmpR (k_in (K := K) rfl) (pv 6) (pv 2) (by rfl)))) pa_nil)))
    (pss_cons (ps_set (i := 3) sc__law_lots.nd rfl (.inl rfl) (pcall h_law_excess_of hr (by decide) (by rfl) (pa_cons (pv 0) (pa_cons (pe_op (k_cat (K := K) rfl) (pe_tup (pa_cons pe_int pa_nil)) (pv 2)) pa_nil))))
  (pss_cons (ps_set (i := 4) sc__law_lots.nd rfl (.inl rfl) (pe_op (k_cat (K := K) rfl) (pe_tup (pa_cons pe_int pa_nil)) (pe_callTy (k_tuple (K := K) rfl) (by rfl) B.tuple bo_tuple (pa_cons (pe_callB (k_sortedT (K := K) rfl) (by rfl) B.sorted bo_sorted (pa_cons (pv 2) pa_nil)) pa_nil))))
  (pss_one (ps_if (PW.pt (pw_and (pt_cmpR op_notN (pv 3) pe_non (nomark _)) (pw_and1 (PW.pt (pw_or (pt_cmp (pc_dnotin (hu_of hr) (pv 4) (pv 1))) (pw_or1 (pt_cmpR op_lt (pe_dget (hu_of hr) (pv 1) (pv 4) (fun _ _ => rfl)) (pv 3) (nomark _))))))))
    (pss_one (ps_dput (hu_of hr) (pv 1) (pv 4) (pv 3) rfl))
    pss_nil))))
    pss_nil)))
  (pss_cons (ps_set (i := 5) sc__law_lots.nd rfl (.inr rfl) (pe_callB (k_max (K := K) rfl rfl) (by rfl) B.max bo_max (pa_cons (pe_lc (own := [("_law_lot", 4)]) (g := gName 4) rfl sc__law_lots.nd (k_pil (K := K) rfl (pe_callTy (call_list_dT rfl) (by rfl) B.list bo_list (pa_cons (pv 1) pa_nil))) (blkOk_by (N := sl__law_lots) (sc := defScope s__law_lots) (by decide +kernel)) (fun _ _ _ _ _ => (pg_name (i := 4) sc__law_lots.nd rfl (.inl rfl))) (fun _ _ _ _ _ => pts_nil) (fun _ _ _ _ _ => (pe_dget (hu_of hr) (pv 1) (pv 4) (fun _ _ => rfl)))) pa_nil)))
  (pss_one (ps_ret (pe_tup (pa_cons (pv 5) (pa_cons (pe_callB (k_sortedV (K := K) rfl) (by rfl) B.sorted bo_sorted (pa_cons (pe_lc (own := [("_law_lot", 4)]) (g := gName 4) rfl sc__law_lots.nd (k_pil (K := K) rfl (pe_callTy (call_list_dT rfl) (by rfl) B.list bo_list (pa_cons (pv 1) pa_nil))) (blkOk_by (N := sl__law_lots) (sc := defScope s__law_lots) (by decide +kernel)) (fun _ _ _ _ _ => (pg_name (i := 4) sc__law_lots.nd rfl (.inl rfl))) (fun _ _ _ _ _ => pts_one (pt_cmpR op_eq (pe_dget (hu_of hr) (pv 1) (pv 4) (fun _ _ => rfl)) (pv 5) (nomark _))) (fun _ _ _ _ _ => (pv 4))) pa_nil)) pa_nil)))))))), ?_⟩
    have n2 := hP.gm.n2
    have ggl := hP.gm.gl2
    have gm := hP.gm
    have g0 : 0 ∉ gs := fun z => (gm.gl 0 z).1 rfl
    intro fd0 nfd
    have s0 := same_new (o := .dT []) (Same.refl H) nfd
    have hf0 := upd_same (H := H) (a := fd0) (o := .dT [])
    generalize upd H fd0 (.dT []) = H0 at s0 hf0
    have hP0 := hP.same s0
    refine ⟨_, rfl, t, _, (0 : Nat), nV n, rfl, rfl, hP0.tp, atI_nat rfl, _, (n : Int), rfl, rfl, ⟨by omega, by omega, by omega, by omega, by omega⟩, fun r nr => ?_⟩
    have s1 := same_new (o := .lst (rgV 1 (n : Int))) (Same.refl H0) nr
    obtain ⟨ts, hts⟩ : ∃ ts : List Nat, ts = (List.range (n - 1)).map (· + 1) := ⟨_, rfl⟩
    have hr1 : upd H0 r (.lst (rgV 1 (n : Int))) r = some (.lst (ts.map nV)) := by rw [upd_same, rgV1, hts]
    have t5 : ts.length ≤ 5 := by rw [hts, List.length_map, List.length_range]; omega
    have mts : ∀ v, v ∈ ts ↔ v ≠ 0 ∧ v < n := fun v => by
      rw [hts, List.mem_map]
      constructor
      · rintro ⟨k, hk, rfl⟩
        have := List.mem_range.mp hk
        omega
      · rintro ⟨h1, h2⟩
        exact ⟨v - 1, List.mem_range.mpr (by omega), by omega⟩
    generalize upd H0 r (.lst (rgV 1 (n : Int))) = H1 at s1 hr1
    refine ⟨r, ts, rfl, hr1, t5, fun z zs rows H2 s2 nz hz rA rl mem => ?_⟩
    have s02 := s1.trans s2
    have hf2 := s02 _ _ hf0
    have row : ∀ {o m}, PO es gs [] [0] o m → o ∈ rows := fun {o m} h => (mem o).mpr (by
      have ho : OrdL ts o := ⟨h.nd, fun v hv => (mts v).mpr ⟨fun z => h.out v hv (by rw [z]; exact List.mem_cons_self), h.lt_all33 (fun e he => (gm.ok e he).2.1) v hv⟩⟩
      exact ⟨ho, ho.1.length_le_of_subset (l₂ := ts) ho.2⟩)
    have hP2 := hP0.same s02
    have zf : z ≠ fd0 := ne_of hz hf2 (by intro z; cases z)
    have base0 : ∀ {H'}, (∀ b u, b ≠ fd0 → H2 b = some u → H' b = some u) → Same H H' := fun k b o e => k b o (ne_of_none e nfd) (s02 _ _ (s0 _ _ e))
    refine ⟨z, rfl, ⟨_, sql hz⟩, ?_⟩
    refine for_list (xs := zs) (fun i σ H' => ∃ (x2 x3 x4 : Option V) (kvs : List (List Key × V)), σ = [some (.ref t), some (.ref fd0), x2, x3, x4, none, none] ∧ (∀ b u, b ≠ fd0 → H2 b = some u → H' b = some u) ∧ H' fd0 = some (.dT kvs) ∧ kvs.length ≤ i ∧ FndK es gs (rows.take i) kvs)
      ⟨none, none, none, [], rfl, fun _ _ _ e => e, hf2, Nat.le_refl _, ⟨by simp, fun k v h => (by cases h), fun l hl => (by simp at hl)⟩⟩ ?_ ?_ ?_
    · rintro i σ H' _ ⟨_, _, _, _, _, k, _⟩
      exact sql (k _ _ zf hz)
    · rintro i v σ H3 hv ⟨x2, x3, x4, kvs, rfl, k3, hf3, kl, fk⟩
      obtain ⟨t', l, hli, rfl, ht⟩ := (rA.mono fun a xs => sqt_keep hf2 k3).get hv
      have hO := ((mem l).mp (List.mem_of_getElem? hli)).1
      have htk : rows.take (i + 1) = rows.take i ++ [l] := by rw [List.take_add_one, hli]; rfl
      have hi : i < rows.length := (List.getElem?_eq_some_iff.mp hli).1
      have n0 : 0 ∉ l := fun z => ((mts 0).mp (hO.2 0 z)).1 rfl
      have nd : (0 :: l).Nodup := List.nodup_cons.mpr ⟨n0, hO.1⟩
      have ll : l.length ≤ 5 := Nat.le_trans (hO.1.length_le_of_subset (l₂ := ts) hO.2) t5
      have hP3 := hP.same (base0 k3)
      have skip : ∀ {H4 : Hp} {x2' x3' x4' : Option V}, Same H3 H4 → FndK es gs (rows.take i ++ [l]) kvs → ∃ (x2 x3 x4 : Option V) (kvs : List (List Key × V)), [some (V.ref t), some (.ref fd0), x2', x3', x4', none, none] = [some (.ref t), some (.ref fd0), x2, x3, x4, none, none] ∧ (∀ b u, b ≠ fd0 → H2 b = some u → H4 b = some u) ∧ H4 fd0 = some (.dT kvs) ∧ kvs.length ≤ i + 1 ∧ FndK es gs (rows.take (i + 1)) kvs := fun s4 fk' =>
        ⟨_, _, _, kvs, rfl, fun b u hb e => s4 _ _ (k3 b u hb e), s4 _ _ hf3, Nat.le_succ_of_le kl, by rw [htk]; exact fk'⟩
      -- all goals
      refine ⟨_, rfl, t, _, (2 : Nat), .ref c, rfl, rfl, hP3.tp, atI_nat rfl, c, rfl, ⟨_, hP3.go⟩, fun D nD => ?_⟩
      refine lc_val walk_tup calm_at (fun i => (gs[i]?).bind fun g => some (V.bl (decide (g ∈ l)))) (by rw [List.length_map]; omega) nD (fun H4 s4 => Same.sqt s4 hP3.go) ?_ fun H4 s4 h4 => ?_
      · rintro j v H4 H5 hi s4 ⟨rfl, hv⟩ Kt kt
        obtain ⟨g, hgi, rfl⟩ := getmap hv
        refine ⟨rfl, tyes ?_⟩
        refine iteT ?_
        refine ⟨_, rfl, _, rfl, t', _, rfl, .inr (Same.sqt s4 ht), rfl, flat_nats _, ?_⟩
        rw [if_neg Bool.false_ne_true, inV_nats]
        have k0 := kt _ (Same.refl _)
        rw [hgi] at k0
        exact k0
      rw [List.length_map, fm_range, fm_some] at h4
      refine ⟨D, gs.map fun g => decide (g ∈ l), rfl, sql (by rw [h4, List.map_map]; rfl), _, rfl, ?_⟩
      by_cases hgl : ∀ g ∈ gs, g ∈ l
      rotate_left
      · have e : (gs.map fun g => decide (g ∈ l)).all id = false := Bool.eq_false_iff.mpr fun z => hgl fun g hg => of_decide_eq_true (List.all_eq_true.mp z _ (List.mem_map.mpr ⟨g, hg, rfl⟩))
        rw [e]
        refine iteF ?_
        exact skip s4 (fk.skip fun m hm => absurd (fun g hg => (hm.goal hg).resolve_left fun z => g0 (by rw [← List.mem_singleton.mp z]; exact hg)) hgl)
      have e : (gs.map fun g => decide (g ∈ l)).all id = true := by
        rw [List.all_eq_true]
        intro z hz
        obtain ⟨g, hg, rfl⟩ := List.mem_map.mp hz
        exact decide_eq_true (hgl g hg)
      rw [e]
      refine iteT ?_
      refine ⟨_, rfl, by show 1 ≤ sizeLine; decide, fun q0 nq0 => ⟨_, rfl, ?_⟩⟩
      have s5 := same_new (o := .tup [.int 0]) (Same.refl H4) nq0
      refine cat_zero2 upd_same (Same.sqt (s4.trans s5) ht) (by omega) fun d H6 s6 hd => ?_
      have s36 := s4.trans (s5.trans s6)
      refine ⟨t, n, a, pvs, es, c, gs, d, 0 :: l, rfl, hP3.same s36, sqt hd, nd, by rw [List.length_cons]; omega, fun v H7 s7 hv => ?_⟩
      have s37 := s36.trans s7
      -- the lot
      refine ⟨by show 1 ≤ sizeLine; decide, fun q1 nq1 => ⟨_, rfl, ?_⟩⟩
      have s8 := same_new (o := .tup [.int 0]) (Same.refl H7) nq1
      have hq1 := upd_same (H := H7) (a := q1) (o := .tup [.int 0])
      generalize upd H7 q1 (.tup [.int 0]) = H8 at s8 hq1
      refine ⟨t', l.map fun (n : Nat) => (n : Int), rfl, by rw [List.map_map]; exact Same.sqt (s37.trans s8) ht, fun ns' b3 np ns nb3 => ?_⟩
      obtain ⟨gs', e5, gp, gl⟩ := sort_nats np ns
      rw [e5]
      have s9 := same_new (o := .lst (gs'.map nV)) (Same.refl H8) nb3
      refine ⟨b3, _, rfl, .inl ⟨sql upd_same, fun lo nlo => ?_⟩⟩
      have s10 := same_new (o := .tup (gs'.map nV)) (Same.refl _) nlo
      have s810 := s9.trans s10
      refine cat_zero2 (s810 _ _ hq1) (sqt upd_same) (by rw [gp.length_eq]; omega) fun u H11 s11 hu => ?_
      have s311 := s37.trans (s8.trans (s810.trans s11))
      have hf11 := s311 _ _ hf3
      have pwT : (0 :: gs').Pairwise (· < ·) := by
        refine List.pairwise_cons.mpr ⟨fun x hx => Nat.pos_of_ne_zero fun z => n0 (gp.mem_iff.mp (z ▸ hx)), pw_lt gl (gp.nodup_iff.mpr hO.1)⟩
      have memT : ∀ x, x ∈ 0 :: gs' ↔ x ∈ 0 :: l := fun x => by rw [List.mem_cons, List.mem_cons, gp.mem_iff]
      have hkey : H11 u = some (.tup ((kT (0 :: gs')).map kV)) := by rw [kT_v]; exact hu
      have uniq : ∀ T : List Nat, T.Pairwise (· < ·) → (∀ x, x ∈ T ↔ x ∈ 0 :: l) → T = 0 :: gs' := fun T p1 p2 => lot_eq p1 pwT fun x => by rw [p2, memT]
      rcases hv with ⟨part, rfl⟩ | ⟨npart, rfl⟩
      · obtain ⟨m, po⟩ := part.po nd (o := l) (P := [0]) (R := [0]) (fun _ => Iff.rfl) rfl (fun g hg => List.mem_cons_of_mem _ (hgl g hg)) List.mem_cons_self
        obtain ⟨_, _, _, cnt⟩ := po_part po g0 gm.ne
        have ev : V.int (((ldL es (0 :: l)).length : Int) - ((0 :: l).length : Int) + 1) = nV m := by
          rw [cnt, List.length_cons]
          show V.int _ = V.int _
          congr 1
          omega
        rw [ev]
        have one : ∀ m', PO es gs [] [0] l m' → m' = m := fun m' h => by
          obtain ⟨_, _, _, c2⟩ := po_part h g0 gm.ne
          omega
        have put : (∀ M, valV kvs (kT (0 :: gs')) = some (nV M) → M ≤ m) → ∃ (x2 x3 x4 : Option V) (kvs' : List (List Key × V)), [some (V.ref t), some (.ref fd0), some (.ref t'), some (nV m), some (.ref u), none, none] = [some (.ref t), some (.ref fd0), x2, x3, x4, none, none] ∧ (∀ b w, b ≠ fd0 → H2 b = some w → upd H11 fd0 (.dT (putK kvs (kT (0 :: gs')) (nV m))) b = some w) ∧ upd H11 fd0 (.dT (putK kvs (kT (0 :: gs')) (nV m))) fd0 = some (.dT kvs') ∧ kvs'.length ≤ i + 1 ∧ FndK es gs (rows.take (i + 1)) kvs' := fun hm =>
          ⟨_, _, _, _, rfl, fun b w hb e => by rw [upd_ne hb]; exact s311 _ _ (k3 b w hb e), upd_same, Nat.le_trans (length_putK _ _ _) (by omega), by rw [htk]; exact fk.put po one pwT memT hm⟩
        refine ⟨_, rfl, rfl, _, rfl, ?_⟩
        rw [decide_eq_false (show ¬ nV m = V.non from fun z => by cases z)]
        refine iteT ?_
        refine ⟨_, rfl, _, rfl, fd0, _, rfl, DGet.t hf11 hkey, _, rfl, ?_⟩
        cases hval : valV kvs (kT (0 :: gs')) with
        | none =>
          refine iteT (iteT ?_)
          exact ⟨_, rfl, _, rfl, _, rfl, fd0, _, rfl, DPut.t hf11 hkey (small_lt (by omega)), put fun M e => by rw [hval] at e; cases e⟩
        | some w =>
          obtain ⟨_, M, _, _, rfl, _⟩ := fk.val _ _ hval
          refine iteF ?_
          refine ⟨_, rfl, _, rfl, fd0, nV M, rfl, by rw [← hval]; exact DGet.t hf11 hkey, _, rfl, _, _, rfl, rfl, _, rfl, ?_⟩
          by_cases lt : M < m
          · rw [decide_eq_true (show ((M : Nat) : Int) < ((m : Nat) : Int) by omega)]
            refine iteT ?_
            exact ⟨_, rfl, _, rfl, _, rfl, fd0, _, rfl, DPut.t hf11 hkey (small_lt (by omega)), put fun M' e => by rw [hval] at e; have := nV_inj' (Option.some.inj e); omega⟩
          · rw [decide_eq_false (show ¬ ((M : Nat) : Int) < ((m : Nat) : Int) by omega)]
            refine iteF ?_
            exact skip s311 (fk.skip fun m' hp T p1 p2 => ⟨M, by rw [uniq T p1 p2]; exact hval, by have := one m' hp; omega⟩)
      · refine ⟨_, rfl, rfl, _, rfl, ?_⟩
        rw [decide_eq_true (rfl : V.non = V.non)]
        refine iteF ?_
        exact skip s311 (fk.skip fun m h => absurd (po_part h g0 gm.ne).2.2.1 npart)
    · rintro σ H3 ⟨x2, x3, x4, kvs, rfl, k3, hf3, kl, fk⟩
      have htk : rows.take zs.length = rows := by rw [rA.len, List.take_length]
      rw [htk] at fk
      have sH3 : Same H H3 := base0 k3
      have kvl : kvs.length ≤ 100000 := by rw [rA.len] at kl; omega
      have hval : ∀ p ∈ kvs, ∃ T A o, p.1 = kT T ∧ p.2 = nV A ∧ PO es gs [] [0] o A ∧ T.Pairwise (· < ·) ∧ ∀ x, x ∈ T ↔ x ∈ 0 :: o := fun p hp => fk.val p.1 p.2 (val_at fk.nd hp)
      obtain ⟨ks, eks⟩ := vals_natsT fun x hx => (hval x hx).elim fun T ⟨A, o, _, e, _⟩ => ⟨A, e⟩
      have ksl : ks.length = kvs.length := by
        have := congrArg List.length eks
        rw [List.length_map, List.length_map] at this
        exact this.symm
      have mks : ∀ A, A ∈ ks ↔ ∃ p ∈ kvs, p.2 = nV A := fun A => by
        have : nV A ∈ kvs.map (·.2) ↔ A ∈ ks := by
          rw [eks, List.mem_map]
          exact ⟨fun ⟨k, h1, h2⟩ => nV_inj' h2 ▸ h1, fun h => ⟨A, h, rfl⟩⟩
        rw [← this, List.mem_map]
      have hasT : ∀ {o m}, PO es gs [] [0] o m → ∃ T : List Nat, T.Pairwise (· < ·) ∧ ∀ x, x ∈ T ↔ x ∈ 0 :: o := fun {o m} p => ⟨(List.range n).filter fun x => decide (x ∈ 0 :: o), List.pairwise_lt_range.filter _, fun x => by
        rw [List.mem_filter, List.mem_range, decide_eq_true_iff]
        refine ⟨fun h => h.2, fun h => ⟨?_, h⟩⟩
        rcases List.mem_cons.mp h with rfl | h
        · omega
        · exact p.lt_all33 (fun e he => (gm.ok e he).2.1) x h⟩
      have tops : ∀ o m, PO es gs [] [0] o m → ∃ p ∈ kvs, ∃ M, p.2 = nV M ∧ m ≤ M := fun o m p => by
        obtain ⟨T, p1, p2⟩ := hasT p
        obtain ⟨M, h1, h2⟩ := fk.top o (row p) m p T p1 p2
        exact ⟨_, val_mem h1, M, rfl, h2⟩
      obtain ⟨A1, hA1⟩ := lft_good33 gm
      -- the greatest
      refine ⟨_, rfl, fd0, kvs, rfl, .inl hf3, fun lp bs nlp hk => ⟨lp, rfl, ⟨_, sql upd_same⟩, fun D nD => ?_⟩⟩
      have s4 := same_new (o := .lst (bs.map V.ref)) (Same.refl H3) nlp
      have hlp4 : upd H3 lp (.lst (bs.map V.ref)) lp = some (.lst (bs.map V.ref)) := upd_same
      generalize upd H3 lp (.lst (bs.map V.ref)) = H4 at s4 hlp4 nD
      have bl := paired_len hk
      refine lc_val walk_list calm_at (fun i => (kvs[i]?).bind fun p => some p.2) (by rw [List.length_map]; omega) nD (fun H5 s5 => sql (s5 _ _ hlp4)) ?_ fun H5 s5 h5 => ?_
      · rintro i v H5 H6 hi s5 ⟨rfl, hv⟩ Kt kt
        rw [List.getElem?_map] at hv
        obtain ⟨b, hb, rfl⟩ := Option.map_eq_some_iff.mp hv
        obtain ⟨p, hp, hbk⟩ := paired_get hk hb
        have k0 := kt _ (Same.refl _)
        rw [hp] at k0
        have hva := val_at fk.nd (List.mem_of_getElem? hp)
        refine ⟨rfl, tyes ?_⟩
        refine iteT ?_
        exact ⟨_, rfl, _, rfl, fd0, p.2, rfl, by rw [← hva]; exact DGet.t ((s4.trans s5) _ _ hf3) ((s4.trans s5) _ _ hbk), k0⟩
      rw [List.length_map, ← bl, fm_range, fm_some] at h5
      rw [show (kvs.map fun p => p.2) = (ks.map fun k => ((k : Nat) : Int)).map V.int by rw [List.map_map]; exact eks] at h5
      refine ⟨D, _, rfl, sql h5, ?_, fun M hM top => ?_⟩
      · rw [List.length_map, ksl]
        obtain ⟨o, p⟩ := hA1.ex
        obtain ⟨p, hp, _⟩ := tops o A1 p
        exact List.length_pos_of_mem hp
      obtain ⟨A, hA, rfl⟩ := List.mem_map.mp hM
      have lft : IsLft es gs [] [0] A := by
        refine ⟨?_, fun o m p => ?_⟩
        · obtain ⟨p, hp, e⟩ := (mks A).mp hA
          obtain ⟨T, A', o, _, e', po, _⟩ := hval p hp
          rw [e] at e'
          rw [nV_inj' e']
          exact ⟨o, po⟩
        · obtain ⟨p, hp, M, e, le⟩ := tops o m p
          have := top _ (List.mem_map.mpr ⟨M, (mks M).mpr ⟨p, hp, e⟩, rfl⟩)
          omega
      have s35 := s4.trans s5
      have hf5 := s35 _ _ hf3
      -- the lots that have it
      refine ⟨_, rfl, _, rfl, fd0, kvs, rfl, .inl hf5, fun lp2 bs2 nlp2 hk2 => ⟨lp2, rfl, ⟨_, sql upd_same⟩, fun D2 nD2 => ?_⟩⟩
      have s6 := same_new (o := .lst (bs2.map V.ref)) (Same.refl H5) nlp2
      have hlp6 : upd H5 lp2 (.lst (bs2.map V.ref)) lp2 = some (.lst (bs2.map V.ref)) := upd_same
      generalize upd H5 lp2 (.lst (bs2.map V.ref)) = H6 at s6 hlp6 nD2
      have bl2 := paired_len hk2
      have zl : (kvs.zip bs2).length = kvs.length := by rw [List.length_zip, ← bl2, Nat.min_self]
      refine lc_val walk_list calm_at (fun i => ((kvs.zip bs2)[i]?).bind (keyG A)) (by rw [List.length_map]; omega) nD2 (fun H7 s7 => sql (s7 _ _ hlp6)) ?_ fun H7 s7 h7 => ?_
      · rintro i v H7 H8 hi s7 ⟨rfl, hv⟩ Kt kt
        rw [List.getElem?_map] at hv
        obtain ⟨b, hb, rfl⟩ := Option.map_eq_some_iff.mp hv
        obtain ⟨p, hp, hbk⟩ := paired_get hk2 hb
        have hz : (kvs.zip bs2)[i]? = some (p, b) := List.getElem?_zip_eq_some.mpr ⟨hp, hb⟩
        have k0 := kt _ (Same.refl _)
        rw [hz] at k0
        have k0 : Kt (keyG A (p, b)) _ := k0
        have hva := val_at fk.nd (List.mem_of_getElem? hp)
        obtain ⟨_, Ap, _, _, eAp, _⟩ := hval p (List.mem_of_getElem? hp)
        refine ⟨rfl, ?_⟩
        refine ⟨_, rfl, _, rfl, fd0, p.2, rfl, by rw [← hva]; exact DGet.t ((s6.trans s7) _ _ hf5) ((s6.trans s7) _ _ hbk), _, rfl, by rw [eAp]; rfl, _, rfl, ?_⟩
        have k0 : Kt (if decide (p.2 = V.int (A : Int)) = true then some (V.ref b) else none) _ := k0
        cases hd : decide (p.2 = V.int (A : Int)) with
        | true =>
          rw [if_pos hd] at k0
          exact iteT ⟨_, rfl, k0⟩
        | false =>
          rw [if_neg (by rw [hd]; decide)] at k0
          exact iteF k0
      obtain ⟨L, rw0, e1, e2, e3, e4, e5⟩ := keys_lst (K := K) (A := A) hk2 fk.nd fun p hp => (hval p hp).elim fun T ⟨_, _, e, _⟩ => ⟨T, e⟩
      rw [List.length_map, ← bl2, ← zl, fm_range, e1] at h7
      have s57 := s6.trans s7
      have hL : ∀ p ∈ L, SqT K H7 p.1 (p.2.map V.int) := fun p hp => Same.sqt s57 (e3 p hp)
      have good : ∀ T, T ∈ rw0 ↔ GLot es gs A T := fun T => by
        rw [e4]
        constructor
        · intro h
          obtain ⟨T', A', o, h1, h2, po, pw, mem'⟩ := hval _ h
          rw [kT_inj h1]
          rw [nV_inj' h2]
          exact ⟨pw, o, po, mem'⟩
        · rintro ⟨pw, o, po, mem'⟩
          obtain ⟨M, h1, h2⟩ := fk.top o (row po) A po T pw mem'
          obtain ⟨_, A', o', _, e', po', _⟩ := fk.val _ _ h1
          have := lft.top o' A' po'
          have := nV_inj' e'
          have : M = A := by omega
          rw [this] at h1
          exact val_mem h1
      have small : ∀ r ∈ rw0, r.length ≤ 63 ∧ ∀ x ∈ r, x < 63 := fun r hr => by
        obtain ⟨pw, o, po, mem'⟩ := (good r).mp hr
        have lt : ∀ x ∈ r, x < n := fun x hx => by
          rcases List.mem_cons.mp ((mem' x).mp hx) with rfl | h
          · omega
          · exact po.lt_all33 (fun e he => (gm.ok e he).2.1) x h
        have := pw_len pw (l := 0) fun z hz => ⟨Nat.zero_le _, lt z hz⟩
        exact ⟨by omega, fun x hx => by have := lt x hx; omega⟩
      have one1 : ∀ r ∈ rw0, 1 ≤ r.length := fun r hr => by
        obtain ⟨pw, o, po, mem'⟩ := (good r).mp hr
        exact List.length_pos_of_mem ((mem' 0).mpr List.mem_cons_self)
      have Ll : L.length = rw0.length := by
        have := congrArg List.length e2
        rwa [List.length_map, List.length_map] at this
      have L64 : L.length < 64 := by
        rw [Ll]
        have hf : ∃ f : List Nat → Nat, ∀ r i, (f r).testBit i = true ↔ i = 0 ∨ i ∈ r := ⟨fun r => Classical.choose (mask_ex r), fun r => Classical.choose_spec (mask_ex r)⟩
        obtain ⟨f, hf0⟩ := hf
        have hf : ∀ r ∈ rw0, ∀ i, (f r).testBit i = true ↔ i ∈ r := fun r hr i => by
          obtain ⟨pw, o, po, mem'⟩ := (good r).mp hr
          rw [hf0]
          exact ⟨fun h => h.elim (fun z => by rw [z]; exact (mem' 0).mpr List.mem_cons_self) id, .inr⟩
        have lt64 : ∀ r ∈ rw0, f r < 2 ^ 6 := fun r hr => lt_of_bits fun i hi => by
          obtain ⟨pw, o, po, mem'⟩ := (good r).mp hr
          rcases List.mem_cons.mp ((mem' i).mp ((hf r hr i).mp hi)) with rfl | h
          · omega
          · have := po.lt_all33 (fun e he => (gm.ok e he).2.1) i h
            omega
        have nd' : (0 :: rw0.map f).Nodup := by
          refine List.nodup_cons.mpr ⟨fun z => ?_, List.pairwise_map.mpr (List.Pairwise.imp_of_mem (fun {S T} hS hT h e => h ?_) e5)⟩
          · obtain ⟨r, hr, e⟩ := List.mem_map.mp z
            obtain ⟨pw, o, po, mem'⟩ := (good r).mp hr
            have := (hf r hr 0).mpr ((mem' 0).mpr List.mem_cons_self)
            rw [e] at this
            simp at this
          · exact lot_eq ((good S).mp hS).1 ((good T).mp hT).1 fun x => by rw [← hf S hS, ← hf T hT, e]
        have := nd'.length_le_of_subset (l₂ := List.range 64) fun S hS => by
          rcases List.mem_cons.mp hS with rfl | hS
          · simp
          · obtain ⟨r, hr, rfl⟩ := List.mem_map.mp hS
            exact List.mem_range.mpr (lt64 r hr)
        rw [List.length_cons, List.length_map, List.length_range] at this
        omega
      refine ⟨D2, L, 63, 63, rfl, sql h7, by decide, L64, fun p' hp' => ?_, fun L' Dr pm pw nDr => ?_⟩
      · have hm : p'.2 ∈ L.map (fun p => p.2) := List.mem_map.mpr ⟨p', hp', rfl⟩
        rw [e2] at hm
        obtain ⟨r, hr, er⟩ := List.mem_map.mp hm
        have sm := small r hr
        refine ⟨hL p' hp', ?_, ?_, ?_⟩
        · rw [← er, List.length_map]; exact one1 r hr
        · rw [← er, List.length_map]; exact sm.1
        · rw [← er]; exact bd_ints sm.2
      obtain ⟨rows', pr, er, srt⟩ := srt_rows e5 small e2 pm pw
      have s8 := same_new (o := .lst (L'.map fun q => V.ref q.1)) (Same.refl H7) nDr
      have hDr : upd H7 Dr (.lst (L'.map fun q => V.ref q.1)) Dr = some (.lst (L'.map fun q => V.ref q.1)) := upd_same
      generalize upd H7 Dr (.lst (L'.map fun q => V.ref q.1)) = H8 at s8 hDr
      refine ⟨by show 2 ≤ sizeLine; decide, fun rt nrt => ?_⟩
      have s9 := same_new (o := .tup [nV A, .ref Dr]) (Same.refl H8) nrt
      refine q rt Dr _ rows' A _ (sH3.trans (s35.trans (s57.trans (s8.trans s9)))) (sqt upd_same) (s9 _ _ hDr) ((rowsAt_of er fun p hp => hL p (pm.mem_iff.mp hp)).mono fun a xs h => Same.sqt (s8.trans s9) h) lft ⟨fun T => by rw [pr.mem_iff, good], srt⟩

abbrev s_law : Stmt := topS 50
abbrev sl_law : List Str := ["_law_script", "_law_hand_here", "_law_parts_here", "_law_chart", "_law_most", "_law_lots_here", "_law_found", "_law_goal", "_law_number", "_law_due", "_law_tail_here", "_law_head", "_law_lot", "_law_place"]
theorem sc_law : FnScope ["_law_script", "_law_hand_here", "_law_parts_here", "_law_chart", "_law_most", "_law_lots_here", "_law_found", "_law_goal", "_law_number", "_law_due", "_law_tail_here", "_law_head", "_law_lot", "_law_place"] ["_law_script"] (defScope s_law) := ⟨rfl, rfl, rfl, by decide +kernel, rfl, by decide +kernel, by decide +kernel⟩
abbrev sc2_law : Scope := { kind := .function, names := [(".0", .local), ("_law_lot", .local), ("tuple", .globalImplicit), ("sorted", .globalImplicit), ("_law_number", .cell)], isGenerator := false, isCoroutine := false, more := [] }
def rowD (r : List Nat) : PyData := .tuple (r.map dN)
theorem lay_rows : ∀ {rows : List (List Nat)}, PyData.canLayAll0 (rows.map rowD) = true
  | [] => rfl
  | r :: rows => by
    rw [List.map_cons, PyData.canLayAll0, lay_rows (rows := rows), Bool.and_true]
    exact lay_nats
theorem dep_rows : ∀ {rows : List (List Nat)}, PyData.depthAll (rows.map rowD) ≤ 1
  | [] => Nat.zero_le _
  | r :: rows => by
    rw [List.map_cons, PyData.depthAll]
    refine Nat.max_le.mpr ⟨?_, dep_rows (rows := rows)⟩
    show PyData.depth (.tuple (r.map dN)) ≤ 1
    rw [PyData.depth, dep_nats]
    exact Nat.le_refl _
theorem shp_rows {rows : List (List Nat)} : SeqAt.shaped (.list (rows.map rowD)) = true := by
  unfold SeqAt.shaped
  rw [PyData.canLay0, PyData.depth, lay_rows, Bool.true_and, decide_eq_true_eq]
  have := dep_rows (rows := rows)
  omega
theorem dp_rows {K : PySem.W.Frag} {H : Hp} : ∀ {vs : List V} {rows : List (List Nat)}, RowsAt K H vs rows → DpAll K H vs (rows.map rowD)
  | [], [], _ => .nil
  | v :: vs, r :: rows, h => by
    obtain ⟨t, rfl, ht⟩ := h.at_ 0 v r rfl rfl
    refine .cons (.tup ht dp_nats) (dp_rows ⟨by have := h.len; simpa using this, fun i v' l h1 h2 => h.at_ (i + 1) v' l (by simpa using h1) (by simpa using h2)⟩)
  | [], _ :: _, h => by have := h.len; simp at this
  | _ :: _, [], h => by have := h.len; simp at this
theorem sort_swq {g : Nat} {r : List Nat} {ns : List Int} {T' : List Nat} (pw : r.Pairwise (· < ·)) (pT : T'.Perm (r.map (swq g))) (sT : T'.Pairwise (· ≤ ·)) : T'.Pairwise (· < ·) ∧ ∀ v, v ∈ T' ↔ swq g v ∈ r := by
  have nd : (r.map (swq g)).Nodup := List.pairwise_map.mpr (pw.imp fun h z => by have := swq_inj z; omega)
  refine ⟨pw_lt sT (pT.nodup_iff.mpr nd), fun v => ?_⟩
  rw [pT.mem_iff, List.mem_map]
  exact ⟨fun ⟨u, h, e⟩ => by rw [← e, swq_swp]; exact h, fun h => ⟨_, h, swq_swp g v⟩⟩
theorem one_of33 : ∀ {gs : List Nat}, gs ≠ [] → ¬ 1 < gs.length → ∃ g, gs = [g]
  | [], h, _ => absurd rfl h
  | [g], _, _ => ⟨g, rfl⟩
  | _ :: _ :: _, _, h => absurd (by simp) h
/-- a lot in the turned map -/
def swR (g n : Nat) (r : List Nat) : List Nat := (List.range n).filter fun v => decide (swq g v ∈ r)
theorem swR_pw {g n : Nat} {r : List Nat} : (swR g n r).Pairwise (· < ·) := List.pairwise_lt_range.filter _
theorem mem_swR {g n v : Nat} {r : List Nat} (gn : g < n) (lt : ∀ x ∈ r, x < n) : v ∈ swR g n r ↔ swq g v ∈ r := by
  unfold swR
  rw [List.mem_filter, List.mem_range, decide_eq_true_iff]
  exact ⟨fun h => h.2, fun h => ⟨by rw [← swq_swp g v]; exact swq_lt gn (lt _ h), h⟩⟩
theorem GLot.lt {n A : Nat} {es : Es} {gs T : List Nat} (h : GLot es gs A T) (n0 : 0 < n) (ok : ∀ e ∈ es, e.2 < n) : ∀ x ∈ T, x < n := fun x hx => by
  obtain ⟨_, o, po, mem⟩ := h
  rcases List.mem_cons.mp ((mem x).mp hx) with rfl | h
  · exact n0
  · exact po.lt_all33 ok x h
theorem few_rows {n A : Nat} {es : Es} {gs : List Nat} {rows : List (List Nat)} (h : GRows es gs A rows) (n0 : 0 < n) (n6 : n ≤ 6) (ok : ∀ e ∈ es, e.2 < n) : rows.length < 64 := by
  have nd : rows.Nodup := h.srt.imp fun h z => by rw [z] at h; omega
  obtain ⟨f, hf0⟩ : ∃ f : List Nat → Nat, ∀ r i, (f r).testBit i = true ↔ i = 0 ∨ i ∈ r := ⟨fun r => Classical.choose (mask_ex r), fun r => Classical.choose_spec (mask_ex r)⟩
  have hf : ∀ r ∈ rows, ∀ i, (f r).testBit i = true ↔ i ∈ r := fun r hr i => by
    obtain ⟨pw, o, po, mem'⟩ := (h.mem r).mp hr
    rw [hf0]
    exact ⟨fun h => h.elim (fun z => by rw [z]; exact (mem' 0).mpr List.mem_cons_self) id, .inr⟩
  have lt64 : ∀ r ∈ rows, f r < 2 ^ 6 := fun r hr => lt_of_bits fun i hi => by
    have := ((h.mem r).mp hr).lt n0 ok i ((hf r hr i).mp hi)
    omega
  have nd' : (0 :: rows.map f).Nodup := by
    refine List.nodup_cons.mpr ⟨fun z => ?_, List.pairwise_map.mpr (List.Pairwise.imp_of_mem (fun {S T} hS hT h' e => h' ?_) nd)⟩
    · obtain ⟨r, hr, e⟩ := List.mem_map.mp z
      obtain ⟨pw, o, po, mem'⟩ := (h.mem r).mp hr
      have := (hf r hr 0).mpr ((mem' 0).mpr List.mem_cons_self)
      rw [e] at this
      simp at this
    · exact lot_eq ((h.mem S).mp hS).1 ((h.mem T).mp hT).1 fun x => by rw [← hf S hS, ← hf T hT, e]
  have := nd'.length_le_of_subset (l₂ := List.range 64) fun S hS => by
    rcases List.mem_cons.mp hS with rfl | hS
    · simp
    · obtain ⟨r, hr, rfl⟩ := List.mem_map.mp hS
      exact List.mem_range.mpr (lt64 r hr)
  rw [List.length_cons, List.length_map, List.length_range] at this
  omega
/-- the lots of the turned map are those of the map, turned -/
theorem GRows.trn {n g A : Nat} {es : Es} {rows rows' : List (List Nat)} (h : GRows es [g] A rows) (gz : g ≠ 0) (gn : g < n) (n0 : 0 < n) (ok : ∀ e ∈ es, e.1 < n ∧ e.2 < n) (pr : rows'.Perm (rows.map (swR g n))) (srt : rows'.Pairwise fun S T => rk S < rk T) : GRows (es.map (trn g)) [g] A rows' where
  srt := srt
  mem := fun T => by
    rw [pr.mem_iff, List.mem_map]
    constructor
    · rintro ⟨r, hr, rfl⟩
      have hl := (h.mem r).mp hr
      exact hl.trn gz swR_pw fun v => mem_swR gn (hl.lt n0 fun e he => (ok e he).2)
    · intro hT
      have lt : ∀ x ∈ T, x < n := hT.lt n0 fun e he => by
        obtain ⟨e0, h0, rfl⟩ := List.mem_map.mp he
        exact swq_lt gn (ok e0 h0).1
      have h1 := hT.trn gz (swR_pw (g := g) (n := n) (r := T)) fun v => mem_swR gn lt
      rw [map_trn_trn] at h1
      have lt2 : ∀ x ∈ swR g n T, x < n := fun x hx => List.mem_range.mp (List.mem_filter.mp hx).1
      exact ⟨swR g n T, (h.mem _).mpr h1, lot_eq swR_pw hT.1 fun v => by rw [mem_swR gn lt2, mem_swR gn lt, swq_swp]⟩
def spLaw (K : PySem.W.Frag) : Sp := fun vs H Q _ => ∃ (a : Addr) (ns : List Int), vs = [.ref a] ∧ SqL K H a (ns.map V.int) ∧ ns.length ≤ 63 ∧ ∀ H', Q (.bl true) H'
theorem ok_law {CMap : Addr} (B : Bt mg) (C : MapC K mg CMap) (N_Map : NeC K CMap) (h_init : HasI P w K mg base CMap 5 ["self", "many", "arrows", "goals"] (spMapInit K CMap)) (h_law_hand : Has P w K mg base "_law_hand" 1 ["_law_script"] (spHand K))
    (h_law_draw : Has P w K mg base "_law_draw" 1 ["_law_hand_here", "_law_many"] spDraw) (h_law_is_turned_twice : Has P w K mg base "_law_is_turned_twice" 9 ["_law_hand_here"] (spTwice K)) (h_law_parts : Has P w K mg base "_law_parts" 4 ["_law_hand_here", "_law_places", "_law_arrows"] (spParts K))
    (h_law_lots : Has P w K mg base "_law_lots" 2 ["_law_parts_here"] (spLLots33 K)) (h_worst : Has P w K mg base "worst" 6 ["chart"] (spWorst K CMap)) (h_greatest_lots : Has P w K mg base "greatest_lots" 6 ["chart"] (spGLots K CMap))
    (h_law_turned : Has P w K mg base "_law_turned" 9 ["_law_chart"] (spLawTurned K CMap)) (h_turned : Has P w K mg base "turned" 8 ["chart"] (spTurned K CMap)) (h_Map___eq__ : HasM P w K mg base CMap "__eq__" 1 ["self", "other"] (spEq (RMap K CMap)))
    {f : Addr} {fd : FuncData} (F : Fun K "law" "law" s_law f fd) : FnOk P w K mg base CX0 10 f fd ["_law_script"] (spLaw K) := by
  refine F.ok sc_law (fun vs H Q E h => ?_) (fun cdv A outer s H vs Q E hr h => ?_)
  · obtain ⟨a, ns, rfl, _⟩ := h
    rfl
  · obtain ⟨sc, ns, rfl, hS, hns, q⟩ := h
    refine ⟨_, (pss_cons (ps_set (i := 1) sc_law.nd rfl (.inl rfl) (pcall h_law_hand hr (by decide) (by rfl) (pa_cons (pv 0) pa_nil)))
  (C8.pss_cut (ps_if (PW.pt (pw_and (pt_cmpR op_eq (pcall h_law_draw hr (by decide) (by rfl) (pa_cons (pv 1) (pa_cons pe_int pa_nil))) pe_int (nomark _)) (pw_and1 (pt_not (pt_val (pcall h_law_is_turned_twice hr (by decide) (by rfl) (pa_cons (pv 1) pa_nil)))))))
    (pss_one (ps_ret pe_bl))
    pss_nil)
  (pss_cons (ps_set (i := 2) sc_law.nd rfl (.inl rfl) (pcall h_law_parts hr (by decide) (by rfl) (pa_cons (pv 1) (pa_cons pe_int (pa_cons pe_int pa_nil)))))
  (pss_cons (ps_set (i := 3) sc_law.nd rfl (.inl rfl) (pe_make h_init.m h_init.F (hr.mono (by decide)) (by rfl) C.mgMap h_init.b .nil pass0 (pa_cons (pe_ix (k_ixt (K := K) rfl) (pv 2) pe_int (fun _ _ => rfl)) (pa_cons (pe_ix (k_ixt (K := K) rfl) (pv 2) pe_int (fun _ _ => rfl)) (pa_cons (pe_ix (k_ixt (K := K) rfl) (pv 2) pe_int (fun _ _ => rfl)) pa_nil)))))
  (pss_cons (ps_asg (pcall h_law_lots hr (by decide) (by rfl) (pa_cons (pv 2) pa_nil)) (pg_tup rfl (pgs_cons (pg_name (i := 4) sc_law.nd rfl (.inl rfl)) (pgs_cons (pg_name (i := 5) sc_law.nd rfl (.inl rfl)) pgs_nil))))
  (pss_cons (ps_if (PW.pt (pw_or (pt_cmpR op_ne (pcall h_worst hr (by decide) (by rfl) (pa_cons (pv 3) pa_nil)) (pv 4) (nomark _)) (pw_or1 (pt_cmpR (k_neD (K := K) rfl hr.units) (pcall h_greatest_lots hr (by decide) (by rfl) (pa_cons (pv 3) pa_nil)) (pv 5) (nomark _)))))
    (pss_one (ps_ret pe_bl))
    pss_nil)
  (pss_cons (ps_set (i := 6) sc_law.nd rfl (.inl rfl) (pcall h_law_turned hr (by decide) (by rfl) (pa_cons (pv 3) pa_nil)))
  (pss_cons (ps_if (pt_cmpR op_gt (pe_callB (k_len (K := K) rfl) (by rfl) B.len bo_len (pa_cons (pe_ix (k_ixt (K := K) rfl) (pv 2) pe_int (fun _ _ => rfl)) pa_nil)) pe_int (nomark _))
    (pss_one (ps_ret (pe_cmpR op_eq (pv 6) pe_str (nomark _))))
    pss_nil)
  (pss_cons (ps_set (i := 7) sc_law.nd rfl (.inl rfl) (pe_ix (k_ixt (K := K) rfl) (pe_ix (k_ixt (K := K) rfl) (pv 2) pe_int (fun _ _ => rfl)) pe_int (fun _ _ => rfl)))
  (pss_cons (ps_set (i := 8) sc_law.nd rfl (.inr rfl) (pe_listRg rfl (by rfl) B.list (prg_1 (by rfl) B.range (pe_ix (k_ixt (K := K) rfl) (pv 2) pe_int (fun _ _ => rfl)))))
  (pss_cons (ps_asg (pv 7) (pg_sub (pv 8) pe_int set_list))
  (pss_cons (ps_asg pe_int (pg_sub (pv 8) (pv 7) set_list))
  (pss_cons (ps_set (i := 9) sc_law.nd rfl (.inl rfl) (pe_make h_init.m h_init.F (hr.mono (by decide)) (by rfl) C.mgMap h_init.b .nil pass0 (pa_cons (pe_ix (k_ixt (K := K) rfl) (pv 2) pe_int (fun _ _ => rfl)) (pa_cons (pe_callTy (k_tuple (K := K) rfl) (by rfl) B.tuple bo_tuple (pa_cons (pe_lc (own := [("_law_tail_here", 10), ("_law_head", 11)]) (g := gTup K 2 (gCons (gName 10) (gCons (gName 11) gNil))) rfl sc_law.nd (k_pit (K := K) rfl (pe_ix (k_ixt (K := K) rfl) (pv 2) pe_int (fun _ _ => rfl))) (blkOk_by (N := sl_law) (sc := defScope s_law) (by decide +kernel)) (fun _ _ _ _ _ => (pg_tup rfl (pgs_cons (pg_name (i := 10) sc_law.nd rfl (.inl rfl)) (pgs_cons (pg_name (i := 11) sc_law.nd rfl (.inl rfl)) pgs_nil)))) (fun _ _ _ _ _ => pts_nil) (fun _ _ _ _ _ => (pe_tup (pa_cons (pe_ix (k_ixl (K := K) rfl) (pv 8) (pv 11) (fun _ _ => rfl)) (pa_cons (pe_ix (k_ixl (K := K) rfl) (pv 8) (pv 10) (fun _ _ => rfl)) pa_nil))))) pa_nil)) (pa_cons (pe_ix (k_ixt (K := K) rfl) (pv 2) pe_int (fun _ _ => rfl)) pa_nil)))))
  (pss_cons (ps_if (PW.pt (pw_or (pt_cmpR (k_neM h_Map___eq__ N_Map hr (by decide)) (pv 6) (pv 9) (nomark _)) (pw_or (pt_cmpR op_ne (pcall h_worst hr (by decide) (by rfl) (pa_cons (pv 6) pa_nil)) (pv 4) (nomark _)) (pw_or1 (pt_cmpR (k_neM h_Map___eq__ N_Map hr (by decide)) (pcall h_turned hr (by decide) (by rfl) (pa_cons (pv 6) pa_nil)) (pv 3) (nomark _))))))
    (pss_one (ps_ret pe_bl))
    pss_nil)
  (pss_one (ps_ret (pe_cmpR (k_eqD (K := K) rfl hr.units) (pcall h_greatest_lots hr (by decide) (by rfl) (pa_cons (pv 6) pa_nil)) (pe_callB (k_sortedV (K := K) rfl) (by rfl) B.sorted bo_sorted (pa_cons (pe_lc (own := [("_law_lot", 12)]) (g := gName 12) rfl sc_law.nd (k_pil (K := K) rfl (pv 5)) (blkOk_by (N := sl_law) (sc := defScope s_law) (by decide +kernel)) (fun _ _ _ _ _ => (pg_name (i := 12) sc_law.nd rfl (.inl rfl))) (fun _ _ _ _ _ => pts_nil) (fun _ _ _ _ _ => (pe_callTy (k_tuple (K := K) rfl) (by rfl) B.tuple bo_tuple (pa_cons (pe_callB (k_sorted (K := K) rfl) (by rfl) B.sorted bo_sorted (pa_cons (pe_lc (own := [("_law_place", 13)]) (g := gName 13) rfl sc_law.nd (k_pit (K := K) rfl (pv 12)) (blkOk_by (N := sl_law) (sc := sc2_law) (by decide +kernel)) (fun _ _ _ _ _ => (pg_name (i := 13) sc_law.nd rfl (.inl rfl))) (fun _ _ _ _ _ => pts_nil) (fun _ _ _ _ _ => (pe_ix (k_ixl (K := K) rfl) (pv 8) (pv 13) (fun _ _ => rfl)))) pa_nil)) pa_nil)))) pa_nil)) (nomark _)))))))))))))))))), ?_⟩
    refine ⟨_, rfl, sc, ns, fun _ => none, rfl, hS, by omega, fun b o e => (by cases e), fun h F0 H1 g1 hA => ?_⟩
    have hF := g1.sub'
    refine ⟨fun σ H' => σ = [some (.ref sc), some (.ref h), none, none, none, none, none, none, none, none, none, none, none, none] ∧ Dr F0 H1 H' h, ?_, ?_⟩
    · refine ⟨_, rfl, h, 4, F0, rfl, by decide, small_log (by decide) (by decide +kernel), hF, hA, fun k0 H2 hk0 hk1 dd2 => ?_⟩
      refine ⟨rfl, _, rfl, ?_⟩
      by_cases e : V.int k0 = V.int 0
      · rw [decide_eq_true e]
        refine iteT ?_
        exact ⟨_, rfl, h, F0, rfl, dd2.sub, dd2.hand, fun H3 d3 => ⟨_, rfl, iteF ⟨rfl, dd2.dr.trans d3⟩⟩⟩
      · rw [decide_eq_false e]
        exact iteF ⟨rfl, dd2.dr⟩
    rintro σ H2 ⟨rfl, d2⟩
    -- the parts
    refine ⟨_, rfl, h, 6, 12, F0, rfl, by decide, by decide, by decide, d2.sub, d2.hand, fun pt n a c pvs es gs H3 n6 _ d3 hpt0 => ?_⟩
    have hpt : PtsAt K H3 pt n a pvs es c gs := hpt0.same d3.hvG.sub'
    have hl := hpt.pr.len
    have gn2 := hpt.gm.n2
    -- the map
    refine ⟨_, rfl, pt, _, (0 : Nat), nV n, rfl, rfl, hpt.tp, atI_nat rfl, _, rfl, pt, _, (1 : Nat), .ref a, rfl, rfl, hpt.tp, atI_nat rfl, _, rfl, pt, _, (2 : Nat), .ref c, rfl, rfl, hpt.tp, atI_nat rfl, ?_⟩
    intro p dx np ndx nedx
    have s5 : Same H3 (upd (upd H3 dx (.own p)) p (.ins CMap dx [])) := fun b o e => by
      rw [upd_ne (ne_of_none e np), upd_ne (ne_of_none e ndx)]
      exact e
    refine ⟨p, dx, n, a, pvs, es, c, gs, rfl, upd_same, Same.sqt s5 hpt.ar, hpt.pr.same s5, Same.sqt s5 hpt.go, hpt.gm, fun H4 mp keep => ⟨rfl, ?_⟩⟩
    have s34 : Same H3 H4 := fun b o e => keep b o (ne_of_none e np) (s5 b o e)
    have hpt4 := hpt.same s34
    have m4 := MapOk.of mp (hpt.pr.same s34) hpt.gm
    have few6 : ∀ {es' : Es} {gs' : List Nat} (cps : List Nat), Cps n es' gs' cps → cps.length ≤ 6 := fun cps hC => by
      have := pw_len hC.pw (l := 0) fun z hz => ⟨Nat.zero_le _, ((hC.mem z).mp hz).1⟩
      omega
    have few9 : ∀ {es' : Es} {gs' : List Nat} (cps : List Nat), Cps n es' gs' cps → cps.length ≤ 9 := fun cps hC => Nat.le_trans (few6 cps hC) (by decide)
    -- the lots
    refine ⟨_, rfl, pt, n, a, pvs, es, c, gs, rfl, hpt4, n6, fun r S zs rows A H5 s45 hr hS5 rA lft gr => ?_⟩
    refine ⟨r, _, rfl, hr, rfl, _, _, rfl, _, _, rfl, rfl, ?_⟩
    have m5 := m4.same s45
    refine ⟨_, rfl, p, n, a, pvs, es, c, gs, rfl, m5, hpt.gm, few9, fun A2 H6 s56 lft2 => ⟨_, rfl, rfl, _, rfl, ?_⟩⟩
    have eA := lft2.uniq lft
    subst eA
    rw [decide_eq_true rfl]
    refine iteF ?_
    have m6 := m5.same s56
    refine ⟨_, rfl, p, n, a, pvs, es, c, gs, rfl, m6, hpt.gm, few6, fun D zs2 rows2 A3 H7 s67 nD hD rA2 lft3 gr2 => ?_⟩
    have eA := lft3.uniq lft
    subst eA
    have er := gr2.uniq gr
    subst er
    have s57 := s56.trans s67
    have hS7 := s57 _ _ hS5
    have rA7 : RowsAt K H7 zs rows2 := rA.mono fun a xs h => Same.sqt s57 h
    refine ⟨_, rfl, .list (rows2.map rowD), .list (rows2.map rowD), .lst (sql hD) (dp_rows rA2), .lst (sql hS7) (dp_rows rA7), shp_rows, shp_rows, _, rfl, ?_⟩
    rw [eqv_same shp_rows]
    refine iteF ?_
    have m7 := m6.same s67
    have s47 := s45.trans s57
    have hpt7 := hpt4.same s47
    have d7 := d2.trans (d3.trans (Dr.of_same d3.hand d3.sub (s34.trans s47)))
    have ggl := hpt.gm.gl2
    by_cases many : 1 < gs.length
    · refine ⟨_, rfl, .inr ⟨p, n, a, pvs, c, gs, rfl, m7.at_, many, ?_⟩⟩
      refine ⟨_, rfl, pt, _, (2 : Nat), .ref c, rfl, rfl, hpt7.tp, atI_nat rfl, c, _, rfl, .inr hpt7.go, _, _, rfl, rfl, _, rfl, ?_⟩
      rw [decide_eq_true (show ((gs.map nV).length : Int) > 1 by rw [List.length_map]; omega)]
      refine iteT ?_
      refine ⟨_, rfl, rfl, ?_⟩
      rw [decide_eq_true rfl]
      exact q _
    obtain ⟨g, eg⟩ := one_of33 hpt.gm.ne many
    subst eg
    have gz := (hpt.gm.gl g List.mem_cons_self).1
    have gn := (hpt.gm.gl g List.mem_cons_self).2
    refine ⟨_, rfl, .inl ⟨p, n, a, pvs, es, c, g, rfl, m7, fun p2 a2 c2 pvs2 H8 s78 m8 => ?_⟩⟩
    have hpt8 := hpt7.same s78
    refine ⟨_, rfl, pt, _, (2 : Nat), .ref c, rfl, rfl, hpt8.tp, atI_nat rfl, c, _, rfl, .inr hpt8.go, _, _, rfl, rfl, _, rfl, ?_⟩
    rw [decide_eq_false (show ¬ ((([g] : List Nat).map nV).length : Int) > 1 by simp)]
    refine iteF ?_
    refine ⟨_, rfl, pt, _, (2 : Nat), .ref c, rfl, rfl, hpt8.tp, atI_nat rfl, c, _, (0 : Nat), nV g, rfl, rfl, hpt8.go, atI_nat rfl, ?_⟩
    refine ⟨_, rfl, pt, _, (0 : Nat), nV n, rfl, rfl, hpt8.tp, atI_nat rfl, (n : Int), rfl, ⟨by omega, by omega, by omega, by omega, by omega⟩, fun r' nr => ?_⟩
    have hr1 : (upd H8 r' (.lst (rgV 0 (n : Int)))) r' = some (.lst (rgV 0 (n : Int))) := upd_same
    rw [rgV0] at *
    refine ⟨_, rfl, _, rfl, r', _, ((0 : Nat) : Int), 0, rfl, rfl, upd_same, ixN_nat (by rw [List.length_map, List.length_range]; omega), ?_⟩
    refine ⟨_, rfl, _, rfl, r', _, (g : Int), g, rfl, rfl, upd_same, ixN_nat (by rw [List.length_set, List.length_map, List.length_range]; exact gn), ?_⟩
    rw [upd_upd, upd_upd]
    rw [swq_row gn]
    have s89 := same_new (o := .lst ((List.range n).map fun v => nV (swq g v))) (Same.refl H8) nr
    generalize hH9 : upd H8 r' (.lst ((List.range n).map fun v => nV (swq g v))) = H9 at s89
    have hr9 : H9 r' = some (.lst ((List.range n).map fun v => nV (swq g v))) := by rw [← hH9]; exact upd_same
    have hpt9 := hpt8.same s89
    have at1 : ∀ {v : Nat}, v < n → ((List.range n).map fun v => nV (swq g v))[v]? = some (nV (swq g v)) := fun {v} hv => by rw [List.getElem?_map, List.getElem?_range hv]; rfl
    -- as it is due
    refine ⟨_, rfl, pt, _, (0 : Nat), nV n, rfl, rfl, hpt9.tp, atI_nat rfl, _, rfl, pt, _, (1 : Nat), .ref a, rfl, rfl, hpt9.tp, atI_nat rfl, a, rfl, ⟨_, hpt9.ar⟩, fun D1 nD1 => ?_⟩
    have hl9 := hpt9.pr.len
    refine lc_rel walk_tup calm_at (RelN H9 (trn g) es) RelN.stay (by have := hpt.gm.l60; omega) nD1 (fun H10 s10 => Same.sqt s10 hpt9.ar) ?_ fun H10 os s10 hol hos hD10 => ?_
    · rintro i v H10 H11 hi s10 ⟨rfl, hv⟩ Kt kt
      obtain ⟨e, hei, tt, rfl, ht⟩ := hpt9.pr.get hv
      obtain ⟨e1, e2⟩ := e
      obtain ⟨h1, h2, _⟩ := hpt.gm.ok _ (List.mem_of_getElem? hei)
      have hr10 := s10 _ _ hr9
      refine ⟨tt, _, rfl, Same.sqt s10 ht, rfl, _, _, rfl, _, _, rfl, rfl, rfl, tyes ?_⟩
      refine iteT ?_
      refine ⟨_, rfl, _, rfl, r', _, (e2 : Int), nV (swq g e2), rfl, rfl, sql hr10, atI_nat (at1 h2), _, rfl, _, rfl, r', _, (e1 : Int), nV (swq g e1), rfl, rfl, sql hr10, atI_nat (at1 h1), by show 2 ≤ sizeLine; decide, fun t2 nt2 => ?_⟩
      exact kt _ _ (same_new (Same.refl _) nt2) ⟨(e1, e2), _, hei, rfl, t2, rfl, upd_same, Same.free s10 nt2⟩
    obtain ⟨hvl, hva⟩ := relN_vals (hol.trans hl9) hos
    generalize os.filterMap id = pvs3 at hD10 hvl hva
    refine ⟨D1, _, rfl, .inl ⟨sql hD10, fun ar nar => ?_⟩⟩
    have s11 := same_new (o := .tup pvs3) (Same.refl H10) nar
    have har : (upd H10 ar (.tup pvs3)) ar = some (.tup pvs3) := upd_same
    have s911 := s10.trans s11
    generalize upd H10 ar (.tup pvs3) = H11 at s11 har s911
    have hpt11 := hpt9.same s911
    have pr3 : Prs K H11 pvs3 (es.map (trn g)) := ⟨by rw [List.length_map, hvl], fun i v e hv he => by
      rw [List.getElem?_map] at he
      cases he0 : es[i]? with
      | none => rw [he0] at he; cases he
      | some e0 =>
        rw [he0] at he
        cases he
        obtain ⟨tt, rfl, ht, hn⟩ := hva i v e0 hv he0
        exact ⟨tt, rfl, sqt (s11 _ _ ht)⟩⟩
    refine ⟨_, rfl, pt, _, (2 : Nat), .ref c, rfl, rfl, hpt11.tp, atI_nat rfl, ?_⟩
    intro p3 dx3 np3 ndx3 nedx3
    have s12 : Same H11 (upd (upd H11 dx3 (.own p3)) p3 (.ins CMap dx3 [])) := fun b o e => by
      rw [upd_ne (ne_of_none e np3), upd_ne (ne_of_none e ndx3)]
      exact e
    refine ⟨p3, dx3, n, ar, pvs3, es.map (trn g), c, [g], rfl, upd_same, Same.sqt s12 (sqt har), pr3.same s12, Same.sqt s12 hpt11.go, hpt.gm.trn, fun H13 mp3 keep3 => ⟨rfl, ?_⟩⟩
    have s1113 : Same H11 H13 := fun b o e => keep3 b o (ne_of_none e np3) (s12 b o e)
    have m13 := MapOk.of mp3 (pr3.same s1113) hpt.gm.trn
    have s813 := s89.trans (s911.trans s1113)
    have m8' := m8.same s813
    -- the tests
    refine ⟨_, rfl, _, rfl, RMap.d m8' m13, fun H14 s14 => ⟨_, rfl, iteF ?_⟩⟩
    have m14 := m8'.same s14
    refine ⟨_, rfl, p2, n, a2, pvs2, es.map (trn g), c2, [g], rfl, m14, hpt.gm.trn, few9, fun A4 H15 s15 lft4 => ⟨_, rfl, rfl, _, rfl, ?_⟩⟩
    have eA := lft4.uniq (lft.trn gz)
    subst eA
    rw [decide_eq_true rfl]
    refine iteF ?_
    have m15 := m14.same s15
    refine ⟨_, rfl, p2, n, a2, pvs2, es.map (trn g), c2, g, rfl, m15, fun p4 a4 c4 pvs4 H16 s16 m16 => ?_⟩
    rw [map_trn_trn] at m16
    have s816 := s813.trans (s14.trans (s15.trans s16))
    refine ⟨_, rfl, RMap.d m16 (m7.same (s78.trans s816)), fun H17 s17 => ⟨_, rfl, iteF ?_⟩⟩
    have s817 := s816.trans s17
    have m17 := m8.same s817
    refine ⟨_, rfl, p2, n, a2, pvs2, es.map (trn g), c2, [g], rfl, m17, hpt.gm.trn, few6, fun D3 zs3 rows3 A5 H18 s18 nD3 hD3 rA3 lft5 gr3 => ?_⟩
    have eA := lft5.uniq (lft.trn gz)
    subst eA
    have s818 := s817.trans s18
    have s718 := s78.trans s818
    have hS18 := s718 _ _ hS7
    have rA18 : RowsAt K H18 zs rows2 := rA7.mono fun a xs h => Same.sqt s718 h
    have hr18 := (s911.trans (s1113.trans (s14.trans (s15.trans (s16.trans (s17.trans s18)))))) _ _ hr9
    have okE : ∀ e ∈ es, e.1 < n ∧ e.2 < n := fun e he => ⟨(hpt.gm.ok e he).1, (hpt.gm.ok e he).2.1⟩
    have rlen : rows2.length < 64 := few_rows gr (by omega) n6 fun e he => (okE e he).2
    have zl : zs.length = rows2.length := rA18.len
    refine ⟨_, rfl, S, rfl, ⟨_, sql hS18⟩, fun D5 nD5 => ?_⟩
    refine lc_rel walk_list calm_at (fun i H' o => ∃ (r : List Nat) (t : Addr), (rows2.map (swR g n))[i]? = some r ∧ o = some (V.ref t) ∧ SqT K H' t (r.map nV)) (fun i o H' H'' acc hacc ⟨r, t, h1, h2, h3⟩ k => ⟨r, t, h1, h2, ?_⟩) (by omega) nD5 (fun H19 s19 => sql (s19 _ _ hS18)) ?_ ?_
    · rcases h3 with (h3 | ⟨z, h3⟩) | h3
      · exact .inl (.inl (k _ _ (ne_of h3 hacc (by intro z; cases z)) h3))
      · exact .inl (.inr ⟨z, k _ _ (ne_of h3 hacc (by intro z; cases z)) h3⟩)
      · exact .inr h3
    · rintro i v H19 H20 hi s19 ⟨rfl, hv⟩ Kt kt
      obtain ⟨tl, l, hli, rfl, htl⟩ := (rA18.mono fun a xs => Same.sqt s19).get hv
      have hG := (gr.mem l).mp (List.mem_of_getElem? hli)
      have llt := hG.lt (n := n) (by omega) fun e he => (okE e he).2
      have ll := pw_len hG.1 (l := 0) fun z hz => ⟨Nat.zero_le _, llt z hz⟩
      have hr19 := s19 _ _ hr18
      refine ⟨rfl, tyes ?_⟩
      refine iteT ?_
      refine ⟨_, rfl, tl, rfl, ⟨_, htl⟩, fun D6 nD6 => ?_⟩
      refine lc_val walk_tup calm_at (fun j => (l[j]?).bind fun v => some (nV (swq g v))) (by rw [List.length_map]; omega) nD6 (fun H21 s21 => Same.sqt s21 htl) ?_ fun H21 s21 h21 => ?_
      · rintro j v H21 H22 hj s21 ⟨rfl, hv⟩ Kt' kt'
        obtain ⟨x, hx, rfl⟩ := getmap hv
        have k0 := kt' _ (Same.refl _)
        rw [hx] at k0
        refine ⟨rfl, tyes ?_⟩
        refine iteT ?_
        exact ⟨_, rfl, _, rfl, r', _, (x : Int), nV (swq g x), rfl, rfl, sql (s21 _ _ hr19), atI_nat (at1 (llt x (List.mem_of_getElem? hx))), k0⟩
      rw [List.length_map, fm_range, fm_some] at h21
      rw [show (l.map fun v => nV (swq g v)) = ((l.map (swq g)).map fun (n : Nat) => (n : Int)).map V.int by rw [List.map_map, List.map_map]; rfl] at h21
      refine ⟨D6, _, rfl, sql h21, fun ns' b3 np ns nb3 => ?_⟩
      obtain ⟨gs', e5, gp, gl⟩ := sort_nats np ns
      rw [e5]
      have s22 := same_new (o := .lst (gs'.map nV)) (Same.refl H21) nb3
      refine ⟨b3, _, rfl, .inl ⟨sql upd_same, fun lo nlo => ?_⟩⟩
      have s23 := same_new (o := .tup (gs'.map nV)) (Same.refl _) nlo
      obtain ⟨w1, w2⟩ := sort_swq (ns := []) hG.1 gp gl
      have eT : gs' = swR g n l := lot_eq w1 swR_pw fun v => by rw [w2, mem_swR gn llt]
      exact kt _ _ ((s21.trans s22).trans s23) ⟨swR g n l, lo, by rw [List.getElem?_map, hli]; rfl, rfl, by rw [← eT]; exact sqt upd_same⟩
    rintro H19 os s19 hol hos hD19
    obtain ⟨L, eL, e2, hL⟩ := refs_rel (rows := rows2.map (swR g n)) (os := os) (by rw [hol, List.length_map, zl]) hos
    have Ll : L.length = rows2.length := by
      have := congrArg List.length e2
      rwa [List.length_map, List.length_map, List.length_map] at this
    have swlt : ∀ r, ∀ x ∈ swR g n r, x < n := fun r x hx => List.mem_range.mp (List.mem_filter.mp hx).1
    have nd2 : rows2.Nodup := gr.srt.imp fun h z => by rw [z] at h; omega
    have rnd : (rows2.map (swR g n)).Nodup := by
      refine List.pairwise_map.mpr (List.Pairwise.imp_of_mem (fun {S T} hS hT h e => h ?_) nd2)
      have gS := (gr.mem S).mp hS
      have gT := (gr.mem T).mp hT
      refine lot_eq gS.1 gT.1 fun x => ?_
      have lS := gS.lt (n := n) (by omega) fun e he => (okE e he).2
      have lT := gT.lt (n := n) (by omega) fun e he => (okE e he).2
      have h1 := mem_swR (g := g) (v := swq g x) gn lS
      have h2 := mem_swR (g := g) (v := swq g x) gn lT
      rw [swq_swp] at h1 h2
      rw [← h1, ← h2, e]
    have rsm : ∀ r ∈ rows2.map (swR g n), r.length ≤ 63 ∧ ∀ z ∈ r, z < 63 := fun r hr => by
      obtain ⟨S, hS, rfl⟩ := List.mem_map.mp hr
      have := pw_len (swR_pw (g := g) (n := n) (r := S)) (l := 0) fun z hz => ⟨Nat.zero_le _, swlt S z hz⟩
      exact ⟨by omega, fun z hz => by have := swlt S z hz; omega⟩
    have r0 : ∀ r ∈ rows2.map (swR g n), 1 ≤ r.length := fun r hr => by
      obtain ⟨S, hS, rfl⟩ := List.mem_map.mp hr
      have gS := (gr.mem S).mp hS
      obtain ⟨_, o, po, mm⟩ := id gS
      have lS := gS.lt (n := n) (by omega) fun e he => (okE e he).2
      refine List.length_pos_of_mem (a := swq g 0) ((mem_swR gn lS).mpr ?_)
      rw [swq_swp]
      exact (mm 0).mpr List.mem_cons_self
    refine ⟨D5, L, 63, 63, rfl, by rw [← eL]; exact sql hD19, by decide, by omega, fun p' hp' => ?_, fun L' Dr pm pw nDr => ?_⟩
    · have hm : p'.2 ∈ L.map (fun p => p.2) := List.mem_map.mpr ⟨p', hp', rfl⟩
      rw [e2] at hm
      obtain ⟨r, hr, er⟩ := List.mem_map.mp hm
      have sm := rsm r hr
      refine ⟨hL p' hp', ?_, ?_, ?_⟩
      · rw [← er, List.length_map]; exact r0 r hr
      · rw [← er, List.length_map]; exact sm.1
      · rw [← er]; exact bd_ints sm.2
    obtain ⟨rows', pr, er, srt⟩ := srt_rows rnd rsm e2 pm pw
    have gr4 := gr.trn gz gn (by omega) okE pr srt
    have e4 := gr4.uniq gr3
    subst e4
    have s20 := same_new (o := .lst (L'.map fun q => V.ref q.1)) (Same.refl H19) nDr
    have rA4 : RowsAt K (upd H19 Dr (.lst (L'.map fun q => V.ref q.1))) (L'.map fun q => V.ref q.1) rows' := (rowsAt_of er fun p hp => hL p (pm.mem_iff.mp hp)).mono fun a xs h => Same.sqt s20 h
    refine ⟨.list (rows'.map rowD), .list (rows'.map rowD), .lst (sql ((s19.trans s20) _ _ hD3)) (dp_rows (rA3.mono fun a xs h => Same.sqt (s19.trans s20) h)), .lst (sql upd_same) (dp_rows rA4), shp_rows, shp_rows, ?_⟩
    rw [eqv_same shp_rows]
    exact q _

end
end U
namespace U
open PySem PySem.Spec PyProof.Rows L2
section
variable {P : Program} {w : World} {K : PySem.W.Frag} {mg : Str → Option Value} {base : Heap}
theorem bd_is_integer : ∀ (kV doc pm : Value) (an : Option Addr) (cdv ct : Value) (us : List Value), us.length = (["thing"] : List Str).length → bindArgs (PySem.W.fnOf "is_integer" "is_integer" (defArgs s_is_integer) (defBody s_is_integer) (defScope s_is_integer) .none kV doc pm an cdv ct) ⟨us, []⟩ = pure ((["thing"] : List Str).zip us) := fun _ _ _ _ _ _ us hl => match us, hl with | [_], _ => rfl
theorem bd_is_index : ∀ (kV doc pm : Value) (an : Option Addr) (cdv ct : Value) (us : List Value), us.length = (["thing", "many"] : List Str).length → bindArgs (PySem.W.fnOf "is_index" "is_index" (defArgs s_is_index) (defBody s_is_index) (defScope s_is_index) .none kV doc pm an cdv ct) ⟨us, []⟩ = pure ((["thing", "many"] : List Str).zip us) := fun _ _ _ _ _ _ us hl => match us, hl with | [_, _], _ => rfl
theorem bd_is_any_lot : ∀ (kV doc pm : Value) (an : Option Addr) (cdv ct : Value) (us : List Value), us.length = (["thing"] : List Str).length → bindArgs (PySem.W.fnOf "is_any_lot" "is_any_lot" (defArgs s_is_any_lot) (defBody s_is_any_lot) (defScope s_is_any_lot) .none kV doc pm an cdv ct) ⟨us, []⟩ = pure ((["thing"] : List Str).zip us) := fun _ _ _ _ _ _ us hl => match us, hl with | [_], _ => rfl
theorem bd_is_lot : ∀ (kV doc pm : Value) (an : Option Addr) (cdv ct : Value) (us : List Value), us.length = (["thing", "many"] : List Str).length → bindArgs (PySem.W.fnOf "is_lot" "is_lot" (defArgs s_is_lot) (defBody s_is_lot) (defScope s_is_lot) .none kV doc pm an cdv ct) ⟨us, []⟩ = pure ((["thing", "many"] : List Str).zip us) := fun _ _ _ _ _ _ us hl => match us, hl with | [_, _], _ => rfl
theorem bd_steps_from : ∀ (kV doc pm : Value) (an : Option Addr) (cdv ct : Value) (us : List Value), us.length = (["many", "pairs", "sources"] : List Str).length → bindArgs (PySem.W.fnOf "steps_from" "steps_from" (defArgs s_steps_from) (defBody s_steps_from) (defScope s_steps_from) .none kV doc pm an cdv ct) ⟨us, []⟩ = pure ((["many", "pairs", "sources"] : List Str).zip us) := fun _ _ _ _ _ _ us hl => match us, hl with | [_, _, _], _ => rfl
theorem bd_leads_to_all : ∀ (kV doc pm : Value) (an : Option Addr) (cdv ct : Value) (us : List Value), us.length = (["many", "pairs", "places"] : List Str).length → bindArgs (PySem.W.fnOf "leads_to_all" "leads_to_all" (defArgs s_leads_to_all) (defBody s_leads_to_all) (defScope s_leads_to_all) .none kV doc pm an cdv ct) ⟨us, []⟩ = pure ((["many", "pairs", "places"] : List Str).zip us) := fun _ _ _ _ _ _ us hl => match us, hl with | [_, _, _], _ => rfl
theorem bd_Map_many : ∀ (kV doc pm : Value) (an : Option Addr) (cdv ct : Value) (us : List Value), us.length = (["self"] : List Str).length → bindArgs (PySem.W.fnOf "many" "Map.many" (defArgs s_Map_many) (defBody s_Map_many) (defScope s_Map_many) .none kV doc pm an cdv ct) ⟨us, []⟩ = pure ((["self"] : List Str).zip us) := fun _ _ _ _ _ _ us hl => match us, hl with | [_], _ => rfl
theorem bd_Map_arrows : ∀ (kV doc pm : Value) (an : Option Addr) (cdv ct : Value) (us : List Value), us.length = (["self"] : List Str).length → bindArgs (PySem.W.fnOf "arrows" "Map.arrows" (defArgs s_Map_arrows) (defBody s_Map_arrows) (defScope s_Map_arrows) .none kV doc pm an cdv ct) ⟨us, []⟩ = pure ((["self"] : List Str).zip us) := fun _ _ _ _ _ _ us hl => match us, hl with | [_], _ => rfl
theorem bd_Map_goals : ∀ (kV doc pm : Value) (an : Option Addr) (cdv ct : Value) (us : List Value), us.length = (["self"] : List Str).length → bindArgs (PySem.W.fnOf "goals" "Map.goals" (defArgs s_Map_goals) (defBody s_Map_goals) (defScope s_Map_goals) .none kV doc pm an cdv ct) ⟨us, []⟩ = pure ((["self"] : List Str).zip us) := fun _ _ _ _ _ _ us hl => match us, hl with | [_], _ => rfl
theorem bd_is_pair : ∀ (kV doc pm : Value) (an : Option Addr) (cdv ct : Value) (us : List Value), us.length = (["thing", "many"] : List Str).length → bindArgs (PySem.W.fnOf "is_pair" "is_pair" (defArgs s_is_pair) (defBody s_is_pair) (defScope s_is_pair) .none kV doc pm an cdv ct) ⟨us, []⟩ = pure ((["thing", "many"] : List Str).zip us) := fun _ _ _ _ _ _ us hl => match us, hl with | [_, _], _ => rfl
theorem bd_check_pairs : ∀ (kV doc pm : Value) (an : Option Addr) (cdv ct : Value) (us : List Value), us.length = (["many", "pairs", "most"] : List Str).length → bindArgs (PySem.W.fnOf "check_pairs" "check_pairs" (defArgs s_check_pairs) (defBody s_check_pairs) (defScope s_check_pairs) .none kV doc pm an cdv ct) ⟨us, []⟩ = pure ((["many", "pairs", "most"] : List Str).zip us) := fun _ _ _ _ _ _ us hl => match us, hl with | [_, _, _], _ => rfl
theorem bd_are_goals : ∀ (kV doc pm : Value) (an : Option Addr) (cdv ct : Value) (us : List Value), us.length = (["thing", "many", "arrows"] : List Str).length → bindArgs (PySem.W.fnOf "are_goals" "are_goals" (defArgs s_are_goals) (defBody s_are_goals) (defScope s_are_goals) .none kV doc pm an cdv ct) ⟨us, []⟩ = pure ((["thing", "many", "arrows"] : List Str).zip us) := fun _ _ _ _ _ _ us hl => match us, hl with | [_, _, _], _ => rfl
theorem bd_Map___init__ : ∀ (kV doc pm : Value) (an : Option Addr) (cdv ct : Value) (us : List Value), us.length = (["self", "many", "arrows", "goals"] : List Str).length → bindArgs (PySem.W.fnOf "__init__" "Map.__init__" (defArgs s_Map___init__) (defBody s_Map___init__) (defScope s_Map___init__) .none kV doc pm an cdv ct) ⟨us, []⟩ = pure ((["self", "many", "arrows", "goals"] : List Str).zip us) := fun _ _ _ _ _ _ us hl => match us, hl with | [_, _, _, _], _ => rfl
theorem bd__law_hand : ∀ (kV doc pm : Value) (an : Option Addr) (cdv ct : Value) (us : List Value), us.length = (["_law_script"] : List Str).length → bindArgs (PySem.W.fnOf "_law_hand" "_law_hand" (defArgs s__law_hand) (defBody s__law_hand) (defScope s__law_hand) .none kV doc pm an cdv ct) ⟨us, []⟩ = pure ((["_law_script"] : List Str).zip us) := fun _ _ _ _ _ _ us hl => match us, hl with | [_], _ => rfl
theorem bd__law_draw : ∀ (kV doc pm : Value) (an : Option Addr) (cdv ct : Value) (us : List Value), us.length = (["_law_hand_here", "_law_many"] : List Str).length → bindArgs (PySem.W.fnOf "_law_draw" "_law_draw" (defArgs s__law_draw) (defBody s__law_draw) (defScope s__law_draw) .none kV doc pm an cdv ct) ⟨us, []⟩ = pure ((["_law_hand_here", "_law_many"] : List Str).zip us) := fun _ _ _ _ _ _ us hl => match us, hl with | [_, _], _ => rfl
theorem bd__law_shuffled : ∀ (kV doc pm : Value) (an : Option Addr) (cdv ct : Value) (us : List Value), us.length = (["_law_hand_here", "_law_things"] : List Str).length → bindArgs (PySem.W.fnOf "_law_shuffled" "_law_shuffled" (defArgs s__law_shuffled) (defBody s__law_shuffled) (defScope s__law_shuffled) .none kV doc pm an cdv ct) ⟨us, []⟩ = pure ((["_law_hand_here", "_law_things"] : List Str).zip us) := fun _ _ _ _ _ _ us hl => match us, hl with | [_, _], _ => rfl
theorem bd__law_tail : ∀ (kV doc pm : Value) (an : Option Addr) (cdv ct : Value) (us : List Value), us.length = (["_law_hand_here", "_law_pairs", "_law_goals", "_law_place"] : List Str).length → bindArgs (PySem.W.fnOf "_law_tail" "_law_tail" (defArgs s__law_tail) (defBody s__law_tail) (defScope s__law_tail) .none kV doc pm an cdv ct) ⟨us, []⟩ = pure ((["_law_hand_here", "_law_pairs", "_law_goals", "_law_place"] : List Str).zip us) := fun _ _ _ _ _ _ us hl => match us, hl with | [_, _, _, _], _ => rfl
theorem bd__law_renamed : ∀ (kV doc pm : Value) (an : Option Addr) (cdv ct : Value) (us : List Value), us.length = (["_law_hand_here", "_law_many", "_law_pairs", "_law_goals"] : List Str).length → bindArgs (PySem.W.fnOf "_law_renamed" "_law_renamed" (defArgs s__law_renamed) (defBody s__law_renamed) (defScope s__law_renamed) .none kV doc pm an cdv ct) ⟨us, []⟩ = pure ((["_law_hand_here", "_law_many", "_law_pairs", "_law_goals"] : List Str).zip us) := fun _ _ _ _ _ _ us hl => match us, hl with | [_, _, _, _], _ => rfl
theorem bd_great_map : ∀ (kV doc pm : Value) (an : Option Addr) (cdv ct : Value) (us : List Value), us.length = (["many", "arrows", "goals"] : List Str).length → bindArgs (PySem.W.fnOf "great_map" "great_map" (defArgs s_great_map) (defBody s_great_map) (defScope s_great_map) .none kV doc pm an cdv ct) ⟨us, []⟩ = pure ((["many", "arrows", "goals"] : List Str).zip us) := fun _ _ _ _ _ _ us hl => match us, hl with | [_, _, _], _ => rfl
theorem bd_check_one_goal : ∀ (kV doc pm : Value) (an : Option Addr) (cdv ct : Value) (us : List Value), us.length = (["chart"] : List Str).length → bindArgs (PySem.W.fnOf "check_one_goal" "check_one_goal" (defArgs s_check_one_goal) (defBody s_check_one_goal) (defScope s_check_one_goal) .none kV doc pm an cdv ct) ⟨us, []⟩ = pure ((["chart"] : List Str).zip us) := fun _ _ _ _ _ _ us hl => match us, hl with | [_], _ => rfl
theorem bd_turned : ∀ (kV doc pm : Value) (an : Option Addr) (cdv ct : Value) (us : List Value), us.length = (["chart"] : List Str).length → bindArgs (PySem.W.fnOf "turned" "turned" (defArgs s_turned) (defBody s_turned) (defScope s_turned) .none kV doc pm an cdv ct) ⟨us, []⟩ = pure ((["chart"] : List Str).zip us) := fun _ _ _ _ _ _ us hl => match us, hl with | [_], _ => rfl
theorem bd__law_turned : ∀ (kV doc pm : Value) (an : Option Addr) (cdv ct : Value) (us : List Value), us.length = (["_law_chart"] : List Str).length → bindArgs (PySem.W.fnOf "_law_turned" "_law_turned" (defArgs s__law_turned) (defBody s__law_turned) (defScope s__law_turned) .none kV doc pm an cdv ct) ⟨us, []⟩ = pure ((["_law_chart"] : List Str).zip us) := fun _ _ _ _ _ _ us hl => match us, hl with | [_], _ => rfl
theorem bd__law_parts : ∀ (kV doc pm : Value) (an : Option Addr) (cdv ct : Value) (us : List Value), us.length = (["_law_hand_here", "_law_places", "_law_arrows"] : List Str).length → bindArgs (PySem.W.fnOf "_law_parts" "_law_parts" (defArgs s__law_parts) (defBody s__law_parts) (defScope s__law_parts) .none kV doc pm an cdv ct) ⟨us, []⟩ = pure ((["_law_hand_here", "_law_places", "_law_arrows"] : List Str).zip us) := fun _ _ _ _ _ _ us hl => match us, hl with | [_, _, _], _ => rfl
theorem bd_bits : ∀ (kV doc pm : Value) (an : Option Addr) (cdv ct : Value) (us : List Value), us.length = (["kept"] : List Str).length → bindArgs (PySem.W.fnOf "bits" "bits" (defArgs s_bits) (defBody s_bits) (defScope s_bits) .none kV doc pm an cdv ct) ⟨us, []⟩ = pure ((["kept"] : List Str).zip us) := fun _ _ _ _ _ _ us hl => match us, hl with | [_], _ => rfl
theorem bd__sums : ∀ (kV doc pm : Value) (an : Option Addr) (cdv ct : Value) (us : List Value), us.length = (["row"] : List Str).length → bindArgs (PySem.W.fnOf "_sums" "_sums" (defArgs s__sums) (defBody s__sums) (defScope s__sums) .none kV doc pm an cdv ct) ⟨us, []⟩ = pure ((["row"] : List Str).zip us) := fun _ _ _ _ _ _ us hl => match us, hl with | [_], _ => rfl
theorem bd_counted_places : ∀ (kV doc pm : Value) (an : Option Addr) (cdv ct : Value) (us : List Value), us.length = (["chart"] : List Str).length → bindArgs (PySem.W.fnOf "counted_places" "counted_places" (defArgs s_counted_places) (defBody s_counted_places) (defScope s_counted_places) .none kV doc pm an cdv ct) ⟨us, []⟩ = pure ((["chart"] : List Str).zip us) := fun _ _ _ _ _ _ us hl => match us, hl with | [_], _ => rfl
theorem bd_check_counted : ∀ (kV doc pm : Value) (an : Option Addr) (cdv ct : Value) (us : List Value), us.length = (["chart"] : List Str).length → bindArgs (PySem.W.fnOf "check_counted" "check_counted" (defArgs s_check_counted) (defBody s_check_counted) (defScope s_check_counted) .none kV doc pm an cdv ct) ⟨us, []⟩ = pure ((["chart"] : List Str).zip us) := fun _ _ _ _ _ _ us hl => match us, hl with | [_], _ => rfl
theorem bd_Core___init__ : ∀ (kV doc pm : Value) (an : Option Addr) (cdv ct : Value) (us : List Value), us.length = (["self", "chart"] : List Str).length → bindArgs (PySem.W.fnOf "__init__" "Core.__init__" (defArgs s_Core___init__) (defBody s_Core___init__) (defScope s_Core___init__) .none kV doc pm an cdv ct) ⟨us, []⟩ = pure ((["self", "chart"] : List Str).zip us) := fun _ _ _ _ _ _ us hl => match us, hl with | [_, _], _ => rfl
theorem bd__next_spots : ∀ (kV doc pm : Value) (an : Option Addr) (cdv ct : Value) (us : List Value), us.length = (["core", "spots", "first"] : List Str).length → bindArgs (PySem.W.fnOf "_next_spots" "_next_spots" (defArgs s__next_spots) (defBody s__next_spots) (defScope s__next_spots) .none kV doc pm an cdv ct) ⟨us, []⟩ = pure ((["core", "spots", "first"] : List Str).zip us) := fun _ _ _ _ _ _ us hl => match us, hl with | [_, _, _], _ => rfl
theorem bd_orders : ∀ (kV doc pm : Value) (an : Option Addr) (cdv ct : Value) (us : List Value), us.length = (["core", "spots"] : List Str).length → bindArgs (PySem.W.fnOf "orders" "orders" (defArgs s_orders) (defBody s_orders) (defScope s_orders) .none kV doc pm an cdv ct) ⟨us, []⟩ = pure ((["core", "spots"] : List Str).zip us) := fun _ _ _ _ _ _ us hl => match us, hl with | [_, _], _ => rfl
theorem bd_excesses : ∀ (kV doc pm : Value) (an : Option Addr) (cdv ct : Value) (us : List Value), us.length = (["core"] : List Str).length → bindArgs (PySem.W.fnOf "excesses" "excesses" (defArgs s_excesses) (defBody s_excesses) (defScope s_excesses) .none kV doc pm an cdv ct) ⟨us, []⟩ = pure ((["core"] : List Str).zip us) := fun _ _ _ _ _ _ us hl => match us, hl with | [_], _ => rfl
theorem bd_worst : ∀ (kV doc pm : Value) (an : Option Addr) (cdv ct : Value) (us : List Value), us.length = (["chart"] : List Str).length → bindArgs (PySem.W.fnOf "worst" "worst" (defArgs s_worst) (defBody s_worst) (defScope s_worst) .none kV doc pm an cdv ct) ⟨us, []⟩ = pure ((["chart"] : List Str).zip us) := fun _ _ _ _ _ _ us hl => match us, hl with | [_], _ => rfl
theorem bd_Core_places : ∀ (kV doc pm : Value) (an : Option Addr) (cdv ct : Value) (us : List Value), us.length = (["self", "spots"] : List Str).length → bindArgs (PySem.W.fnOf "places" "Core.places" (defArgs s_Core_places) (defBody s_Core_places) (defScope s_Core_places) .none kV doc pm an cdv ct) ⟨us, []⟩ = pure ((["self", "spots"] : List Str).zip us) := fun _ _ _ _ _ _ us hl => match us, hl with | [_, _], _ => rfl
theorem bd__greatest_sets : ∀ (kV doc pm : Value) (an : Option Addr) (cdv ct : Value) (us : List Value), us.length = (["core"] : List Str).length → bindArgs (PySem.W.fnOf "_greatest_sets" "_greatest_sets" (defArgs s__greatest_sets) (defBody s__greatest_sets) (defScope s__greatest_sets) .none kV doc pm an cdv ct) ⟨us, []⟩ = pure ((["core"] : List Str).zip us) := fun _ _ _ _ _ _ us hl => match us, hl with | [_], _ => rfl
theorem bd__law_orders : ∀ (kV doc pm : Value) (an : Option Addr) (cdv ct : Value) (us : List Value), us.length = (["_law_things"] : List Str).length → bindArgs (PySem.W.fnOf "_law_orders" "_law_orders" (defArgs s__law_orders) (defBody s__law_orders) (defScope s__law_orders) .none kV doc pm an cdv ct) ⟨us, []⟩ = pure ((["_law_things"] : List Str).zip us) := fun _ _ _ _ _ _ us hl => match us, hl with | [_], _ => rfl
theorem bd__law_excess_of : ∀ (kV doc pm : Value) (an : Option Addr) (cdv ct : Value) (us : List Value), us.length = (["_law_parts_here", "_law_order"] : List Str).length → bindArgs (PySem.W.fnOf "_law_excess_of" "_law_excess_of" (defArgs s__law_excess_of) (defBody s__law_excess_of) (defScope s__law_excess_of) .none kV doc pm an cdv ct) ⟨us, []⟩ = pure ((["_law_parts_here", "_law_order"] : List Str).zip us) := fun _ _ _ _ _ _ us hl => match us, hl with | [_, _], _ => rfl
theorem bd_Map___eq__ : ∀ (kV doc pm : Value) (an : Option Addr) (cdv ct : Value) (us : List Value), us.length = (["self", "other"] : List Str).length → bindArgs (PySem.W.fnOf "__eq__" "Map.__eq__" (defArgs s_Map___eq__) (defBody s_Map___eq__) (defScope s_Map___eq__) .none kV doc pm an cdv ct) ⟨us, []⟩ = pure ((["self", "other"] : List Str).zip us) := fun _ _ _ _ _ _ us hl => match us, hl with | [_, _], _ => rfl
theorem bd_greatest_lots : ∀ (kV doc pm : Value) (an : Option Addr) (cdv ct : Value) (us : List Value), us.length = (["chart"] : List Str).length → bindArgs (PySem.W.fnOf "greatest_lots" "greatest_lots" (defArgs s_greatest_lots) (defBody s_greatest_lots) (defScope s_greatest_lots) .none kV doc pm an cdv ct) ⟨us, []⟩ = pure ((["chart"] : List Str).zip us) := fun _ _ _ _ _ _ us hl => match us, hl with | [_], _ => rfl
theorem bd__law_is_turned_twice : ∀ (kV doc pm : Value) (an : Option Addr) (cdv ct : Value) (us : List Value), us.length = (["_law_hand_here"] : List Str).length → bindArgs (PySem.W.fnOf "_law_is_turned_twice" "_law_is_turned_twice" (defArgs s__law_is_turned_twice) (defBody s__law_is_turned_twice) (defScope s__law_is_turned_twice) .none kV doc pm an cdv ct) ⟨us, []⟩ = pure ((["_law_hand_here"] : List Str).zip us) := fun _ _ _ _ _ _ us hl => match us, hl with | [_], _ => rfl
theorem bd__law_lots : ∀ (kV doc pm : Value) (an : Option Addr) (cdv ct : Value) (us : List Value), us.length = (["_law_parts_here"] : List Str).length → bindArgs (PySem.W.fnOf "_law_lots" "_law_lots" (defArgs s__law_lots) (defBody s__law_lots) (defScope s__law_lots) .none kV doc pm an cdv ct) ⟨us, []⟩ = pure ((["_law_parts_here"] : List Str).zip us) := fun _ _ _ _ _ _ us hl => match us, hl with | [_], _ => rfl
theorem bd_law : ∀ (kV doc pm : Value) (an : Option Addr) (cdv ct : Value) (us : List Value), us.length = (["_law_script"] : List Str).length → bindArgs (PySem.W.fnOf "law" "law" (defArgs s_law) (defBody s_law) (defScope s_law) .none kV doc pm an cdv ct) ⟨us, []⟩ = pure ((["_law_script"] : List Str).zip us) := fun _ _ _ _ _ _ us hl => match us, hl with | [_], _ => rfl
theorem all_mk {l : PySem.W.OpenLaw} {h : Heap} {fa : Addr} {CMap : Addr} {t_FEWEST_PLACES : Nat} {t_MOST_PLACES : Nat} {t_MOST_ARROWS : Nat} {CCore : Addr} {CManyGoals : Addr} {tk_MOST_COUNTED : Nat} {f0 : Addr} {od0 an0 : Option Addr} {sl0 : Array (Option Value)} {oc0 kV0 dc0 pm0 ct0 : Value} {cd0 : Value} {f1 : Addr} {od1 an1 : Option Addr} {sl1 : Array (Option Value)} {oc1 kV1 dc1 pm1 ct1 : Value} {cd1 : Value} {f2 : Addr} {od2 an2 : Option Addr} {sl2 : Array (Option Value)} {oc2 kV2 dc2 pm2 ct2 : Value} {cd2 : Value} {f3 : Addr} {od3 an3 : Option Addr} {sl3 : Array (Option Value)} {oc3 kV3 dc3 pm3 ct3 : Value} {cd3 : Value} {f4 : Addr} {od4 an4 : Option Addr} {sl4 : Array (Option Value)} {oc4 kV4 dc4 pm4 ct4 : Value} {cd4 : Value} {f5 : Addr} {od5 an5 : Option Addr} {sl5 : Array (Option Value)} {oc5 kV5 dc5 pm5 ct5 : Value} {cd5 : Value} {f6 : Addr} {od6 an6 : Option Addr} {sl6 : Array (Option Value)} {oc6 kV6 dc6 pm6 ct6 : Value} {cd6 : Value} {f7 : Addr} {od7 an7 : Option Addr} {sl7 : Array (Option Value)} {oc7 kV7 dc7 pm7 ct7 : Value} {cd7 : Value} {f8 : Addr} {od8 an8 : Option Addr} {sl8 : Array (Option Value)} {oc8 kV8 dc8 pm8 ct8 : Value} {cd8 : Value} {f9 : Addr} {od9 an9 : Option Addr} {sl9 : Array (Option Value)} {oc9 kV9 dc9 pm9 ct9 : Value} {cd9 : Value} {f10 : Addr} {od10 an10 : Option Addr} {sl10 : Array (Option Value)} {oc10 kV10 dc10 pm10 ct10 : Value} {cd10 : Value} {f11 : Addr} {od11 an11 : Option Addr} {sl11 : Array (Option Value)} {oc11 kV11 dc11 pm11 ct11 : Value} {cd11 : Value} {f12 : Addr} {od12 an12 : Option Addr} {sl12 : Array (Option Value)} {oc12 kV12 dc12 pm12 ct12 : Value} {cd12 : Value} {f13 : Addr} {od13 an13 : Option Addr} {sl13 : Array (Option Value)} {oc13 kV13 dc13 pm13 ct13 : Value} {cd13 : Value} {f14 : Addr} {od14 an14 : Option Addr} {sl14 : Array (Option Value)} {oc14 kV14 dc14 pm14 ct14 : Value} {cd14 : Value} {f15 : Addr} {od15 an15 : Option Addr} {sl15 : Array (Option Value)} {oc15 kV15 dc15 pm15 ct15 : Value} {cd15 : Value} {f16 : Addr} {od16 an16 : Option Addr} {sl16 : Array (Option Value)} {oc16 kV16 dc16 pm16 ct16 : Value} {cd16 : Value} {f17 : Addr} {od17 an17 : Option Addr} {sl17 : Array (Option Value)} {oc17 kV17 dc17 pm17 ct17 : Value} {cd17 : Value} {f18 : Addr} {od18 an18 : Option Addr} {sl18 : Array (Option Value)} {oc18 kV18 dc18 pm18 ct18 : Value} {cd18 : Value} {f19 : Addr} {od19 an19 : Option Addr} {sl19 : Array (Option Value)} {oc19 kV19 dc19 pm19 ct19 : Value} {cd19 : Value} {f21 : Addr} {od21 an21 : Option Addr} {sl21 : Array (Option Value)} {oc21 kV21 dc21 pm21 ct21 : Value} {cd21 : Value} {f23 : Addr} {od23 an23 : Option Addr} {sl23 : Array (Option Value)} {oc23 kV23 dc23 pm23 ct23 : Value} {cd23 : Value} {f24 : Addr} {od24 an24 : Option Addr} {sl24 : Array (Option Value)} {oc24 kV24 dc24 pm24 ct24 : Value} {cd24 : Value} {f25 : Addr} {od25 an25 : Option Addr} {sl25 : Array (Option Value)} {oc25 kV25 dc25 pm25 ct25 : Value} {cd25 : Value} {f26 : Addr} {od26 an26 : Option Addr} {sl26 : Array (Option Value)} {oc26 kV26 dc26 pm26 ct26 : Value} {cd26 : Value} {f27 : Addr} {od27 an27 : Option Addr} {sl27 : Array (Option Value)} {oc27 kV27 dc27 pm27 ct27 : Value} {cd27 : Value} {f28 : Addr} {od28 an28 : Option Addr} {sl28 : Array (Option Value)} {oc28 kV28 dc28 pm28 ct28 : Value} {cd28 : Value} {f29 : Addr} {od29 an29 : Option Addr} {sl29 : Array (Option Value)} {oc29 kV29 dc29 pm29 ct29 : Value} {cd29 : Value} {f30 : Addr} {od30 an30 : Option Addr} {sl30 : Array (Option Value)} {oc30 kV30 dc30 pm30 ct30 : Value} {cd30 : Value} {f31 : Addr} {od31 an31 : Option Addr} {sl31 : Array (Option Value)} {oc31 kV31 dc31 pm31 ct31 : Value} {cd31 : Value} {f32 : Addr} {od32 an32 : Option Addr} {sl32 : Array (Option Value)} {oc32 kV32 dc32 pm32 ct32 : Value} {cd32 : Value} {f33 : Addr} {od33 an33 : Option Addr} {sl33 : Array (Option Value)} {oc33 kV33 dc33 pm33 ct33 : Value} {cd33 : Value} {f34 : Addr} {od34 an34 : Option Addr} {sl34 : Array (Option Value)} {oc34 kV34 dc34 pm34 ct34 : Value} {cd34 : Value} {f35 : Addr} {od35 an35 : Option Addr} {sl35 : Array (Option Value)} {oc35 kV35 dc35 pm35 ct35 : Value} {cd35 : Value} {f36 : Addr} {od36 an36 : Option Addr} {sl36 : Array (Option Value)} {oc36 kV36 dc36 pm36 ct36 : Value} {cd36 : Value} {f37 : Addr} {od37 an37 : Option Addr} {sl37 : Array (Option Value)} {oc37 kV37 dc37 pm37 ct37 : Value} {cd37 : Value} {f38 : Addr} {od38 an38 : Option Addr} {sl38 : Array (Option Value)} {oc38 kV38 dc38 pm38 ct38 : Value} {cd38 : Value} {f39 : Addr} {od39 an39 : Option Addr} {sl39 : Array (Option Value)} {oc39 kV39 dc39 pm39 ct39 : Value} {cd39 : Value} {f40 : Addr} {od40 an40 : Option Addr} {sl40 : Array (Option Value)} {oc40 kV40 dc40 pm40 ct40 : Value} {cd40 : Value} {f41 : Addr} {od41 an41 : Option Addr} {sl41 : Array (Option Value)} {oc41 kV41 dc41 pm41 ct41 : Value} {cd41 : Value} {f42 : Addr} {od42 an42 : Option Addr} {sl42 : Array (Option Value)} {oc42 kV42 dc42 pm42 ct42 : Value} {cd42 : Value} (X : K.In h) (G : h.Ns mainGlobals mg) (hfa : mg "law" = some (.ref fa))
    (z_len : PySem.W.nsIn K mainGlobals "len" = some none)
    (z_all : PySem.W.nsIn K mainGlobals "all" = some none)
    (z_any : PySem.W.nsIn K mainGlobals "any" = some none)
    (z_sorted : PySem.W.nsIn K mainGlobals "sorted" = some none)
    (z_isinstance : PySem.W.nsIn K mainGlobals "isinstance" = some none)
    (z_abs : PySem.W.nsIn K mainGlobals "abs" = some none)
    (z_min : PySem.W.nsIn K mainGlobals "min" = some none)
    (z_max : PySem.W.nsIn K mainGlobals "max" = some none)
    (z_range : PySem.W.nsIn K mainGlobals "range" = some none)
    (z_enumerate : PySem.W.nsIn K mainGlobals "enumerate" = some none)
    (z_int : PySem.W.nsIn K mainGlobals "int" = some none)
    (z_list : PySem.W.nsIn K mainGlobals "list" = some none)
    (z_tuple : PySem.W.nsIn K mainGlobals "tuple" = some none)
    (z_str : PySem.W.nsIn K mainGlobals "str" = some none)
    (z_bool : PySem.W.nsIn K mainGlobals "bool" = some none)
    (z_repr : PySem.W.nsIn K mainGlobals "repr" = some none)
    (z_zip : PySem.W.nsIn K mainGlobals "zip" = some none)
    (z_set : PySem.W.nsIn K mainGlobals "set" = some none)
    (z_sum : PySem.W.nsIn K mainGlobals "sum" = some none)
    (aC : PySem.W.nsIn K mainGlobals "Map" = some (some (.ref CMap)))
    (pg : PySem.W.plainGet K CMap Str.empty = true)
    (hd : PySem.W.hasDictIn K CMap = true)
    (po : PySem.W.plainOver K CMap = true)
    (sa : PySem.W.findIn K (.ref CMap) "__setattr__" = some (some (.builtin "object.__setattr__")))
    (mk : PySem.W.makesIn K CMap = true)
    (kc : PySem.W.keepIn K (.ref CMap) = true)
    (n1 : PySem.W.findIn K (.ref CMap) "_many" = some none)
    (n2 : PySem.W.findIn K (.ref CMap) "_arrows" = some none)
    (n3 : PySem.W.findIn K (.ref CMap) "_goals" = some none)
    (c_FEWEST_PLACES : PySem.W.nsIn K mainGlobals "FEWEST_PLACES" = some (some (.int 2 t_FEWEST_PLACES)))
    (c_MOST_PLACES : PySem.W.nsIn K mainGlobals "MOST_PLACES" = some (some (.int 40 t_MOST_PLACES)))
    (c_MOST_ARROWS : PySem.W.nsIn K mainGlobals "MOST_ARROWS" = some (some (.int 60 t_MOST_ARROWS)))
    (aC_Core : PySem.W.nsIn K mainGlobals "Core" = some (some (.ref CCore)))
    (pg_Core : PySem.W.plainGet K CCore Str.empty = true)
    (hd_Core : PySem.W.hasDictIn K CCore = true)
    (po_Core : PySem.W.plainOver K CCore = true)
    (sa_Core : PySem.W.findIn K (.ref CCore) "__setattr__" = some (some (.builtin "object.__setattr__")))
    (mk_Core : PySem.W.makesIn K CCore = true)
    (kc_Core : PySem.W.keepIn K (.ref CCore) = true)
    (n0_Core : PySem.W.findIn K (.ref CCore) "spots" = some none)
    (n1_Core : PySem.W.findIn K (.ref CCore) "size" = some none)
    (n2_Core : PySem.W.findIn K (.ref CCore) "full" = some none)
    (n3_Core : PySem.W.findIn K (.ref CCore) "ends" = some none)
    (n4_Core : PySem.W.findIn K (.ref CCore) "outward" = some none)
    (n5_Core : PySem.W.findIn K (.ref CCore) "inward" = some none)
    (n6_Core : PySem.W.findIn K (.ref CCore) "sums" = some none)
    (g_ManyGoals : PySem.W.nsIn K mainGlobals "ManyGoals" = some (some (.ref CManyGoals)))
    (e_ManyGoals : PySem.W.excIn K CManyGoals [.type "ValueError", .type "Exception", .type "BaseException", .type "object"] "ValueError.__new__" = true)
    (k_ManyGoals : PySem.W.keepIn K (.ref CManyGoals) = true)
    (i_ManyGoals : PySem.W.isClsIn K CManyGoals = true)
    (b_ManyGoals : PySem.W.subIn K (.ref CManyGoals) (.type "BaseException") = some true)
    (t_ManyGoals : PySem.W.typeIn K (.ref CManyGoals) = some (.type "type"))
    (s_ManyGoals_ManyGoals : PySem.W.subIn K (.ref CManyGoals) (.ref CManyGoals) = some true)
    (ck_MOST_COUNTED : PySem.W.nsIn K mainGlobals "MOST_COUNTED" = some (some (.int 9 tk_MOST_COUNTED)))
    (oa_Map : PySem.W.findIn K (.ref CMap) "__class__" = some (some (.builtin "object.__class__")))
    (on_Map : PySem.W.specialIn K (.builtin "object.__class__") "__get__" = some (some (.builtin "getset_descriptor.__get__")))
    (ot_Map : PySem.W.takesIn K (.builtin "object.__class__") = some true)
    (om_Map : PySem.W.mroIn K CMap (.type "object") = some true)
    (okt_Map : PySem.W.subIn K (.ref CMap) (.type "tuple") = some false)
    (oki_Map : PySem.W.subIn K (.ref CMap) (.type "int") = some false)
    (okb_Map : PySem.W.subIn K (.ref CMap) (.type "bool") = some false)
    (nn_Map : PySem.W.findIn K (.ref CMap) "__ne__" = some (some (.builtin "object.__ne__")))
    (no_Map : PySem.W.subIn K (.ref CMap) (.type "object") = some true)
    (a0 : PySem.W.nsIn K mainGlobals "is_integer" = some (some (.ref f0)))
    (l0 : K.lookup f0 = some ⟨oc0, od0, .func (PySem.W.fnOf "is_integer" "is_integer" (defArgs s_is_integer) (defBody s_is_integer) (defScope s_is_integer) .none kV0 dc0 pm0 an0 cd0 ct0), sl0⟩)
    (c0 : PySem.W.codeIn K cd0 "is_integer" = true)
    (k0 : PySem.W.keepIn K (.ref f0) = true)
    (a1 : PySem.W.nsIn K mainGlobals "is_index" = some (some (.ref f1)))
    (l1 : K.lookup f1 = some ⟨oc1, od1, .func (PySem.W.fnOf "is_index" "is_index" (defArgs s_is_index) (defBody s_is_index) (defScope s_is_index) .none kV1 dc1 pm1 an1 cd1 ct1), sl1⟩)
    (c1 : PySem.W.codeIn K cd1 "is_index" = true)
    (k1 : PySem.W.keepIn K (.ref f1) = true)
    (a2 : PySem.W.nsIn K mainGlobals "is_any_lot" = some (some (.ref f2)))
    (l2 : K.lookup f2 = some ⟨oc2, od2, .func (PySem.W.fnOf "is_any_lot" "is_any_lot" (defArgs s_is_any_lot) (defBody s_is_any_lot) (defScope s_is_any_lot) .none kV2 dc2 pm2 an2 cd2 ct2), sl2⟩)
    (c2 : PySem.W.codeIn K cd2 "is_any_lot" = true)
    (k2 : PySem.W.keepIn K (.ref f2) = true)
    (a3 : PySem.W.nsIn K mainGlobals "is_lot" = some (some (.ref f3)))
    (l3 : K.lookup f3 = some ⟨oc3, od3, .func (PySem.W.fnOf "is_lot" "is_lot" (defArgs s_is_lot) (defBody s_is_lot) (defScope s_is_lot) .none kV3 dc3 pm3 an3 cd3 ct3), sl3⟩)
    (c3 : PySem.W.codeIn K cd3 "is_lot" = true)
    (k3 : PySem.W.keepIn K (.ref f3) = true)
    (a4 : PySem.W.nsIn K mainGlobals "steps_from" = some (some (.ref f4)))
    (l4 : K.lookup f4 = some ⟨oc4, od4, .func (PySem.W.fnOf "steps_from" "steps_from" (defArgs s_steps_from) (defBody s_steps_from) (defScope s_steps_from) .none kV4 dc4 pm4 an4 cd4 ct4), sl4⟩)
    (c4 : PySem.W.codeIn K cd4 "steps_from" = true)
    (k4 : PySem.W.keepIn K (.ref f4) = true)
    (a5 : PySem.W.nsIn K mainGlobals "leads_to_all" = some (some (.ref f5)))
    (l5 : K.lookup f5 = some ⟨oc5, od5, .func (PySem.W.fnOf "leads_to_all" "leads_to_all" (defArgs s_leads_to_all) (defBody s_leads_to_all) (defScope s_leads_to_all) .none kV5 dc5 pm5 an5 cd5 ct5), sl5⟩)
    (c5 : PySem.W.codeIn K cd5 "leads_to_all" = true)
    (k5 : PySem.W.keepIn K (.ref f5) = true)
    (a6 : PySem.W.findIn K (.ref CMap) "many" = some (some (.ref f6)))
    (i6 : PySem.W.isFn K (.ref f6) = true)
    (l6 : K.lookup f6 = some ⟨oc6, od6, .func (PySem.W.fnOf "many" "Map.many" (defArgs s_Map_many) (defBody s_Map_many) (defScope s_Map_many) .none kV6 dc6 pm6 an6 cd6 ct6), sl6⟩)
    (c6 : PySem.W.codeIn K cd6 "Map.many" = true)
    (k6 : PySem.W.keepIn K (.ref f6) = true)
    (a7 : PySem.W.findIn K (.ref CMap) "arrows" = some (some (.ref f7)))
    (i7 : PySem.W.isFn K (.ref f7) = true)
    (l7 : K.lookup f7 = some ⟨oc7, od7, .func (PySem.W.fnOf "arrows" "Map.arrows" (defArgs s_Map_arrows) (defBody s_Map_arrows) (defScope s_Map_arrows) .none kV7 dc7 pm7 an7 cd7 ct7), sl7⟩)
    (c7 : PySem.W.codeIn K cd7 "Map.arrows" = true)
    (k7 : PySem.W.keepIn K (.ref f7) = true)
    (a8 : PySem.W.findIn K (.ref CMap) "goals" = some (some (.ref f8)))
    (i8 : PySem.W.isFn K (.ref f8) = true)
    (l8 : K.lookup f8 = some ⟨oc8, od8, .func (PySem.W.fnOf "goals" "Map.goals" (defArgs s_Map_goals) (defBody s_Map_goals) (defScope s_Map_goals) .none kV8 dc8 pm8 an8 cd8 ct8), sl8⟩)
    (c8 : PySem.W.codeIn K cd8 "Map.goals" = true)
    (k8 : PySem.W.keepIn K (.ref f8) = true)
    (a9 : PySem.W.nsIn K mainGlobals "is_pair" = some (some (.ref f9)))
    (l9 : K.lookup f9 = some ⟨oc9, od9, .func (PySem.W.fnOf "is_pair" "is_pair" (defArgs s_is_pair) (defBody s_is_pair) (defScope s_is_pair) .none kV9 dc9 pm9 an9 cd9 ct9), sl9⟩)
    (c9 : PySem.W.codeIn K cd9 "is_pair" = true)
    (k9 : PySem.W.keepIn K (.ref f9) = true)
    (a10 : PySem.W.nsIn K mainGlobals "check_pairs" = some (some (.ref f10)))
    (l10 : K.lookup f10 = some ⟨oc10, od10, .func (PySem.W.fnOf "check_pairs" "check_pairs" (defArgs s_check_pairs) (defBody s_check_pairs) (defScope s_check_pairs) .none kV10 dc10 pm10 an10 cd10 ct10), sl10⟩)
    (c10 : PySem.W.codeIn K cd10 "check_pairs" = true)
    (k10 : PySem.W.keepIn K (.ref f10) = true)
    (a11 : PySem.W.nsIn K mainGlobals "are_goals" = some (some (.ref f11)))
    (l11 : K.lookup f11 = some ⟨oc11, od11, .func (PySem.W.fnOf "are_goals" "are_goals" (defArgs s_are_goals) (defBody s_are_goals) (defScope s_are_goals) .none kV11 dc11 pm11 an11 cd11 ct11), sl11⟩)
    (c11 : PySem.W.codeIn K cd11 "are_goals" = true)
    (k11 : PySem.W.keepIn K (.ref f11) = true)
    (a12 : PySem.W.findIn K (.ref CMap) "__init__" = some (some (.ref f12)))
    (i12 : PySem.W.isFn K (.ref f12) = true)
    (l12 : K.lookup f12 = some ⟨oc12, od12, .func (PySem.W.fnOf "__init__" "Map.__init__" (defArgs s_Map___init__) (defBody s_Map___init__) (defScope s_Map___init__) .none kV12 dc12 pm12 an12 cd12 ct12), sl12⟩)
    (c12 : PySem.W.codeIn K cd12 "Map.__init__" = true)
    (k12 : PySem.W.keepIn K (.ref f12) = true)
    (a13 : PySem.W.nsIn K mainGlobals "_law_hand" = some (some (.ref f13)))
    (l13 : K.lookup f13 = some ⟨oc13, od13, .func (PySem.W.fnOf "_law_hand" "_law_hand" (defArgs s__law_hand) (defBody s__law_hand) (defScope s__law_hand) .none kV13 dc13 pm13 an13 cd13 ct13), sl13⟩)
    (c13 : PySem.W.codeIn K cd13 "_law_hand" = true)
    (k13 : PySem.W.keepIn K (.ref f13) = true)
    (a14 : PySem.W.nsIn K mainGlobals "_law_draw" = some (some (.ref f14)))
    (l14 : K.lookup f14 = some ⟨oc14, od14, .func (PySem.W.fnOf "_law_draw" "_law_draw" (defArgs s__law_draw) (defBody s__law_draw) (defScope s__law_draw) .none kV14 dc14 pm14 an14 cd14 ct14), sl14⟩)
    (c14 : PySem.W.codeIn K cd14 "_law_draw" = true)
    (k14 : PySem.W.keepIn K (.ref f14) = true)
    (a15 : PySem.W.nsIn K mainGlobals "_law_shuffled" = some (some (.ref f15)))
    (l15 : K.lookup f15 = some ⟨oc15, od15, .func (PySem.W.fnOf "_law_shuffled" "_law_shuffled" (defArgs s__law_shuffled) (defBody s__law_shuffled) (defScope s__law_shuffled) .none kV15 dc15 pm15 an15 cd15 ct15), sl15⟩)
    (c15 : PySem.W.codeIn K cd15 "_law_shuffled" = true)
    (k15 : PySem.W.keepIn K (.ref f15) = true)
    (a16 : PySem.W.nsIn K mainGlobals "_law_tail" = some (some (.ref f16)))
    (l16 : K.lookup f16 = some ⟨oc16, od16, .func (PySem.W.fnOf "_law_tail" "_law_tail" (defArgs s__law_tail) (defBody s__law_tail) (defScope s__law_tail) .none kV16 dc16 pm16 an16 cd16 ct16), sl16⟩)
    (c16 : PySem.W.codeIn K cd16 "_law_tail" = true)
    (k16 : PySem.W.keepIn K (.ref f16) = true)
    (a17 : PySem.W.nsIn K mainGlobals "_law_renamed" = some (some (.ref f17)))
    (l17 : K.lookup f17 = some ⟨oc17, od17, .func (PySem.W.fnOf "_law_renamed" "_law_renamed" (defArgs s__law_renamed) (defBody s__law_renamed) (defScope s__law_renamed) .none kV17 dc17 pm17 an17 cd17 ct17), sl17⟩)
    (c17 : PySem.W.codeIn K cd17 "_law_renamed" = true)
    (k17 : PySem.W.keepIn K (.ref f17) = true)
    (a18 : PySem.W.nsIn K mainGlobals "great_map" = some (some (.ref f18)))
    (l18 : K.lookup f18 = some ⟨oc18, od18, .func (PySem.W.fnOf "great_map" "great_map" (defArgs s_great_map) (defBody s_great_map) (defScope s_great_map) .none kV18 dc18 pm18 an18 cd18 ct18), sl18⟩)
    (c18 : PySem.W.codeIn K cd18 "great_map" = true)
    (k18 : PySem.W.keepIn K (.ref f18) = true)
    (a19 : PySem.W.nsIn K mainGlobals "check_one_goal" = some (some (.ref f19)))
    (l19 : K.lookup f19 = some ⟨oc19, od19, .func (PySem.W.fnOf "check_one_goal" "check_one_goal" (defArgs s_check_one_goal) (defBody s_check_one_goal) (defScope s_check_one_goal) .none kV19 dc19 pm19 an19 cd19 ct19), sl19⟩)
    (c19 : PySem.W.codeIn K cd19 "check_one_goal" = true)
    (k19 : PySem.W.keepIn K (.ref f19) = true)
    (a21 : PySem.W.nsIn K mainGlobals "turned" = some (some (.ref f21)))
    (l21 : K.lookup f21 = some ⟨oc21, od21, .func (PySem.W.fnOf "turned" "turned" (defArgs s_turned) (defBody s_turned) (defScope s_turned) .none kV21 dc21 pm21 an21 cd21 ct21), sl21⟩)
    (c21 : PySem.W.codeIn K cd21 "turned" = true)
    (k21 : PySem.W.keepIn K (.ref f21) = true)
    (a23 : PySem.W.nsIn K mainGlobals "_law_turned" = some (some (.ref f23)))
    (l23 : K.lookup f23 = some ⟨oc23, od23, .func (PySem.W.fnOf "_law_turned" "_law_turned" (defArgs s__law_turned) (defBody s__law_turned) (defScope s__law_turned) .none kV23 dc23 pm23 an23 cd23 ct23), sl23⟩)
    (c23 : PySem.W.codeIn K cd23 "_law_turned" = true)
    (k23 : PySem.W.keepIn K (.ref f23) = true)
    (a24 : PySem.W.nsIn K mainGlobals "_law_parts" = some (some (.ref f24)))
    (l24 : K.lookup f24 = some ⟨oc24, od24, .func (PySem.W.fnOf "_law_parts" "_law_parts" (defArgs s__law_parts) (defBody s__law_parts) (defScope s__law_parts) .none kV24 dc24 pm24 an24 cd24 ct24), sl24⟩)
    (c24 : PySem.W.codeIn K cd24 "_law_parts" = true)
    (k24 : PySem.W.keepIn K (.ref f24) = true)
    (a25 : PySem.W.nsIn K mainGlobals "bits" = some (some (.ref f25)))
    (l25 : K.lookup f25 = some ⟨oc25, od25, .func (PySem.W.fnOf "bits" "bits" (defArgs s_bits) (defBody s_bits) (defScope s_bits) .none kV25 dc25 pm25 an25 cd25 ct25), sl25⟩)
    (c25 : PySem.W.codeIn K cd25 "bits" = true)
    (k25 : PySem.W.keepIn K (.ref f25) = true)
    (a26 : PySem.W.nsIn K mainGlobals "_sums" = some (some (.ref f26)))
    (l26 : K.lookup f26 = some ⟨oc26, od26, .func (PySem.W.fnOf "_sums" "_sums" (defArgs s__sums) (defBody s__sums) (defScope s__sums) .none kV26 dc26 pm26 an26 cd26 ct26), sl26⟩)
    (c26 : PySem.W.codeIn K cd26 "_sums" = true)
    (k26 : PySem.W.keepIn K (.ref f26) = true)
    (a27 : PySem.W.nsIn K mainGlobals "counted_places" = some (some (.ref f27)))
    (l27 : K.lookup f27 = some ⟨oc27, od27, .func (PySem.W.fnOf "counted_places" "counted_places" (defArgs s_counted_places) (defBody s_counted_places) (defScope s_counted_places) .none kV27 dc27 pm27 an27 cd27 ct27), sl27⟩)
    (c27 : PySem.W.codeIn K cd27 "counted_places" = true)
    (k27 : PySem.W.keepIn K (.ref f27) = true)
    (a28 : PySem.W.nsIn K mainGlobals "check_counted" = some (some (.ref f28)))
    (l28 : K.lookup f28 = some ⟨oc28, od28, .func (PySem.W.fnOf "check_counted" "check_counted" (defArgs s_check_counted) (defBody s_check_counted) (defScope s_check_counted) .none kV28 dc28 pm28 an28 cd28 ct28), sl28⟩)
    (c28 : PySem.W.codeIn K cd28 "check_counted" = true)
    (k28 : PySem.W.keepIn K (.ref f28) = true)
    (a29 : PySem.W.findIn K (.ref CCore) "__init__" = some (some (.ref f29)))
    (i29 : PySem.W.isFn K (.ref f29) = true)
    (l29 : K.lookup f29 = some ⟨oc29, od29, .func (PySem.W.fnOf "__init__" "Core.__init__" (defArgs s_Core___init__) (defBody s_Core___init__) (defScope s_Core___init__) .none kV29 dc29 pm29 an29 cd29 ct29), sl29⟩)
    (c29 : PySem.W.codeIn K cd29 "Core.__init__" = true)
    (k29 : PySem.W.keepIn K (.ref f29) = true)
    (a30 : PySem.W.nsIn K mainGlobals "_next_spots" = some (some (.ref f30)))
    (l30 : K.lookup f30 = some ⟨oc30, od30, .func (PySem.W.fnOf "_next_spots" "_next_spots" (defArgs s__next_spots) (defBody s__next_spots) (defScope s__next_spots) .none kV30 dc30 pm30 an30 cd30 ct30), sl30⟩)
    (c30 : PySem.W.codeIn K cd30 "_next_spots" = true)
    (k30 : PySem.W.keepIn K (.ref f30) = true)
    (a31 : PySem.W.nsIn K mainGlobals "orders" = some (some (.ref f31)))
    (l31 : K.lookup f31 = some ⟨oc31, od31, .func (PySem.W.fnOf "orders" "orders" (defArgs s_orders) (defBody s_orders) (defScope s_orders) .none kV31 dc31 pm31 an31 cd31 ct31), sl31⟩)
    (c31 : PySem.W.codeIn K cd31 "orders" = true)
    (k31 : PySem.W.keepIn K (.ref f31) = true)
    (a32 : PySem.W.nsIn K mainGlobals "excesses" = some (some (.ref f32)))
    (l32 : K.lookup f32 = some ⟨oc32, od32, .func (PySem.W.fnOf "excesses" "excesses" (defArgs s_excesses) (defBody s_excesses) (defScope s_excesses) .none kV32 dc32 pm32 an32 cd32 ct32), sl32⟩)
    (c32 : PySem.W.codeIn K cd32 "excesses" = true)
    (k32 : PySem.W.keepIn K (.ref f32) = true)
    (a33 : PySem.W.nsIn K mainGlobals "worst" = some (some (.ref f33)))
    (l33 : K.lookup f33 = some ⟨oc33, od33, .func (PySem.W.fnOf "worst" "worst" (defArgs s_worst) (defBody s_worst) (defScope s_worst) .none kV33 dc33 pm33 an33 cd33 ct33), sl33⟩)
    (c33 : PySem.W.codeIn K cd33 "worst" = true)
    (k33 : PySem.W.keepIn K (.ref f33) = true)
    (a34 : PySem.W.findIn K (.ref CCore) "places" = some (some (.ref f34)))
    (i34 : PySem.W.isFn K (.ref f34) = true)
    (l34 : K.lookup f34 = some ⟨oc34, od34, .func (PySem.W.fnOf "places" "Core.places" (defArgs s_Core_places) (defBody s_Core_places) (defScope s_Core_places) .none kV34 dc34 pm34 an34 cd34 ct34), sl34⟩)
    (c34 : PySem.W.codeIn K cd34 "Core.places" = true)
    (k34 : PySem.W.keepIn K (.ref f34) = true)
    (a35 : PySem.W.nsIn K mainGlobals "_greatest_sets" = some (some (.ref f35)))
    (l35 : K.lookup f35 = some ⟨oc35, od35, .func (PySem.W.fnOf "_greatest_sets" "_greatest_sets" (defArgs s__greatest_sets) (defBody s__greatest_sets) (defScope s__greatest_sets) .none kV35 dc35 pm35 an35 cd35 ct35), sl35⟩)
    (c35 : PySem.W.codeIn K cd35 "_greatest_sets" = true)
    (k35 : PySem.W.keepIn K (.ref f35) = true)
    (a36 : PySem.W.nsIn K mainGlobals "_law_orders" = some (some (.ref f36)))
    (l36 : K.lookup f36 = some ⟨oc36, od36, .func (PySem.W.fnOf "_law_orders" "_law_orders" (defArgs s__law_orders) (defBody s__law_orders) (defScope s__law_orders) .none kV36 dc36 pm36 an36 cd36 ct36), sl36⟩)
    (c36 : PySem.W.codeIn K cd36 "_law_orders" = true)
    (k36 : PySem.W.keepIn K (.ref f36) = true)
    (a37 : PySem.W.nsIn K mainGlobals "_law_excess_of" = some (some (.ref f37)))
    (l37 : K.lookup f37 = some ⟨oc37, od37, .func (PySem.W.fnOf "_law_excess_of" "_law_excess_of" (defArgs s__law_excess_of) (defBody s__law_excess_of) (defScope s__law_excess_of) .none kV37 dc37 pm37 an37 cd37 ct37), sl37⟩)
    (c37 : PySem.W.codeIn K cd37 "_law_excess_of" = true)
    (k37 : PySem.W.keepIn K (.ref f37) = true)
    (a38 : PySem.W.findIn K (.ref CMap) "__eq__" = some (some (.ref f38)))
    (i38 : PySem.W.isFn K (.ref f38) = true)
    (l38 : K.lookup f38 = some ⟨oc38, od38, .func (PySem.W.fnOf "__eq__" "Map.__eq__" (defArgs s_Map___eq__) (defBody s_Map___eq__) (defScope s_Map___eq__) .none kV38 dc38 pm38 an38 cd38 ct38), sl38⟩)
    (c38 : PySem.W.codeIn K cd38 "Map.__eq__" = true)
    (k38 : PySem.W.keepIn K (.ref f38) = true)
    (a39 : PySem.W.nsIn K mainGlobals "greatest_lots" = some (some (.ref f39)))
    (l39 : K.lookup f39 = some ⟨oc39, od39, .func (PySem.W.fnOf "greatest_lots" "greatest_lots" (defArgs s_greatest_lots) (defBody s_greatest_lots) (defScope s_greatest_lots) .none kV39 dc39 pm39 an39 cd39 ct39), sl39⟩)
    (c39 : PySem.W.codeIn K cd39 "greatest_lots" = true)
    (k39 : PySem.W.keepIn K (.ref f39) = true)
    (a40 : PySem.W.nsIn K mainGlobals "_law_is_turned_twice" = some (some (.ref f40)))
    (l40 : K.lookup f40 = some ⟨oc40, od40, .func (PySem.W.fnOf "_law_is_turned_twice" "_law_is_turned_twice" (defArgs s__law_is_turned_twice) (defBody s__law_is_turned_twice) (defScope s__law_is_turned_twice) .none kV40 dc40 pm40 an40 cd40 ct40), sl40⟩)
    (c40 : PySem.W.codeIn K cd40 "_law_is_turned_twice" = true)
    (k40 : PySem.W.keepIn K (.ref f40) = true)
    (a41 : PySem.W.nsIn K mainGlobals "_law_lots" = some (some (.ref f41)))
    (l41 : K.lookup f41 = some ⟨oc41, od41, .func (PySem.W.fnOf "_law_lots" "_law_lots" (defArgs s__law_lots) (defBody s__law_lots) (defScope s__law_lots) .none kV41 dc41 pm41 an41 cd41 ct41), sl41⟩)
    (c41 : PySem.W.codeIn K cd41 "_law_lots" = true)
    (k41 : PySem.W.keepIn K (.ref f41) = true)
    (a42 : PySem.W.nsIn K mainGlobals "law" = some (some (.ref f42)))
    (l42 : K.lookup f42 = some ⟨oc42, od42, .func (PySem.W.fnOf "law" "law" (defArgs s_law) (defBody s_law) (defScope s_law) .none kV42 dc42 pm42 an42 cd42 ct42), sl42⟩)
    (c42 : PySem.W.codeIn K cd42 "law" = true)
    (k42 : PySem.W.keepIn K (.ref f42) = true) :
    ∃ fd : FuncData, (∀ (s : Shared) (v : Value), BindsTo s fd ⟨[v], []⟩ [("_law_script", v)]) ∧ ∀ base : Heap, K.In base → base.Ns mainGlobals mg → FnOk l.prog w K mg base CX0 10 fa fd ["_law_script"] (spLaw K) := by
  have e := hfa.symm.trans (PySem.W.mg_of X G a42)
  cases e
  have B : Bt mg := ⟨PySem.W.mg_none_of X G z_len, PySem.W.mg_none_of X G z_all, PySem.W.mg_none_of X G z_any, PySem.W.mg_none_of X G z_sorted, PySem.W.mg_none_of X G z_isinstance, PySem.W.mg_none_of X G z_abs, PySem.W.mg_none_of X G z_min, PySem.W.mg_none_of X G z_max, PySem.W.mg_none_of X G z_range, PySem.W.mg_none_of X G z_enumerate, PySem.W.mg_none_of X G z_int, PySem.W.mg_none_of X G z_list, PySem.W.mg_none_of X G z_tuple, PySem.W.mg_none_of X G z_str, PySem.W.mg_none_of X G z_bool, PySem.W.mg_none_of X G z_repr, PySem.W.mg_none_of X G z_zip, PySem.W.mg_none_of X G z_set, PySem.W.mg_none_of X G z_sum⟩
  have C : MapC K mg CMap := ⟨⟨pg, hd, po, sa⟩, n1, n2, n3, PySem.W.mg_of X G aC, ⟨_, PySem.W.mg_of X G c_FEWEST_PLACES⟩, ⟨_, PySem.W.mg_of X G c_MOST_PLACES⟩, ⟨_, PySem.W.mg_of X G c_MOST_ARROWS⟩⟩
  have C_Core : ClsC K mg "Core" CCore ["spots", "size", "full", "ends", "outward", "inward", "sums"] := ⟨⟨pg_Core, hd_Core, po_Core, sa_Core⟩, List.forall_mem_cons.mpr ⟨n0_Core, List.forall_mem_cons.mpr ⟨n1_Core, List.forall_mem_cons.mpr ⟨n2_Core, List.forall_mem_cons.mpr ⟨n3_Core, List.forall_mem_cons.mpr ⟨n4_Core, List.forall_mem_cons.mpr ⟨n5_Core, List.forall_mem_cons.mpr ⟨n6_Core, fun _ h => (List.not_mem_nil h).elim⟩⟩⟩⟩⟩⟩⟩, PySem.W.mg_of X G aC_Core⟩
  have T_ManyGoals : Ex K mg "ManyGoals" CManyGoals := ⟨PySem.W.mg_of X G g_ManyGoals, e_ManyGoals, k_ManyGoals, b_ManyGoals, t_ManyGoals⟩
  have m_ManyGoals_ManyGoals := exm_pair b_ManyGoals i_ManyGoals t_ManyGoals s_ManyGoals_ManyGoals
  have K_MOST_COUNTED : ∃ t, mg "MOST_COUNTED" = some (.int 9 t) := ⟨_, PySem.W.mg_of X G ck_MOST_COUNTED⟩
  have O_Map : OwnC K CMap := ⟨C.cl, oa_Map, on_Map, ot_Map, om_Map, kit_sub (by decide +kernel) okt_Map, kit_sub (by decide +kernel) oki_Map, kit_sub (by decide +kernel) okb_Map⟩
  have N_Map : NeC K CMap := ⟨nn_Map, no_Map⟩
  have D_is_integer : Df K mg "is_integer" s_is_integer ["thing"] := ⟨f0, _, PySem.W.mg_of X G a0, (fun_mk (st := s_is_integer) l0 c0 k0), (fun_mk (st := s_is_integer) l0 c0 k0).binds bd_is_integer⟩
  have D_is_index : Df K mg "is_index" s_is_index ["thing", "many"] := ⟨f1, _, PySem.W.mg_of X G a1, (fun_mk (st := s_is_index) l1 c1 k1), (fun_mk (st := s_is_index) l1 c1 k1).binds bd_is_index⟩
  have D_is_any_lot : Df K mg "is_any_lot" s_is_any_lot ["thing"] := ⟨f2, _, PySem.W.mg_of X G a2, (fun_mk (st := s_is_any_lot) l2 c2 k2), (fun_mk (st := s_is_any_lot) l2 c2 k2).binds bd_is_any_lot⟩
  have D_is_lot : Df K mg "is_lot" s_is_lot ["thing", "many"] := ⟨f3, _, PySem.W.mg_of X G a3, (fun_mk (st := s_is_lot) l3 c3 k3), (fun_mk (st := s_is_lot) l3 c3 k3).binds bd_is_lot⟩
  have D_steps_from : Df K mg "steps_from" s_steps_from ["many", "pairs", "sources"] := ⟨f4, _, PySem.W.mg_of X G a4, (fun_mk (st := s_steps_from) l4 c4 k4), (fun_mk (st := s_steps_from) l4 c4 k4).binds bd_steps_from⟩
  have D_leads_to_all : Df K mg "leads_to_all" s_leads_to_all ["many", "pairs", "places"] := ⟨f5, _, PySem.W.mg_of X G a5, (fun_mk (st := s_leads_to_all) l5 c5 k5), (fun_mk (st := s_leads_to_all) l5 c5 k5).binds bd_leads_to_all⟩
  have D_Map_many : DfM K CMap "many" "Map.many" s_Map_many ["self"] := ⟨f6, _, ⟨a6, i6, k6⟩, (fun_mk (st := s_Map_many) l6 c6 k6), (fun_mk (st := s_Map_many) l6 c6 k6).binds bd_Map_many⟩
  have D_Map_arrows : DfM K CMap "arrows" "Map.arrows" s_Map_arrows ["self"] := ⟨f7, _, ⟨a7, i7, k7⟩, (fun_mk (st := s_Map_arrows) l7 c7 k7), (fun_mk (st := s_Map_arrows) l7 c7 k7).binds bd_Map_arrows⟩
  have D_Map_goals : DfM K CMap "goals" "Map.goals" s_Map_goals ["self"] := ⟨f8, _, ⟨a8, i8, k8⟩, (fun_mk (st := s_Map_goals) l8 c8 k8), (fun_mk (st := s_Map_goals) l8 c8 k8).binds bd_Map_goals⟩
  have D_is_pair : Df K mg "is_pair" s_is_pair ["thing", "many"] := ⟨f9, _, PySem.W.mg_of X G a9, (fun_mk (st := s_is_pair) l9 c9 k9), (fun_mk (st := s_is_pair) l9 c9 k9).binds bd_is_pair⟩
  have D_check_pairs : Df K mg "check_pairs" s_check_pairs ["many", "pairs", "most"] := ⟨f10, _, PySem.W.mg_of X G a10, (fun_mk (st := s_check_pairs) l10 c10 k10), (fun_mk (st := s_check_pairs) l10 c10 k10).binds bd_check_pairs⟩
  have D_are_goals : Df K mg "are_goals" s_are_goals ["thing", "many", "arrows"] := ⟨f11, _, PySem.W.mg_of X G a11, (fun_mk (st := s_are_goals) l11 c11 k11), (fun_mk (st := s_are_goals) l11 c11 k11).binds bd_are_goals⟩
  have D_Map___init__ : DfI K CMap "Map.__init__" s_Map___init__ ["self", "many", "arrows", "goals"] := ⟨f12, _, ⟨mk, a12, i12, kc⟩, (fun_mk (st := s_Map___init__) l12 c12 k12), (fun_mk (st := s_Map___init__) l12 c12 k12).binds bd_Map___init__⟩
  have D__law_hand : Df K mg "_law_hand" s__law_hand ["_law_script"] := ⟨f13, _, PySem.W.mg_of X G a13, (fun_mk (st := s__law_hand) l13 c13 k13), (fun_mk (st := s__law_hand) l13 c13 k13).binds bd__law_hand⟩
  have D__law_draw : Df K mg "_law_draw" s__law_draw ["_law_hand_here", "_law_many"] := ⟨f14, _, PySem.W.mg_of X G a14, (fun_mk (st := s__law_draw) l14 c14 k14), (fun_mk (st := s__law_draw) l14 c14 k14).binds bd__law_draw⟩
  have D__law_shuffled : Df K mg "_law_shuffled" s__law_shuffled ["_law_hand_here", "_law_things"] := ⟨f15, _, PySem.W.mg_of X G a15, (fun_mk (st := s__law_shuffled) l15 c15 k15), (fun_mk (st := s__law_shuffled) l15 c15 k15).binds bd__law_shuffled⟩
  have D__law_tail : Df K mg "_law_tail" s__law_tail ["_law_hand_here", "_law_pairs", "_law_goals", "_law_place"] := ⟨f16, _, PySem.W.mg_of X G a16, (fun_mk (st := s__law_tail) l16 c16 k16), (fun_mk (st := s__law_tail) l16 c16 k16).binds bd__law_tail⟩
  have D__law_renamed : Df K mg "_law_renamed" s__law_renamed ["_law_hand_here", "_law_many", "_law_pairs", "_law_goals"] := ⟨f17, _, PySem.W.mg_of X G a17, (fun_mk (st := s__law_renamed) l17 c17 k17), (fun_mk (st := s__law_renamed) l17 c17 k17).binds bd__law_renamed⟩
  have D_great_map : Df K mg "great_map" s_great_map ["many", "arrows", "goals"] := ⟨f18, _, PySem.W.mg_of X G a18, (fun_mk (st := s_great_map) l18 c18 k18), (fun_mk (st := s_great_map) l18 c18 k18).binds bd_great_map⟩
  have D_check_one_goal : Df K mg "check_one_goal" s_check_one_goal ["chart"] := ⟨f19, _, PySem.W.mg_of X G a19, (fun_mk (st := s_check_one_goal) l19 c19 k19), (fun_mk (st := s_check_one_goal) l19 c19 k19).binds bd_check_one_goal⟩
  have D_turned : Df K mg "turned" s_turned ["chart"] := ⟨f21, _, PySem.W.mg_of X G a21, (fun_mk (st := s_turned) l21 c21 k21), (fun_mk (st := s_turned) l21 c21 k21).binds bd_turned⟩
  have D__law_turned : Df K mg "_law_turned" s__law_turned ["_law_chart"] := ⟨f23, _, PySem.W.mg_of X G a23, (fun_mk (st := s__law_turned) l23 c23 k23), (fun_mk (st := s__law_turned) l23 c23 k23).binds bd__law_turned⟩
  have D__law_parts : Df K mg "_law_parts" s__law_parts ["_law_hand_here", "_law_places", "_law_arrows"] := ⟨f24, _, PySem.W.mg_of X G a24, (fun_mk (st := s__law_parts) l24 c24 k24), (fun_mk (st := s__law_parts) l24 c24 k24).binds bd__law_parts⟩
  have D_bits : Df K mg "bits" s_bits ["kept"] := ⟨f25, _, PySem.W.mg_of X G a25, (fun_mk (st := s_bits) l25 c25 k25), (fun_mk (st := s_bits) l25 c25 k25).binds bd_bits⟩
  have D__sums : Df K mg "_sums" s__sums ["row"] := ⟨f26, _, PySem.W.mg_of X G a26, (fun_mk (st := s__sums) l26 c26 k26), (fun_mk (st := s__sums) l26 c26 k26).binds bd__sums⟩
  have D_counted_places : Df K mg "counted_places" s_counted_places ["chart"] := ⟨f27, _, PySem.W.mg_of X G a27, (fun_mk (st := s_counted_places) l27 c27 k27), (fun_mk (st := s_counted_places) l27 c27 k27).binds bd_counted_places⟩
  have D_check_counted : Df K mg "check_counted" s_check_counted ["chart"] := ⟨f28, _, PySem.W.mg_of X G a28, (fun_mk (st := s_check_counted) l28 c28 k28), (fun_mk (st := s_check_counted) l28 c28 k28).binds bd_check_counted⟩
  have D_Core___init__ : DfI K CCore "Core.__init__" s_Core___init__ ["self", "chart"] := ⟨f29, _, ⟨mk_Core, a29, i29, kc_Core⟩, (fun_mk (st := s_Core___init__) l29 c29 k29), (fun_mk (st := s_Core___init__) l29 c29 k29).binds bd_Core___init__⟩
  have D__next_spots : Df K mg "_next_spots" s__next_spots ["core", "spots", "first"] := ⟨f30, _, PySem.W.mg_of X G a30, (fun_mk (st := s__next_spots) l30 c30 k30), (fun_mk (st := s__next_spots) l30 c30 k30).binds bd__next_spots⟩
  have D_orders : Df K mg "orders" s_orders ["core", "spots"] := ⟨f31, _, PySem.W.mg_of X G a31, (fun_mk (st := s_orders) l31 c31 k31), (fun_mk (st := s_orders) l31 c31 k31).binds bd_orders⟩
  have D_excesses : Df K mg "excesses" s_excesses ["core"] := ⟨f32, _, PySem.W.mg_of X G a32, (fun_mk (st := s_excesses) l32 c32 k32), (fun_mk (st := s_excesses) l32 c32 k32).binds bd_excesses⟩
  have D_worst : Df K mg "worst" s_worst ["chart"] := ⟨f33, _, PySem.W.mg_of X G a33, (fun_mk (st := s_worst) l33 c33 k33), (fun_mk (st := s_worst) l33 c33 k33).binds bd_worst⟩
  have D_Core_places : DfM K CCore "places" "Core.places" s_Core_places ["self", "spots"] := ⟨f34, _, ⟨a34, i34, k34⟩, (fun_mk (st := s_Core_places) l34 c34 k34), (fun_mk (st := s_Core_places) l34 c34 k34).binds bd_Core_places⟩
  have D__greatest_sets : Df K mg "_greatest_sets" s__greatest_sets ["core"] := ⟨f35, _, PySem.W.mg_of X G a35, (fun_mk (st := s__greatest_sets) l35 c35 k35), (fun_mk (st := s__greatest_sets) l35 c35 k35).binds bd__greatest_sets⟩
  have D__law_orders : Df K mg "_law_orders" s__law_orders ["_law_things"] := ⟨f36, _, PySem.W.mg_of X G a36, (fun_mk (st := s__law_orders) l36 c36 k36), (fun_mk (st := s__law_orders) l36 c36 k36).binds bd__law_orders⟩
  have D__law_excess_of : Df K mg "_law_excess_of" s__law_excess_of ["_law_parts_here", "_law_order"] := ⟨f37, _, PySem.W.mg_of X G a37, (fun_mk (st := s__law_excess_of) l37 c37 k37), (fun_mk (st := s__law_excess_of) l37 c37 k37).binds bd__law_excess_of⟩
  have D_Map___eq__ : DfM K CMap "__eq__" "Map.__eq__" s_Map___eq__ ["self", "other"] := ⟨f38, _, ⟨a38, i38, k38⟩, (fun_mk (st := s_Map___eq__) l38 c38 k38), (fun_mk (st := s_Map___eq__) l38 c38 k38).binds bd_Map___eq__⟩
  have D_greatest_lots : Df K mg "greatest_lots" s_greatest_lots ["chart"] := ⟨f39, _, PySem.W.mg_of X G a39, (fun_mk (st := s_greatest_lots) l39 c39 k39), (fun_mk (st := s_greatest_lots) l39 c39 k39).binds bd_greatest_lots⟩
  have D__law_is_turned_twice : Df K mg "_law_is_turned_twice" s__law_is_turned_twice ["_law_hand_here"] := ⟨f40, _, PySem.W.mg_of X G a40, (fun_mk (st := s__law_is_turned_twice) l40 c40 k40), (fun_mk (st := s__law_is_turned_twice) l40 c40 k40).binds bd__law_is_turned_twice⟩
  have D__law_lots : Df K mg "_law_lots" s__law_lots ["_law_parts_here"] := ⟨f41, _, PySem.W.mg_of X G a41, (fun_mk (st := s__law_lots) l41 c41 k41), (fun_mk (st := s__law_lots) l41 c41 k41).binds bd__law_lots⟩
  have F_law := fun_mk (st := s_law) l42 c42 k42
  refine ⟨PySem.W.fnOf "law" "law" (defArgs s_law) (defBody s_law) (defScope s_law) .none kV42 dc42 pm42 an42 cd42 ct42, fun s v => .of_eq rfl, fun base _ _ => ?_⟩
  have h_is_integer := ok_is_integer (P := l.prog) (w := w) (base := base) B D_is_integer
  have h_is_index := ok_is_index (P := l.prog) (w := w) (base := base) h_is_integer D_is_index
  have h_is_any_lot := ok_is_any_lot (P := l.prog) (w := w) (base := base) B h_is_integer D_is_any_lot
  have h_is_lot := ok_is_lot (P := l.prog) (w := w) (base := base) B h_is_any_lot D_is_lot
  have h_steps_from := ok_steps_from (P := l.prog) (w := w) (base := base) B D_steps_from
  have h_leads_to_all := ok_leads_to_all (P := l.prog) (w := w) (base := base) B h_steps_from D_leads_to_all
  have h_many := ok_many (P := l.prog) (w := w) (base := base) (CMap := CMap) C D_Map_many
  have h_arrows := ok_arrows (P := l.prog) (w := w) (base := base) (CMap := CMap) C D_Map_arrows
  have h_goals := ok_goals (P := l.prog) (w := w) (base := base) (CMap := CMap) C D_Map_goals
  have h_is_pair := ok_is_pair (P := l.prog) (w := w) (base := base) B h_is_index D_is_pair
  have h_check_pairs := ok_check_pairs (P := l.prog) (w := w) (base := base) (CMap := CMap) B C h_is_integer h_is_pair D_check_pairs
  have h_are_goals := ok_are_goals (P := l.prog) (w := w) (base := base) B h_is_lot h_leads_to_all D_are_goals
  have h_init := ok_Map_init (P := l.prog) (w := w) (base := base) (CMap := CMap) C h_check_pairs h_are_goals D_Map___init__
  have h_law_hand := ok__law_hand (P := l.prog) (w := w) (base := base) B D__law_hand
  have h_law_draw := ok__law_draw (P := l.prog) (w := w) (base := base) B D__law_draw
  have h_law_shuffled := ok__law_shuffled (P := l.prog) (w := w) (base := base) B h_law_draw D__law_shuffled
  have h_law_tail := ok__law_tail (P := l.prog) (w := w) (base := base) B h_law_draw D__law_tail
  have h_law_renamed := ok__law_renamed (P := l.prog) (w := w) (base := base) B h_law_shuffled D__law_renamed
  have h_great_map := ok_great_map (P := l.prog) (w := w) (base := base) (CMap := CMap) C h_init D_great_map
  have h_check_one_goal := ok_check_one_goal (P := l.prog) (w := w) (base := base) (CMap := CMap) B C h_goals D_check_one_goal
  have hX_check_one_goal := okx_check_one_goal (P := l.prog) (w := w) (base := base) B C T_ManyGoals h_check_one_goal h_goals D_check_one_goal
  have h_turned := ok_turned (P := l.prog) (w := w) (base := base) (CMap := CMap) B C h_many h_arrows h_goals h_check_one_goal h_great_map D_turned
  have hX_turned := okx_turned (P := l.prog) (w := w) (base := base) B C h_turned h_many h_arrows h_goals hX_check_one_goal h_great_map D_turned
  have h_law_turned := ok__law_turned (P := l.prog) (w := w) (base := base) (CMap := CMap) T_ManyGoals m_ManyGoals_ManyGoals hX_turned D__law_turned
  have h_law_parts := ok__law_parts (P := l.prog) (w := w) (base := base) B h_law_draw h_law_tail h_law_shuffled h_law_renamed D__law_parts
  have h_bits := ok_bits (P := l.prog) (w := w) (base := base) B D_bits
  have h_sums := ok__sums (P := l.prog) (w := w) (base := base) D__sums
  have h_counted_places := ok_counted_places (P := l.prog) (w := w) (base := base) (CMap := CMap) B C h_steps_from h_many h_arrows h_goals D_counted_places
  have h_check_counted := ok_check_counted (P := l.prog) (w := w) (base := base) (CMap := CMap) B K_MOST_COUNTED h_counted_places D_check_counted
  have h_Core_init := ok_Core_init (P := l.prog) (w := w) (base := base) (CMap := CMap) (CCore := CCore) B C C_Core h_check_counted h_counted_places h_sums h_arrows h_goals D_Core___init__
  have h_next_spots := ok__next_spots (P := l.prog) (w := w) (base := base) (CCore := CCore) C_Core h_bits D__next_spots
  have h_orders := ok_orders (P := l.prog) (w := w) (base := base) (CCore := CCore) C_Core h_next_spots D_orders
  have h_excesses := ok_excesses (P := l.prog) (w := w) (base := base) (CCore := CCore) B C_Core h_bits h_orders D_excesses
  have h_worst := ok_worst (P := l.prog) (w := w) (base := base) (CMap := CMap) (CCore := CCore) B C_Core h_Core_init h_excesses D_worst
  have h_Core_places := ok_Core_places (P := l.prog) (w := w) (base := base) (CCore := CCore) B C_Core h_bits D_Core_places
  have h_greatest_sets := ok_greatest_sets (P := l.prog) (w := w) (base := base) (CCore := CCore) B h_excesses D__greatest_sets
  have h_law_orders := ok__law_orders (P := l.prog) (w := w) (base := base) B D__law_orders
  have h_law_excess_of := ok__law_excess_of (P := l.prog) (w := w) (base := base) B D__law_excess_of
  have h_Map___eq__ := ok_Map_eq (P := l.prog) (w := w) (base := base) (CMap := CMap) B C O_Map D_Map___eq__
  have h_greatest_lots := ok_greatest_lots (P := l.prog) (w := w) (base := base) (CMap := CMap) (CCore := CCore) B C_Core h_Core_init h_greatest_sets h_Core_places D_greatest_lots
  have h_law_is_turned_twice := ok__law_is_turned_twice (P := l.prog) (w := w) (base := base) (CMap := CMap) B C N_Map h_init h_law_parts h_turned h_Map___eq__ D__law_is_turned_twice
  have h_law_lots := ok__law_lots (P := l.prog) (w := w) (base := base) B h_law_orders h_law_excess_of D__law_lots
  exact ok_law (P := l.prog) (w := w) (base := base) (CMap := CMap) B C N_Map h_init h_law_hand h_law_draw h_law_is_turned_twice h_law_parts h_law_lots h_worst h_greatest_lots h_law_turned h_turned h_Map___eq__ F_law
end
theorem walk {l : PySem.W.OpenLaw} {q : Program} {loose : List Str} {XP : (Str → Option Value) → Heap → Prop} {YP : World → Heap → Prop} {d : DefRec} {K : Params → PySem.W.Frag} (hn : l.most = some 63) (hdf : d.params.defaults = [])
    (hY : ∀ (w : World) (h : Heap), YP w h → (K w.params).In h)
    (F : ∀ (w : World) (mg : Str → Option Value) (fa : Addr) (h : Heap), (K w.params).In h → h.Ns mainGlobals mg → mg d.name = some (.ref fa) →
      ∃ fd : FuncData, (∀ (s : Shared) (u : Value), BindsTo s fd ⟨[u], []⟩ [("_law_script", u)]) ∧ ∀ base : Heap, (K w.params).In base → base.Ns mainGlobals mg → FnOk l.prog w (K w.params) mg base CX0 10 fa fd ["_law_script"] (spLaw (K w.params))) :
    PySem.W.WalkO q loose XP YP l.row.toRowW d [] (fun f vs => PySem.call f vs) :=
  L2.walk_of (n := 63) (k := 10) (x := "_law_script") (CX := fun _ => CX0) (sp := fun w => spLaw (K w.params)) hn (by decide) hdf ⟨rfl, by decide, by decide⟩ hY F (fun _ _ a ns hl _ hS => ⟨a, ns, rfl, hS, hl, fun _ => rfl⟩) fun _ _ _ _ _ z => z
end U
open PySem PySem.W PyProof.Rows
set_option maxRecDepth 100000 in
set_option maxHeartbeats 0 in
theorem PySem.Challenge.cw_untriedways_k33_whole_lots_of_greatest_p_holds : PySem.Challenge.rw_untriedways_k33_whole_lots_of_greatest_p.Holds := by
  w_on; o_law; k_head; (case hw => w_witness2)
  k_fill
  refine U.walk (l := PySem.Challenge.rw_untriedways_k33_whole_lots_of_greatest_p) rfl rfl (fun w h Y => PySem.W.kIn_of Y) ?F
  case F =>
    intro w mg fa h KX G hmg
    refine' U.all_mk KX G hmg ?z_len ?z_all ?z_any ?z_sorted ?z_isinstance ?z_abs ?z_min ?z_max ?z_range ?z_enumerate ?z_int ?z_list ?z_tuple ?z_str ?z_bool ?z_repr ?z_zip ?z_set ?z_sum ?aC ?pg ?hd ?po ?sa ?mk ?kc ?n1 ?n2 ?n3 ?c_FEWEST_PLACES ?c_MOST_PLACES ?c_MOST_ARROWS ?aC_Core ?pg_Core ?hd_Core ?po_Core ?sa_Core ?mk_Core ?kc_Core ?n0_Core ?n1_Core ?n2_Core ?n3_Core ?n4_Core ?n5_Core ?n6_Core ?g_ManyGoals ?e_ManyGoals ?k_ManyGoals ?i_ManyGoals ?b_ManyGoals ?t_ManyGoals ?s_ManyGoals_ManyGoals ?ck_MOST_COUNTED ?oa_Map ?on_Map ?ot_Map ?om_Map ?okt_Map ?oki_Map ?okb_Map ?nn_Map ?no_Map ?a0 ?l0 ?c0 ?k0 ?a1 ?l1 ?c1 ?k1 ?a2 ?l2 ?c2 ?k2 ?a3 ?l3 ?c3 ?k3 ?a4 ?l4 ?c4 ?k4 ?a5 ?l5 ?c5 ?k5 ?a6 ?i6 ?l6 ?c6 ?k6 ?a7 ?i7 ?l7 ?c7 ?k7 ?a8 ?i8 ?l8 ?c8 ?k8 ?a9 ?l9 ?c9 ?k9 ?a10 ?l10 ?c10 ?k10 ?a11 ?l11 ?c11 ?k11 ?a12 ?i12 ?l12 ?c12 ?k12 ?a13 ?l13 ?c13 ?k13 ?a14 ?l14 ?c14 ?k14 ?a15 ?l15 ?c15 ?k15 ?a16 ?l16 ?c16 ?k16 ?a17 ?l17 ?c17 ?k17 ?a18 ?l18 ?c18 ?k18 ?a19 ?l19 ?c19 ?k19 ?a21 ?l21 ?c21 ?k21 ?a23 ?l23 ?c23 ?k23 ?a24 ?l24 ?c24 ?k24 ?a25 ?l25 ?c25 ?k25 ?a26 ?l26 ?c26 ?k26 ?a27 ?l27 ?c27 ?k27 ?a28 ?l28 ?c28 ?k28 ?a29 ?i29 ?l29 ?c29 ?k29 ?a30 ?l30 ?c30 ?k30 ?a31 ?l31 ?c31 ?k31 ?a32 ?l32 ?c32 ?k32 ?a33 ?l33 ?c33 ?k33 ?a34 ?i34 ?l34 ?c34 ?k34 ?a35 ?l35 ?c35 ?k35 ?a36 ?l36 ?c36 ?k36 ?a37 ?l37 ?c37 ?k37 ?a38 ?i38 ?l38 ?c38 ?k38 ?a39 ?l39 ?c39 ?k39 ?a40 ?l40 ?c40 ?k40 ?a41 ?l41 ?c41 ?k41 ?a42 ?l42 ?c42 ?k42
    (case z_len => k_is)
    (case z_all => k_is)
    (case z_any => k_is)
    (case z_sorted => k_is)
    (case z_isinstance => k_is)
    (case z_abs => k_is)
    (case z_min => k_is)
    (case z_max => k_is)
    (case z_range => k_is)
    (case z_enumerate => k_is)
    (case z_int => k_is)
    (case z_list => k_is)
    (case z_tuple => k_is)
    (case z_str => k_is)
    (case z_bool => k_is)
    (case z_repr => k_is)
    (case z_zip => k_is)
    (case z_set => k_is)
    (case z_sum => k_is)
    (case aC => k_is)
    (case pg => k_is)
    (case hd => k_is)
    (case po => k_is)
    (case sa => k_is)
    (case mk => k_is)
    (case kc => k_is)
    (case n1 => k_is)
    (case n2 => k_is)
    (case n3 => k_is)
    (case c_FEWEST_PLACES => k_is)
    (case c_MOST_PLACES => k_is)
    (case c_MOST_ARROWS => k_is)
    (case aC_Core => k_is)
    (case pg_Core => k_is)
    (case hd_Core => k_is)
    (case po_Core => k_is)
    (case sa_Core => k_is)
    (case mk_Core => k_is)
    (case kc_Core => k_is)
    (case n0_Core => k_is)
    (case n1_Core => k_is)
    (case n2_Core => k_is)
    (case n3_Core => k_is)
    (case n4_Core => k_is)
    (case n5_Core => k_is)
    (case n6_Core => k_is)
    (case g_ManyGoals => k_is)
    (case e_ManyGoals => k_exc)
    (case k_ManyGoals => k_is)
    (case i_ManyGoals => k_is)
    (case b_ManyGoals => k_is)
    (case t_ManyGoals => k_is)
    (case s_ManyGoals_ManyGoals => first | rfl | k_is)
    (case ck_MOST_COUNTED => k_is)
    (case oa_Map => k_is)
    (case on_Map => k_is)
    (case ot_Map => k_is)
    (case om_Map => k_is)
    (case okt_Map => k_is)
    (case oki_Map => k_is)
    (case okb_Map => k_is)
    (case nn_Map => k_is)
    (case no_Map => k_is)
    (case a0 => k_is)
    (case l0 => k_is)
    (case c0 => k_is)
    (case k0 => k_is)
    (case a1 => k_is)
    (case l1 => k_is)
    (case c1 => k_is)
    (case k1 => k_is)
    (case a2 => k_is)
    (case l2 => k_is)
    (case c2 => k_is)
    (case k2 => k_is)
    (case a3 => k_is)
    (case l3 => k_is)
    (case c3 => k_is)
    (case k3 => k_is)
    (case a4 => k_is)
    (case l4 => k_is)
    (case c4 => k_is)
    (case k4 => k_is)
    (case a5 => k_is)
    (case l5 => k_is)
    (case c5 => k_is)
    (case k5 => k_is)
    (case a6 => k_is)
    (case i6 => k_is)
    (case l6 => k_is)
    (case c6 => k_is)
    (case k6 => k_is)
    (case a7 => k_is)
    (case i7 => k_is)
    (case l7 => k_is)
    (case c7 => k_is)
    (case k7 => k_is)
    (case a8 => k_is)
    (case i8 => k_is)
    (case l8 => k_is)
    (case c8 => k_is)
    (case k8 => k_is)
    (case a9 => k_is)
    (case l9 => k_is)
    (case c9 => k_is)
    (case k9 => k_is)
    (case a10 => k_is)
    (case l10 => k_is)
    (case c10 => k_is)
    (case k10 => k_is)
    (case a11 => k_is)
    (case l11 => k_is)
    (case c11 => k_is)
    (case k11 => k_is)
    (case a12 => k_is)
    (case i12 => k_is)
    (case l12 => k_is)
    (case c12 => k_is)
    (case k12 => k_is)
    (case a13 => k_is)
    (case l13 => k_is)
    (case c13 => k_is)
    (case k13 => k_is)
    (case a14 => k_is)
    (case l14 => k_is)
    (case c14 => k_is)
    (case k14 => k_is)
    (case a15 => k_is)
    (case l15 => k_is)
    (case c15 => k_is)
    (case k15 => k_is)
    (case a16 => k_is)
    (case l16 => k_is)
    (case c16 => k_is)
    (case k16 => k_is)
    (case a17 => k_is)
    (case l17 => k_is)
    (case c17 => k_is)
    (case k17 => k_is)
    (case a18 => k_is)
    (case l18 => k_is)
    (case c18 => k_is)
    (case k18 => k_is)
    (case a19 => k_is)
    (case l19 => k_is)
    (case c19 => k_is)
    (case k19 => k_is)
    (case a21 => k_is)
    (case l21 => k_is)
    (case c21 => k_is)
    (case k21 => k_is)
    (case a23 => k_is)
    (case l23 => k_is)
    (case c23 => k_is)
    (case k23 => k_is)
    (case a24 => k_is)
    (case l24 => k_is)
    (case c24 => k_is)
    (case k24 => k_is)
    (case a25 => k_is)
    (case l25 => k_is)
    (case c25 => k_is)
    (case k25 => k_is)
    (case a26 => k_is)
    (case l26 => k_is)
    (case c26 => k_is)
    (case k26 => k_is)
    (case a27 => k_is)
    (case l27 => k_is)
    (case c27 => k_is)
    (case k27 => k_is)
    (case a28 => k_is)
    (case l28 => k_is)
    (case c28 => k_is)
    (case k28 => k_is)
    (case a29 => k_is)
    (case i29 => k_is)
    (case l29 => k_is)
    (case c29 => k_is)
    (case k29 => k_is)
    (case a30 => k_is)
    (case l30 => k_is)
    (case c30 => k_is)
    (case k30 => k_is)
    (case a31 => k_is)
    (case l31 => k_is)
    (case c31 => k_is)
    (case k31 => k_is)
    (case a32 => k_is)
    (case l32 => k_is)
    (case c32 => k_is)
    (case k32 => k_is)
    (case a33 => k_is)
    (case l33 => k_is)
    (case c33 => k_is)
    (case k33 => k_is)
    (case a34 => k_is)
    (case i34 => k_is)
    (case l34 => k_is)
    (case c34 => k_is)
    (case k34 => k_is)
    (case a35 => k_is)
    (case l35 => k_is)
    (case c35 => k_is)
    (case k35 => k_is)
    (case a36 => k_is)
    (case l36 => k_is)
    (case c36 => k_is)
    (case k36 => k_is)
    (case a37 => k_is)
    (case l37 => k_is)
    (case c37 => k_is)
    (case k37 => k_is)
    (case a38 => k_is)
    (case i38 => k_is)
    (case l38 => k_is)
    (case c38 => k_is)
    (case k38 => k_is)
    (case a39 => k_is)
    (case l39 => k_is)
    (case c39 => k_is)
    (case k39 => k_is)
    (case a40 => k_is)
    (case l40 => k_is)
    (case c40 => k_is)
    (case k40 => k_is)
    (case a41 => k_is)
    (case l41 => k_is)
    (case c41 => k_is)
    (case k41 => k_is)
    (case a42 => k_is)
    (case l42 => k_is)
    (case c42 => k_is)
    (case k42 => k_is)
