import PyProof.Rows.All
import Wide.All
import OpenK.AllK
import Wide.FinOn
import HandS.ForMost
import HandS.IsInst
import HandS.Conv
import HandS.Wide
import HandS.SortInts
import HandS.TupAny
import HandS.Evl
import KE.GoesEnum
import HandS.Walk
import HandS.Codes
import HandS.Style
import HandS.Star
import HandS.Small
import HandS.TryMany
import HandS.TryOnly
import HandS.WordsExc
import HandS.SetKeys
import HandS.More
import PySem.Challenge.RW_untriedways_k21_named_plans
set_option Elab.async false
set_option maxRecDepth 100000
set_option maxHeartbeats 4000000
set_option linter.all false
/-! what all texts of mine share: calls by name, builtins, regions of the heap, kinds of values -/
namespace U
open PySem PySem.Spec PyProof.Rows L2

/-! ### a def of the text that keeps a promise, by its name -/
/-- the def fd stands at f -/
def Lk (K : PySem.W.Frag) (f : Addr) (fd : FuncData) : Prop := ∃ (oc : Value) (od : Option Addr) (sl : Array (Option Value)), K.lookup f = some ⟨oc, od, .func fd, sl⟩
structure Has (P : Program) (w : World) (K : PySem.W.Frag) (mg : Str → Option Value) (base : Heap) (x : Str) (k : Nat) (ps : List Str) (sp : Sp) : Prop where
  ex : ∃ f fd, mg x = some (.ref f) ∧ PySem.W.keepIn K (.ref f) = true ∧ Binds K fd ps [] ∧ FnOk P w K mg base CX0 k f fd ps sp ∧ Lk K f fd
/-- a def as the top leaves it -/
structure Df (K : PySem.W.Frag) (mg : Str → Option Value) (x : Str) (st : Stmt) (ps : List Str) : Prop where
  ex : ∃ f fd, mg x = some (.ref f) ∧ Fun K x x st f fd ∧ Binds K fd ps []
section
variable {X : Cx} {k j : Nat} {ps : List Str} {sp : Sp} {x : Str} {p pos : Pos} {e : Expr} {es : List Expr} {t : TA}
theorem pcall (h : Has X.prog X.w X.K X.mg X.base x k ps sp) (hr : Room j X.A) (hk : k ≤ j) (hg : Gl X x) (ha : PA X (e :: es) t) (hdb : (x == ("__debug__" : Str)) = false := by decide)
    (he : starEach (e :: es) X.env = (false, eval e X.env) :: starEach es X.env := by rfl) (hpl : (backTo pos (starEach es X.env)).any (·.1) = false := by rfl) :
    PE X (.Call (.Name x p) (e :: es) [] pos) (tCall sp [] E0 t) := by
  obtain ⟨f, fd, hm, kp, b, F, _⟩ := h.ex
  exact pe_call F (hr.mono hk) hg hm kp b .nil pass0 ha hdb he hpl
end
theorem Fun.lk {K : PySem.W.Frag} {x qual : Str} {st : Stmt} {f : Addr} {fd : FuncData} (F : Fun K x qual st f fd) : Lk K f fd := by
  obtain ⟨oc, od, kV, doc, pm, an, cdv, ct, osl, rfl, lk, hcd⟩ := F.ex
  exact ⟨_, _, _, lk⟩
theorem Df.has {P : Program} {w : World} {K : PySem.W.Frag} {mg : Str → Option Value} {base : Heap} {x : Str} {st : Stmt} {ps : List Str} {k : Nat} {sp : Sp} (d : Df K mg x st ps)
    (h : ∀ f fd, Fun K x x st f fd → FnOk P w K mg base CX0 k f fd ps sp) : Has P w K mg base x k ps sp := by
  obtain ⟨f, fd, hm, F, b⟩ := d.ex
  exact ⟨f, fd, hm, F.kp, b, h f fd F, Fun.lk F⟩

/-! ### a method, an __init__ that keeps a promise -/
structure HasM (P : Program) (w : World) (K : PySem.W.Frag) (mg : Str → Option Value) (base : Heap) (C : Addr) (m : Str) (k : Nat) (ps : List Str) (sp : Sp) : Prop where
  ex : ∃ f, ∃ fd, Meth K C m f ∧ Binds K fd ps [] ∧ FnOk P w K mg base CX0 k f fd ps sp
section
variable {P : Program} {w : World} {K : PySem.W.Frag} {mg : Str → Option Value} {base : Heap} {C : Addr} {m : Str} {k : Nat} {ps : List Str} {sp : Sp}
theorem HasM.mt (h : HasM P w K mg base C m k ps sp) : Meth K C m h.ex.choose := h.ex.choose_spec.choose_spec.1
theorem HasM.b (h : HasM P w K mg base C m k ps sp) : Binds K h.ex.choose_spec.choose ps [] := h.ex.choose_spec.choose_spec.2.1
theorem HasM.F (h : HasM P w K mg base C m k ps sp) : FnOk P w K mg base CX0 k h.ex.choose h.ex.choose_spec.choose ps sp := h.ex.choose_spec.choose_spec.2.2
end
structure HasI (P : Program) (w : World) (K : PySem.W.Frag) (mg : Str → Option Value) (base : Heap) (C : Addr) (k : Nat) (ps : List Str) (sp : Sp) : Prop where
  ex : ∃ f, ∃ fd, Mk K C f ∧ Binds K fd ps [] ∧ FnOk P w K mg base CX0 k f fd ps sp
section
variable {P : Program} {w : World} {K : PySem.W.Frag} {mg : Str → Option Value} {base : Heap} {C : Addr} {k : Nat} {ps : List Str} {sp : Sp}
theorem HasI.m (h : HasI P w K mg base C k ps sp) : Mk K C h.ex.choose := h.ex.choose_spec.choose_spec.1
theorem HasI.b (h : HasI P w K mg base C k ps sp) : Binds K h.ex.choose_spec.choose ps [] := h.ex.choose_spec.choose_spec.2.1
theorem HasI.F (h : HasI P w K mg base C k ps sp) : FnOk P w K mg base CX0 k h.ex.choose h.ex.choose_spec.choose ps sp := h.ex.choose_spec.choose_spec.2.2
end
/-- methods as the top leaves them -/
structure DfM (K : PySem.W.Frag) (C : Addr) (m : Str) (qual : Str) (st : Stmt) (ps : List Str) : Prop where
  ex : ∃ f fd, Meth K C m f ∧ Fun K m qual st f fd ∧ Binds K fd ps []
structure DfI (K : PySem.W.Frag) (C : Addr) (qual : Str) (st : Stmt) (ps : List Str) : Prop where
  ex : ∃ f fd, Mk K C f ∧ Fun K "__init__" qual st f fd ∧ Binds K fd ps []
theorem DfM.has {P : Program} {w : World} {K : PySem.W.Frag} {mg : Str → Option Value} {base : Heap} {C : Addr} {m qual : Str} {st : Stmt} {ps : List Str} {k : Nat} {sp : Sp} (d : DfM K C m qual st ps)
    (h : ∀ f fd, Fun K m qual st f fd → FnOk P w K mg base CX0 k f fd ps sp) : HasM P w K mg base C m k ps sp := by
  obtain ⟨f, fd, hm, F, b⟩ := d.ex
  exact ⟨f, fd, hm, b, h f fd F⟩
theorem DfI.has {P : Program} {w : World} {K : PySem.W.Frag} {mg : Str → Option Value} {base : Heap} {C : Addr} {qual : Str} {st : Stmt} {ps : List Str} {k : Nat} {sp : Sp} (d : DfI K C qual st ps)
    (h : ∀ f fd, Fun K "__init__" qual st f fd → FnOk P w K mg base CX0 k f fd ps sp) : HasI P w K mg base C k ps sp := by
  obtain ⟨f, fd, hm, F, b⟩ := d.ex
  exact ⟨f, fd, hm, b, h f fd F⟩
/-! ### the rules whose readings speak of the written part, K named -/
section
variable {X : Cx} {K : PySem.W.Frag}
def rLen (K : PySem.W.Frag) : List V → Hp → VK → Prop := fun xs H Q => ∃ p ys, xs = [.ref p] ∧ (SqL K H p ys ∨ SqT K H p ys) ∧ Q (.int ys.length) H
def rListOf (K : PySem.W.Frag) : List V → Hp → VK → Prop := fun xs H Q => ∃ p ys, xs = [.ref p] ∧ (SqL K H p ys ∨ SqT K H p ys) ∧ ∀ l, H l = none → Q (.ref l) (upd H l (.lst ys))
def rTupleOf (K : PySem.W.Frag) : List V → Hp → VK → Prop := fun xs H Q => ∃ p ys, xs = [.ref p] ∧ ((SqL K H p ys ∧ ∀ l, H l = none → Q (.ref l) (upd H l (.tup ys))) ∨ (SqT K H p ys ∧ Q (.ref p) H))
theorem k_ixl (h : X.K = K) : IxR X (rIxL K) := by subst h; exact ix_list
theorem k_ixt (h : X.K = K) : IxR X (rIxT K) := by subst h; exact ix_tup
theorem k_ixx (h : X.K = K) : IxR X (rIx K) := by subst h; exact ix_seq
theorem k_in (h : X.K = K) : OpR X (compareOp .In) (rIn K false) := by subst h; exact op_in_seq
theorem k_notin (h : X.K = K) : OpR X (compareOp .NotIn) (rIn K true) := by subst h; exact op_notIn_seq
theorem k_cat (h : X.K = K) : OpR X (binaryOp .Add) (rCatA K) := by subst h; exact op_catA
theorem k_eqD (h : X.K = K) (hu : X.A.units + 64 < cLine) : OpR X (compareOp .Eq) (rEqD K) := by subst h; exact op_eqD hu
theorem k_neD (h : X.K = K) (hu : X.A.units + 64 < cLine) : OpR X (compareOp .NotEq) (rNeD K) := by subst h; exact op_neD hu
theorem k_len (h : X.K = K) : CallR X (.builtin "len") (rLen K) := by subst h; exact call_len_seq
theorem k_list (h : X.K = K) : CallR X (.type "list") (rListOf K) := by subst h; exact call_list_of
theorem k_tuple (h : X.K = K) : CallR X (.type "tuple") (rTupleOf K) := by subst h; exact call_tuple_of
theorem k_all (h : X.K = K) (hc : X.calm = true) : CallR X (.builtin "all") (rAll K) := by subst h; exact cr_all hc
theorem k_any (h : X.K = K) (hc : X.calm = true) : CallR X (.builtin "any") (rAny K) := by subst h; exact cr_any hc
theorem k_sorted (h : X.K = K) : CallR X (.builtin "sorted") (rSortedI K) := by subst h; exact cr_sortedI
theorem k_isi (h : X.K = K) : CallR X (.builtin "isinstance") (rIsi K) := by subst h; exact call_isi
theorem k_sll (h : X.K = K) : SlR X (rSlL K) := by subst h; exact sl_list
theorem k_slt (h : X.K = K) : SlR X (rSlA K) := by subst h; exact sl_tupA
theorem k_fld {e : Expr} {ta : TE} {f : Str} {pos : Pos} (h : X.K = K) (he : PE X e ta) (hb : attributeBase e f X.env (eval e X.env) = eval e X.env) : PE X (.Attribute e f pos) (tFld K ta f) := by subst h; exact pe_fld he hb
theorem k_pil {tg l : Expr} {tl : TE} (h : X.K = K) (hl : PE X l tl) : PI X tg l (iList K tl) := by subst h; exact pi_list hl
theorem k_pit {tg l : Expr} {tl : TE} (h : X.K = K) (hl : PE X l tl) : PI X tg l (iTup K tl) := by subst h; exact pi_tup hl
theorem k_tru {a : Expr} {ta : TE} (h : X.K = K) (ha : PE X a ta) (he : ∀ whole, isTrue a X.env whole = (do let v ← whole; standAt a.pos; holding [v] (truthy v))) :
    PT X a (fun σ H Q => ta σ H fun x H1 => ∃ k, TruV K x H1 k ∧ Q k H1) := by subst h; exact pt_truth ha he
end
/-! ### builtins -/
structure Bt (mg : Str → Option Value) : Prop where
  len : mg "len" = none
  all : mg "all" = none
  any : mg "any" = none
  sorted : mg "sorted" = none
  isinstance : mg "isinstance" = none
  abs : mg "abs" = none
  min : mg "min" = none
  max : mg "max" = none
  range : mg "range" = none
  enumerate : mg "enumerate" = none
  int : mg "int" = none
  list : mg "list" = none
  tuple : mg "tuple" = none
  str : mg "str" = none
  bool : mg "bool" = none
  repr : mg "repr" = none
theorem bo_len : bootBuiltins "len" = some (.builtin "len") := by decide +kernel
theorem bo_all : bootBuiltins "all" = some (.builtin "all") := by decide +kernel
theorem bo_any : bootBuiltins "any" = some (.builtin "any") := by decide +kernel
theorem bo_sorted : bootBuiltins "sorted" = some (.builtin "sorted") := by decide +kernel
theorem bo_isinstance : bootBuiltins "isinstance" = some (.builtin "isinstance") := by decide +kernel
theorem bo_abs : bootBuiltins "abs" = some (.builtin "abs") := by decide +kernel
theorem bo_min : bootBuiltins "min" = some (.builtin "min") := by decide +kernel
theorem bo_max : bootBuiltins "max" = some (.builtin "max") := by decide +kernel
theorem bo_int : bootBuiltins "int" = some (.type "int") := by decide +kernel
theorem bo_list : bootBuiltins "list" = some (.type "list") := by decide +kernel
theorem bo_tuple : bootBuiltins "tuple" = some (.type "tuple") := by decide +kernel
theorem bo_str : bootBuiltins "str" = some (.type "str") := by decide +kernel
theorem bo_bool : bootBuiltins "bool" = some (.type "bool") := by decide +kernel

/-! ### kinds of values -/
/-- the type of the value is one of those built-in types -/
structure Kn (K : PySem.W.Frag) (H : Hp) (v : V) (s : String) : Prop where
  ty : TyX K H v (.type s)
  mem : s ∈ ["NoneType", "bool", "int", "str", "list", "tuple", "dict"]
/-- whether a value is an int (no bool) -/
def isI : V → Bool
  | .int _ => true
  | _ => false
def idxV (v : V) (m : Int) : Bool := match v with
  | .int i => decide (0 ≤ i) && decide (i < m)
  | _ => false
def lotFrom (m : Int) : Int → List V → Bool
  | _, [] => true
  | l, .int i :: r => decide (0 ≤ i) && decide (i < m) && decide (l < i) && lotFrom m i r
  | _, _ :: _ => false
theorem kn_int {K : PySem.W.Frag} {H : Hp} {v : V} {s : String} (h : Kn K H v s) : isI v = (s == "int") := by
  obtain ⟨t, m⟩ := h
  cases t with
  | base b => cases b <;> rfl
  | byt b => simp at m
  | set e => simp at m
  | _ => rfl
theorem kit_int {K : PySem.W.Frag} {s : String} (m : s ∈ ["NoneType", "bool", "int", "str", "list", "tuple", "dict"]) : PySem.W.kitOne K (.type s) (.type "int") = some (s == "int" || s == "bool") := by
  simp only [List.mem_cons, List.not_mem_nil, or_false] at m
  rcases m with rfl | rfl | rfl | rfl | rfl | rfl | rfl <;> exact kit_ty (by decide +kernel)
theorem kit_bool {K : PySem.W.Frag} {s : String} (m : s ∈ ["NoneType", "bool", "int", "str", "list", "tuple", "dict"]) : PySem.W.kitOne K (.type s) (.type "bool") = some (s == "bool") := by
  simp only [List.mem_cons, List.not_mem_nil, or_false] at m
  rcases m with rfl | rfl | rfl | rfl | rfl | rfl | rfl <;> exact kit_ty (by decide +kernel)
theorem kit_tuple {K : PySem.W.Frag} {s : String} (m : s ∈ ["NoneType", "bool", "int", "str", "list", "tuple", "dict"]) : PySem.W.kitOne K (.type s) (.type "tuple") = some (s == "tuple") := by
  simp only [List.mem_cons, List.not_mem_nil, or_false] at m
  rcases m with rfl | rfl | rfl | rfl | rfl | rfl | rfl <;> exact kit_ty (by decide +kernel)
theorem kn_of_int {K : PySem.W.Frag} {H : Hp} {i : Int} : Kn K H (.int i) "int" := ⟨.base (.int i), by simp⟩
theorem kn_of_tup {K : PySem.W.Frag} {H : Hp} {a : Addr} {xs : List V} (h : SqT K H a xs) : Kn K H (.ref a) "tuple" := by
  rcases h with (h | ⟨o, h⟩) | ⟨o, its, n, h1, h2, _⟩
  · exact ⟨.base (.tup h), by simp⟩
  · exact ⟨.fTuple h, by simp⟩
  · exact ⟨.kTuple h1 h2, by simp⟩

def nV (n : Nat) : V := .int (n : Int)
theorem lot_nat {m : Int} : ∀ {xs : List V} {l : Int}, -1 ≤ l → lotFrom m l xs = true → ∃ gs : List Nat, xs = gs.map nV ∧ (∀ g ∈ gs, (g : Int) < m ∧ l < (g : Int)) ∧ gs.Pairwise (· < ·)
  | [], _, _, _ => ⟨[], rfl, fun _ h => (List.not_mem_nil h).elim, List.Pairwise.nil⟩
  | .int i :: r, l, hl, h => by
    have h' : (decide (0 ≤ i) && decide (i < m) && decide (l < i) && lotFrom m i r) = true := h
    simp only [Bool.and_eq_true, decide_eq_true_eq] at h'
    obtain ⟨⟨⟨h0, h1⟩, h2⟩, h3⟩ := h'
    obtain ⟨gs, e, hg, hp⟩ := lot_nat (l := i) (by omega) h3
    refine ⟨i.toNat :: gs, ?_, fun g hm => ?_, List.Pairwise.cons (fun g hm => ?_) hp⟩
    · rw [List.map_cons, ← e]
      congr 2
      omega
    · rcases List.mem_cons.mp hm with rfl | hm
      · exact ⟨by omega, by omega⟩
      · obtain ⟨a, b⟩ := hg g hm
        exact ⟨a, by omega⟩
    · have := (hg g hm).2
      omega
  | .non :: _, _, _, h => by cases h
  | .bl _ :: _, _, _, h => by cases h
  | .str _ :: _, _, _, h => by cases h
  | .byt _ :: _, _, _, h => by cases h
  | .flt _ :: _, _, _, h => by cases h
  | .ref _ :: _, _, _, h => by cases h
  | .ty _ :: _, _, _, h => by cases h
theorem lot_of {m : Int} : ∀ {gs : List Nat} {l : Int}, (∀ g ∈ gs, (g : Int) < m ∧ l < (g : Int)) → gs.Pairwise (· < ·) → lotFrom m l (gs.map nV) = true
  | [], _, _, _ => rfl
  | g :: r, l, h, hp => by
    obtain ⟨h1, h2⟩ := h g List.mem_cons_self
    have h3 : lotFrom m (g : Int) (r.map nV) = true := lot_of (fun x hx => ⟨(h x (List.mem_cons_of_mem _ hx)).1, by have := List.rel_of_pairwise_cons hp hx; omega⟩) hp.of_cons
    show (decide (0 ≤ (g : Int)) && decide ((g : Int) < m) && decide (l < (g : Int)) && lotFrom m (g : Int) (r.map nV)) = true
    rw [h3]
    simp only [Bool.and_eq_true, decide_eq_true_eq]
    exact ⟨⟨⟨by omega, h1⟩, h2⟩, trivial⟩
/-! ### regions -/
/-- M: what may be changed; F: what was written once for ever -/
structure Grow (M : Addr → Prop) (F H F' H' : Hp) : Prop where
  same : ∀ a o, ¬ M a → H a = some o → H' a = some o
  live : ∀ a, H a ≠ none → H' a ≠ none
  sub : Same F F'
  sub' : Same F' H'
  fresh : ∀ a, F' a ≠ none → F a = none → H a = none
theorem Grow.refl {M : Addr → Prop} {F H : Hp} (h : Same F H) : Grow M F H F H := ⟨fun _ _ _ h => h, fun _ h => h, Same.refl F, h, fun _ a b => absurd b a⟩
theorem Grow.trans {M M' : Addr → Prop} {F H F1 H1 F2 H2 : Hp} (g : Grow M F H F1 H1) (g' : Grow M' F1 H1 F2 H2) (hm : ∀ a, M' a → M a ∨ H a = none) : Grow M F H F2 H2 where
  same := fun a o m h => g'.same a o (fun z => (hm a z).elim m fun e => by rw [e] at h; cases h) (g.same a o m h)
  live := fun a h => g'.live a (g.live a h)
  sub := g.sub.trans g'.sub
  sub' := g'.sub'
  fresh := fun a h2 h0 => by
    by_cases h1 : F1 a = none
    · have e := g'.fresh a h2 h1
      exact Classical.byContradiction fun z => g.live a z e
    · exact g.fresh a h1 h0
theorem same_new {H H1 : Hp} {p : Addr} {o : HO} (e : Same H H1) (h : H1 p = none) : Same H (upd H1 p o) := fun b u q => by
  have q1 := e b u q
  rw [upd_ne (ne_of_none q1 h)]
  exact q1
theorem same_mut {H H1 : Hp} {p : Addr} {o : HO} (e : Same H H1) (h : H p = none) : Same H (upd H1 p o) := fun b u q => by
  rw [upd_ne (ne_of_none q h)]
  exact e b u q
theorem Same.sqt {K : PySem.W.Frag} {H H' : Hp} {a : Addr} {xs : List V} (e : Same H H') (h : SqT K H a xs) : SqT K H' a xs := by
  rcases h with (h | ⟨o, h⟩) | h
  · exact .inl (.inl (e _ _ h))
  · exact .inl (.inr ⟨o, e _ _ h⟩)
  · exact .inr h
theorem sql {K : PySem.W.Frag} {H : Hp} {a : Addr} {xs : List V} (h : H a = some (.lst xs)) : SqL K H a xs := .inl (.inl h)
theorem sqt {K : PySem.W.Frag} {H : Hp} {a : Addr} {xs : List V} (h : H a = some (.tup xs)) : SqT K H a xs := .inl (.inl h)

theorem tyes {σ : L2.St} {H : Hp} {Q : Bool → Hp → Prop} (h : Q true H) : tYes σ H Q := h
/-! ### lists and places -/
theorem drop_cons_of {α : Type} {xs : List α} {i : Nat} {x : α} (hx : xs[i]? = some x) : xs.drop i = x :: xs.drop (i + 1) := by
  have hi := (List.getElem?_eq_some_iff.mp hx).1
  rw [List.drop_eq_getElem_cons hi, (List.getElem?_eq_some_iff.mp hx).2]
theorem take_snoc_of {α : Type} {xs : List α} {i : Nat} {x : α} (hx : xs[i]? = some x) : xs.take (i + 1) = xs.take i ++ [x] := by
  rw [List.take_add_one, hx]
  rfl
theorem ixN_nat {n j : Nat} (h : j < n) : ixN n (j : Int) = some j := by
  unfold ixN
  rw [if_pos (by omega), if_pos (by omega)]
  rfl
theorem small_sz {n : Nat} (h : n ≤ 100000) : n ≤ sizeLine := Nat.le_trans h (by decide)
theorem small_lt {n : Nat} (h : n ≤ 100000) : n < sizeLine := Nat.lt_of_le_of_lt h (by decide)
theorem getmap {α β : Type} {f : α → β} {xs : List α} {i : Nat} {y : β} (h : (xs.map f)[i]? = some y) : ∃ x, xs[i]? = some x ∧ f x = y := by
  rw [List.getElem?_map] at h
  cases e : xs[i]? with
  | none => rw [e] at h; cases h
  | some x => rw [e] at h; exact ⟨x, rfl, Option.some.inj h⟩
theorem set_map_range {β : Type} {n z : Nat} {f : Nat → β} {b : β} : ((List.range n).map f).set z b = (List.range n).map (fun i => if i = z then b else f i) := by
  apply List.ext_getElem?
  intro i
  rw [List.getElem?_set, List.getElem?_map, List.getElem?_map, List.length_map, List.length_range]
  by_cases h : z = i
  · subst h
    by_cases hz : z < n
    · rw [if_pos rfl, if_pos hz, List.getElem?_range hz]
      simp
    · rw [if_pos rfl, if_neg hz, List.getElem?_eq_none (by simpa using hz)]
      rfl
  · rw [if_neg h]
    by_cases hi : i < n
    · rw [List.getElem?_range hi]
      simp [Ne.symm h]
    · rw [List.getElem?_eq_none (by simpa using hi)]
      rfl
theorem get_map_range {β : Type} {n j : Nat} {f : Nat → β} (h : j < n) : ((List.range n).map f)[j]? = some (f j) := by
  rw [List.getElem?_map, List.getElem?_range h]
  rfl
theorem Grow.same0 {F H F' H' : Hp} (g : Grow (fun _ => False) F H F' H') : Same H H' := fun a o h => g.same a o (fun z => z) h
end U

/-! enumerate over a tuple -/
namespace U
open PySem PySem.Spec PyProof.Rows L2

abbrev enumO (a : Addr) : Obj := { cls := .type "enumerate", data := .fields #[.none, .bool false, .ref a, rawInt 0, .none, .none] }
theorem new_enum_tuple (l : Addr) (items : Array Value) (n : Nat) (dct : Option Addr) (sl : Array (Option Value)) :
    Meets (Builtin.«enumerate.__new__» ⟨[.type "enumerate", .ref l], []⟩) (fun _ R s =>
      s.heap.get? l = some { cls := .type "tuple", dict := dct, data := .seq items n, slots := sl } ∧
      R (.ok (.ret (.ref (s.heap.push { cls := .type "tuple_iterator", data := .fields #[.ref l, .int 0 0] }).objs.size)))
        { s with heap := ((s.heap.push { cls := .type "tuple_iterator", data := .fields #[.ref l, .int 0 0] }).push (enumO s.heap.objs.size)) }) :=
  .of_wp fun prog w A R s h => by
    obtain ⟨hp, g, d, tk, os⟩ := s
    obtain ⟨hl, h⟩ := h
    have hsub := sub_enumerate
    have hT : Heap.IsTuple (Shared.heap ⟨hp, g, d, tk, os⟩) l items := ⟨_, hl, rfl, n, rfl⟩
    wp_walk using AutoSeq1.wpAny_loadPart' hl
    refine wpAny_stack_any fun st => wpAny_pure ?_
    split
    · rename_i c _ _ _ _ _
      cases (c == Value.type "enumerate") <;>
      · wp_walk using AutoSeq1.wpAny_loadPart' hl, wpAny_pyIter_tuple hT
        exact ⟨_, rfl, h⟩
    · wp_walk using AutoSeq1.wpAny_loadPart' hl, wpAny_pyIter_tuple hT
      exact ⟨_, rfl, h⟩

theorem call_enum_tuple {prog : Program} {w : World} {A : Around} {E : Value → Shared → Prop} {s : Shared} {l : Addr} {items : Array Value} {Q : Value → Shared → Prop} (hT : s.heap.IsTuple l items)
    (h : ∀ h', IsEnum h' (s.heap.objs.size + 1) s.heap.objs.size 0 .none → h'.IsTupleIter s.heap.objs.size l 0 →
      (∀ b o, s.heap.get? b = some o → h'.get? b = some o) → Q (.ref (s.heap.objs.size + 1)) { s with heap := h' }) :
    wpAny (model prog w) A (call (.type "enumerate") [.ref l]) Q E s := by
  obtain ⟨⟨c, dct, dt, sl⟩, hl, rfl, n, rfl⟩ := hT
  refine callType_new F.called_enumerate (by decide) (F.typeCall_enumerate_1 _) (F.newCall_enumerate_1 _)
    (fun obj => F.args_object_init_2 obj _) F.entry_enumerate_new (new_enum_tuple l items n dct sl) ⟨hl, ?_⟩
  have hz : (s.heap.push { cls := .type "tuple_iterator", data := .fields #[.ref l, .int 0 0] }).objs.size = s.heap.objs.size + 1 := Heap.size_push ..
  show _ ∧ _
  rw [hz]
  have he := Heap.get?_push_size (s.heap.push { cls := .type "tuple_iterator", data := .fields #[.ref l, .int 0 0] })
    (o := enumO s.heap.objs.size) rfl
  rw [hz] at he
  exact ⟨⟨_, he, rfl⟩, h _ he ⟨_, Heap.get?_push_of_some _ (Heap.get?_push_size _ rfl), rfl, rfl⟩
    fun b o x => Heap.get?_push_of_some _ (Heap.get?_push_of_some _ x)⟩

/-- the tuple at a, each item in a new pair with its place -/
def ItT (K : PySem.W.Frag) (a : Addr) : It :=
  ⟨fun i H => ∃ (xs : List V) (x : V), SqT K H a xs ∧ xs[i]? = some x,
   fun i H v H' => ∃ T x, v = .ref T ∧ H T = none ∧ H' = upd H T (.tup [.int (i : Nat), x]) ∧ ∀ xs, SqT K H a xs → xs[i]? = some x,
   fun i H => ∃ xs : List V, SqT K H a xs ∧ xs.length = i⟩
theorem apart_tuple {h : Heap} {a b : Addr} {items : Array Value} {o : Obj} {c : String} (ht : h.IsTuple a items) (hb : h.get? b = some o) (hc : o.cls = .type c) (hd : (c == "tuple") = false) : b ≠ a := by
  rintro rfl
  obtain ⟨o', h1, h2, _⟩ := ht
  rw [h1] at hb
  cases hb
  rw [h2] at hc
  cases hc
  exact absurd hd (by decide)
theorem turnT {P : Program} {w : World} {K : PySem.W.Frag} {elts : List Expr} {kk : Nat} {tpos : Pos} (a e it : Addr) :
    Turn P w K (.Tuple elts kk tpos) (ItT K a) [e, it] e (fun i h => (∃ old, IsEnum h e it ((i : Nat) : Int) old) ∧ h.IsTupleIter it a i ∧ e ≠ it) where
  mem := List.mem_cons_self
  obj := fun i h st b hb => by
    obtain ⟨⟨old, he⟩, ⟨o, ho, hc, hd⟩, _⟩ := st
    rcases List.mem_cons.mp hb with z | z
    · subst z
      exact ⟨_, he, fun v q => nomatch q⟩
    · have z := List.mem_singleton.mp z
      subst z
      exact ⟨o, ho, fun v q => by rw [hd] at q; cases q⟩
  keep := fun i h h' ⟨⟨old, he⟩, hi, hne⟩ k => ⟨⟨old, k e List.mem_cons_self _ he⟩, hi.at fun o q => k it (List.mem_cons_of_mem _ List.mem_cons_self) o q, hne⟩
  item := by
    intro X hP hw hK hc i pins s σ H E I hf st hg
    subst hP; subst hw; subst hK
    obtain ⟨⟨old, he⟩, hit, hne⟩ := st
    obtain ⟨xs, x, hq, hx⟩ := hg
    obtain ⟨its, rv, p0, hz⟩ := I.tuple hq
    have p : s.heap.IsTuple a its.toArray := p0
    obtain ⟨u, hu, ru⟩ := rv.get hx
    have hui : its.toArray[i]? = some u := by rw [List.getElem?_toArray]; exact hu
    have hilt : i < its.toArray.size := (Array.getElem?_eq_some_iff.mp hui).1
    have hea : e ≠ a := apart_tuple p he rfl (by decide)
    have hia : it ≠ a := by
      obtain ⟨o, h1, h2, _⟩ := id hit
      exact apart_tuple p h1 h2 (by decide)
    have hel : e < s.heap.objs.size := Heap.lt_size he
    have hil : it < s.heap.objs.size := by obtain ⟨_, q, _⟩ := id hit; exact Heap.lt_size q
    refine wpAny_pyNext_enum_itemD (Draws.tuple (A := X.A.in1) (show X.A.in1.handled = none from I.ok.hd hc) it a hia.symm its.toArray) he ⟨hit, p⟩ hilt hne (by simp [hne, hea])
      fun x' h' tk hx' ho hit' hT hsz hk => ?_
    rw [hui] at hx'
    cases hx'
    refine ⟨_, rfl, wpAny_letOwnedTupleGo_enum (s := { s with heap := h', toks := tk + 1 }) ho fun h'' he' sb => ?_⟩
    have hT2 : h''.get? s.heap.objs.size = some { cls := .type "tuple", data := .seq #[.int i tk, u] } :=
      Eq.trans (sb.2 _ (Nat.ne_of_gt hel)) hT
    have new : ObjOk X.prog X.w (upd H s.heap.objs.size (.tup [.int (i : Nat), x])) h'' s.heap.objs.size (.tup [.int (i : Nat), x]) :=
      ⟨by show 2 ≤ sizeLine; decide, [.int i tk, u], .cons ⟨_, rfl⟩ (.cons ru .nil), ⟨_, hT2, rfl, _, rfl⟩⟩
    have keeps : ∀ b ob, b ∉ [e, it] → s.heap.get? b = some ob → h''.get? b = some ob := fun b ob hb q => by
      have b1 : b ≠ e := fun z => hb (by simp [z])
      have b2 : b ≠ it := fun z => hb (by simp [z])
      exact Eq.trans (sb.2 b b1) (hk b ob b1 b2 q)
    have I1 : Inv X pins σ (upd H s.heap.objs.size (.tup [.int (i : Nat), x])) { s with heap := h'', toks := tk + 1 } :=
      I.turnedNew (ch := [e, it]) keeps hf (Nat.le_refl _) new
    have fr := I.hok.fresh (Nat.le_refl s.heap.objs.size)
    refine ⟨.ref s.heap.objs.size, _, I1, rfl, ⟨_, x, rfl, fr, rfl, fun ys hy => by rw [I.tuple_inj hy hq]; exact hx⟩,
      ⟨⟨u, ?_⟩, hit'.1.at fun o q => Eq.trans (sb.2 it hne.symm) q, hne⟩, fun b hb => ?_⟩
    · rw [show ((i + 1 : Nat) : Int) = (i : Int) + 1 by omega]
      exact he'
    · have hb' : b < s.heap.objs.size := by
        rcases List.mem_cons.mp hb with z | z
        · rw [z]; exact hel
        · rw [List.mem_singleton.mp z]; exact hil
      rw [upd_ne (Nat.ne_of_lt hb')]
      exact (hf b hb).1
  done := by
    intro X hP hw hK hc i pins s σ H E I hf st hg
    subst hP; subst hw; subst hK
    obtain ⟨⟨old, he⟩, hit, hne⟩ := st
    obtain ⟨xs, hq, hx⟩ := hg
    obtain ⟨its, rv, p0, hz⟩ := I.tuple hq
    have p : s.heap.IsTuple a its.toArray := p0
    have hia : it ≠ a := by
      obtain ⟨o, h1, h2, _⟩ := id hit
      exact apart_tuple p h1 h2 (by decide)
    obtain ⟨f0, f1, f2, f3, f4, f5⟩ := hf it (List.mem_cons_of_mem _ List.mem_cons_self)
    have hl : its.toArray.size = i := by rw [List.size_toArray, ← rv.length]; exact hx
    · subst hl
      exact wpAny_pyNext_enum_endD (Draws.tuple (A := X.A.in1) (show X.A.in1.handled = none from I.ok.hd hc) it a hia.symm its.toArray) he ⟨hit, p⟩
        fun h' eb => ⟨rfl, I.turned (t' := s.toks) (fun b o hb q => eb b o hb q) f0 f1 f3 f4 f5⟩
  self := fun A i s Q E ⟨⟨_, he⟩, _⟩ h => wpAny_pyIter_enum he h
def iEnT (K : PySem.W.Frag) (ta : TA) : TI := fun σ H R => ta σ H fun vs H1 => ∃ a xs, vs = [.ref a] ∧ SqT K H1 a xs ∧ R (ItT K a) H1
theorem pi_enumT {X : Cx} {e : Expr} {ta : TA} {p pos tpos : Pos} {elts : List Expr} {kk : Nat} (hg : Gl X "enumerate") (hm : X.mg "enumerate" = none) (ha : PA X [e] ta)
    (hs : starEach [e] X.env = [(false, eval e X.env)] := by rfl) : PI X (.Tuple elts kk tpos) (.Call (.Name "enumerate" p) [e] [] pos) (iEnT X.K ta) := by
  refine ⟨fun pins s σ H R I h => Call_ (ld_blt I hg hm boot_enumerate (PyProof.Rows.callWith_type1 (thn (ha.run pos pins s σ H _ I h) fun us s1 hh => ?_) hs rfl))⟩
  obtain ⟨vs, H1, I1, r1, a, xs, rfl, hq, q⟩ := hh
  cases r1 with
  | cons r rr =>
    cases rr
    cases r
    obtain ⟨its, rv, p', hz⟩ := I1.tuple hq
    refine call_enum_tuple (show s1.heap.IsTuple a its.toArray from p') fun h' he hit hk => wpAny_pyIter_enum he ?_
    refine ⟨s1.heap.objs.size + 1, [s1.heap.objs.size + 1, s1.heap.objs.size], _, _, H1, rfl, I1.kept (t' := s1.toks) hk, turnT a (s1.heap.objs.size + 1) s1.heap.objs.size,
      ⟨⟨.none, he⟩, hit, Nat.succ_ne_self _⟩, fun b hb => ?_, q⟩
    have hle : s1.heap.objs.size ≤ b := by
      rcases List.mem_cons.mp hb with z | z
      · rw [z]; exact Nat.le_add_right _ _
      · rw [List.mem_singleton.mp z]; exact Nat.le_refl _
    exact I1.fpOk hle (I1.hok.fresh hle)
end U

/-! comprehensions and loops in the forms that are wanted most -/
namespace U
open PySem PySem.Spec PyProof.Rows L2
variable {K : PySem.W.Frag} {a : Addr} {xs : List V}
theorem walkT : Walk (ItT K a) xs.length (fun H => SqT K H a xs) (YPair (fun i => some (.int (i : Nat))) (fun i => xs[i]?)) := by
  refine ⟨fun i _ hi q => ⟨xs, xs[i], q, by simp [hi]⟩, fun _ q => ⟨xs, q, rfl⟩, fun i H v H' _ q y => ?_⟩
  obtain ⟨T, x, h1, h2, h3, h4⟩ := y
  exact ⟨T, .int (i : Nat), x, h1, h2, h3, rfl, h4 xs q⟩
theorem fm_range {α β : Type} {F : α → Option β} : ∀ {xs : List α}, (List.range xs.length).filterMap (fun i => (xs[i]?).bind F) = xs.filterMap F
  | [] => rfl
  | x :: r => by
    rw [List.length_cons, List.range_succ_eq_map, List.filterMap_cons, List.filterMap_map, List.filterMap_cons]
    have e : ((fun i => ((x :: r)[i]?).bind F) ∘ Nat.succ) = fun i => (r[i]?).bind F := by
      funext i
      simp
    rw [e, fm_range]
    rfl
theorem fm_some {α β : Type} {f : α → β} {xs : List α} : xs.filterMap (fun x => some (f x)) = xs.map f := by
  rw [← List.filterMap_eq_map]
  rfl
theorem flat_nats (ns : List Nat) : (ns.map nV).all flatV = true := by
  rw [List.all_map]
  exact List.all_eq_true.mpr fun _ _ => rfl
theorem inV_nats (z : Nat) (ns : List Nat) : inV (nV z) (ns.map nV) = decide (z ∈ ns) := by
  unfold inV
  rw [List.any_map, Bool.eq_iff_iff, List.any_eq_true, decide_eq_true_eq]
  constructor
  · rintro ⟨y, hy, e⟩
    have e' : ((y : Int) == (z : Int)) = true := e
    have e2 : (y : Int) = (z : Int) := eq_of_beq e'
    have e3 : y = z := by omega
    rw [← e3]
    exact hy
  · intro h
    refine ⟨z, h, ?_⟩
    show ((z : Int) == (z : Int)) = true
    exact beq_self_eq_true _
theorem nodup_le {ns : List Nat} {n : Nat} (h : ns.Nodup) (hn : ∀ z ∈ ns, z < n) : ns.length ≤ n := by
  have := h.length_le_of_subset (l₂ := List.range n) fun z hz => List.mem_range.mpr (hn z hz)
  rw [List.length_range] at this
  exact this
/-! ### a walked thing that is a list or a tuple -/
def SqX (K : PySem.W.Frag) (H : Hp) (a : Addr) (xs : List V) : Prop := SqL K H a xs ∨ SqT K H a xs
theorem Same.sqx {H H' : Hp} (e : Same H H') (h : SqX K H a xs) : SqX K H' a xs := h.elim (fun z => .inl (Same.seq e z)) fun z => .inr (Same.sqt e z)
def iSeq (K : PySem.W.Frag) (tl : TE) : TI := fun σ H R => tl σ H fun x H1 => ∃ a, x = .ref a ∧ (((∃ xs, SqL K H1 a xs) ∧ R (Itl K a) H1) ∨ ((∃ xs, SqT K H1 a xs) ∧ R (Itt K a) H1))
theorem k_pis {X : Cx} {tg l : Expr} {tl : TE} (h : X.K = K) (hl : PE X l tl) : PI X tg l (iSeq K tl) := by
  subst h
  refine ⟨fun pins s σ H R I h => thn (hl.run pins s σ H _ I h) fun v s1 ⟨x, H1, I1, r1, a, e, q⟩ => ?_⟩
  subst e
  cases r1
  have new : ∀ b ∈ [s1.heap.objs.size], FpOk X pins H1 b := fun b hb => by
    rw [List.mem_singleton.mp hb]
    exact I1.fpOk (Nat.le_refl _) (I1.hok.fresh (Nat.le_refl _))
  rcases q with ⟨⟨xs, hq⟩, q⟩ | ⟨⟨xs, hq⟩, q⟩
  · obtain ⟨its, rv, p, hz⟩ := I1.list hq
    exact wpAny_pyIter_list p.isList ⟨s1.heap.objs.size, [s1.heap.objs.size], _, _, H1, rfl, I1.kept (t' := s1.toks) fun b o e => Heap.get?_push_of_some _ e,
      turn_list a _, ⟨_, Heap.get?_push_size _ rfl, rfl, rfl⟩, new, q⟩
  · obtain ⟨its, rv, p, hz⟩ := I1.tuple hq
    exact wpAny_pyIter_tuple (show s1.heap.IsTuple a its.toArray from p) ⟨s1.heap.objs.size, [s1.heap.objs.size], _, _, H1, rfl, I1.kept (t' := s1.toks) fun b o e => Heap.get?_push_of_some _ e,
      turn_tuple a _, ⟨_, Heap.get?_push_size _ rfl, rfl, rfl⟩, new, q⟩
theorem for_seq {g : TG} {tb : TS} {D : Ends} {σ : L2.St} {H0 H : Hp} (hS : SqX K H0 a xs) (Pv : Nat → L2.St → Hp → Prop) (h0 : Pv 0 σ H) (hl : ∀ i σ H', i ≤ xs.length → Pv i σ H' → Same H0 H')
    (hs : ∀ i x σ H, xs[i]? = some x → Pv i σ H → g x σ H fun σ2 H2 => tb { D with nx := Pv (i + 1), ct := Pv (i + 1), bk := D.nx } σ2 H2) (hd : ∀ σ H, Pv xs.length σ H → D.nx σ H) :
    ((∃ xs, SqL K H a xs) ∧ ∃ W : Nat → Nat → L2.St → Hp → Prop, (∃ m, W 0 m σ H) ∧ ∀ i m σ H, W i m σ H →
      ((Itl K a).stop i H ∧ D.nx σ H) ∨ ((Itl K a).go i H ∧ ∃ N : L2.St → Hp → Prop, (∀ σ' H', N σ' H' → ∃ m', m' < m ∧ W (i + 1) m' σ' H') ∧ ∀ x H', (Itl K a).yld i H x H' → g x σ H' fun σ2 H2 => tb { D with nx := N, ct := N, bk := D.nx } σ2 H2)) ∨
    ((∃ xs, SqT K H a xs) ∧ ∃ W : Nat → Nat → L2.St → Hp → Prop, (∃ m, W 0 m σ H) ∧ ∀ i m σ H, W i m σ H →
      ((Itt K a).stop i H ∧ D.nx σ H) ∨ ((Itt K a).go i H ∧ ∃ N : L2.St → Hp → Prop, (∀ σ' H', N σ' H' → ∃ m', m' < m ∧ W (i + 1) m' σ' H') ∧ ∀ x H', (Itt K a).yld i H x H' → g x σ H' fun σ2 H2 => tb { D with nx := N, ct := N, bk := D.nx } σ2 H2)) := by
  rcases hS with hS | hS
  · exact .inl ⟨⟨xs, Same.seq (hl 0 σ H (Nat.zero_le _) h0) hS⟩, for_list Pv h0 (fun i σ H' hi p => Same.seq (hl i σ H' hi p) hS) hs hd⟩
  · exact .inr ⟨⟨xs, Same.sqt (hl 0 σ H (Nat.zero_le _) h0) hS⟩, for_tup Pv h0 (fun i σ H' hi p => Same.sqt (hl i σ H' hi p) hS) hs hd⟩
/-- nothing that stood is changed by a turn's drawing -/
def Calm (n : Nat) (Y : Nat → Hp → V → Hp → Prop) : Prop := ∀ i H x H', i < n → Y i H x H' → Same H H'
theorem calm_at {n : Nat} : Calm n (YAt xs) := fun _ H _ _ _ y => by rw [y.1]; exact Same.refl H
theorem calm_fn {n : Nat} {f : Nat → V} : Calm n (YFn f) := fun _ H _ _ _ y => by rw [y.1]; exact Same.refl H
theorem calm_pair {n : Nat} {f g : Nat → Option V} : Calm n (YPair f g) := fun _ H _ _ _ ⟨_, _, _, _, h2, h3, _⟩ => by
  rw [h3]
  exact same_new (Same.refl H) h2
/-- a comprehension that changes nothing that stood; at place i it gives an o of which R i o stands -/
theorem lc_rel {J : It} {n : Nat} {G : Hp → Prop} {Y : Nat → Hp → V → Hp → Prop} (w : Walk J n G Y) (hy : Calm n Y) {g : TG} {tt : TT} {te : TE} {vs : List Nat} {σ : L2.St} {H0 : Hp} {D : Addr} {Qd : Hp → Prop}
    (R : Nat → Hp → Option V → Prop) (hR : ∀ i o H H' acc, H D = some (.lst acc) → R i H o → (∀ b u, b ≠ D → H b = some u → H' b = some u) → R i H' o) (hn : n ≤ 100000) (hD : H0 D = none) (hG : ∀ H, Same H0 H → G H)
    (hs : ∀ i x H H', i < n → Same H0 H → Y i H x H' → ∀ Kt : Option V → Hp → Prop, (∀ o H4, Same H' H4 → R i H4 o → Kt o H4) →
      g x (wipe σ vs) H' fun σ2 H2 => wipe σ2 vs = wipe σ vs ∧ tt σ2 H2 fun b H3 => if b = true then te σ2 H3 fun y H4 => Kt (some y) H4 else Kt none H3)
    (hd : ∀ H (os : List (Option V)), Same H0 H → os.length = n → (∀ i o, os[i]? = some o → R i H o) → H D = some (.lst (os.filterMap id)) → Qd H) :
    ∃ W : Nat → Nat → Hp → Prop, (∃ m, W 0 m (upd H0 D (.lst []))) ∧ ∀ i m H, W i m H →
      (J.stop i H ∧ Qd H) ∨ (J.go i H ∧ ∃ Nx : Hp → Prop, (∀ H', Nx H' → ∃ m', m' < m ∧ W (i + 1) m' H') ∧ ∀ x H', J.yld i H x H' → g x (wipe σ vs) H' fun σ2 H2 => wipe σ2 vs = wipe σ vs ∧ tt σ2 H2 fun b H3 =>
        if b = true then te σ2 H3 fun y H4 => ∃ acc, H4 D = some (.lst acc) ∧ acc.length < sizeLine ∧ Nx (upd H4 D (.lst (acc ++ [y]))) else Nx H3) := by
  refine lc_it w (fun i H => ∃ os : List (Option V), Same H0 H ∧ os.length = i ∧ (∀ j o, os[j]? = some o → R j H o) ∧ H D = some (.lst (os.filterMap id)))
    ⟨[], same_new (Same.refl H0) hD, rfl, fun j o h => by simp at h, upd_same⟩ (fun i H hi ⟨os, sm, _⟩ => hG H sm) (fun i x H H' hi p y => ?_) fun H ⟨os, sm, hl, hr, hd'⟩ => hd H os sm hl hr hd'
  obtain ⟨os, sm, hl, hr, hH⟩ := p
  have smY := hy i H x H' hi y
  refine hs i x H H' hi sm y (fun o H4 => match o with
    | some y => ∃ acc, H4 D = some (.lst acc) ∧ acc.length < sizeLine ∧ (∃ os : List (Option V), Same H0 (upd H4 D (.lst (acc ++ [y]))) ∧ os.length = i + 1 ∧ (∀ j o, os[j]? = some o → R j (upd H4 D (.lst (acc ++ [y]))) o) ∧ upd H4 D (.lst (acc ++ [y])) D = some (.lst (os.filterMap id)))
    | none => ∃ os : List (Option V), Same H0 H4 ∧ os.length = i + 1 ∧ (∀ j o, os[j]? = some o → R j H4 o) ∧ H4 D = some (.lst (os.filterMap id))) fun o H4 s4 r4 => ?_
  have hD4 : H4 D = some (.lst (os.filterMap id)) := s4 _ _ (smY _ _ hH)
  have keep : ∀ (H5 : Hp), (∀ b u, b ≠ D → H4 b = some u → H5 b = some u) → Same H0 H5 ∧ (os ++ [o]).length = i + 1 ∧ ∀ j o', (os ++ [o])[j]? = some o' → R j H5 o' := fun H5 k => by
    refine ⟨fun b u q => ?_, by simp [hl], fun j o' hj => ?_⟩
    · have nb : b ≠ D := ne_of_none q hD
      exact k b u nb (s4 _ _ (smY _ _ (sm b u q)))
    · by_cases hj1 : j < os.length
      · rw [List.getElem?_append_left hj1] at hj
        refine hR j o' H H5 _ hH (hr j o' hj) fun b u nb q => k b u nb (s4 _ _ (smY _ _ q))
      · rw [List.getElem?_append_right (by omega)] at hj
        have e1 : j - os.length = 0 := by
          have := (List.getElem?_eq_some_iff.mp hj).1
          simp at this
          omega
        rw [e1] at hj
        have e2 : o = o' := Option.some.inj hj
        have e3 : j = i := by omega
        rw [← e2, e3]
        exact hR i o H4 H5 _ hD4 r4 k
  cases o with
  | none =>
    obtain ⟨k1, k2, k3⟩ := keep H4 fun b u _ q => q
    exact ⟨os ++ [none], k1, k2, k3, by rw [hD4, List.filterMap_append]; simp⟩
  | some y =>
    obtain ⟨k1, k2, k3⟩ := keep (upd H4 D (.lst (os.filterMap id ++ [y]))) fun b u nb q => by rw [upd_ne nb]; exact q
    refine ⟨_, hD4, ?_, os ++ [some y], k1, k2, k3, ?_⟩
    · have h1 : (os.filterMap id).length ≤ os.length := List.length_filterMap_le _ _
      exact small_lt (by omega)
    · rw [upd_same, List.filterMap_append]
      rfl
/-- the same, what comes being known -/
theorem lc_val {J : It} {n : Nat} {G : Hp → Prop} {Y : Nat → Hp → V → Hp → Prop} (w : Walk J n G Y) (hy : Calm n Y) {g : TG} {tt : TT} {te : TE} {vs : List Nat} {σ : L2.St} {H0 : Hp} {D : Addr} {Qd : Hp → Prop}
    (r : Nat → Option V) (hn : n ≤ 100000) (hD : H0 D = none) (hG : ∀ H, Same H0 H → G H)
    (hs : ∀ i x H H', i < n → Same H0 H → Y i H x H' → ∀ Kt : Option V → Hp → Prop, (∀ H4, Same H' H4 → Kt (r i) H4) →
      g x (wipe σ vs) H' fun σ2 H2 => wipe σ2 vs = wipe σ vs ∧ tt σ2 H2 fun b H3 => if b = true then te σ2 H3 fun y H4 => Kt (some y) H4 else Kt none H3)
    (hd : ∀ H, Same H0 H → H D = some (.lst ((List.range n).filterMap r)) → Qd H) :
    ∃ W : Nat → Nat → Hp → Prop, (∃ m, W 0 m (upd H0 D (.lst []))) ∧ ∀ i m H, W i m H →
      (J.stop i H ∧ Qd H) ∨ (J.go i H ∧ ∃ Nx : Hp → Prop, (∀ H', Nx H' → ∃ m', m' < m ∧ W (i + 1) m' H') ∧ ∀ x H', J.yld i H x H' → g x (wipe σ vs) H' fun σ2 H2 => wipe σ2 vs = wipe σ vs ∧ tt σ2 H2 fun b H3 =>
        if b = true then te σ2 H3 fun y H4 => ∃ acc, H4 D = some (.lst acc) ∧ acc.length < sizeLine ∧ Nx (upd H4 D (.lst (acc ++ [y]))) else Nx H3) := by
  refine lc_rel w hy (fun i _ o => o = r i) (fun i o H H' acc _ h _ => h) hn hD hG (fun i x H H' hi sm y Kt k => hs i x H H' hi sm y Kt fun H4 s4 => k (r i) H4 s4 rfl) fun H os sm hl hr hD' => hd H sm ?_
  rw [hD']
  congr 2
  have e : os = (List.range n).map r := by
    apply List.ext_getElem?
    intro j
    by_cases hj : j < n
    · have h1 : os[j]? = some os[j] := List.getElem?_eq_getElem (by omega)
      rw [h1, hr j _ h1, List.getElem?_map, List.getElem?_range hj]
      rfl
    · rw [List.getElem?_eq_none (by omega), List.getElem?_eq_none (by simp; omega)]
  rw [e, List.filterMap_map]
  rfl
/-- over a list or a tuple -/
theorem lc_seq {g : TG} {tt : TT} {te : TE} {vs : List Nat} {σ : L2.St} {Hs H0 : Hp} {Qd : Addr → Hp → Prop} (hS : SqX K Hs a xs) (sm : Same Hs H0) (r : Nat → Option V) (hn : xs.length ≤ 100000)
    (hs : ∀ i x H H', i < xs.length → Same H0 H → YAt xs i H x H' → ∀ Kt : Option V → Hp → Prop, (∀ H4, Same H' H4 → Kt (r i) H4) →
      g x (wipe σ vs) H' fun σ2 H2 => wipe σ2 vs = wipe σ vs ∧ tt σ2 H2 fun b H3 => if b = true then te σ2 H3 fun y H4 => Kt (some y) H4 else Kt none H3)
    (hd : ∀ H D, Same H0 H → H0 D = none → H D = some (.lst ((List.range xs.length).filterMap r)) → Qd D H) :
    (((∃ xs, SqL K H0 a xs) ∧ ∀ D, H0 D = none → ∃ W : Nat → Nat → Hp → Prop, (∃ m, W 0 m (upd H0 D (.lst []))) ∧ ∀ i m H, W i m H →
      ((Itl K a).stop i H ∧ Qd D H) ∨ ((Itl K a).go i H ∧ ∃ Nx : Hp → Prop, (∀ H', Nx H' → ∃ m', m' < m ∧ W (i + 1) m' H') ∧ ∀ x H', (Itl K a).yld i H x H' → g x (wipe σ vs) H' fun σ2 H2 => wipe σ2 vs = wipe σ vs ∧ tt σ2 H2 fun b H3 =>
        if b = true then te σ2 H3 fun y H4 => ∃ acc, H4 D = some (.lst acc) ∧ acc.length < sizeLine ∧ Nx (upd H4 D (.lst (acc ++ [y]))) else Nx H3)) ∨
     ((∃ xs, SqT K H0 a xs) ∧ ∀ D, H0 D = none → ∃ W : Nat → Nat → Hp → Prop, (∃ m, W 0 m (upd H0 D (.lst []))) ∧ ∀ i m H, W i m H →
      ((Itt K a).stop i H ∧ Qd D H) ∨ ((Itt K a).go i H ∧ ∃ Nx : Hp → Prop, (∀ H', Nx H' → ∃ m', m' < m ∧ W (i + 1) m' H') ∧ ∀ x H', (Itt K a).yld i H x H' → g x (wipe σ vs) H' fun σ2 H2 => wipe σ2 vs = wipe σ vs ∧ tt σ2 H2 fun b H3 =>
        if b = true then te σ2 H3 fun y H4 => ∃ acc, H4 D = some (.lst acc) ∧ acc.length < sizeLine ∧ Nx (upd H4 D (.lst (acc ++ [y]))) else Nx H3))) := by
  rcases hS with hS | hS
  · exact .inl ⟨⟨xs, Same.seq sm hS⟩, fun D nD => lc_val walk_list calm_at r hn nD (fun H3 s3 => Same.seq (sm.trans s3) hS) hs fun H s h => hd H D s nD h⟩
  · exact .inr ⟨⟨xs, Same.sqt sm hS⟩, fun D nD => lc_val walk_tup calm_at r hn nD (fun H3 s3 => Same.sqt (sm.trans s3) hS) hs fun H s h => hd H D s nD h⟩
theorem rgV0 (n : Nat) : rgV 0 (n : Int) = (List.range n).map nV := by
  unfold rgV
  rw [show ((n : Int) - 0).toNat = n by omega]
  refine List.map_congr_left fun i _ => ?_
  show V.int ((0 : Int) + (i : Int)) = V.int (i : Int)
  rw [Int.zero_add]
theorem rgV1 (n : Nat) : rgV 1 (n : Int) = ((List.range (n - 1)).map (· + 1)).map nV := by
  unfold rgV
  rw [show ((n : Int) - 1).toNat = n - 1 by omega, List.map_map]
  refine List.map_congr_left fun i _ => ?_
  show V.int ((1 : Int) + (i : Int)) = V.int ((i + 1 : Nat) : Int)
  congr 1
  omega
end U

/-! walks along edges: levels, reach, the search layer by layer -/
namespace U
abbrev Es := List (Nat × Nat)
/-- to come to v by at most k edges from S -/
def Lev (es : Es) (S : List Nat) : Nat → Nat → Prop
  | 0, v => v ∈ S
  | k + 1, v => Lev es S k v ∨ ∃ u, Lev es S k u ∧ (u, v) ∈ es
def Rch (es : Es) (S : List Nat) (v : Nat) : Prop := ∃ k, Lev es S k v
/-- the least number of edges to v is d -/
def Dst (es : Es) (S : List Nat) (v d : Nat) : Prop := Lev es S d v ∧ ∀ k, k < d → ¬ Lev es S k v
theorem Lev.succ {es : Es} {S : List Nat} {k v : Nat} (h : Lev es S k v) : Lev es S (k + 1) v := .inl h
theorem Lev.mono {es : Es} {S : List Nat} {k j v : Nat} (h : Lev es S k v) (hk : k ≤ j) : Lev es S j v := by
  induction hk with
  | refl => exact h
  | step _ ih => exact ih.succ
theorem Lev.edge {es : Es} {S : List Nat} {k u v : Nat} (h : Lev es S k u) (e : (u, v) ∈ es) : Lev es S (k + 1) v := .inr ⟨u, h, e⟩
theorem Rch.edge {es : Es} {S : List Nat} {u v : Nat} (h : Rch es S u) (e : (u, v) ∈ es) : Rch es S v := h.elim fun k hk => ⟨k + 1, hk.edge e⟩
theorem Rch.base {es : Es} {S : List Nat} {v : Nat} (h : v ∈ S) : Rch es S v := ⟨0, h⟩
theorem Rch.ind {es : Es} {S : List Nat} {P : Nat → Prop} (h0 : ∀ v ∈ S, P v) (h1 : ∀ u v, P u → (u, v) ∈ es → P v) {v : Nat} (h : Rch es S v) : P v := by
  obtain ⟨k, hk⟩ := h
  induction k generalizing v with
  | zero => exact h0 v hk
  | succ k ih =>
    rcases hk with hk | ⟨u, hu, e⟩
    · exact ih hk
    · exact h1 u v (ih hu) e
theorem Rch.mono {es es' : Es} {S S' : List Nat} (he : ∀ e ∈ es, e ∈ es') (hS : ∀ v ∈ S, v ∈ S') {v : Nat} (h : Rch es S v) : Rch es' S' v :=
  h.ind (fun v hv => .base (hS v hv)) fun u v hu e => hu.edge (he _ e)
theorem Rch.lt {es : Es} {S : List Nat} {n v : Nat} (hS : ∀ s ∈ S, s < n) (he : ∀ e ∈ es, e.2 < n) (h : Rch es S v) : v < n :=
  h.ind hS fun _ v _ e => he _ e
theorem Dst.inj {es : Es} {S : List Nat} {v d d' : Nat} (h : Dst es S v d) (h' : Dst es S v d') : d = d' := by
  rcases Nat.lt_trichotomy d d' with z | z | z
  · exact absurd h.1 (h'.2 d z)
  · exact z
  · exact absurd h'.1 (h.2 d' z)
theorem Dst.ex {es : Es} {S : List Nat} {v k : Nat} (h : Lev es S k v) : ∃ d, d ≤ k ∧ Dst es S v d := by
  induction k with
  | zero => exact ⟨0, Nat.le_refl _, h, fun k hk => absurd hk (Nat.not_lt_zero k)⟩
  | succ k ih =>
    by_cases hk : Lev es S k v
    · obtain ⟨d, hd, h'⟩ := ih hk
      exact ⟨d, Nat.le_succ_of_le hd, h'⟩
    · exact ⟨k + 1, Nat.le_refl _, h, fun j hj hl => hk (hl.mono (Nat.le_of_lt_succ hj))⟩
theorem rch_iff {es : Es} {S : List Nat} {v : Nat} : Rch es S v ↔ ∃ d, Dst es S v d :=
  ⟨fun ⟨_, h⟩ => (Dst.ex h).elim fun d h => ⟨d, h.2⟩, fun ⟨d, h⟩ => ⟨d, h.1⟩⟩
/-- no edge leads farther by more than one -/
theorem Dst.step {es : Es} {S : List Nat} {u v d d' : Nat} (h : Dst es S u d) (e : (u, v) ∈ es) (h' : Dst es S v d') : d' ≤ d + 1 := by
  by_cases hd : d' ≤ d + 1
  · exact hd
  · exact absurd (h.1.edge e) (h'.2 (d + 1) (by omega))
/-- whoever is farther off than 0 has a nearer one ahead -/
theorem Dst.pred {es : Es} {S : List Nat} {v d : Nat} (h : Dst es S v (d + 1)) : ∃ u, Dst es S u d ∧ (u, v) ∈ es := by
  rcases h.1 with hk | ⟨u, hu, e⟩
  · exact absurd hk (h.2 d (Nat.lt_succ_self d))
  · refine ⟨u, ⟨hu, fun k hk hl => ?_⟩, e⟩
    exact h.2 (k + 1) (Nat.succ_lt_succ hk) (hl.edge e)

/-! ### the search -/
/-- st tells what is known when c layers are done; lay is the layer c -/
structure Bfs (n : Nat) (es : Es) (S : List Nat) (c : Nat) (st : Nat → Option Nat) (lay : List Nat) : Prop where
  tell : ∀ v d, v < n → st v = some d → d ≤ c ∧ Dst es S v d
  full : ∀ v, v < n → Lev es S c v → st v ≠ none
  lay : ∀ v, v ∈ lay ↔ v < n ∧ st v = some c
theorem Bfs.start {n : Nat} {es : Es} {S : List Nat} (hS : ∀ s ∈ S, s < n) : Bfs n es S 0 (fun v => if v ∈ S then some 0 else none) S where
  tell := fun v d _ h => by
    by_cases hv : v ∈ S
    · rw [if_pos hv] at h
      cases h
      exact ⟨Nat.le_refl _, hv, fun k hk => absurd hk (Nat.not_lt_zero k)⟩
    · rw [if_neg hv] at h
      cases h
  full := fun v _ h => by
    have h : v ∈ S := h
    rw [if_pos h]
    exact fun z => by cases z
  lay := fun v => by
    by_cases hv : v ∈ S
    · simp [hv, hS v hv]
    · simp [hv]
/-- behind one more layer; T: all heads of edges out of the layer -/
theorem Bfs.next {n : Nat} {es : Es} {S : List Nat} {c : Nat} {st : Nat → Option Nat} {lay T : List Nat} (b : Bfs n es S c st lay) (he : ∀ e ∈ es, e.1 < n ∧ e.2 < n) (hS : ∀ s ∈ S, s < n)
    (hT : ∀ v, v ∈ T ↔ ∃ u, u ∈ lay ∧ (u, v) ∈ es) {lay' : List Nat} (hl : ∀ v, v ∈ lay' ↔ v < n ∧ st v = none ∧ v ∈ T) :
    Bfs n es S (c + 1) (fun v => match st v with
      | some d => some d
      | none => if v ∈ T then some (c + 1) else none) lay' where
  tell := fun v d hv h => by
    cases e : st v with
    | some d0 =>
      simp only [e] at h
      cases h
      obtain ⟨h1, h2⟩ := b.tell v _ hv e
      exact ⟨Nat.le_succ_of_le h1, h2⟩
    | none =>
      simp only [e] at h
      by_cases hm : v ∈ T
      · rw [if_pos hm] at h
        cases h
        obtain ⟨u, hu, ed⟩ := (hT v).mp hm
        obtain ⟨hun, hus⟩ := (b.lay u).mp hu
        refine ⟨Nat.le_refl _, (b.tell u c hun hus).2.1.edge ed, fun k hk hlk => ?_⟩
        exact b.full v hv (hlk.mono (Nat.le_of_lt_succ hk)) e
      · rw [if_neg hm] at h
        cases h
  full := fun v hv h => by
    cases e : st v with
    | some d0 =>
      simp only
      exact fun z => by cases z
    | none =>
      have hm : v ∈ T := by
        rcases h with h | ⟨u, hu, ed⟩
        · exact absurd e (b.full v hv h)
        · have hun : u < n := (he _ ed).1
          have hus := b.full u hun hu
          cases eu : st u with
          | none => exact absurd eu hus
          | some d =>
            obtain ⟨h1, h2⟩ := b.tell u d hun eu
            by_cases hd : d = c
            · subst hd
              exact (hT v).mpr ⟨u, (b.lay u).mpr ⟨hun, eu⟩, ed⟩
            · exact absurd e (b.full v hv ((h2.1.edge ed).mono (by omega)))
      simp only
      rw [if_pos hm]
      exact fun z => by cases z
  lay := fun v => by
    rw [hl v]
    constructor
    · rintro ⟨hv, h0, hm⟩
      refine ⟨hv, ?_⟩
      simp only [h0]
      rw [if_pos hm]
    · rintro ⟨hv, h⟩
      refine ⟨hv, ?_⟩
      cases e : st v with
      | some d =>
        simp only [e] at h
        cases h
        exact absurd (b.tell v (c + 1) hv e).1 (by omega)
      | none =>
        simp only [e] at h
        by_cases hm : v ∈ T
        · exact ⟨rfl, hm⟩
        · rw [if_neg hm] at h
          cases h
/-- when the layer is empty all is told -/
theorem Bfs.done {n : Nat} {es : Es} {S : List Nat} {c : Nat} {st : Nat → Option Nat} (b : Bfs n es S c st []) (he : ∀ e ∈ es, e.1 < n ∧ e.2 < n) {v : Nat} (hv : v < n) :
    (∀ d, st v = some d ↔ Dst es S v d) ∧ (st v = none ↔ ¬ Rch es S v) := by
  have cl : ∀ k w, w < n → Lev es S k w → Lev es S c w := by
    intro k
    induction k with
    | zero => exact fun w _ h => Lev.mono (k := 0) h (Nat.zero_le _)
    | succ k ih =>
      intro w hw h
      rcases h with h | ⟨u, hu, ed⟩
      · exact ih w hw h
      · have hun : u < n := (he _ ed).1
        have hu' := ih u hun hu
        obtain ⟨d, hd, h2⟩ := Dst.ex hu'
        have hdc : d ≠ c := by
          intro z
          subst z
          cases eu : st u with
          | none => exact b.full u hun hu' eu
          | some d' =>
            have e2 := (b.tell u d' hun eu).2.inj h2
            subst e2
            have := (b.lay u).mpr ⟨hun, eu⟩
            cases this
        exact (h2.1.edge ed).mono (by omega)
  have two : st v = none ↔ ¬ Rch es S v := by
    constructor
    · rintro h ⟨k, hk⟩
      exact b.full v hv (cl k v hv hk) h
    · intro h
      cases e : st v with
      | none => rfl
      | some d => exact absurd ⟨d, (b.tell v d hv e).2.1⟩ h
  refine ⟨fun d => ⟨fun h => (b.tell v d hv h).2, fun h => ?_⟩, two⟩
  cases e : st v with
  | none => exact absurd (rch_iff.mpr ⟨d, h⟩) (two.mp e)
  | some d' => rw [(b.tell v d' hv e).2.inj h]
/-- the edges from a place -/
def adj (es : Es) (v : Nat) : List Nat := es.filterMap fun e => if e.1 = v then some e.2 else none
theorem mem_adj {es : Es} {u v : Nat} : v ∈ adj es u ↔ (u, v) ∈ es := by
  unfold adj
  rw [List.mem_filterMap]
  constructor
  · rintro ⟨⟨a, b⟩, h, e⟩
    simp only at e
    by_cases hu : a = u
    · rw [if_pos hu] at e
      cases e
      rw [← hu]
      exact h
    · rw [if_neg hu] at e
      cases e
  · intro h
    exact ⟨(u, v), h, by simp⟩
theorem adj_snoc {es : Es} {e : Nat × Nat} {v : Nat} : adj (es ++ [e]) v = if e.1 = v then adj es v ++ [e.2] else adj es v := by
  unfold adj
  rw [List.filterMap_append]
  by_cases h : e.1 = v
  · simp [h]
  · simp [h]
/-- how many places are not told yet -/
def openN (n : Nat) (st : Nat → Option Nat) : Nat := (List.range n).countP fun v => (st v).isNone
theorem openN_le {n : Nat} {st st' : Nat → Option Nat} (h : ∀ v, st' v = none → st v = none) : openN n st' ≤ openN n st := by
  unfold openN
  refine List.countP_mono_left fun v _ hv => ?_
  simp only [Option.isNone_iff_eq_none] at hv ⊢
  exact h v hv
theorem openN_lt {n : Nat} {st st' : Nat → Option Nat} (h : ∀ v, st' v = none → st v = none) {z : Nat} (hz : z < n) (h1 : st z = none) (h2 : st' z ≠ none) : openN n st' < openN n st := by
  unfold openN
  have hm : z ∈ List.range n := List.mem_range.mpr hz
  obtain ⟨l1, l2, e⟩ := List.append_of_mem hm
  rw [e, List.countP_append, List.countP_append, List.countP_cons, List.countP_cons]
  have a1 : List.countP (fun v => (st' v).isNone) l1 ≤ List.countP (fun v => (st v).isNone) l1 := List.countP_mono_left fun v _ hv => by
    simp only [Option.isNone_iff_eq_none] at hv ⊢
    exact h v hv
  have a2 : List.countP (fun v => (st' v).isNone) l2 ≤ List.countP (fun v => (st v).isNone) l2 := List.countP_mono_left fun v _ hv => by
    simp only [Option.isNone_iff_eq_none] at hv ⊢
    exact h v hv
  have b1 : (if (st z).isNone = true then 1 else 0) = 1 := by rw [h1]; rfl
  have b2 : (if (st' z).isNone = true then 1 else 0) = 0 := by
    cases q : st' z with
    | none => exact absurd q h2
    | some d => rfl
  rw [b1, b2]
  omega
end U

/-! the hand that draws -/
namespace U
open PySem PySem.Spec PyProof.Rows L2
def handO (c : Addr) (i r s k : Int) : HO := .lst [.ref c, .int i, .int r, .int s, .int k]
/-- the hand stands at h, its cells in the region F -/
structure HandAt (F H : Hp) (h : Addr) : Prop where
  ob : ∃ (c : Addr) (cells : List Int) (i r s k : Int), H h = some (handO c i r s k) ∧ F c = some (.lst (cells.map V.int)) ∧ 0 ≤ i
  nF : F h = none
theorem HandAt.grow {M : Addr → Prop} {F H F' H' : Hp} {h : Addr} (a : HandAt F H h) (g : Grow M F H F' H') (hm : ¬ M h) : HandAt F' H' h where
  ob := by
    obtain ⟨c, cells, i, r, s, k, h1, h2, h3⟩ := a.ob
    exact ⟨c, cells, i, r, s, k, g.same _ _ hm h1, g.sub _ _ h2, h3⟩
  nF := by
    refine Classical.byContradiction fun z => ?_
    obtain ⟨c, cells, i, r, s, k, h1, _⟩ := a.ob
    rw [g.fresh h z a.nF] at h1
    cases h1
/-- what a draw leaves -/
structure Drew (F H H' : Hp) (h : Addr) : Prop where
  hand : HandAt F H' h
  rest : ∀ b, b ≠ h → H' b = H b
  sub : Same F H'
theorem Drew.trans {F H H1 H2 : Hp} {h : Addr} (a : Drew F H H1 h) (b : Drew F H1 H2 h) : Drew F H H2 h := ⟨b.hand, fun x hx => (b.rest x hx).trans (a.rest x hx), b.sub⟩
theorem Drew.grow {F H H' : Hp} {h : Addr} (a : HandAt F H h) (d : Drew F H H' h) : Grow (fun b => b = h) F H F H' where
  same := fun b o m e => by rw [d.rest b m]; exact e
  live := fun b e => by
    by_cases hb : b = h
    · subst hb
      obtain ⟨c, cells, i, r, s, k, h1, _⟩ := d.hand.ob
      rw [h1]
      exact fun z => by cases z
    · rw [d.rest b hb]
      exact e
  sub := Same.refl F
  sub' := d.sub
  fresh := fun b x y => absurd y x
def spDraw : Sp := fun vs H Q _ => ∃ (h : Addr) (m : Int) (F : Hp), vs = [.ref h, .int m] ∧ 0 < m ∧ m.natAbs.log2 < 9000 ∧ Same F H ∧ HandAt F H h ∧ ∀ n H', 0 ≤ n → n < m → Drew F H H' h → Q (.int n) H'
/-- a store to the hand -/
theorem drew_upd {F H : Hp} {h c : Addr} {cells : List Int} {i' r' s' k' : Int} (hs : Same F H) (nF : F h = none) (hc : F c = some (.lst (cells.map V.int))) (h0 : 0 ≤ i') : Drew F H (upd H h (handO c i' r' s' k')) h where
  hand := ⟨⟨c, cells, i', r', s', k', upd_same, hc, h0⟩, nF⟩
  rest := fun b hb => upd_ne hb
  sub := same_mut hs nF
/-- what a def with draws leaves: the hand, all else that stood -/
structure Dr (F H H' : Hp) (h : Addr) : Prop where
  hand : HandAt F H' h
  same : ∀ b o, b ≠ h → H b = some o → H' b = some o
  sub : Same F H'
theorem Drew.dr {F H H' : Hp} {h : Addr} (d : Drew F H H' h) : Dr F H H' h := ⟨d.hand, fun b o hb e => by rw [d.rest b hb]; exact e, d.sub⟩
theorem Dr.trans {F H H1 H2 : Hp} {h : Addr} (a : Dr F H H1 h) (b : Dr F H1 H2 h) : Dr F H H2 h := ⟨b.hand, fun x o hx e => b.same x o hx (a.same x o hx e), b.sub⟩
theorem HandAt.ne {F H : Hp} {h b : Addr} (a : HandAt F H h) (hb : H b = none) : b ≠ h := fun e => by
  obtain ⟨c, cells, i, r, s, k, h1, _⟩ := a.ob
  rw [← e, hb] at h1
  cases h1
theorem Dr.refl {F H : Hp} {h : Addr} (a : HandAt F H h) (s : Same F H) : Dr F H H h := ⟨a, fun _ _ _ e => e, s⟩
/-- behind what leaves all that stood -/
theorem Dr.of_same {F H H' : Hp} {h : Addr} (a : HandAt F H h) (sF : Same F H) (s : Same H H') : Dr F H H' h where
  hand := by
    obtain ⟨c, cells, i, r, s', k, h1, h2, h3⟩ := a.ob
    exact ⟨⟨c, cells, i, r, s', k, s _ _ h1, h2, h3⟩, a.nF⟩
  same := fun b o _ e => s b o e
  sub := sF.trans s
/-- a local object is stored to -/
theorem Dr.upd {F H H' : Hp} {h x : Addr} {o : HO} (d : Dr F H H' h) (hx : H x = none) (nx : x ≠ h) (nF : F x = none) : Dr F H (upd H' x o) h where
  hand := by
    obtain ⟨c, cells, i, r, s', k, h1, h2, h3⟩ := d.hand.ob
    exact ⟨⟨c, cells, i, r, s', k, by rw [upd_ne nx.symm]; exact h1, h2, h3⟩, d.hand.nF⟩
  same := fun b u hb e => by
    rw [upd_ne (ne_of_none e hx)]
    exact d.same b u hb e
  sub := same_mut d.sub nF
theorem Dr.live {F H H' : Hp} {h : Addr} (d : Dr F H H' h) {b : Addr} (hb : H b ≠ none) : H' b ≠ none := by
  by_cases e : b = h
  · subst e
    obtain ⟨c, cells, i, r, s', k, h1, _⟩ := d.hand.ob
    rw [h1]
    exact fun z => by cases z
  · cases q : H b with
    | none => exact absurd q hb
    | some o =>
      rw [d.same b o e q]
      exact fun z => by cases z
theorem Dr.free {F H H' : Hp} {h : Addr} (d : Dr F H H' h) {b : Addr} (hb : H' b = none) : H b = none := Classical.byContradiction fun z => d.live z hb
theorem Dr.sqt {K : PySem.W.Frag} {F H H' : Hp} {h a : Addr} {xs : List V} (d : Dr F H H' h) (hA : HandAt F H h) (s : SqT K H a xs) : SqT K H' a xs := by
  obtain ⟨c, cells, i, r, s', k, h1, _⟩ := hA.ob
  rcases s with (s | ⟨o, s⟩) | s
  · exact .inl (.inl (d.same _ _ (ne_of s h1 (by intro z; cases z)) s))
  · exact .inl (.inr ⟨o, d.same _ _ (ne_of s h1 (by intro z; cases z)) s⟩)
  · exact .inr s
/-- an if whose ways meet again: what stands where it is true, where it is not -/
theorem ifs_split {c : TT} {t u : TS} {D : Ends} {σ : L2.St} {H : Hp} (P Pn : Hp → Prop) (hc : ∀ Kt : Bool → Hp → Prop, (∀ H', P H' → Kt true H') → (∀ H', Pn H' → Kt false H') → c σ H Kt)
    (h1 : ∀ H', P H' → t D σ H') (h2 : ∀ H', Pn H' → u D σ H') : tIfS c t u D σ H :=
  hc _ (fun H' p => iteT (h1 H' p)) fun H' p => iteF (h2 H' p)
theorem small_log {m : Int} (h0 : 0 < m) (h : m < 2 ^ 8999) : m.natAbs.log2 < 9000 := by
  have h1 : m.natAbs ≠ 0 := by omega
  have h2 := Nat.log2_self_le h1
  refine Classical.byContradiction fun z => ?_
  have h3 : 2 ^ 9000 ≤ 2 ^ m.natAbs.log2 := Nat.pow_le_pow_right (by decide) (by omega)
  have h4 : (2 : Nat) ^ 9000 ≤ m.natAbs := Nat.le_trans h3 h2
  have h5 : (m.natAbs : Int) < 2 ^ 8999 := by omega
  have h6 : m.natAbs < 2 ^ 8999 := by exact_mod_cast h5
  have h7 : (2 : Nat) ^ 8999 ≤ 2 ^ 9000 := Nat.pow_le_pow_right (by decide) (by decide)
  omega
/-! ### the region behind a def that makes tuples -/
/-- F and all tuples that are new between H and H' -/
def hv (F H H' : Hp) : Hp := fun b => match F b with
  | some o => some o
  | none => match H b with
    | some _ => none
    | none => match H' b with
      | some (.tup xs) => some (.tup xs)
      | _ => none
theorem hv_old {F H H' : Hp} {b : Addr} {o : HO} (e : F b = some o) : hv F H H' b = some o := by
  unfold hv
  rw [e]
theorem hv_new {F H H' : Hp} {b : Addr} {xs : List V} (hF : Same F H) (h0 : H b = none) (h1 : H' b = some (.tup xs)) : hv F H H' b = some (.tup xs) := by
  have e : F b = none := Same.free hF h0
  unfold hv
  rw [e, h0, h1]
theorem hv_inv {F H H' : Hp} {b : Addr} {o : HO} (h : hv F H H' b = some o) : F b = some o ∨ (F b = none ∧ H b = none ∧ H' b = some o) := by
  unfold hv at h
  cases e : F b with
  | some u => rw [e] at h; exact .inl h
  | none =>
    rw [e] at h
    cases e2 : H b with
    | some u => rw [e2] at h; cases h
    | none =>
      rw [e2] at h
      cases e3 : H' b with
      | none => rw [e3] at h; cases h
      | some u =>
        rw [e3] at h
        cases u with
        | tup xs => exact .inr ⟨rfl, rfl, h⟩
        | _ => cases h
theorem hv_none {F H H' : Hp} {b : Addr} (h0 : F b = none) (h1 : H b ≠ none) : hv F H H' b = none := by
  cases e : hv F H H' b with
  | none => rfl
  | some o =>
    rcases hv_inv e with z | ⟨_, z, _⟩
    · rw [h0] at z; cases z
    · exact absurd z h1
theorem hv_sub {F H0 H H' : Hp} (fr : ∀ b, H b = none → H0 b = none) : Same (hv F H H') (hv F H0 H') := fun b o e => by
  unfold hv at e ⊢
  cases e1 : F b with
  | some u => rw [e1] at e; exact e
  | none =>
    rw [e1] at e
    cases e2 : H b with
    | some u => rw [e2] at e; cases e
    | none =>
      rw [e2] at e
      rw [fr b e2]
      exact e
theorem hv_grow {M : Addr → Prop} {F H H' : Hp} (hF : Same F H') (same : ∀ a o, ¬ M a → H a = some o → H' a = some o) (live : ∀ a, H a ≠ none → H' a ≠ none) : Grow M F H (hv F H H') H' where
  same := same
  live := live
  sub := fun b o e => hv_old e
  sub' := fun b o e => by
    rcases hv_inv e with z | ⟨_, _, z⟩
    · exact hF b o z
    · exact z
  fresh := fun b h1 h0 => by
    cases e : hv F H H' b with
    | none => exact absurd e h1
    | some o =>
      rcases hv_inv e with z | ⟨_, z, _⟩
      · rw [h0] at z; cases z
      · exact z
theorem Dr.hvG {F H H' : Hp} {h : Addr} (d : Dr F H H' h) : Grow (fun b => b = h) F H (hv F H H') H' :=
  hv_grow d.sub (fun b o m e => d.same b o m e) fun b e => d.live e
theorem Dr.hvH {F H H' : Hp} {h : Addr} (d : Dr F H H' h) (hA : HandAt F H h) : HandAt (hv F H H') H' h where
  ob := by
    obtain ⟨c, cells, i, r, s', k, h1, h2, h3⟩ := d.hand.ob
    exact ⟨c, cells, i, r, s', k, h1, hv_old h2, h3⟩
  nF := hv_none hA.nF fun z => by
    obtain ⟨c, cells, i, r, s', k, h1, _⟩ := hA.ob
    rw [h1] at z
    cases z
/-! ### numbers out of lists that were shuffled or sorted -/
def unV : V → Nat
  | .int i => i.toNat
  | _ => 0
theorem perm_nats {ys : List V} {l : List Nat} (h : ys.Perm (l.map nV)) : ∃ ns : List Nat, ys = ns.map nV ∧ ns.Perm l := by
  refine ⟨ys.map unV, ?_, ?_⟩
  · rw [List.map_map]
    symm
    rw [show ys = ys.map id by rw [List.map_id]]
    rw [List.map_map]
    refine List.map_congr_left fun v hv => ?_
    obtain ⟨n, _, rfl⟩ := List.mem_map.mp (h.mem_iff.mp hv)
    show V.int ((Int.toNat (n : Int) : Nat) : Int) = V.int (n : Int)
    rfl
  · have h2 := h.map unV
    rw [List.map_map] at h2
    have e : l.map (unV ∘ nV) = l := by
      rw [show l.map (unV ∘ nV) = l.map id from List.map_congr_left fun n _ => rfl, List.map_id]
    rw [e] at h2
    exact h2
theorem sort_nats {ns : List Int} {l : List Nat} (h : ns.Perm (l.map fun (n : Nat) => (n : Int))) (hp : ns.Pairwise (· ≤ ·)) : ∃ gs : List Nat, ns.map V.int = gs.map nV ∧ gs.Perm l ∧ gs.Pairwise (· ≤ ·) := by
  have h1 : (ns.map V.int).Perm (l.map nV) := by
    have := h.map V.int
    rw [List.map_map] at this
    exact this
  obtain ⟨gs, e, hg⟩ := perm_nats h1
  refine ⟨gs, e, hg, ?_⟩
  have e2 : ns = gs.map fun (n : Nat) => (n : Int) := by
    have e3 : ns.map V.int = (gs.map fun (n : Nat) => (n : Int)).map V.int := by rw [e, List.map_map]; rfl
    exact (List.map_inj_right fun x y z => by injection z).mp e3
  rw [e2, List.pairwise_map] at hp
  exact hp.imp fun h => by omega
theorem pw_lt {gs : List Nat} (h : gs.Pairwise (· ≤ ·)) (nd : gs.Nodup) : gs.Pairwise (· < ·) := by
  induction gs with
  | nil => exact List.Pairwise.nil
  | cons g r ih =>
    have h1 := List.pairwise_cons.mp h
    have h2 := List.nodup_cons.mp nd
    refine List.pairwise_cons.mpr ⟨fun x hx => ?_, ih h1.2 h2.2⟩
    have := h1.1 x hx
    have : g ≠ x := fun e => h2.1 (by rw [e]; exact hx)
    omega
/-- two lots with the same numbers are one -/
theorem lot_eq {gs gs' : List Nat} (h : gs.Pairwise (· < ·)) (h' : gs'.Pairwise (· < ·)) (e : ∀ x, x ∈ gs ↔ x ∈ gs') : gs = gs' := by
  induction gs generalizing gs' with
  | nil =>
    cases gs' with
    | nil => rfl
    | cons g r => exact absurd ((e g).mpr List.mem_cons_self) List.not_mem_nil
  | cons g r ih =>
    cases gs' with
    | nil => exact absurd ((e g).mp List.mem_cons_self) List.not_mem_nil
    | cons g' r' =>
      have h1 := List.pairwise_cons.mp h
      have h2 := List.pairwise_cons.mp h'
      have e0 : g = g' := by
        rcases List.mem_cons.mp ((e g).mp List.mem_cons_self) with z | z
        · exact z
        · rcases List.mem_cons.mp ((e g').mpr List.mem_cons_self) with z' | z'
          · exact z'.symm
          · have := h2.1 g z
            have := h1.1 g' z'
            omega
      subst e0
      congr 1
      refine ih h1.2 h2.2 fun x => ?_
      constructor
      · intro hx
        rcases List.mem_cons.mp ((e x).mp (List.mem_cons_of_mem _ hx)) with z | z
        · subst z
          exact absurd (h1.1 x hx) (Nat.lt_irrefl _)
        · exact z
      · intro hx
        rcases List.mem_cons.mp ((e x).mpr (List.mem_cons_of_mem _ hx)) with z | z
        · subst z
          exact absurd (h2.1 x hx) (Nat.lt_irrefl _)
        · exact z
end U

/-! data that is compared -/
namespace U
open PySem PySem.Spec PyProof.Rows L2
variable {K : PySem.W.Frag} {H : Hp}
def dN (n : Nat) : PyData := .int (n : Int)
theorem dp_nats : ∀ {ns : List Nat}, DpAll K H (ns.map nV) (ns.map dN)
  | [] => .nil
  | n :: r => .cons (.int (n : Int)) (dp_nats (ns := r))
theorem lay_nats : ∀ {ns : List Nat}, PyData.canLayAll0 (ns.map dN) = true
  | [] => rfl
  | n :: r => by
    rw [List.map_cons, PyData.canLayAll0, lay_nats (ns := r)]
    rfl
theorem dep_nats : ∀ {ns : List Nat}, PyData.depthAll (ns.map dN) = 0
  | [] => rfl
  | n :: r => by
    rw [List.map_cons, PyData.depthAll, dep_nats (ns := r)]
    rfl
theorem shp_lst {ns : List Nat} : SeqAt.shaped (.list (ns.map dN)) = true := by
  unfold SeqAt.shaped
  rw [PyData.canLay0, PyData.depth, lay_nats, dep_nats]
  rfl
theorem shp_tup {ns : List Nat} : SeqAt.shaped (.tuple (ns.map dN)) = true := by
  unfold SeqAt.shaped
  rw [PyData.canLay0, PyData.depth, lay_nats, dep_nats]
  rfl
theorem eqv_same {d : PyData} (h : SeqAt.shaped d = true) : PyData.eqv d d = true := SeqAt.eqv_refl d (SeqAt.canLay_of_shaped h)
def dE (e : Nat × Nat) : PyData := .tuple [dN e.1, dN e.2]
theorem lay_prs : ∀ {es : List (Nat × Nat)}, PyData.canLayAll0 (es.map dE) = true
  | [] => rfl
  | n :: r => by
    rw [List.map_cons, PyData.canLayAll0, lay_prs (es := r)]
    rfl
theorem dep_prs : ∀ {es : List (Nat × Nat)}, PyData.depthAll (es.map dE) ≤ 1
  | [] => Nat.zero_le _
  | n :: r => by
    rw [List.map_cons, PyData.depthAll]
    exact Nat.max_le.mpr ⟨Nat.le_refl 1, dep_prs (es := r)⟩
theorem shp_prs {es : List (Nat × Nat)} : SeqAt.shaped (.tuple (es.map dE)) = true := by
  unfold SeqAt.shaped
  rw [PyData.canLay0, PyData.depth, lay_prs, Bool.true_and, decide_eq_true_eq]
  have := dep_prs (es := es)
  omega
theorem kn_of_bl {b : Bool} : Kn K H (.bl b) "bool" := ⟨.base (.bl b), by simp⟩
theorem cutV_nat (ns : List Nat) (lo hi : Option Int) : ∃ ms : List Nat, cutV (ns.map nV) lo hi = ms.map nV ∧ ∀ m ∈ ms, m ∈ ns := by
  unfold cutV
  rw [← List.map_drop, ← List.map_take]
  exact ⟨_, rfl, fun m hm => List.mem_of_mem_drop (List.mem_of_mem_take hm)⟩
end U

/-! a tuple backward: t[::-1] -/
namespace U
open PySem PySem.Spec PyProof.Rows L2 HT
section
variable {prog : Program} {w : World} {A : Around} {E : Value → Shared → Prop} {s : Shared}
theorem back_adjust (n : Nat) : Builtin.Slice.sliceAdjust none none (-1) (n : Int) = ((n : Int) - 1, -1) := rfl
theorem back_places (n : Nat) : Builtin.Slice.slicePlaces ((n : Int) - 1) (-1) (-1) = n := by
  unfold Builtin.Slice.slicePlaces
  have h1 : ¬ ((-1 : Int) > 0) := by omega
  have h2 : -(-1 : Int) = 1 := by omega
  simp only [h1, if_false, h2, Int.ediv_one]
  split <;> omega
theorem back_applied {sl : Addr} {vl vu vs : Value} {n : Nat} {Q : Int × Int × Nat → Shared → Prop} (hs : s.heap.IsSliceOf sl vl vu vs) (pl : IsPart vl none) (pu : IsPart vu none) (ps : IsPart vs (some (-1)))
    (h : Q ((n : Int) - 1, -1, n) s) : wpAny (model prog w) A (Builtin.Slice.sliceApplied (.ref sl) (pure (n : Int))) Q E s := by
  obtain ⟨os, hos, hcs, hds⟩ := id hs
  unfold Builtin.Slice.sliceApplied Builtin.Slice.sliceFields
  refine wpAny_bind (wpAny_bind (wpAny_field hos hds (x := vl) rfl (wpAny_bind (wpAny_field hos hds (x := vu) rfl (wpAny_bind (wpAny_field hos hds (x := vs) rfl (wpAny_pure ?_)))))))
  refine wpAny_bind (slicePart_ ps ?_)
  show wpAny _ _ (if ((-1 : Int) == 0) = true then _ else _) _ _ s
  rw [if_neg (by decide)]
  refine wpAny_bind (slicePart_ pl (wpAny_bind (slicePart_ pu (wpAny_bind (wpAny_pure ?_)))))
  show wpAny _ _ (match Builtin.Slice.sliceAdjust none none (-1) (n : Int) with | (lo, hi) => pure (lo, (-1 : Int), Builtin.Slice.slicePlaces lo hi (-1))) _ _ s
  rw [back_adjust n]
  show wpAny _ _ (pure ((n : Int) - 1, (-1 : Int), Builtin.Slice.slicePlaces ((n : Int) - 1) (-1) (-1))) _ _ s
  rw [back_places]
  exact wpAny_pure h
theorem fm_congr {α β : Type} {f g : α → Option β} : ∀ {l : List α}, (∀ k ∈ l, f k = g k) → l.filterMap f = l.filterMap g
  | [], _ => rfl
  | k :: l, h => by rw [List.filterMap_cons, List.filterMap_cons, h k List.mem_cons_self, fm_congr fun j hj => h j (List.mem_cons_of_mem _ hj)]
theorem back_pick (xs : Array Value) : ((List.range xs.size).filterMap fun (k : Nat) => xs[(((xs.size : Nat) : Int) - 1 + (k : Int) * (-1)).toNat]?).toArray = xs.toList.reverse.toArray := by
  have e : (List.range xs.size).filterMap (fun (k : Nat) => xs[(((xs.size : Nat) : Int) - 1 + (k : Int) * (-1)).toNat]?) = ((List.range xs.size).map fun k => xs.size - 1 - k).filterMap (xs[·]?) := by
    rw [List.filterMap_map]
    refine fm_congr fun k hk => ?_
    have : k < xs.size := List.mem_range.mp hk
    show xs[(((xs.size : Nat) : Int) - 1 + (k : Int) * (-1)).toNat]? = xs[xs.size - 1 - k]?
    congr 1
    omega
  rw [e, PySem.W.krv_range, List.filterMap_reverse, PySem.W.krv_all]
theorem back_item {t sl : Addr} {items : Array Value} {vl vu vs : Value} {Q : Value → Shared → Prop} (ht : IsTup s.heap t items) (hs : s.heap.IsSliceOf sl vl vu vs) (pl : IsPart vl none) (pu : IsPart vu none) (ps : IsPart vs (some (-1)))
    (h : Q (.ref s.heap.objs.size) { s with heap := s.heap.push { cls := .type "tuple", data := .seq items.toList.reverse.toArray } })
    (hsz : items.size ≤ sizeLine) : wpAny (model prog w) A (getItem (.ref t) (.ref sl)) Q E s := by
  have htake : sizeOk (.seq items.toList.reverse.toArray) := by
    show items.toList.reverse.toArray.size ≤ sizeLine
    rw [List.size_toArray, List.length_reverse, Array.length_toList]
    exact hsz
  obtain ⟨os, hos, hcs, hds⟩ := id hs
  have hTs : s.TypeIs (.ref sl) "slice" := ⟨os, hos, hcs⟩
  unfold getItem
  try with_reducible refine wpAny_holding ?_
  first | refine wpAny_bind (wpAny_pure ?_) | skip
  refine wpAny_bind (wpAny_sequenceKey ht.typeIs (by decide) ?_)
  refine wpAny_bind (wpAny_callSpecial?_slot (name := Str.ofString "__getitem__") ht.typeIs PyProof.Rows.slot_tuple_getitem
    (wpAny_call_entry PyProof.Rows.slot_tuple_getitem ht.typeIs entry_tuple_getitem ?_ (args_tuple_getitem _ _)))
  show wpAny _ _ (Builtin.Tuple.tupleItemsOf (.ref t) >>= _) _ _ s
  refine wpAny_bind (tupleItemsOf_ ht ?_)
  refine wpAny_bind (wpAny_typeOf hTs ?_)
  rw [if_pos (by decide)]
  refine wpAny_bind (back_applied hs pl pu ps ?_)
  show wpAny _ _ (if (((items.size : Nat) : Int) - 1 == 0 && (-1 : Int) == 1 && items.size == items.size) = true then _ else _) _ _ s
  rw [if_neg (by rw [show ((-1 : Int) == 1) = false from rfl, Bool.and_false, Bool.false_and]; exact Bool.false_ne_true), back_pick]
  first
    | exact wpAny_bind (m := Builtin.Tuple.tupleExact _) (wpAny_newObj_type (wpAny_pure ⟨_, rfl, wpAny_pure h⟩) htake)
    | exact wpAny_bind (m := Builtin.Tuple.tupleExact _) (wpAny_newObj_type (wpAny_bind (wpAny_pure (wpAny_pure ⟨_, rfl, wpAny_pure h⟩))) htake)
    | exact wpAny_bind (wpAny_bind (m := Builtin.Tuple.tupleExact _) (wpAny_newObj_type (wpAny_pure (wpAny_pure ⟨_, rfl, wpAny_pure h⟩)) htake))
    | exact wpAny_bind (wpAny_bind (m := Builtin.Tuple.tupleExact _) (wpAny_newObj_type (wpAny_pure ⟨_, rfl, wpAny_pure h⟩) htake))
end
def tRevT (K : PySem.W.Frag) (te : TE) : TE := fun σ H Q => te σ H fun x H1 => ∃ a xs, x = .ref a ∧ SqT K H1 a xs ∧ ∀ p, H1 p = none → Q (.ref p) (upd H1 p (.tup xs.reverse))
theorem pe_revT {X : Cx} {e : Expr} {te : TE} {k : Nat} {p1 p2 p3 pos : Pos} (he : PE X e te) : PE X (.Subscript e (.Slice none none (some (.UnaryOp .USub (.Constant (.int 1) k p1) p2)) p3) pos) (tRevT X.K te) := by
  refine ⟨fun pins s σ H Q I h => ?_⟩
  refine Subscript_ (thn (he.run pins s σ H _ I h) fun v s1 ⟨x, H1, I1, r1, q1⟩ => ?_)
  obtain ⟨a, xs, ex, hx, q⟩ := q1
  subst ex
  cases r1
  have hst : PO X (some (.UnaryOp .USub (.Constant (.int 1) k p1) p2)) (tPart (tUn (rU fun i => .int (-i)) (tC (.int 1)))) := po_some (pe_un un_neg pe_int)
  refine wpAny_Slice (thn (po_none.run pins s1 σ H1 (fun o H2 => o = none ∧ H2 = H1) I1 ⟨rfl, rfl⟩) fun vl s2 ⟨l, H2, I2, pl, el, e2⟩ => ?_)
  subst el e2
  refine thn (po_none.run pins s2 σ H2 (fun o H3 => o = none ∧ H3 = H2) I2 ⟨rfl, rfl⟩) fun vu s3 ⟨u, H3, I3, pu, eu, e3⟩ => ?_
  subst eu e3
  refine thn (hst.run pins s3 σ H3 (fun o H4 => o = some (-1) ∧ H4 = H3) I3 ⟨1, rfl, -1, rfl, rfl, rfl⟩) fun vs s4 ⟨o, H4, I4, ps, eo, e4⟩ => ?_
  subst eo e4
  have I5 : Inv X pins σ H4 { s4 with heap := s4.heap.push { cls := .type "slice", data := .fields #[vl, vu, vs] } } := I4.kept (t' := s4.toks) fun b ob q => Heap.get?_push_of_some _ q
  obtain ⟨its, r, ht, hz⟩ := I5.tuple hx
  have hlen := r.length
  show wpAny (model X.prog X.w) X.A (subscriptTail e (.Slice none none (some (.UnaryOp .USub (.Constant (.int 1) k p1) p2)) p3) (.ref a) (.ref s4.heap.objs.size)) (EP X pins σ Q) X.xe { s4 with heap := s4.heap.push { cls := .type "slice", data := .fields #[vl, vu, vs] } }
  refine tail_any (ops := [.ref a, .ref s4.heap.objs.size]) ht.typeIs (PyProof.Rows.slot_tuple_getitem.lookup) ?_ (by with_unfolding_all rfl)
  refine back_item ht (Heap.IsSliceOf.new _ vl vu vs) pl pu ps ?_ (by rw [List.size_toArray]; omega)
  refine ⟨.ref _, _, I5.laid (t' := s4.toks) (o := .tup xs.reverse) (fun b ob q => Heap.get?_push_of_some _ q) (Nat.le_refl _) ?_, rfl, q _ (I5.hok.fresh (Nat.le_refl _))⟩
  exact ⟨by rw [List.length_reverse]; exact hz, _, r.reverse, ⟨_, Heap.get?_push_size _ rfl, rfl, _, rfl⟩⟩
end U

/-! own errors made without arguments; defs that raise -/
namespace U
open PySem PySem.Spec PyProof.Rows L2
theorem pmk_own0 {X : Cx} {pos : Pos} {C : Addr} {bmB : List Value} {B newId initId : String} {x : Str} {p : Pos} (F : ExcBaseFacts B newId initId bmB) (q : PySem.W.excIn X.K C bmB newId = true) (gC : X.mg x = some (.ref C))
    (kC : PySem.W.keepIn X.K (.ref C) = true) (r : Raises X (.ref C)) (hg : Gl X x) (hdb : (x == ("__debug__" : Str)) = false := by decide) :
    PMk X (.Call (.Name x p) [] [] pos) (fun _ H Q => Q (.ref C) none H) := by
  intro pins s σ H Q I h
  refine wpAny_Call_Name_kw (ld_glob I hg gC ?_ hdb)
  refine PySem.W.callWith_K0 I.kIn kC ?_
  show wpAny _ _ (call (.ref C) []) _ _ _
  obtain ⟨bm, N, nm, qn, bs, hdct, sn, sub, ab, col, dd, k0, k1, k2, k3, k5, mN, hC, hN, hni, T⟩ := exc_obj I.kIn q
  refine wpAny_call_exc_subT F T hC hN hni (fun h' e hm => ?_) (Nat.zero_le _)
  exact mk_of I hm r h (I.hok.gone hm.new)

/-- what the written part says of an own error class without __init__, at C -/
structure Ex (K : PySem.W.Frag) (mg : Str → Option Value) (x : Str) (C : Addr) : Prop where
  g : mg x = some (.ref C)
  e : PySem.W.excIn K C [.type "ValueError", .type "Exception", .type "BaseException", .type "object"] "ValueError.__new__" = true
  k : PySem.W.keepIn K (.ref C) = true
  b : PySem.W.subIn K (.ref C) (.type "BaseException") = some true
  t : PySem.W.typeIn K (.ref C) = some (.type "type")
/-- raise C() -/
theorem ps_raise0 {X : Cx} {x : Str} {C : Addr} {W : WX} {p pos pos2 : Pos} (T : Ex X.K X.mg x C) (hc : X.calm = true) (tk : Takes X W) (hg : Gl X x) (hdb : (x == ("__debug__" : Str)) = false := by decide) :
    PS X (.Raise (some (.Call (.Name x p) [] [] pos)) none pos2) (fun _ σ H => W (.ref C) none σ H) :=
  ps_raise hc tk (pmk_own0 PySem.F.excBase_ValueError T.e T.g T.k (raises_own T.b T.t) hg hdb)

/-- as Has, for a def that may raise -/
structure HasX (P : Program) (w : World) (K : PySem.W.Frag) (mg : Str → Option Value) (base : Heap) (x : Str) (k : Nat) (ps : List Str) (sp : Sp) : Prop where
  ex : ∃ f fd, mg x = some (.ref f) ∧ PySem.W.keepIn K (.ref f) = true ∧ Binds K fd ps [] ∧ FnOk P w K mg base (L2.CX P w) k f fd ps sp ∧ Lk K f fd
theorem Df.hasX {P : Program} {w : World} {K : PySem.W.Frag} {mg : Str → Option Value} {base : Heap} {x : Str} {st : Stmt} {ps : List Str} {k : Nat} {sp : Sp} (d : Df K mg x st ps)
    (h : ∀ f fd, Fun K x x st f fd → FnOk P w K mg base (L2.CX P w) k f fd ps sp) : HasX P w K mg base x k ps sp := by
  obtain ⟨f, fd, hm, F, b⟩ := d.ex
  exact ⟨f, fd, hm, F.kp, b, h f fd F, Fun.lk F⟩
def spOr (s1 s2 : Sp) : Sp := fun vs H Q E => s1 vs H Q E ∨ s2 vs H Q E
section
variable {P : Program} {w : World} {K : PySem.W.Frag} {mg : Str → Option Value} {base : Heap} {x : Str} {k j : Nat} {ps : List Str} {s1 s2 : Sp}
theorem Has.toX (h1 : Has P w K mg base x k ps s1) : HasX P w K mg base x k ps s1 := by
  obtain ⟨f, fd, m1, kp, b, F1, oc, od, sl, l1⟩ := h1.ex
  refine ⟨f, fd, m1, kp, b, ⟨F1.len, fun A outer s H args us vs Q E hr he hb hv hs => ?_⟩, _, _, _, l1⟩
  refine codeAny_mono (F1.run A outer s H args us vs Q E hr he hb hv hs) fun r s' hq => ?_
  cases r with
  | error e => exact hq.elim
  | ok fl => cases fl with
    | ret u => exact hq
    | next => exact False.elim hq
    | brk => exact False.elim hq
    | cont => exact False.elim hq
/-- what never raises and what may, of one def -/
theorem Has.or (h1 : Has P w K mg base x k ps s1) (h2 : HasX P w K mg base x k ps s2) : HasX P w K mg base x k ps (spOr s1 s2) := by
  obtain ⟨f, fd, m1, kp, b, F1, oc, od, sl, l1⟩ := h1.ex
  obtain ⟨f2, fd2, m2, _, _, F2, oc2, od2, sl2, l2⟩ := h2.ex
  have e := m1.symm.trans m2
  cases e
  have e := l1.symm.trans l2
  cases e
  refine ⟨f, fd, m1, kp, b, ⟨fun vs H Q E h => h.elim (F1.len _ _ _ _) (F2.len _ _ _ _), fun A outer s H args us vs Q E hr he hb hv hs => ?_⟩, _, _, _, l1⟩
  rcases hs with hs | hs
  · refine codeAny_mono (F1.run A outer s H args us vs Q E hr he hb hv hs) fun r s' hq => ?_
    cases r with
    | error e => exact hq.elim
    | ok fl => cases fl with
      | ret u => exact hq
      | next => exact False.elim hq
      | brk => exact False.elim hq
      | cont => exact False.elim hq
  · exact F2.run A outer s H args us vs Q E hr he hb hv hs
end
section
variable {X : Cx} {k j : Nat} {ps : List Str} {sp : Sp} {x : Str} {p pos : Pos} {e : Expr} {es : List Expr} {t : TA}
/-- a call that may raise -/
theorem pcallS {W : WX} (h : HasX X.prog X.w X.K X.mg X.base x k ps sp) (hr : Room j X.A) (hk : k ≤ j) (hg : Gl X x) (tk : Takes X W) (ha : PA X (e :: es) t) (hdb : (x == ("__debug__" : Str)) = false := by decide)
    (he : starEach (e :: es) X.env = (false, eval e X.env) :: starEach es X.env := by rfl) (hpl : (backTo pos (starEach es X.env)).any (·.1) = false := by rfl) :
    PE X (.Call (.Name x p) (e :: es) [] pos) (tCallS sp (WE W) t) := by
  obtain ⟨f, fd, hm, kp, b, F, _⟩ := h.ex
  exact pe_callS F (hr.mono hk) hg hm kp b (fun σ => passAt tk σ) ha hdb he hpl
end
/-- whether an own error is met by a clause -/
theorem exm_pair {K : PySem.W.Frag} {S D : Addr} {b : Bool} (hb : PySem.W.subIn K (.ref D) (.type "BaseException") = some true) (hi : PySem.W.isClsIn K D = true) (ht : PySem.W.typeIn K (.ref D) = some (.type "type"))
    (hs : PySem.W.subIn K (.ref S) (.ref D) = some b) : PySem.W.exmOne K (.ref S) (.ref D) = some b := by
  have hi' : (PySem.W.clsIn K D).isSome = true := hi
  unfold PySem.W.exmOne
  rw [if_pos (by rw [hb]; rfl)]
  show (if _ = true then PySem.W.subIn K (.ref S) (.ref D) else none) = some b
  rw [if_pos (by rw [hi', ht]; rfl)]
  exact hs
/-- a test of the kinds of the values that are not a tuple -/
theorem wl_nil {K : PySem.W.Frag} {Wout : WX} {D : Ends} {cls : Value} {d : Option Addr} {σ : L2.St} {H : Hp} (h : Wout cls d σ H) : wMany K Wout D [] cls d σ H := h
end U

/-! sorted(d.values()), a dict with int values -/
namespace U
open PySem PySem.Spec PyProof.Rows L2
def tSortVals (td : TE) : TE := fun σ H Q => td σ H fun x H1 => ∃ (a : Addr) (kvs : List (Key × V)) (is : List Int), x = V.ref a ∧ H1 a = some (.dK kvs) ∧ kvs.map (·.2) = is.map V.int ∧
  ∀ (ys : List Int) (p : Addr), ys.Perm is → ys.Pairwise (· ≤ ·) → H1 p = none → Q (.ref p) (upd H1 p (.lst (ys.map V.int)))
theorem int_ones : ∀ {us : List Value} {ks : List Int}, us.length = ks.length → (∀ (j : Nat) (v : Value), us[j]? = some v → ∃ (x : Int) (t : Tok), ks[j]? = some x ∧ v = Value.int x t) → IntsAre us ks := fun h h2 => L2.ints_each h h2
variable {X : Cx} {o : Expr} {p pos apos mpos : Pos} {td : TE}
theorem pe_sortedVals (hc : X.calm = true) (hg : Gl X "sorted") (hm : X.mg "sorted" = none) (hd : PE X o td) (hbase : attributeBase o "values" X.env (eval o X.env) = eval o X.env := by rfl) (hline : (apos.endLine == mpos.line) = true := by rfl)
    (hse : starEach [Expr.Call (.Attribute o "values" apos) [] [] mpos] X.env = [(false, eval (Expr.Call (.Attribute o "values" apos) [] [] mpos) X.env)] := by rfl) :
    PE X (.Call (.Name "sorted" p) [.Call (.Attribute o "values" apos) [] [] mpos] [] pos) (tSortVals td) := by
  refine ⟨fun pins s σ H Q I h => ?_⟩
  refine wpAny_Call_Name_kw (ld_blt I hg hm (u := .builtin "sorted") (by decide +kernel) ?_ (by decide +kernel) (by decide +kernel))
  rw [hse]
  refine PySem.callWith_builtin1 (wpAny_Call_method0_late hbase hline (thn (hd.run pins s σ H _ I h) fun v s1 ⟨x, H1, I1, r1, a, kvs, is, ex, ha, hv, q⟩ => ?_))
  subst ex
  cases r1
  obtain ⟨hz, hsys, vs, rel, dof⟩ := dk_of I1.hok ha
  obtain ⟨ep, dat⟩ := dof.dictAt
  obtain ⟨ob, es, ho, exx, hdat, hko, hpr, hnd⟩ := id dat
  refine ⟨"dict", "dict.values", F.plainAttrs_dict, F.slot_dict_values, F.type_dict_values, ⟨ob, ho, exx.1⟩, fun b e => ?_, Calls.callWith_builtin rfl (PySem.evalArgs_none ?_)⟩
  · cases e
    exact ⟨ob, ho, exx.2.1⟩
  refine call_meetsIn F.slot_dict_values ⟨ob, ho, exx.1⟩ F.entry_dict_values (F.args_dict_values_1 _) (meets_dict_values (mixKind X.prog X.w) a hsys) ⟨⟨vs, dof⟩, ?_⟩
  have hl : vs.length = is.length := by
    have e1 := congrArg List.length hv
    rw [List.length_map, List.length_map] at e1
    rw [← e1]
    exact (KV.length rel).symm
  have h16 : vs.length ≤ sizeLine := by
    rw [← KV.length rel]
    exact hz
  have k1 : ∀ b u, s1.heap.get? b = some u → (s1.heap.push { cls := .type "dict_values", data := .fields #[.ref a] }).get? b = some u := fun b u e => Heap.get?_push_of_some _ e
  have dat1 : (s1.heap.push { cls := .type "dict_values", data := .fields #[.ref a] }).DictAt (mixKind X.prog X.w) a vs ep := dat.keep k1
  refine Calls.call_function_entry PyProof.Rows.kind_sorted PyProof.Rows.plain_sorted PyProof.Rows.entry_sorted (PyProof.Rows.args_sorted1 _) ?_
  unfold Builtin.«sorted»
  refine wpAny_bind (m := checkCount "sorted" 1 1 _) (wpAny_pure ?_)
  refine wpAny_bind (PySem.W.kdu_collect (A := X.A.in1) (PySem.W.kdl_values (r := s1.heap.objs.size) (d := a) (knd := mixKind X.prog X.w) (kvs := vs) (ep := ep)) (I.ok.hd hc) ⟨⟨_, Heap.get?_push_size _ rfl, rfl, rfl⟩, dat1⟩ h16 fun h' tk acc hk hacc => ?_)
  have hal : acc.toList.length = is.length := by rw [Array.length_toList, hacc.1, hl]
  have hS : IntsAre acc.toList is := int_ones hal fun j v e => by
    obtain ⟨k, hk2⟩ := hacc.2 j v (by rw [← Array.getElem?_toList]; exact e)
    obtain ⟨x, h1, h2⟩ := KV.at' rel hk2
    have e1 : (kvs.map (·.2))[j]? = some x := by
      rw [List.getElem?_map, h1]
      rfl
    rw [hv, List.getElem?_map] at e1
    obtain ⟨i, hj, e2⟩ := Option.map_eq_some_iff.mp e1
    subst e2
    obtain ⟨t, e3⟩ := h2
    exact ⟨i, t, hj, e3⟩
  have I2 : Inv X pins σ H1 { s1 with heap := h', toks := tk } := I1.kept fun b u e => hk b u (k1 b u e)
  refine wpAny_bind (wpAny_newList ?_ (by rw [hal, ← hl]; exact h16))
  have hoL : (h'.push (seqObj "list" acc.toList.toArray 0)).get? h'.objs.size = some (seqObj "list" acc.toList.toArray 0) := Heap.get?_push_size _ rfl
  refine wpAny_bind (wpAny_holding (wpAny_call_entry PyProof.Rows.slot_list_sort ⟨_, hoL, rfl⟩ PyProof.Rows.entry_list_sort
    (SrtO.list_sort_ord (s := { s1 with heap := h'.push (seqObj "list" acc.toList.toArray 0), toks := tk }) SrtO.swo_int hoL (by rw [hal, ← hl]; exact h16) (fun h2 => SrtO.ints_sortable hS h2) fun out g1 g2 => ⟨_, rfl, ?_⟩) (PyProof.Rows.args_list_sort _)))
  obtain ⟨f1, f2, f3⟩ := SrtO.ints_out hS g1 g2
  obtain ⟨e', he'⟩ := PyProof.Rows.sortedHeap_at (vs := acc.toList) (out := out.toArray) hoL
  have hlen : ((out.map SrtO.iv).map V.int).length ≤ sizeLine := by
    rw [List.length_map, f2.length_eq, ← hl]
    exact h16
  refine wpAny_pure ⟨_, rfl, .ref h'.objs.size, upd H1 h'.objs.size (.lst ((out.map SrtO.iv).map V.int)), I2.laid (t' := tk) (fun b u e => ?_) (Nat.le_refl _)
    (show ObjOk X.prog X.w _ _ _ (.lst ((out.map SrtO.iv).map V.int)) from ⟨hlen, out, e', vals_of_ints f1, he'⟩), rfl, q _ _ f2 f3 (I2.hok.fresh (Nat.le_refl _))⟩
  have hb : b < h'.objs.size := Heap.lt_size e
  rw [PyProof.Rows.sortedHeap_old (Nat.ne_of_lt hb) (by rw [size_push']; exact Nat.lt_succ_of_lt hb)]
  exact Heap.get?_push_of_some _ e
/-! ### dicts of numbers -/
def kvN (hs : List (Nat × Nat)) : List (Key × V) := hs.map fun x => (Sum.inl (x.1 : Int), nV x.2)
theorem valV_ex {kvs : List (Key × V)} {k : Key} {v : V} (h : valV kvs k = some v) : ∃ kv ∈ kvs, kv.1 = k ∧ kv.2 = v := by
  unfold valV at h
  obtain ⟨kv, h1, h2⟩ := Option.map_eq_some_iff.mp h
  exact ⟨kv, List.mem_of_find?_eq_some h1, (by
    have h3 := List.find?_some h1
    exact of_decide_eq_true h3), h2⟩
theorem valV_no {kvs : List (Key × V)} {k : Key} (h : valV kvs k = none) : ∀ kv ∈ kvs, kv.1 ≠ k := by
  unfold valV at h
  rw [Option.map_eq_none_iff] at h
  intro kv hkv e
  have := List.find?_eq_none.mp h kv hkv
  exact this (decide_eq_true e)
theorem putK_no {kvs : List (Key × V)} {k : Key} {v : V} (h : valV kvs k = none) : putK kvs k v = kvs ++ [(k, v)] := by
  unfold putK
  refine if_neg fun z => ?_
  obtain ⟨kv, h1, h2⟩ := List.any_eq_true.mp z
  exact valV_no h kv h1 (of_decide_eq_true h2)
theorem kvN_has {hs : List (Nat × Nat)} {h : Nat} {v : V} (e : valV (kvN hs) (Sum.inl (h : Int)) = some v) : ∃ a, (h, a) ∈ hs := by
  obtain ⟨kv, h1, h2, _⟩ := valV_ex e
  obtain ⟨x, hx, rfl⟩ := List.mem_map.mp h1
  injection h2 with h2
  have : x.1 = h := by omega
  exact ⟨x.2, by rw [← this]; exact hx⟩
theorem kvN_no {hs : List (Nat × Nat)} {h : Nat} (e : valV (kvN hs) (Sum.inl (h : Int)) = none) (a : Nat) : (h, a) ∉ hs := fun m =>
  valV_no e _ (List.mem_map.mpr ⟨(h, a), m, rfl⟩) rfl
/-- a dict of the first numbers that are in the relation with each key -/
structure FirstN (R : Nat → Nat → Prop) (i : Nat) (hs : List (Nat × Nat)) : Prop where
  len : hs.length ≤ i
  ok : ∀ x ∈ hs, R x.2 x.1
  all : ∀ k v, k < i → R k v → ∃ a, (v, a) ∈ hs
theorem FirstN.start {R : Nat → Nat → Prop} : FirstN R 0 [] := ⟨Nat.le_refl _, fun _ h => absurd h List.not_mem_nil, fun _ _ h => absurd h (Nat.not_lt_zero _)⟩
theorem FirstN.skip {R : Nat → Nat → Prop} {i : Nat} {hs : List (Nat × Nat)} (h : FirstN R i hs) (n : ∀ v, R i v → ∃ a, (v, a) ∈ hs) : FirstN R (i + 1) hs :=
  ⟨Nat.le_succ_of_le h.len, h.ok, fun k v hk f => by
    rcases Nat.lt_succ_iff_lt_or_eq.mp hk with z | z
    · exact h.all k v z f
    · subst z
      exact n v f⟩
theorem FirstN.snoc {R : Nat → Nat → Prop} {i v : Nat} {hs : List (Nat × Nat)} (h : FirstN R i hs) (f : R i v) (one : ∀ u, R i u → u = v) : FirstN R (i + 1) (hs ++ [(v, i)]) where
  len := by
    rw [List.length_append, List.length_singleton]
    have := h.len
    omega
  ok := fun x hx => by
    rcases List.mem_append.mp hx with hx | hx
    · exact h.ok x hx
    · rw [List.mem_singleton.mp hx]
      exact f
  all := fun k u hk g => by
    rcases Nat.lt_succ_iff_lt_or_eq.mp hk with z | z
    · obtain ⟨a, ha⟩ := h.all k u z g
      exact ⟨a, List.mem_append_left _ ha⟩
    · subst z
      rw [one u g]
      exact ⟨k, List.mem_append_right _ List.mem_cons_self⟩
theorem kvN_get {hs : List (Nat × Nat)} {v a : Nat} (h : (v, a) ∈ hs) : ∃ b, (v, b) ∈ hs ∧ valV (kvN hs) (Sum.inl (v : Int)) = some (nV b) := by
  cases e : valV (kvN hs) (Sum.inl (v : Int)) with
  | none => exact absurd h (kvN_no e a)
  | some w =>
    obtain ⟨kv, h1, h2, h3⟩ := valV_ex e
    obtain ⟨x, hx, rfl⟩ := List.mem_map.mp h1
    injection h2 with h2
    have e1 : x.1 = v := by omega
    refine ⟨x.2, by rw [← e1]; exact hx, ?_⟩
    rw [← h3]
def tSortKeys (td : TE) : TE := fun σ H Q => td σ H fun x H1 => ∃ (a : Addr) (kvs : List (Key × V)) (is : List Int), x = V.ref a ∧ H1 a = some (.dK kvs) ∧ kvs.map (·.1) = is.map Sum.inl ∧
  ∀ (ys : List Int) (p : Addr), ys.Perm is → ys.Pairwise (· ≤ ·) → H1 p = none → Q (.ref p) (upd H1 p (.lst (ys.map V.int)))
theorem pe_sortedKeys (hc : X.calm = true) (hg : Gl X "sorted") (hm : X.mg "sorted" = none) (hd : PE X o td) (hbase : attributeBase o "keys" X.env (eval o X.env) = eval o X.env := by rfl) (hline : (apos.endLine == mpos.line) = true := by rfl)
    (hse : starEach [Expr.Call (.Attribute o "keys" apos) [] [] mpos] X.env = [(false, eval (Expr.Call (.Attribute o "keys" apos) [] [] mpos) X.env)] := by rfl) :
    PE X (.Call (.Name "sorted" p) [.Call (.Attribute o "keys" apos) [] [] mpos] [] pos) (tSortKeys td) := by
  refine ⟨fun pins s σ H Q I h => ?_⟩
  refine wpAny_Call_Name_kw (ld_blt I hg hm (u := .builtin "sorted") (by decide +kernel) ?_ (by decide +kernel) (by decide +kernel))
  rw [hse]
  refine PySem.callWith_builtin1 (wpAny_Call_method0_late hbase hline (thn (hd.run pins s σ H _ I h) fun v s1 ⟨x, H1, I1, r1, a, kvs, is, ex, ha, hv, q⟩ => ?_))
  subst ex
  cases r1
  obtain ⟨hz, hsys, vs, rel, dof⟩ := dk_of I1.hok ha
  obtain ⟨ep, dat⟩ := dof.dictAt
  obtain ⟨ob, es, ho, exx, hdat, hko, hpr, hnd⟩ := id dat
  refine ⟨"dict", "dict.keys", F.plainAttrs_dict, F.slot_dict_keys, F.type_dict_keys, ⟨ob, ho, exx.1⟩, fun b e => ?_, Calls.callWith_builtin rfl (PySem.evalArgs_none ?_)⟩
  · cases e
    exact ⟨ob, ho, exx.2.1⟩
  refine call_meetsIn F.slot_dict_keys ⟨ob, ho, exx.1⟩ F.entry_dict_keys (F.args_dict_keys_1 _) (PySem.W.kdl_meets_keys (mixKind X.prog X.w) a hsys) ⟨⟨vs, dof⟩, ?_⟩
  have hkeys : vs.map (·.1) = is.map Sum.inl := rel.keys.symm.trans hv
  have hl : vs.length = is.length := by
    have e := congrArg List.length hkeys
    rw [List.length_map, List.length_map] at e
    exact e
  have h16 : vs.length ≤ sizeLine := by
    rw [← KV.length rel]
    exact hz
  have k1 : ∀ b u, s1.heap.get? b = some u → (s1.heap.push { cls := .type "dict_keys", data := .fields #[.ref a] }).get? b = some u := fun b u e => Heap.get?_push_of_some _ e
  have dat1 : (s1.heap.push { cls := .type "dict_keys", data := .fields #[.ref a] }).DictAt (mixKind X.prog X.w) a vs ep := dat.keep k1
  refine Calls.call_function_entry PyProof.Rows.kind_sorted PyProof.Rows.plain_sorted PyProof.Rows.entry_sorted (PyProof.Rows.args_sorted1 _) ?_
  unfold Builtin.«sorted»
  refine wpAny_bind (m := checkCount "sorted" 1 1 _) (wpAny_pure ?_)
  refine wpAny_bind (PySem.W.kdu_collect (A := X.A.in1) (PySem.W.kdl_keys (r := s1.heap.objs.size) (d := a) (knd := mixKind X.prog X.w) (kvs := vs) (ep := ep)) (I.ok.hd hc) ⟨⟨_, Heap.get?_push_size _ rfl, rfl, rfl⟩, dat1⟩ h16 fun h' tk acc hk hacc => ?_)
  have hal : acc.toList.length = is.length := by rw [Array.length_toList, hacc.1, hl]
  have hS : IntsAre acc.toList is := int_ones hal fun j v e => by
    obtain ⟨k, x, hk2, hk3⟩ := hacc.2 j v (by rw [← Array.getElem?_toList]; exact e)
    have e3 : (vs.map (·.1))[j]? = some k := by
      rw [List.getElem?_map, hk2]
      rfl
    rw [hkeys, List.getElem?_map] at e3
    obtain ⟨i, hj, e2⟩ := Option.map_eq_some_iff.mp e3
    subst e2
    rcases keyIs_shape (show keyIs (Sum.inl i) v = true from hk3) with ⟨z, t, ek, ev⟩ | ⟨z, t, ek, ev⟩
    · cases ek
      exact ⟨i, t, hj, ev⟩
    · cases ek
  have I2 : Inv X pins σ H1 { s1 with heap := h', toks := tk } := I1.kept fun b u e => hk b u (k1 b u e)
  refine wpAny_bind (wpAny_newList ?_ (by rw [hal, ← hl]; exact h16))
  have hoL : (h'.push (seqObj "list" acc.toList.toArray 0)).get? h'.objs.size = some (seqObj "list" acc.toList.toArray 0) := Heap.get?_push_size _ rfl
  refine wpAny_bind (wpAny_holding (wpAny_call_entry PyProof.Rows.slot_list_sort ⟨_, hoL, rfl⟩ PyProof.Rows.entry_list_sort
    (SrtO.list_sort_ord (s := { s1 with heap := h'.push (seqObj "list" acc.toList.toArray 0), toks := tk }) SrtO.swo_int hoL (by rw [hal, ← hl]; exact h16) (fun h2 => SrtO.ints_sortable hS h2) fun out g1 g2 => ⟨_, rfl, ?_⟩) (PyProof.Rows.args_list_sort _)))
  obtain ⟨f1, f2, f3⟩ := SrtO.ints_out hS g1 g2
  obtain ⟨e', he'⟩ := PyProof.Rows.sortedHeap_at (vs := acc.toList) (out := out.toArray) hoL
  have hlen : ((out.map SrtO.iv).map V.int).length ≤ sizeLine := by
    rw [List.length_map, f2.length_eq, ← hl]
    exact h16
  refine wpAny_pure ⟨_, rfl, .ref h'.objs.size, upd H1 h'.objs.size (.lst ((out.map SrtO.iv).map V.int)), I2.laid (t' := tk) (fun b u e => ?_) (Nat.le_refl _)
    (show ObjOk X.prog X.w _ _ _ (.lst ((out.map SrtO.iv).map V.int)) from ⟨hlen, out, e', vals_of_ints f1, he'⟩), rfl, q _ _ f2 f3 (I2.hok.fresh (Nat.le_refl _))⟩
  have hb : b < h'.objs.size := Heap.lt_size e
  rw [PyProof.Rows.sortedHeap_old (Nat.ne_of_lt hb) (by rw [size_push']; exact Nat.lt_succ_of_lt hb)]
  exact Heap.get?_push_of_some _ e
end U

/-! where it is known that no repr is under way: the law itself -/
namespace U
open PySem PySem.Spec PyProof.Rows L2
section
variable {P : Program} {w : World} {K : PySem.W.Frag} {mg : Str → Option Value} {base : Heap}
/-- a def's promise to a caller that stands in no repr -/
structure FnG (P : Program) (w : World) (K : PySem.W.Frag) (mg : Str → Option Value) (base : Heap) (k : Nat) (f : Addr) (fd : FuncData) (ps : List Str) (sp : Sp) : Prop where
  run : ∀ (A : Around) (outer : List Env) (s : Shared) (H : Hp) (args : Args) (us : List Value) (vs : List V) (Q : VK) (E : XK), A.guards = some [] → Room k A → Env0 P w K mg base A outer s H → BindsTo s fd args (ps.zip us) → Vals vs us → sp vs H Q E →
    codeAny (model P w) A (.call (.ref f) args) (CR CX0 outer P w H s Q E) s
theorem Fun.okG {x qual : Str} {st : Stmt} {f : Addr} {fd : FuncData} {N ps : List Str} {k : Nat} {sp : Sp} (F : Fun K x qual st f fd) (S : FnScope N ps (defScope st)) (len : ∀ vs H Q E, sp vs H Q E → vs.length = ps.length)
    (body : ∀ (cdv : Value) (A : Around) (outer : List Env) (s : Shared) (H : Hp) (vs : List V) (Q : VK) (E : XK), A.guards = some [] → Room k (A.deeper (envOfC qual (defScope st) s.heap.objs.size f cdv)) → sp vs H Q E →
      ∃ t, PSs (cxOf CX0 P w K mg base N qual (defScope st) f cdv A outer s H E).nox (defBody st) t ∧ t { nx := fun _ H' => Q .non H', rt := Q } (start N vs) H) : FnG P w K mg base (k + 1) f fd ps sp := by
  obtain ⟨oc, od, kV, doc, pm, an, cdv, ct, osl, rfl, at_, code⟩ := F.ex
  constructor
  intro A outer s H args us vs Q E hg room env bnd vals promise
  have old : ∀ b o, base.get? b = some o → s.heap.get? b = some o := fun b o e => (env.bs b o e).1
  have kin := env.mod.kin.keeps old
  obtain ⟨t, reads, goal⟩ := body cdv A outer s H vs Q E hg (room.deeper _) promise
  apply codeAny_call_function room.depth (kin _ _ at_) rfl S.co S.gen rfl (PySem.W.codeRec_of kin code)
  apply bnd
  apply wpAny_newFunctionEnv_cells S.kind
  · rintro ⟨n, v⟩ hn
    exact (S.par n (List.of_mem_zip hn).1).imp id fun q => And.intro q (PySem.W.cellsFrom_some _ _ _ (Or.inl q))
  rintro _ rfl s1 made
  refine ⟨(env.mod.nolimit.keeps old).keeps made.toInCall.keep, codeAny_func ?_⟩
  refine wpAny_mono (reads.nox.run [] s1 _ H _ (inv_start S room.hd env (len _ _ _ _ promise) vals made) goal) ?_ fun _ _ h => h
  rintro (_ | _ | _ | u) s2 h
  · exact h.elim fun _ h => h.elim fun H' h => ⟨.non, H', h.1.os, h.1.bare, h.1.base, h.1.hok, rfl, h.2⟩
  · exact h.elim fun _ h => h.elim fun _ h => h.2.elim
  · exact h.elim fun _ h => h.elim fun _ h => h.2.elim
  · obtain ⟨v, _, H', J, rel, q⟩ := h
    exact ⟨v, H', J.os, J.bare, J.base, J.hok, rel, q⟩
end
theorem bo_repr : bootBuiltins "repr" = some (.builtin "repr") := by decide +kernel
/-- repr of a tuple or list of plain values -/
def rRepr (K : PySem.W.Frag) : List V → Hp → VK → Prop := fun xs H Q => ∃ (a : Addr) (d : PyData), xs = [.ref a] ∧ Dp K H (.ref a) d ∧ d.showable = true ∧ d.hasDict = false ∧ d.depth ≤ 8 ∧ d.shown.length ≤ sizeLine ∧ Q (.str d.shown) H
theorem k_repr {X : Cx} {K : PySem.W.Frag} (h : X.K = K) (hg : X.A.guards = some []) (hu : X.A.units + 64 < cLine) : CallR X (.builtin "repr") (rRepr K) := by
  subst h
  intro pins s σ H xs us Q I r ⟨a, d, e, hd, hs, hnd, hdp, hsz, q⟩
  subst e
  obtain ⟨u, rfl, ru⟩ := vals1 r
  obtain ⟨as, rd⟩ := Dp.reads I d _ _ hd ru
  cases ru
  exact repr_of_reads' rd hs (PyData.noDict_hsm hnd) hg (by omega) (fun _ _ e => e) (fun h' u tk hk => ⟨.str d.shown, H, I.kept hk, ⟨_, rfl⟩, q⟩) hsz
/-- sorted(t), a tuple of ints -/
def rSortedT (K : PySem.W.Frag) : List V → Hp → VK → Prop := fun vs H Q => ∃ (a : Addr) (ns : List Int), vs = [V.ref a] ∧ SqT K H a (ns.map V.int) ∧
  ∀ (ns' : List Int) (p : Addr), ns'.Perm ns → ns'.Pairwise (· ≤ ·) → H p = none → Q (.ref p) (upd H p (.lst (ns'.map V.int)))
theorem k_sortedT {X : Cx} {K : PySem.W.Frag} (h : X.K = K) : CallR X (.builtin "sorted") (rSortedT K) := by
  subst h
  intro pins s σ H xs us Q I r ⟨a, is, e, ha, q⟩
  subst e
  obtain ⟨u, rfl, ru⟩ := vals1 r
  cases ru
  obtain ⟨its, rv, ht, hz⟩ := I.tuple ha
  have hS : IntsAre its is := rv.ints
  have h16 : its.length ≤ sizeLine := by rw [← rv.length]; exact hz
  obtain ⟨o, ho, hc, n, hd⟩ := id ht
  refine Calls.call_function_entry PyProof.Rows.kind_sorted PyProof.Rows.plain_sorted PyProof.Rows.entry_sorted (PyProof.Rows.args_sorted1 _) ?_
  unfold Builtin.«sorted»
  refine wpAny_bind (m := checkCount "sorted" 1 1 _) (wpAny_pure ?_)
  refine wpAny_bind (wpAny_collect_seq a (.inr rfl) ho hc hd (fun h' hk => ?_) (by rw [List.size_toArray]; exact h16))
  have I2 : Inv X pins σ H { s with heap := h' } := I.kept (t' := s.toks) hk
  have e0 : its.toArray.toList = its := rfl
  rw [e0]
  refine wpAny_bind (wpAny_newList ?_ h16)
  have hoL : (h'.push (seqObj "list" its.toArray 0)).get? h'.objs.size = some (seqObj "list" its.toArray 0) := Heap.get?_push_size _ rfl
  refine wpAny_bind (wpAny_holding (wpAny_call_entry PyProof.Rows.slot_list_sort ⟨_, hoL, rfl⟩ PyProof.Rows.entry_list_sort
    (SrtO.list_sort_ord (s := { s with heap := h'.push (seqObj "list" its.toArray 0) }) SrtO.swo_int hoL h16 (fun h2 => SrtO.ints_sortable hS h2) fun out g1 g2 => ⟨_, rfl, ?_⟩) (PyProof.Rows.args_list_sort _)))
  obtain ⟨f1, f2, f3⟩ := SrtO.ints_out hS g1 g2
  obtain ⟨e', he'⟩ := PyProof.Rows.sortedHeap_at (vs := its) (out := out.toArray) hoL
  have hlen : ((out.map SrtO.iv).map V.int).length ≤ sizeLine := by
    rw [List.length_map, f2.length_eq]
    rw [List.length_map] at hz
    exact hz
  refine wpAny_pure ⟨_, rfl, .ref h'.objs.size, upd H h'.objs.size (.lst ((out.map SrtO.iv).map V.int)), I2.laid (t' := s.toks) (fun b u e => ?_) (Nat.le_refl _)
    (show ObjOk X.prog X.w _ _ _ (.lst ((out.map SrtO.iv).map V.int)) from ⟨hlen, out, e', vals_of_ints f1, he'⟩), rfl, q _ _ f2 f3 (I2.hok.fresh (Nat.le_refl _))⟩
  have hb : b < h'.objs.size := Heap.lt_size e
  rw [PyProof.Rows.sortedHeap_old (Nat.ne_of_lt hb) (by rw [size_push']; exact Nat.lt_succ_of_lt hb)]
  exact Heap.get?_push_of_some _ e
/-- a tuple that the text sets at its top -/
structure GTup (K : PySem.W.Frag) (mg : Str → Option Value) (x : Str) (A : Addr) (xs : List V) : Prop where
  g : mg x = some (.ref A)
  t : ∀ H, SqT K H A xs
theorem kit_str {K : PySem.W.Frag} {s : String} (m : s ∈ ["NoneType", "bool", "int", "str", "list", "tuple", "dict"]) : PySem.W.kitOne K (.type s) (.type "str") = some (s == "str") := by
  simp only [List.mem_cons, List.not_mem_nil, or_false] at m
  rcases m with rfl | rfl | rfl | rfl | rfl | rfl | rfl <;> exact kit_ty (by decide +kernel)
theorem k_min {X : Cx} {K : PySem.W.Frag} (h : X.K = K) (hc : X.calm = true) : CallR X (.builtin "min") (rMin K) := by subst h; exact cr_min hc
theorem k_max {X : Cx} {K : PySem.W.Frag} (h : X.K = K) (hc : X.calm = true) : CallR X (.builtin "max") (rMax K) := by subst h; exact cr_max hc
/-! ### the top: what the law finds there -/
section
variable {P : Program} {w : World} {K : PySem.W.Frag} {mg mb : Str → Option Value} {a : Addr} {s₁ : Shared} {vs : List Value} {ns : List Int}
/-- what is known of the script, if it's no object of the written part -/
noncomputable def scriptH (K : PySem.W.Frag) (a : Addr) (vs : List Value) (ns : List Int) : Hp := fun b => open Classical in if b = a ∧ K.lookup a = none then some (.frz { cls := .type "list", data := .seq vs.toArray } (.lst (ns.map V.int))) else none
theorem scriptH_some {b : Addr} {o : HO} (h : scriptH K a vs ns b = some o) : b = a ∧ K.lookup a = none ∧ o = .frz { cls := .type "list", data := .seq vs.toArray } (.lst (ns.map V.int)) := by
  unfold scriptH at h
  split at h
  · rename_i c
    exact ⟨c.1, c.2, (Option.some.inj h).symm⟩
  · cases h
theorem scriptH_none {b : Addr} (h : b = a → K.lookup a ≠ none) : scriptH K a vs ns b = none := by
  cases e : scriptH K a vs ns b with
  | none => rfl
  | some o => exact absurd (scriptH_some e).2.1 (h (scriptH_some e).1)
theorem scriptH_seq (KX : K.In s₁.heap) (ha : s₁.heap.get? a = some { cls := .type "list", data := .seq vs.toArray }) (hi : IntsAre vs ns) (hl : ns.length ≤ sizeLine) : SqL K (scriptH K a vs ns) a (ns.map V.int) := by
  cases hk : K.lookup a with
  | none => exact .inl (.inr ⟨{ cls := .type "list", data := .seq vs.toArray }, if_pos ⟨rfl, hk⟩⟩)
  | some o =>
    have e := (KX a o hk).symm.trans ha
    cases e
    exact .inr ⟨_, vs.toArray, _, hk, rfl, rfl, rfl, by rw [List.size_toArray, hi.length]; exact hl, vals_ints hi⟩
theorem scriptH_ok (ha : s₁.heap.get? a = some { cls := .type "list", data := .seq vs.toArray }) (hi : IntsAre vs ns) (hl : ns.length ≤ sizeLine) : HOk P w (scriptH K a vs ns) s₁.heap := fun b u e => by
  obtain ⟨rfl, _, rfl⟩ := scriptH_some e
  exact ⟨ha, (by rw [List.length_map]; exact hl), vs, _, vals_ints hi, ha⟩
/-- a dict is not the script -/
theorem scriptH_ns {b : Addr} {m : Str → Option Value} (ha : s₁.heap.get? a = some { cls := .type "list", data := .seq vs.toArray }) (h : s₁.heap.Ns b m) : (hidT s₁.heap (scriptH K a vs ns)).Ns b m := by
  obtain ⟨o, es, ep, e, d, r⟩ := h
  refine ⟨o, es, ep, hidT_get e (scriptH_none fun z => ?_), d, r⟩
  subst z
  rw [ha] at e
  cases e
  cases (show Data.seq vs.toArray _ = Data.dict es ep from d)
theorem scriptH_kin (KX : K.In s₁.heap) : K.In (hidT s₁.heap (scriptH K a vs ns)) := fun b o e => hidT_get (KX b o e) (scriptH_none fun z => by
  subst z
  rw [e]
  exact fun z => by cases z)
theorem law_callG {k : Nat} {fa : Addr} {fd : FuncData} {x : Str} {sp : Sp} (KX : K.In s₁.heap) (hns : s₁.heap.Ns mainGlobals mg) (hb : s₁.heap.Ns builtinsNs mb) (hbb : ∀ x : Str, x ≠ "__name__" → mb x = bootBuiltins x) (hlim : s₁.heap.NoLimit) (hg : s₁.gens = #[])
    (ha : s₁.heap.get? a = some { cls := .type "list", data := .seq vs.toArray }) (hi : IntsAre vs ns) (hl : ns.length ≤ sizeLine) (hr : Room k callerA)
    (F : ∀ base : Heap, K.In base → base.Ns mainGlobals mg → FnG P w K mg base k fa fd [x] sp) (hbind : ∀ (s : Shared) (u : Value), BindsTo s fd ⟨[u], []⟩ [(x, u)])
    (hsp : ∀ H : Hp, SqL K H a (ns.map V.int) → sp [.ref a] H (fun v _ => v = .bl true) fun _ _ _ => False) :
    codeAny (model P w) callerA (.call (.ref fa) ⟨[.ref a], []⟩) (fun r s' => r = .ok (.ret (.bool true)) ∧ OldK s₁.heap s'.heap ∧ s'.os = s₁.os ∧ AllBare s'.gens) s₁ := by
  have kin := scriptH_kin (vs := vs) (ns := ns) (a := a) KX
  have ok : HOk P w (scriptH K a vs ns) s₁.heap := scriptH_ok ha hi hl
  have lim : (hidT s₁.heap (scriptH K a vs ns)).NoLimit := by
    obtain ⟨mc, h1, h2⟩ := hlim
    exact ⟨mc, scriptH_ns ha h1, h2⟩
  have env : Env0 P w K mg (hidT s₁.heap (scriptH K a vs ns)) callerA [] s₁ (scriptH K a vs ns) :=
    { frames := rfl
      mod := ⟨kin, scriptH_ns ha hns, ⟨mb, scriptH_ns ha hb, hbb⟩, lim⟩
      bs := fun _ _ e => of_hidT e
      bsz := Nat.le_of_eq (hidT_size _ _)
      funs := trivial
      frf := fun _ hb => (List.not_mem_nil hb).elim
      hok := ok
      bare := .of_eq hg }
  refine codeAny_mono ((F _ kin (scriptH_ns ha hns)).run callerA [] s₁ _ ⟨[.ref a], []⟩ [.ref a] [.ref a] _ _ rfl hr env (hbind s₁ (.ref a)) (.cons rfl .nil) (hsp _ (scriptH_seq KX ha hi hl))) ?_
  rintro (e | _ | _ | _ | u) s' h
  · exact h.elim
  · exact h.elim
  · exact h.elim
  · exact h.elim
  · obtain ⟨_, H', os, bare, un, ok', rel, rfl⟩ := h
    cases rel
    refine ⟨rfl, OldK.of_keep fun b o e => ?_, os, bare⟩
    cases q : scriptH K a vs ns b with
    | none => exact un.keep b o e q List.not_mem_nil List.not_mem_nil
    | some u =>
      obtain ⟨rfl, _, rfl⟩ := scriptH_some q
      rw [ha] at e
      cases e
      exact (ok' _ _ (un.frzs _ _ _ q)).1
end
/-- the end: as the library's walk_of, for a law that asks for repr itself -/
theorem walk_ofG {l : PySem.W.OpenLaw} {n k : Nat} {q : Program} {loose : List Str} {XP : (Str → Option Value) → Heap → Prop} {YP : World → Heap → Prop} {d : DefRec} {K : Params → PySem.W.Frag} {sp : World → Sp} {x : Str}
    (hn : l.most = some n) (hn2 : n ≤ sizeLine) (hdf : d.params.defaults = []) (hr : Room k callerA)
    (hY : ∀ (w : World) (h : Heap), YP w h → (K w.params).In h)
    (F : ∀ (w : World) (mg : Str → Option Value) (fa : Addr) (h : Heap), (K w.params).In h → h.Ns mainGlobals mg → mg d.name = some (.ref fa) →
      ∃ fd : FuncData, (∀ (s : Shared) (u : Value), BindsTo s fd ⟨[u], []⟩ [(x, u)]) ∧
        ∀ base : Heap, (K w.params).In base → base.Ns mainGlobals mg → FnG l.prog w (K w.params) mg base k fa fd [x] (sp w))
    (hsp : ∀ (w : World) (H : Hp) (a : Addr) (ns : List Int), ns.length ≤ n → SqL (K w.params) H a (ns.map V.int) → sp w [.ref a] H (fun v _ => v = .bl true) fun _ _ _ => False) :
    PySem.W.WalkO q loose XP YP l.row.toRowW d [] (fun f vs => PySem.call f vs) := by
  refine Att.attach_call hn hdf fun w s₀ s₁ mg mb fa o pm cd doc a vs ns G Y ho hd hcd hmg hobj hints hlen hg => ?_
  obtain ⟨fd, bd, Fd⟩ := F w mg fa _ (hY w _ Y) G.T.g hmg
  exact law_callG (hY w _ Y) G.T.g G.T.b G.T.builtins G.T.nolimit hg hobj hints (Nat.le_trans hlen hn2) hr Fd bd fun H hS => hsp w H a ns hlen hS
end U

namespace U
open PySem PySem.Spec PyProof.Rows L2
def topS (i : Nat) : Stmt := PySem.Challenge.pw_untriedways_k21_named_plans.main.body.getD i (.Pass ⟨0, 0, 0, 0⟩)
section
variable {P : Program} {w : World} {K : PySem.W.Frag} {mg : Str → Option Value} {base : Heap}
abbrev s_is_integer : Stmt := topS 6
abbrev sl_is_integer : List Str := ["thing"]
theorem sc_is_integer : FnScope ["thing"] ["thing"] (defScope s_is_integer) := ⟨rfl, rfl, rfl, by decide +kernel, rfl, by decide +kernel, by decide +kernel⟩
def spIsInteger (K : PySem.W.Frag) : Sp := fun vs H Q _ => ∃ v s, vs = [v] ∧ Kn K H v s ∧ Q (.bl (isI v)) H
theorem ok_is_integer (B : Bt mg) (D : Df K mg "is_integer" s_is_integer ["thing"]) : Has P w K mg base "is_integer" 1 ["thing"] (spIsInteger K) := by
  refine D.has fun f fd F => F.ok sc_is_integer (fun vs H Q E h => ?_) (fun cdv A outer s H vs Q E hr h => ?_)
  · obtain ⟨v, s, rfl, _⟩ := h
    rfl
  · obtain ⟨v, s, rfl, hv, q⟩ := h
    refine ⟨_, (pss_one (ps_ret (pe_and (pe_callB (k_isi (K := K) rfl) (by rfl) B.isinstance bo_isinstance (pa_cons (pv 0) (pa_cons (pe_bltn (v := .ty "int") (by rfl) B.int bo_int rfl) pa_nil))) (pe_one (pe_not (pe_callB (k_isi (K := K) rfl) (by rfl) B.isinstance bo_isinstance (pa_cons (pv 0) (pa_cons (pe_bltn (v := .ty "bool") (by rfl) B.bool bo_bool rfl) pa_nil)))))))), ?_⟩
    refine ⟨v, rfl, v, .ty "int", _, _, _, rfl, .ty "int", hv.ty, kit_int hv.mem, _, rfl, ?_⟩
    have e := kn_int hv
    by_cases h1 : (s == "int" || s == "bool") = true
    · rw [h1]
      refine iteT ?_
      refine ⟨v, rfl, v, .ty "bool", _, _, _, rfl, .ty "bool", hv.ty, kit_bool hv.mem, _, rfl, ?_⟩
      have e2 : isI v = !(s == "bool") := by
        rw [e]
        simp only [Bool.or_eq_true, beq_iff_eq] at h1
        rcases h1 with rfl | rfl <;> rfl
      rw [← e2]
      exact q
    · have e2 : isI v = false := by
        rw [e]
        simp only [Bool.or_eq_true, not_or] at h1
        simpa using h1.1
      rw [Bool.eq_false_iff.mpr h1]
      refine iteF ?_
      rw [e2] at q
      exact q

abbrev s_is_index : Stmt := topS 7
abbrev sl_is_index : List Str := ["thing", "many"]
theorem sc_is_index : FnScope ["thing", "many"] ["thing", "many"] (defScope s_is_index) := ⟨rfl, rfl, rfl, by decide +kernel, rfl, by decide +kernel, by decide +kernel⟩
def spIsIndex (K : PySem.W.Frag) : Sp := fun vs H Q _ => ∃ (v : V) (s : String) (m : Int), vs = [v, .int m] ∧ Kn K H v s ∧ Q (.bl (idxV v m)) H
theorem ok_is_index (h_is_integer : Has P w K mg base "is_integer" 1 ["thing"] (spIsInteger K)) (D : Df K mg "is_index" s_is_index ["thing", "many"]) : Has P w K mg base "is_index" 2 ["thing", "many"] (spIsIndex K) := by
  refine D.has fun f fd F => F.ok sc_is_index (fun vs H Q E h => ?_) (fun cdv A outer s H vs Q E hr h => ?_)
  · obtain ⟨v, s, m, rfl, _⟩ := h
    rfl
  · obtain ⟨v, s, m, rfl, hv, q⟩ := h
    refine ⟨_, (pss_one (ps_ret (pe_and (pcall h_is_integer hr (by decide) (by rfl) (pa_cons (pv 0) pa_nil)) (pe_one (pe_chain op_le op_lt pe_int (pv 0) (pv 1)))))), ?_⟩
    refine ⟨v, rfl, v, s, rfl, hv, _, rfl, ?_⟩
    cases v with
    | int i =>
      refine iteT ?_
      refine ⟨_, rfl, _, _, rfl, rfl, _, rfl, ?_⟩
      by_cases h0 : (0 : Int) ≤ i
      · rw [decide_eq_true h0]
        refine iteT ?_
        refine ⟨_, rfl, _, _, rfl, rfl, ?_⟩
        have e : idxV (.int i) m = decide (i < m) := by
          show (decide (0 ≤ i) && decide (i < m)) = decide (i < m)
          rw [decide_eq_true h0, Bool.true_and]
        rw [e] at q
        exact q
      · rw [decide_eq_false h0]
        refine iteF ?_
        have e : idxV (.int i) m = false := by
          show (decide (0 ≤ i) && decide (i < m)) = false
          rw [decide_eq_false h0, Bool.false_and]
        rw [e] at q
        exact q
    | _ => exact iteF q

abbrev s_is_any_lot : Stmt := topS 8
abbrev sl_is_any_lot : List Str := ["thing", "last", "item"]
theorem sc_is_any_lot : FnScope ["thing", "last", "item"] ["thing"] (defScope s_is_any_lot) := ⟨rfl, rfl, rfl, by decide +kernel, rfl, by decide +kernel, by decide +kernel⟩
/-- strictly ascending integers above l -/
def ascFrom : Int → List V → Bool
  | _, [] => true
  | l, .int i :: r => decide (l < i) && ascFrom i r
  | _, _ :: _ => false
theorem ascFrom_cons {l : Int} {x : V} {r : List V} : ascFrom l (x :: r) = (match x with | .int i => decide (l < i) && ascFrom i r | _ => false) := by
  cases x <;> rfl
def spAnyLot (K : PySem.W.Frag) : Sp := fun vs H Q _ => ∃ v : V, vs = [v] ∧
  ((∃ a xs, v = .ref a ∧ SqT K H a xs ∧ (∀ x ∈ xs, ∃ s, Kn K H x s) ∧ Q (.bl (ascFrom (-1) xs)) H) ∨ (∃ s, Kn K H v s ∧ (s == "tuple") = false ∧ Q (.bl false) H))
theorem ok_is_any_lot (B : Bt mg) (h_is_integer : Has P w K mg base "is_integer" 1 ["thing"] (spIsInteger K)) (D : Df K mg "is_any_lot" s_is_any_lot ["thing"]) : Has P w K mg base "is_any_lot" 2 ["thing"] (spAnyLot K) := by
  refine D.has fun f fd F => F.ok sc_is_any_lot (fun vs H Q E h => ?_) (fun cdv A outer s H vs Q E hr h => ?_)
  · obtain ⟨v, rfl, _⟩ := h
    rfl
  · obtain ⟨v, rfl, h⟩ := h
    refine ⟨_, (pss_cons (ps_if (pt_not (pt_val (pe_callB (k_isi (K := K) rfl) (by rfl) B.isinstance bo_isinstance (pa_cons (pv 0) (pa_cons (pe_bltn (v := .ty "tuple") (by rfl) B.tuple bo_tuple rfl) pa_nil)))))
    (pss_one (ps_ret pe_bl))
    pss_nil)
  (pss_cons (ps_set (i := 1) sc_is_any_lot.nd rfl (.inl rfl) (pe_un un_neg pe_int))
  (pss_cons (ps_for PassesOwn.never rfl (k_pit (K := K) rfl (pv 0)) (pg_name (i := 2) sc_is_any_lot.nd rfl (.inl rfl))
    (pss_cons (ps_if (PW.pt (pw_or (pt_not (pt_val (pcall h_is_integer hr (by decide) (by rfl) (pa_cons (pv 2) pa_nil)))) (pw_or1 (pt_cmpR op_le (pv 2) (pv 1) (nomark _)))))
    (pss_one (ps_ret pe_bl))
    pss_nil)
  (pss_one (ps_set (i := 1) sc_is_any_lot.nd rfl (.inl rfl) (pv 2)))))
  (pss_one (ps_ret pe_bl))))), ?_⟩
    rcases h with ⟨a, xs, rfl, hS, hk, q⟩ | ⟨s, hv, hs, q⟩
    · refine ⟨_, rfl, _, .ty "tuple", _, _, _, rfl, .ty "tuple", (kn_of_tup hS).ty, kit_tuple (kn_of_tup hS).mem, _, rfl, iteF ?_⟩
      refine ⟨1, rfl, ?_⟩
      refine ⟨_, rfl, a, rfl, ⟨_, hS⟩, ?_⟩
      refine for_tup (xs := xs) (fun i σ H' => H' = H ∧ ∃ last it, σ = [some (.ref a), some (.int last), it] ∧ ascFrom (-1) xs = ascFrom last (xs.drop i)) ⟨rfl, -1, none, rfl, rfl⟩ ?_ ?_ ?_
      · rintro i σ H' _ ⟨rfl, _⟩
        exact hS
      · rintro i x σ H' hx ⟨rfl, last, it, rfl, e⟩
        obtain ⟨s, hs⟩ := hk x (List.mem_of_getElem? hx)
        rw [drop_cons_of hx, ascFrom_cons] at e
        refine ⟨x, rfl, x, s, rfl, hs, _, rfl, ?_⟩
        cases x with
        | int z =>
          simp only at e
          refine iteF ?_
          refine ⟨_, rfl, _, rfl, z, last, rfl, rfl, _, rfl, ?_⟩
          by_cases h2 : z ≤ last
          · rw [decide_eq_true h2]
            refine iteT ?_
            have e2 : ascFrom (-1) xs = false := by
              rw [e, decide_eq_false (by omega), Bool.false_and]
            rw [e2] at q
            exact q
          · rw [decide_eq_false h2]
            refine iteF ?_
            refine ⟨.int z, rfl, rfl, z, _, rfl, ?_⟩
            rw [e, decide_eq_true (by omega), Bool.true_and]
        | _ =>
          refine iteT (iteT ?_)
          simp only at e
          rw [e] at q
          exact q
      · rintro σ H' ⟨rfl, last, it, rfl, e⟩
        rw [List.drop_length] at e
        have e2 : ascFrom (-1) xs = true := e
        rw [e2] at q
        exact q
    · refine ⟨_, rfl, _, .ty "tuple", _, _, _, rfl, .ty "tuple", hv.ty, kit_tuple hv.mem, _, rfl, ?_⟩
      rw [hs]
      exact iteT q

abbrev s_is_lot : Stmt := topS 9
abbrev sl_is_lot : List Str := ["thing", "many"]
theorem sc_is_lot : FnScope ["thing", "many"] ["thing", "many"] (defScope s_is_lot) := ⟨rfl, rfl, rfl, by decide +kernel, rfl, by decide +kernel, by decide +kernel⟩
def spIsLot (K : PySem.W.Frag) : Sp := fun vs H Q _ => ∃ (v : V) (m : Int), vs = [v, .int m] ∧
  ((∃ a xs, v = .ref a ∧ SqT K H a xs ∧ (∀ x ∈ xs, ∃ s, Kn K H x s) ∧ Q (.bl (lotFrom m (-1) xs)) H) ∨ (∃ s, Kn K H v s ∧ (s == "tuple") = false ∧ Q (.bl false) H))
theorem lotFrom_cons {m l : Int} {x : V} {r : List V} : lotFrom m l (x :: r) = (match x with | .int i => idxV x m && decide (l < i) && lotFrom m i r | _ => false) := by
  cases x <;> rfl
/-- the last one is an integer below m, if there is one -/
def lastLt (m : Int) (xs : List V) : Prop := ∀ z, xs.getLast? = some z → ∃ i, z = .int i ∧ i < m
theorem asc_last : ∀ {xs : List V} {l : Int}, ascFrom l xs = true → ∀ z, xs.getLast? = some z → ∃ i, z = .int i ∧ l < i
  | [], _, _, _, h => by cases h
  | .int i :: r, l, h, z, hz => by
    have h' : (decide (l < i) && ascFrom i r) = true := h
    rw [Bool.and_eq_true, decide_eq_true_eq] at h'
    cases r with
    | nil =>
      cases hz
      exact ⟨i, rfl, h'.1⟩
    | cons y r =>
      rw [List.getLast?_cons_cons] at hz
      obtain ⟨j, e, hj⟩ := asc_last h'.2 z hz
      exact ⟨j, e, by omega⟩
  | .non :: _, _, h, _, _ => by cases h
  | .bl _ :: _, _, h, _, _ => by cases h
  | .str _ :: _, _, h, _, _ => by cases h
  | .byt _ :: _, _, h, _, _ => by cases h
  | .flt _ :: _, _, h, _, _ => by cases h
  | .ref _ :: _, _, h, _, _ => by cases h
  | .ty _ :: _, _, h, _, _ => by cases h
theorem lot_asc {m : Int} : ∀ {xs : List V} {l : Int}, -1 ≤ l → (lotFrom m l xs = true ↔ ascFrom l xs = true ∧ lastLt m xs)
  | [], _, _ => ⟨fun _ => ⟨rfl, fun z h => by cases h⟩, fun _ => rfl⟩
  | .int i :: r, l, hl => by
    have e1 : lotFrom m l (.int i :: r) = (decide (0 ≤ i) && decide (i < m) && decide (l < i) && lotFrom m i r) := rfl
    have e2 : ascFrom l (.int i :: r) = (decide (l < i) && ascFrom i r) := rfl
    rw [e1, e2]
    simp only [Bool.and_eq_true, decide_eq_true_eq]
    constructor
    · rintro ⟨⟨⟨h1, h2⟩, h3⟩, h4⟩
      obtain ⟨h5, h6⟩ := (lot_asc (l := i) (by omega)).mp h4
      refine ⟨⟨h3, h5⟩, fun z hz => ?_⟩
      cases r with
      | nil => cases hz; exact ⟨i, rfl, h2⟩
      | cons y r => rw [List.getLast?_cons_cons] at hz; exact h6 z hz
    · rintro ⟨⟨h3, h5⟩, h6⟩
      have h7 : lastLt m r := fun z hz => by
        cases r with
        | nil => cases hz
        | cons y r => exact h6 z (by rw [List.getLast?_cons_cons]; exact hz)
      refine ⟨⟨⟨by omega, ?_⟩, h3⟩, (lot_asc (l := i) (by omega)).mpr ⟨h5, h7⟩⟩
      cases r with
      | nil =>
        obtain ⟨j, e, hj⟩ := h6 _ rfl
        cases e
        exact hj
      | cons y r =>
        cases e : (y :: r).getLast? with
        | none => simp at e
        | some z =>
          obtain ⟨j, e3, hj⟩ := asc_last h5 z e
          obtain ⟨j', e4, hj'⟩ := h7 z e
          rw [e3] at e4
          cases e4
          omega
  | .non :: _, _, _ => ⟨fun h => (by cases h), fun h => (by cases h.1)⟩
  | .bl _ :: _, _, _ => ⟨fun h => (by cases h), fun h => (by cases h.1)⟩
  | .str _ :: _, _, _ => ⟨fun h => (by cases h), fun h => (by cases h.1)⟩
  | .byt _ :: _, _, _ => ⟨fun h => (by cases h), fun h => (by cases h.1)⟩
  | .flt _ :: _, _, _ => ⟨fun h => (by cases h), fun h => (by cases h.1)⟩
  | .ref _ :: _, _, _ => ⟨fun h => (by cases h), fun h => (by cases h.1)⟩
  | .ty _ :: _, _, _ => ⟨fun h => (by cases h), fun h => (by cases h.1)⟩
theorem ok_is_lot (B : Bt mg) (h_is_any_lot : Has P w K mg base "is_any_lot" 2 ["thing"] (spAnyLot K)) (D : Df K mg "is_lot" s_is_lot ["thing", "many"]) : Has P w K mg base "is_lot" 3 ["thing", "many"] (spIsLot K) := by
  refine D.has fun f fd F => F.ok sc_is_lot (fun vs H Q E h => ?_) (fun cdv A outer s H vs Q E hr h => ?_)
  · obtain ⟨v, m, rfl, _⟩ := h
    rfl
  · obtain ⟨v, m, rfl, h⟩ := h
    refine ⟨_, (pss_one (ps_ret (pe_and (pcall h_is_any_lot hr (by decide) (by rfl) (pa_cons (pv 0) pa_nil)) (pe_one (pe_or (pe_cmpR op_eq (pe_callB (k_len (K := K) rfl) (by rfl) B.len bo_len (pa_cons (pv 0) pa_nil)) pe_int (nomark _)) (pe_one (pe_cmpR op_lt (pe_ix (k_ixt (K := K) rfl) (pv 0) (pe_un un_neg pe_int) (fun _ _ => rfl)) (pv 1) (nomark _)))))))), ?_⟩
    rcases h with ⟨a, xs, rfl, hS, hk, q⟩ | ⟨s, hv, hs, q⟩
    · refine ⟨_, rfl, .ref a, rfl, .inl ⟨a, xs, rfl, hS, hk, _, rfl, ?_⟩⟩
      cases e : ascFrom (-1) xs with
      | false =>
        have e2 : lotFrom m (-1) xs = false := by
          rw [Bool.eq_false_iff]
          intro z
          rw [((lot_asc (Int.le_refl _)).mp z).1] at e
          cases e
        rw [e2] at q
        exact iteF q
      | true =>
        refine iteT ?_
        refine ⟨_, rfl, a, _, rfl, .inr hS, rfl, _, rfl, ?_⟩
        rcases List.eq_nil_or_concat xs with rfl | ⟨ys, v, rfl⟩
        · exact iteT q
        · rw [List.concat_eq_append] at *
          obtain ⟨i, rfl, _⟩ := asc_last e v (by simp)
          rw [decide_eq_false (by
            intro z
            injection z with z
            rw [List.length_append, List.length_singleton] at z
            omega)]
          refine iteF ?_
          refine ⟨_, rfl, 1, rfl, a, _, -1, _, rfl, rfl, hS, atI_last _ _, _, rfl, i, m, rfl, rfl, ?_⟩
          have e2 : lotFrom m (-1) (ys ++ [.int i]) = decide (i < m) := by
            rw [Bool.eq_iff_iff, lot_asc (Int.le_refl _), decide_eq_true_eq]
            constructor
            · rintro ⟨_, h⟩
              obtain ⟨j, z, hj⟩ := h (.int i) (by simp)
              cases z
              exact hj
            · intro h
              exact ⟨e, fun z hz => ⟨i, by simpa using hz.symm, h⟩⟩
          rw [e2] at q
          exact q
    · refine ⟨_, rfl, v, rfl, .inr ⟨s, hv, hs, _, rfl, iteF q⟩⟩

abbrev s_marks : Stmt := topS 10
abbrev sl_marks : List Str := ["many", "lot", "marked", "item"]
theorem sc_marks : FnScope ["many", "lot", "marked", "item"] ["many", "lot"] (defScope s_marks) := ⟨rfl, rfl, rfl, by decide +kernel, rfl, by decide +kernel, by decide +kernel⟩
def mks (n : Nat) (ls : List Nat) : List Bool := (List.range n).map fun i => decide (i ∈ ls)
theorem mks_nil (n : Nat) : (mks n []).map V.bl = (List.replicate n [V.bl false]).flatten := by
  unfold mks
  rw [List.map_map]
  apply List.ext_getElem?
  intro i
  have e : (List.replicate n [V.bl false]).flatten = List.replicate n (V.bl false) := by
    induction n with
    | zero => rfl
    | succ n ih => rw [List.replicate_succ, List.flatten_cons, ih, List.replicate_succ]; rfl
  rw [e, List.getElem?_map, List.getElem?_replicate]
  by_cases h : i < n
  · rw [List.getElem?_range h, if_pos h]
    simp
  · rw [List.getElem?_eq_none (by simpa using h), if_neg h]
    rfl
theorem mks_snoc {n : Nat} {ls : List Nat} {z : Nat} : ((mks n ls).map V.bl).set z (.bl true) = (mks n (ls ++ [z])).map V.bl := by
  unfold mks
  rw [List.map_map, List.map_map, set_map_range]
  refine List.map_congr_left fun i _ => ?_
  by_cases h : i = z
  · subst h
    rw [if_pos rfl]
    simp
  · rw [if_neg h]
    simp [h]
theorem mks_length (n : Nat) (ls : List Nat) : (mks n ls).length = n := by
  unfold mks
  rw [List.length_map, List.length_range]
theorem mks_get {n : Nat} {ls : List Nat} {j : Nat} (h : j < n) : ((mks n ls).map V.bl)[j]? = some (.bl (decide (j ∈ ls))) := by
  unfold mks
  rw [List.map_map, get_map_range h]
  rfl
def spMarks (K : PySem.W.Frag) : Sp := fun vs H Q _ => ∃ (n : Nat) (a : Addr) (ls : List Nat), vs = [.int (n : Int), .ref a] ∧ SqT K H a (ls.map nV) ∧ (∀ z ∈ ls, z < n) ∧ n ≤ 100000 ∧
  ∀ p H', Same H H' → H p = none → H' p = some (.lst ((mks n ls).map V.bl)) → Q (.ref p) H'
theorem ok_marks (D : Df K mg "marks" s_marks ["many", "lot"]) : Has P w K mg base "marks" 1 ["many", "lot"] (spMarks K) := by
  refine D.has fun f fd F => F.ok sc_marks (fun vs H Q E h => ?_) (fun cdv A outer s H vs Q E hr h => ?_)
  · obtain ⟨n, a, ls, rfl, _⟩ := h
    rfl
  · obtain ⟨n, a, ls, rfl, hS, hl, hn, q⟩ := h
    refine ⟨_, (pss_cons (ps_set (i := 2) sc_marks.nd rfl (.inl rfl) (pe_op op_rep (pe_lst (pa_cons pe_bl pa_nil)) (pv 0)))
  (pss_cons (ps_for PassesOwn.never rfl (k_pit (K := K) rfl (pv 1)) (pg_name (i := 3) sc_marks.nd rfl (.inl rfl))
    (pss_one (ps_asg pe_bl (pg_sub (pv 2) (pv 3) set_list))))
  (pss_one (ps_ret (pv 2))))), ?_⟩
    refine ⟨by show 1 ≤ sizeLine; decide, fun p1 n1 => ⟨_, rfl, p1, (n : Int), _, rfl, rfl, upd_same, by omega, by omega, by show 1 * (n : Int).toNat ≤ sizeLine; rw [Nat.one_mul]; exact small_sz (by omega), fun p2 n2 => ?_⟩⟩
    have s1 := same_new (o := .lst [V.bl false]) (Same.refl H) n1
    have h2 : H p2 = none := s1.free n2
    refine ⟨_, rfl, a, rfl, ⟨_, Same.sqt (same_new s1 n2) hS⟩, ?_⟩
    refine for_tup (xs := ls.map nV) (fun i σ H' => Same H H' ∧ H' p2 = some (.lst ((mks n (ls.take i)).map V.bl)) ∧ ∃ it, σ = [some (.int (n : Int)), some (.ref a), some (.ref p2), it]) ⟨same_new s1 n2, ?_, none, rfl⟩ ?_ ?_ ?_
    · rw [upd_same, List.take_zero, mks_nil]
      rfl
    · rintro i σ H' _ ⟨sm, _⟩
      exact Same.sqt sm hS
    · rintro i x σ H' hx ⟨sm, hp, it, rfl⟩
      obtain ⟨z, hz, rfl⟩ := getmap hx
      have hzn := hl z (List.mem_of_getElem? hz)
      refine ⟨_, rfl, _, rfl, p2, _, (z : Int), z, rfl, rfl, hp, by rw [List.length_map, mks_length]; exact ixN_nat hzn, ?_⟩
      refine ⟨same_mut sm h2, ?_, _, rfl⟩
      rw [upd_same, mks_snoc, take_snoc_of hz]
    · rintro σ H' ⟨sm, hp, it, rfl⟩
      rw [List.length_map, List.take_length] at hp
      exact ⟨_, rfl, q p2 H' sm h2 hp⟩

abbrev s_pairs_left : Stmt := topS 12
abbrev sl_pairs_left : List Str := ["arrows", "rotten", "gone", "arrow", "pair"]
theorem sc_pairs_left : FnScope ["arrows", "rotten", "gone", "arrow", "pair"] ["arrows", "rotten"] (defScope s_pairs_left) := ⟨rfl, rfl, rfl, by decide +kernel, rfl, by decide +kernel, by decide +kernel⟩
def leftV {α : Type} (xs : List α) (ls : List Nat) : List α := (List.range xs.length).filterMap fun i => if i ∈ ls then none else xs[i]?
def spPairsLeft (K : PySem.W.Frag) : Sp := fun vs H Q _ => ∃ (a b : Addr) (xs : List V) (ls : List Nat), vs = [.ref a, .ref b] ∧ SqT K H a xs ∧ SqT K H b (ls.map nV) ∧ (∀ z ∈ ls, z < xs.length) ∧ xs.length ≤ 100000 ∧
  ∀ p H', Same H H' → H p = none → H' p = some (.lst (leftV xs ls)) → Q (.ref p) H'
theorem ok_pairs_left (B : Bt mg) (h_marks : Has P w K mg base "marks" 1 ["many", "lot"] (spMarks K)) (D : Df K mg "pairs_left" s_pairs_left ["arrows", "rotten"]) : Has P w K mg base "pairs_left" 2 ["arrows", "rotten"] (spPairsLeft K) := by
  refine D.has fun f fd F => F.ok sc_pairs_left (fun vs H Q E h => ?_) (fun cdv A outer s H vs Q E hr h => ?_)
  · obtain ⟨a, b, xs, ls, rfl, _⟩ := h
    rfl
  · obtain ⟨a, b, xs, ls, rfl, hA, hB, hl, hn, q⟩ := h
    refine ⟨_, (pss_cons (ps_set (i := 2) sc_pairs_left.nd rfl (.inr rfl) (pcall h_marks hr (by decide) (by rfl) (pa_cons (pe_callB (k_len (K := K) rfl) (by rfl) B.len bo_len (pa_cons (pv 0) pa_nil)) (pa_cons (pv 1) pa_nil))))
  (pss_one (ps_ret (pe_lc (own := [("arrow", 3), ("pair", 4)]) (g := gTup K 2 (gCons (gName 3) (gCons (gName 4) gNil))) rfl sc_pairs_left.nd (pi_enumT (by rfl) B.enumerate (pa_cons (pv 0) pa_nil)) (blkOk_by (N := sl_pairs_left) (sc := defScope s_pairs_left) (by decide +kernel)) (fun _ _ _ _ _ => (pg_tup rfl (pgs_cons (pg_name (i := 3) sc_pairs_left.nd rfl (.inl rfl)) (pgs_cons (pg_name (i := 4) sc_pairs_left.nd rfl (.inl rfl)) pgs_nil)))) (fun _ _ _ _ _ => pts_one (pt_not (pt_val (pe_ix (k_ixl (K := K) rfl) (pv 2) (pv 3) (fun _ _ => rfl))))) (fun _ _ _ _ _ => (pv 4)))))), ?_⟩
    refine ⟨_, rfl, ⟨a, xs, rfl, .inr hA, _, rfl, xs.length, b, ls, rfl, hB, hl, hn, fun g H1 s1 ng hg => ?_⟩⟩
    refine ⟨_, rfl, a, xs, rfl, Same.sqt s1 hA, fun D nD => ?_⟩
    refine lc_val walkT calm_pair (fun i => if i ∈ ls then none else xs[i]?) hn nD (fun H2 s2 => Same.sqt s2 (Same.sqt s1 hA)) ?_ fun H2 s2 h2 => ?_
    · rintro i x H2 H3 hi s2 ⟨T, x1, x2, rfl, nT, rfl, e1, e2⟩ Kt kt
      cases e1
      have s3 := same_new (o := .tup [.int (i : Nat), x2]) (Same.refl H2) nT
      have hg3 : (upd H2 T (.tup [.int (i : Nat), x2])) g = some (.lst ((mks xs.length ls).map V.bl)) := s3 _ _ (s2 _ _ hg)
      refine ⟨T, _, rfl, sqt upd_same, rfl, _, _, rfl, _, _, rfl, rfl, rfl, ?_⟩
      refine ⟨_, rfl, _, rfl, g, _, (i : Int), _, rfl, rfl, sql hg3, atI_nat (mks_get hi), _, rfl, ?_⟩
      have k0 := kt _ (Same.refl _)
      by_cases hm : i ∈ ls
      · rw [decide_eq_true hm]
        refine iteF ?_
        rw [if_pos hm] at k0
        exact k0
      · rw [decide_eq_false hm]
        refine iteT ⟨x2, rfl, ?_⟩
        rw [if_neg hm, show xs[i]? = some x2 from e2] at k0
        exact k0
    · exact q D H2 (s1.trans s2) (s1.free nD) h2

abbrev s_steps_from : Stmt := topS 13
abbrev sl_steps_from : List Str := ["many", "pairs", "sources", "heads", "tail", "head", "steps", "place", "layer", "count", "fresh", "_"]
theorem sc_steps_from : FnScope ["many", "pairs", "sources", "heads", "tail", "head", "steps", "place", "layer", "count", "fresh", "_"] ["many", "pairs", "sources"] (defScope s_steps_from) := ⟨rfl, rfl, rfl, by decide +kernel, rfl, by decide +kernel, by decide +kernel⟩
def oV : Option Nat → V
  | none => .non
  | some d => nV d
def PairAt (K : PySem.W.Frag) (H : Hp) (v : V) (e : Nat × Nat) : Prop := ∃ t, v = .ref t ∧ SqT K H t [nV e.1, nV e.2]
/-- the values vs are the pairs es -/
structure Prs (K : PySem.W.Frag) (H : Hp) (vs : List V) (es : Es) : Prop where
  len : vs.length = es.length
  at_ : ∀ (i : Nat) (v : V) (e : Nat × Nat), vs[i]? = some v → es[i]? = some e → PairAt K H v e
theorem Prs.same {K : PySem.W.Frag} {H H' : Hp} {vs : List V} {es : Es} (p : Prs K H vs es) (s : Same H H') : Prs K H' vs es :=
  ⟨p.len, fun i v e a b => (p.at_ i v e a b).elim fun t ⟨h1, h2⟩ => ⟨t, h1, Same.sqt s h2⟩⟩
theorem Prs.get {K : PySem.W.Frag} {H : Hp} {vs : List V} {es : Es} (p : Prs K H vs es) {i : Nat} {v : V} (h : vs[i]? = some v) : ∃ e, es[i]? = some e ∧ PairAt K H v e := by
  have hi := (List.getElem?_eq_some_iff.mp h).1
  have hj : i < es.length := by rw [← p.len]; exact hi
  exact ⟨es[i], List.getElem?_eq_getElem hj, p.at_ i v _ h (List.getElem?_eq_getElem hj)⟩
def stV (n : Nat) (st : Nat → Option Nat) : List V := (List.range n).map fun v => oV (st v)
theorem stV_len (n : Nat) (st : Nat → Option Nat) : (stV n st).length = n := by
  unfold stV
  rw [List.length_map, List.length_range]
theorem stV_get {n j : Nat} {st : Nat → Option Nat} (h : j < n) : (stV n st)[j]? = some (oV (st j)) := get_map_range h
theorem stV_congr {n : Nat} {st st' : Nat → Option Nat} (h : ∀ v, v < n → st v = st' v) : stV n st = stV n st' := by
  unfold stV
  exact List.map_congr_left fun v hv => by rw [h v (List.mem_range.mp hv)]
theorem stV_set {n j : Nat} {d : Nat} {st : Nat → Option Nat} : (stV n st).set j (nV d) = stV n (fun v => if v = j then some d else st v) := by
  unfold stV
  rw [set_map_range]
  refine List.map_congr_left fun v _ => ?_
  by_cases h : v = j
  · simp only [if_pos h]
    rfl
  · simp only [if_neg h]
theorem stV_none (n : Nat) : stV n (fun _ => none) = (List.replicate n [V.non]).flatten := by
  unfold stV
  apply List.ext_getElem?
  intro i
  have e : (List.replicate n [V.non]).flatten = List.replicate n V.non := by
    induction n with
    | zero => rfl
    | succ n ih => rw [List.replicate_succ, List.flatten_cons, ih, List.replicate_succ]; rfl
  rw [e, List.getElem?_map, List.getElem?_replicate]
  by_cases h : i < n
  · rw [List.getElem?_range h, if_pos h]
    rfl
  · rw [List.getElem?_eq_none (by simpa using h), if_neg h]
    rfl
/-- behind the heads T, seen in layer c -/
def nx (c : Nat) (st : Nat → Option Nat) (T : List Nat) (v : Nat) : Option Nat := match st v with
  | some d => some d
  | none => if v ∈ T then some (c + 1) else none
theorem nx_nil (c : Nat) (st : Nat → Option Nat) : nx c st [] = st := by
  funext v
  unfold nx
  cases e : st v with
  | some d => rfl
  | none => simp
theorem nx_old {c : Nat} {st : Nat → Option Nat} {T : List Nat} {h d : Nat} (e : nx c st T h = some d) : nx c st (T ++ [h]) = nx c st T := by
  funext v
  unfold nx at e ⊢
  cases q : st v with
  | some d => rfl
  | none =>
    simp only
    by_cases hv : v = h
    · subst hv
      rw [q] at e
      simp only at e
      by_cases hm : v ∈ T
      · simp [hm]
      · rw [if_neg hm] at e
        cases e
    · simp [hv]
theorem nx_new {c : Nat} {st : Nat → Option Nat} {T : List Nat} {h : Nat} (e : nx c st T h = none) : (fun v => if v = h then some (c + 1) else nx c st T v) = nx c st (T ++ [h]) := by
  funext v
  unfold nx at e ⊢
  by_cases hv : v = h
  · subst hv
    rw [if_pos rfl]
    cases q : st v with
    | some d => rw [q] at e; cases e
    | none => simp
  · rw [if_neg hv]
    cases q : st v with
    | some d => rfl
    | none => simp [hv]
theorem nx_none {c : Nat} {st : Nat → Option Nat} {T : List Nat} {h : Nat} : nx c st T h = none ↔ st h = none ∧ h ∉ T := by
  unfold nx
  cases q : st h with
  | some d => simp
  | none => simp
/-- what stands while the search goes on -/
structure SfH (H H' : Hp) (D sp : Addr) (qs : List Addr) (n : Nat) (es : Es) (st : Nat → Option Nat) : Prop where
  same : Same H H'
  hD : H' D = some (.lst (qs.map V.ref))
  hA : ∀ (v : Nat) (q : Addr), qs[v]? = some q → H' q = some (.lst ((adj es v).map nV))
  hs : H' sp = some (.lst (stV n st))
/-- which objects are others -/
structure SfN (H : Hp) (D sp : Addr) (qs : List Addr) (x : Addr) : Prop where
  new : H x = none
  nD : x ≠ D
  nq : ∀ q ∈ qs, x ≠ q
theorem SfH.upd_other {H H' : Hp} {D sp x : Addr} {qs : List Addr} {n : Nat} {es : Es} {st : Nat → Option Nat} {o : HO} (s : SfH H H' D sp qs n es st) (N : SfN H D sp qs x) (ns : x ≠ sp) : SfH H (upd H' x o) D sp qs n es st where
  same := same_mut s.same N.new
  hD := by rw [upd_ne N.nD.symm]; exact s.hD
  hA := fun v q h => by rw [upd_ne (N.nq q (List.mem_of_getElem? h)).symm]; exact s.hA v q h
  hs := by rw [upd_ne ns.symm]; exact s.hs
theorem SfH.upd_sp {H H' : Hp} {D sp : Addr} {qs : List Addr} {n : Nat} {es : Es} {st st' : Nat → Option Nat} (s : SfH H H' D sp qs n es st) (N : SfN H D sp qs sp) : SfH H (upd H' sp (.lst (stV n st'))) D sp qs n es st' where
  same := same_mut s.same N.new
  hD := by rw [upd_ne N.nD.symm]; exact s.hD
  hA := fun v q h => by rw [upd_ne (N.nq q (List.mem_of_getElem? h)).symm]; exact s.hA v q h
  hs := upd_same
theorem SfH.newN {H H' : Hp} {D sp x : Addr} {qs : List Addr} {n : Nat} {es : Es} {st : Nat → Option Nat} (s : SfH H H' D sp qs n es st) (hq : ∀ q ∈ qs, H' q ≠ none) (h : H' x = none) : SfN H D sp qs x ∧ x ≠ sp :=
  ⟨⟨Same.free s.same h, (ne_of_none s.hD h).symm, fun q m z => hq q m (by rw [← z]; exact h)⟩, (ne_of_none s.hs h).symm⟩
def spSteps (K : PySem.W.Frag) : Sp := fun vs H Q _ => ∃ (n : Nat) (b c : Addr) (pvs : List V) (es : Es) (S : List Nat), vs = [.int (n : Int), .ref b, .ref c] ∧ SqX K H b pvs ∧ Prs K H pvs es ∧ SqX K H c (S.map nV) ∧
  (∀ e ∈ es, e.1 < n ∧ e.2 < n) ∧ (∀ s ∈ S, s < n) ∧ n ≤ 1000 ∧ es.length ≤ 1000 ∧
  ∀ p H' st, Same H H' → H p = none → H' p = some (.lst (stV n st)) → (∀ v, v < n → (∀ d, st v = some d ↔ Dst es S v d) ∧ (st v = none ↔ ¬ Rch es S v)) → Q (.ref p) H'
theorem ok_steps_from (B : Bt mg) (D0 : Df K mg "steps_from" s_steps_from ["many", "pairs", "sources"]) : Has P w K mg base "steps_from" 1 ["many", "pairs", "sources"] (spSteps K) := by
  refine D0.has fun f fd F => F.ok sc_steps_from (fun vs H Q E h => ?_) (fun cdv A outer s H vs Q E hr h => ?_)
  · obtain ⟨n, b, c, pvs, es, S, rfl, _⟩ := h
    rfl
  · obtain ⟨n, b, c, pvs, es, S, rfl, hB, hP, hC, he, hS, hn, hel, q⟩ := h
    refine ⟨_, (pss_cons (ps_setLc (i := 3) (own := [("_", 11)]) (g := gName 11) rfl sc_steps_from.nd rfl rfl (sw_true rfl rfl rfl (by decide +kernel)) (pi_range1 (by rfl) B.range (pa_cons (pv 0) pa_nil)) (blkOk_by (N := sl_steps_from) (sc := defScope s_steps_from) (by decide +kernel)) (fun _ _ _ _ _ => (pg_name (i := 11) sc_steps_from.nd rfl (.inl rfl))) (fun _ _ _ _ _ => pts_nil) (fun _ _ _ _ _ => (pe_lst pa_nil)))
  (pss_cons (ps_for PassesOwn.never rfl (k_pis (K := K) rfl (pv 1)) (pg_tup rfl (pgs_cons (pg_name (i := 4) sc_steps_from.nd rfl (.inl rfl)) (pgs_cons (pg_name (i := 5) sc_steps_from.nd rfl (.inl rfl)) pgs_nil)))
    (pss_one (ps_expr (pe_bm PySem.F.plainAttrs_list PySem.F.slot_list_append PySem.F.type_list_append mt_append (pe_ix (k_ixl (K := K) rfl) (pv 3) (pv 4) (fun _ _ => rfl)) (pa_cons (pv 5) pa_nil)))))
  (pss_cons (ps_set (i := 6) sc_steps_from.nd rfl (.inl rfl) (pe_op op_rep (pe_lst (pa_cons pe_non pa_nil)) (pv 0)))
  (pss_cons (ps_for PassesOwn.never rfl (k_pis (K := K) rfl (pv 2)) (pg_name (i := 7) sc_steps_from.nd rfl (.inl rfl))
    (pss_one (ps_asg pe_int (pg_sub (pv 6) (pv 7) set_list))))
  (pss_cons (ps_set (i := 8) sc_steps_from.nd rfl (.inl rfl) (pe_callTy (k_list (K := K) rfl) (by rfl) B.list bo_list (pa_cons (pv 2) pa_nil)))
  (pss_cons (ps_set (i := 9) sc_steps_from.nd rfl (.inl rfl) pe_int)
  (pss_cons (ps_while PassesOwn.never (k_tru (K := K) rfl (pv 8) (by intro _; rfl))
    (pss_cons (ps_aug (i := 9) sc_steps_from.nd rfl (.inl rfl) pe_int ip_add)
  (pss_cons (ps_set (i := 10) sc_steps_from.nd rfl (.inl rfl) (pe_lst pa_nil))
  (pss_cons (ps_for PassesOwn.never rfl (k_pil (K := K) rfl (pv 8)) (pg_name (i := 7) sc_steps_from.nd rfl (.inl rfl))
    (pss_one (ps_for PassesOwn.never rfl (k_pil (K := K) rfl (pe_ix (k_ixl (K := K) rfl) (pv 3) (pv 7) (fun _ _ => rfl))) (pg_name (i := 5) sc_steps_from.nd rfl (.inl rfl))
    (pss_one (ps_if (pt_cmpR op_isN (pe_ix (k_ixl (K := K) rfl) (pv 6) (pv 5) (fun _ _ => rfl)) pe_non (nomark _))
    (pss_cons (ps_asg (pv 9) (pg_sub (pv 6) (pv 5) set_list))
  (pss_one (ps_expr (pe_bm PySem.F.plainAttrs_list PySem.F.slot_list_append PySem.F.type_list_append mt_append (pv 10) (pa_cons (pv 5) pa_nil)))))
    pss_nil)))))
  (pss_one (ps_set (i := 8) sc_steps_from.nd rfl (.inl rfl) (pv 10)))))))
  (pss_one (ps_ret (pv 6)))))))))), ?_⟩
    -- heads
    refine ⟨_, rfl, _, rfl, by omega, by omega, fun D nD => ?_⟩
    refine lc_range (lo := 0) (n := (n : Int).toNat) (fun i H' => ∃ qs : List Addr, qs.length = i ∧ qs.Nodup ∧ (∀ q ∈ qs, H q = none ∧ q ≠ D ∧ H' q = some (.lst [])) ∧ H' D = some (.lst (qs.map V.ref)) ∧ Same H H')
      ⟨[], rfl, List.nodup_nil, fun q hq => (List.not_mem_nil hq).elim, upd_same, same_new (Same.refl H) nD⟩ ?_ ?_
    · rintro i H' hi ⟨qs, hl, nd, hq, hD, sm⟩
      refine ⟨rfl, tyes ?_⟩
      refine iteT ?_
      refine ⟨Nat.zero_le _, fun p np => ⟨qs.map V.ref, ?_, ?_, qs ++ [p], by simp [hl], ?_, ?_, ?_, ?_⟩⟩
      · rw [upd_ne (ne_of_none hD np)]
        exact hD
      · rw [List.length_map]
        exact small_lt (by omega)
      · rw [List.nodup_append]
        refine ⟨nd, by simp, fun x hx y hy => ?_⟩
        rw [List.mem_singleton.mp hy]
        exact ne_of_none (hq x hx).2.2 np
      · intro x hx
        have nDp : D ≠ p := ne_of_none hD np
        rcases List.mem_append.mp hx with hx | hx
        · obtain ⟨h1, h2, h3⟩ := hq x hx
          exact ⟨h1, h2, by rw [upd_ne h2, upd_ne (ne_of_none h3 np)]; exact h3⟩
        · rw [List.mem_singleton.mp hx]
          exact ⟨Same.free sm np, nDp.symm, by rw [upd_ne nDp.symm, upd_same]⟩
      · rw [upd_same, List.map_append]
        rfl
      · exact same_mut (same_new sm np) nD
    rintro H1 ⟨qs, hql, qnd, hq, hD, sm1⟩
    have hql : qs.length = n := by rw [hql]; rfl
    -- the pairs
    refine ⟨_, rfl, b, rfl, for_seq hB (fun i σ H' => ∃ t h, σ = [some (.int (n : Int)), some (.ref b), some (.ref c), some (.ref D), t, h, none, none, none, none, none, none] ∧ Same H H' ∧
      H' D = some (.lst (qs.map V.ref)) ∧ ∀ (v : Nat) (q : Addr), qs[v]? = some q → H' q = some (.lst ((adj (es.take i) v).map nV))) ⟨none, none, rfl, sm1, hD, fun v q h => (hq q (List.mem_of_getElem? h)).2.2⟩ ?_ ?_ ?_⟩
    · rintro i σ H' _ ⟨t, h, rfl, sm, _⟩
      exact sm
    · rintro i x σ H' hx ⟨t, h, rfl, sm, hD', hA⟩
      obtain ⟨e, hei, t0, rfl, ht0⟩ := hP.get hx
      obtain ⟨e1, e2⟩ := e
      have hlt := he _ (List.mem_of_getElem? hei)
      have hqv : qs[e1]? = some qs[e1] := List.getElem?_eq_getElem (by rw [hql]; exact hlt.1)
      refine ⟨t0, _, rfl, Same.sqt sm ht0, rfl, _, _, rfl, _, _, rfl, rfl, ?_⟩
      refine ⟨_, rfl, _, rfl, D, _, (e1 : Int), .ref qs[e1], rfl, rfl, sql hD', atI_nat (by rw [List.getElem?_map, hqv]; rfl), .inl ⟨rfl, _, sql (hA e1 _ hqv)⟩, _, rfl, ?_⟩
      refine ⟨_, _, _, rfl, rfl, hA e1 _ hqv, ?_, ?_⟩
      · rw [List.length_map]
        have h1 : (adj (es.take i) e1).length ≤ (es.take i).length := List.length_filterMap_le _ _
        have h2 : (es.take i).length ≤ es.length := by rw [List.length_take]; exact Nat.min_le_right _ _
        exact small_lt (by omega)
      · have hmem : qs[e1] ∈ qs := List.mem_of_getElem? hqv
        refine ⟨_, _, rfl, same_mut sm (hq _ hmem).1, by rw [upd_ne (hq _ hmem).2.1.symm]; exact hD', fun v q' hv => ?_⟩
        rw [take_snoc_of hei, adj_snoc]
        by_cases hve : e1 = v
        · subst hve
          rw [hqv] at hv
          cases hv
          rw [if_pos rfl, upd_same, List.map_append]
          rfl
        · rw [if_neg hve, upd_ne (fun z => hve ?_)]
          · exact hA v q' hv
          · rw [z] at hv
            exact (List.getElem?_inj (by rw [hql]; exact hlt.1) qnd).mp (by rw [hqv, hv])
    rintro σ H2 ⟨t, h, rfl, sm2, hD2, hA2⟩
    rw [hP.len, List.take_length] at hA2
    -- steps
    refine ⟨by show 1 ≤ sizeLine; decide, fun p1 n1 => ⟨_, rfl, p1, (n : Int), _, rfl, rfl, upd_same, by omega, by omega, by show 1 * (n : Int).toNat ≤ sizeLine; rw [Nat.one_mul]; exact small_sz (by omega), fun sp nsp => ?_⟩⟩
    have sm3 : Same H2 (upd H2 p1 (.lst [V.non])) := same_new (Same.refl H2) n1
    have nsp2 : H2 sp = none := Same.free sm3 nsp
    have nqs : ∀ q ∈ qs, H2 q ≠ none := fun q m z => by
      obtain ⟨v, hv⟩ := List.getElem?_of_mem m
      rw [hA2 v q hv] at z
      cases z
    have Nsp : SfN H D sp qs sp := ⟨Same.free sm2 nsp2, (ne_of_none hD2 nsp2).symm, fun q m z => nqs q m (by rw [← z]; exact nsp2)⟩
    have s0 : SfH H (upd (upd H2 p1 (.lst [V.non])) sp (.lst (stV n fun _ => none))) D sp qs n es (fun _ => none) := by
      have sm4 : Same H2 (upd (upd H2 p1 (.lst [V.non])) sp (.lst (stV n fun _ => none))) := same_new sm3 nsp
      exact ⟨sm2.trans sm4, sm4 _ _ hD2, fun v q hv => sm4 _ _ (hA2 v q hv), upd_same⟩
    rw [show ((n : Int)).toNat = n from rfl, ← stV_none]
    -- the sources
    refine ⟨_, rfl, c, rfl, for_seq hC (fun i σ H' => ∃ pl, σ = [some (.int (n : Int)), some (.ref b), some (.ref c), some (.ref D), t, h, some (.ref sp), pl, none, none, none, none] ∧
      SfH H H' D sp qs n es (fun v => if v ∈ S.take i then some 0 else none)) ⟨none, rfl, ?_⟩ ?_ ?_ ?_⟩
    · have e0 : (fun v => if v ∈ S.take 0 then some 0 else none) = (fun _ : Nat => (none : Option Nat)) := by
        funext v
        simp
      rw [e0]
      exact s0
    · rintro i σ H' _ ⟨pl, rfl, sf⟩
      exact sf.same
    · rintro i x σ H' hx ⟨pl, rfl, sf⟩
      obtain ⟨z, hz, rfl⟩ := getmap hx
      have hzn := hS z (List.mem_of_getElem? hz)
      refine ⟨_, rfl, _, rfl, sp, _, (z : Int), z, rfl, rfl, sf.hs, by rw [stV_len]; exact ixN_nat hzn, _, rfl, ?_⟩
      show SfH H (upd H' sp (.lst ((stV n _).set z (nV 0)))) D sp qs n es _
      rw [stV_set]
      have e1 : (fun v => if v = z then some 0 else if v ∈ S.take i then some 0 else none) = (fun v => if v ∈ S.take (i + 1) then some 0 else (none : Option Nat)) := by
        funext v
        rw [take_snoc_of hz]
        by_cases hv : v = z
        · simp [hv]
        · simp [hv]
      rw [e1]
      exact sf.upd_sp Nsp
    rintro σ H3 ⟨pl, rfl, sf3⟩
    rw [List.length_map, List.take_length] at sf3
    -- layer, count
    refine ⟨_, rfl, c, S.map nV, rfl, Same.sqx sf3.same hC, fun ly nly => ?_⟩
    have nq3 : ∀ {H' : Hp} {st : Nat → Option Nat}, SfH H H' D sp qs n es st → ∀ q ∈ qs, H' q ≠ none := fun s q m z => by
      obtain ⟨v, hv⟩ := List.getElem?_of_mem m
      rw [s.hA v q hv] at z
      cases z
    obtain ⟨Nly, nly2⟩ := sf3.newN (nq3 sf3) nly
    -- the layers
    refine ⟨fun m σ H' => ∃ (cc : Nat) (st : Nat → Option Nat) (lay : List Nat) (ly : Addr) (t h pl fr : Option V), σ = [some (.int (n : Int)), some (.ref b), some (.ref c), some (.ref D), t, h, some (.ref sp), pl, some (.ref ly), some (.int (cc : Int)), fr, none] ∧
      SfH H H' D sp qs n es st ∧ SfN H D sp qs ly ∧ ly ≠ sp ∧ H' ly = some (.lst (lay.map nV)) ∧ Bfs n es S cc st lay ∧ m = 2 * openN n st + (if lay = [] then 0 else 1),
      ⟨_, 0, _, S, ly, t, h, pl, none, rfl, sf3.upd_other Nly nly2, Nly, nly2, upd_same, Bfs.start hS, rfl⟩, ?_⟩
    rintro m σ H4 ⟨cc, st, lay, ly4, t4, h4, pl4, fr4, rfl, sf4, Nl4, nls, hly, bf, rfl⟩
    refine ⟨_, rfl, !(lay.map nV).isEmpty, .inl ⟨_, sql hly, rfl⟩, ?_⟩
    cases hlay : lay with
    | nil =>
      subst hlay
      refine iteF ⟨_, rfl, ?_⟩
      exact q sp H4 st sf4.same Nsp.new sf4.hs fun v hv => bf.done he hv
    | cons l0 lr =>
      rw [← hlay]
      have hne : lay ≠ [] := by rw [hlay]; exact List.cons_ne_nil _ _
      have e5 : (!(lay.map nV).isEmpty) = true := by rw [hlay]; rfl
      rw [e5]
      refine iteT ⟨_, fun σ' H' z => z, ?_⟩
      -- count += 1; fresh = []
      refine ⟨_, rfl, _, _, rfl, rfl, Nat.zero_le _, fun fr nfr => ?_⟩
      obtain ⟨Nfr, nfrs⟩ := sf4.newN (nq3 sf4) nfr
      have nfl : ly4 ≠ fr := ne_of_none hly nfr
      -- for place in layer
      refine ⟨_, rfl, ly4, rfl, ⟨_, sql (show (upd H4 fr (.lst [])) ly4 = _ by rw [upd_ne nfl]; exact hly)⟩, ?_⟩
      refine for_list (xs := lay.map nV) (fun i σ H' => ∃ (T fl : List Nat) (h pl : Option V), σ = [some (.int (n : Int)), some (.ref b), some (.ref c), some (.ref D), t4, h, some (.ref sp), pl, some (.ref ly4), some (.int ((cc : Int) + 1)), some (.ref fr), none] ∧
        T = (lay.take i).flatMap (adj es) ∧ SfH H H' D sp qs n es (nx cc st T) ∧ H' ly4 = some (.lst (lay.map nV)) ∧ H' fr = some (.lst (fl.map nV)) ∧ (∀ v, v ∈ fl ↔ v < n ∧ st v = none ∧ v ∈ T) ∧ fl.length + openN n (nx cc st T) ≤ openN n st)
        ⟨[], [], h4, pl4, rfl, rfl, by rw [nx_nil]; exact sf4.upd_other Nfr nfrs, by rw [upd_ne nfl]; exact hly, upd_same, fun v => by simp, by rw [nx_nil]; simp⟩ ?_ ?_ ?_
      · rintro i σ H' _ ⟨T, fl, h, pl, rfl, _, _, hl5, _⟩
        exact sql hl5
      · rintro i x σ H' hx ⟨T, fl, h, pl, rfl, rfl, sf5, hl5, hf5, hfl, hfn⟩
        obtain ⟨z, hz, rfl⟩ := getmap hx
        have hzn : z < n := ((bf.lay z).mp (List.mem_of_getElem? hz)).1
        have hqz : qs[z]? = some qs[z] := List.getElem?_eq_getElem (by rw [hql]; exact hzn)
        refine ⟨_, rfl, _, rfl, D, _, (z : Int), .ref qs[z], rfl, rfl, sql sf5.hD, atI_nat (by rw [List.getElem?_map, hqz]; rfl), qs[z], rfl, ⟨_, sql (sf5.hA z _ hqz)⟩, ?_⟩
        refine for_list (xs := (adj es z).map nV) (fun j σ H' => ∃ (T fl : List Nat) (h : Option V), σ = [some (.int (n : Int)), some (.ref b), some (.ref c), some (.ref D), t4, h, some (.ref sp), some (nV z), some (.ref ly4), some (.int ((cc : Int) + 1)), some (.ref fr), none] ∧
          T = (lay.take i).flatMap (adj es) ++ (adj es z).take j ∧ SfH H H' D sp qs n es (nx cc st T) ∧ H' ly4 = some (.lst (lay.map nV)) ∧ H' fr = some (.lst (fl.map nV)) ∧ (∀ v, v ∈ fl ↔ v < n ∧ st v = none ∧ v ∈ T) ∧ fl.length + openN n (nx cc st T) ≤ openN n st)
          ⟨_, fl, h, rfl, rfl, by rw [List.take_zero, List.append_nil]; exact sf5, hl5, hf5, by rw [List.take_zero, List.append_nil]; exact hfl, by rw [List.take_zero, List.append_nil]; exact hfn⟩ ?_ ?_ ?_
        · rintro j σ H' _ ⟨T, fl, h, rfl, _, sf6, _⟩
          exact sql (sf6.hA z _ hqz)
        · rintro j x σ H' hx ⟨T, fl, h, rfl, rfl, sf6, hl6, hf6, hfl6, hfn6⟩
          obtain ⟨y, hy, rfl⟩ := getmap hx
          have hyn : y < n := (he _ (mem_adj.mp (List.mem_of_getElem? hy))).2
          generalize hT : (lay.take i).flatMap (adj es) ++ (adj es z).take j = T at sf6 hfl6 hfn6
          have hT2 : (lay.take i).flatMap (adj es) ++ (adj es z).take (j + 1) = T ++ [y] := by rw [take_snoc_of hy, ← List.append_assoc, hT]
          refine ⟨_, rfl, _, rfl, sp, _, (y : Int), oV (nx cc st T y), rfl, rfl, sql sf6.hs, atI_nat (stV_get hyn), rfl, _, rfl, ?_⟩
          cases e7 : nx cc st T y with
          | some d =>
            refine iteF ⟨_, fl, _, rfl, hT2.symm, ?_, hl6, hf6, fun v => ?_, ?_⟩
            · rw [nx_old e7]; exact sf6
            · rw [hfl6 v]
              constructor
              · rintro ⟨h1, h2, h3⟩
                exact ⟨h1, h2, List.mem_append_left _ h3⟩
              · rintro ⟨h1, h2, h3⟩
                refine ⟨h1, h2, ?_⟩
                rcases List.mem_append.mp h3 with h3 | h3
                · exact h3
                · rw [List.mem_singleton.mp h3] at h2 ⊢
                  by_cases hm : y ∈ T
                  · exact hm
                  · rw [nx_none.mpr ⟨h2, hm⟩] at e7
                    cases e7
            · rw [nx_old e7]; exact hfn6
          | none =>
            obtain ⟨e8, e9⟩ := nx_none.mp e7
            refine iteT ?_
            have hcc : (V.int ((cc : Int) + 1)) = nV (cc + 1) := rfl
            refine ⟨_, rfl, _, rfl, _, rfl, sp, _, (y : Int), y, rfl, rfl, sf6.hs, by rw [stV_len]; exact ixN_nat hyn, ?_⟩
            have hfr : ∀ o, (upd H' sp o) fr = some (.lst (fl.map nV)) := fun o => by rw [upd_ne nfrs]; exact hf6
            refine ⟨_, rfl, .inl ⟨rfl, _, sql (hfr _)⟩, _, rfl, fr, _, _, rfl, rfl, hfr _, ?_, ?_⟩
            · have h1 : openN n st ≤ n := by
                unfold openN
                have := List.countP_le_length (p := fun v => (st v).isNone) (l := List.range n)
                rw [List.length_range] at this
                exact this
              rw [List.length_map]
              exact small_lt (by omega)
            · rw [hcc, stV_set, nx_new e7]
              refine ⟨_, fl ++ [y], _, rfl, hT2.symm, (sf6.upd_sp Nsp).upd_other Nfr nfrs, ?_, ?_, fun v => ?_, ?_⟩
              · rw [upd_ne nfl, upd_ne nls]; exact hl6
              · rw [upd_same, List.map_append]; rfl
              · rw [List.mem_append, hfl6 v, List.mem_singleton, List.mem_append, List.mem_singleton]
                constructor
                · rintro (⟨h1, h2, h3⟩ | rfl)
                  · exact ⟨h1, h2, .inl h3⟩
                  · exact ⟨hyn, e8, .inr rfl⟩
                · rintro ⟨h1, h2, h3 | rfl⟩
                  · exact .inl ⟨h1, h2, h3⟩
                  · exact .inr rfl
              · have h9 : openN n (nx cc st (T ++ [y])) < openN n (nx cc st T) := openN_lt (fun v hv => by
                  obtain ⟨a1, a2⟩ := nx_none.mp hv
                  exact nx_none.mpr ⟨a1, fun z => a2 (List.mem_append_left _ z)⟩) hyn e7 (fun z => (nx_none.mp z).2 (by simp))
                rw [List.length_append, List.length_singleton]
                omega
        · rintro σ H' ⟨T, fl, h, rfl, rfl, sf6, hl6, hf6, hfl6, hfn6⟩
          rw [List.length_map, List.take_length] at sf6 hfl6 hfn6
          have hT3 : (lay.take (i + 1)).flatMap (adj es) = (lay.take i).flatMap (adj es) ++ adj es z := by
            rw [take_snoc_of hz, List.flatMap_append]
            simp
          exact ⟨_, fl, h, _, rfl, rfl, by rw [hT3]; exact sf6, hl6, hf6, by rw [hT3]; exact hfl6, by rw [hT3]; exact hfn6⟩
      · rintro σ H' ⟨T, fl, h, pl, rfl, rfl, sf5, hl5, hf5, hfl, hfn⟩
        rw [List.length_map, List.take_length] at sf5 hfl hfn
        refine ⟨_, rfl, _, ?_, cc + 1, nx cc st (lay.flatMap (adj es)), fl, fr, _, h, pl, _, rfl, sf5, Nfr, nfrs, hf5, ?_, rfl⟩
        · have h1 : (if lay = [] then 0 else 1) = 1 := if_neg hne
          rw [h1]
          cases fl with
          | nil => simp only [List.length_nil, if_pos] at hfn ⊢; omega
          | cons f0 fr0 => rw [List.length_cons] at hfn; rw [if_neg (List.cons_ne_nil _ _)]; omega
        · refine bf.next he hS (fun v => ?_) hfl
          rw [List.mem_flatMap]
          constructor
          · rintro ⟨u, hu, hv⟩
            exact ⟨u, hu, mem_adj.mp hv⟩
          · rintro ⟨u, hu, hv⟩
            exact ⟨u, hu, mem_adj.mpr hv⟩

abbrev s_leads_to_all : Stmt := topS 14
abbrev sl_leads_to_all : List Str := ["many", "pairs", "places", "steps", "place"]
theorem sc_leads_to_all : FnScope ["many", "pairs", "places", "steps", "place"] ["many", "pairs", "places"] (defScope s_leads_to_all) := ⟨rfl, rfl, rfl, by decide +kernel, rfl, by decide +kernel, by decide +kernel⟩
def spLeads (K : PySem.W.Frag) : Sp := fun vs H Q _ => ∃ (n : Nat) (b c : Addr) (pvs : List V) (es : Es) (gs : List Nat), vs = [.int (n : Int), .ref b, .ref c] ∧ SqX K H b pvs ∧ Prs K H pvs es ∧ SqT K H c (gs.map nV) ∧
  (∀ e ∈ es, e.1 < n ∧ e.2 < n) ∧ (∀ g ∈ gs, g < n) ∧ 0 < n ∧ n ≤ 1000 ∧ es.length ≤ 1000 ∧ gs.length ≤ 1000 ∧
  ∀ H' (ok : Bool), Same H H' → (ok = true ↔ ∀ g ∈ gs, Rch es [0] g) → Q (.bl ok) H'
theorem ok_leads_to_all (B : Bt mg) (h_steps_from : Has P w K mg base "steps_from" 1 ["many", "pairs", "sources"] (spSteps K)) (D0 : Df K mg "leads_to_all" s_leads_to_all ["many", "pairs", "places"]) : Has P w K mg base "leads_to_all" 2 ["many", "pairs", "places"] (spLeads K) := by
  refine D0.has fun f fd F => F.ok sc_leads_to_all (fun vs H Q E h => ?_) (fun cdv A outer s H vs Q E hr h => ?_)
  · obtain ⟨n, b, c, pvs, es, S, rfl, _⟩ := h
    rfl
  · obtain ⟨n, b, c, pvs, es, gs, rfl, hB, hP, hC, he, hg, h0, hn, hel, hgl, q⟩ := h
    refine ⟨_, (pss_cons (ps_set (i := 3) sc_leads_to_all.nd rfl (.inr rfl) (pcall h_steps_from hr (by decide) (by rfl) (pa_cons (pv 0) (pa_cons (pv 1) (pa_cons (pe_tup (pa_cons pe_int pa_nil)) pa_nil)))))
  (pss_one (ps_ret (pe_callB (k_all (K := K) rfl rfl) (by rfl) B.all bo_all (pa_cons (pe_lc (own := [("place", 4)]) (g := gName 4) rfl sc_leads_to_all.nd (k_pit (K := K) rfl (pv 2)) (blkOk_by (N := sl_leads_to_all) (sc := defScope s_leads_to_all) (by decide +kernel)) (fun _ _ _ _ _ => (pg_name (i := 4) sc_leads_to_all.nd rfl (.inl rfl))) (fun _ _ _ _ _ => pts_nil) (fun _ _ _ _ _ => (pe_cmpR op_notN (pe_ix (k_ixl (K := K) rfl) (pv 3) (pv 4) (fun _ _ => rfl)) pe_non (nomark _)))) pa_nil))))), ?_⟩
    refine ⟨_, rfl, _, rfl, by show 1 ≤ sizeLine; decide, fun t0 nt0 => ?_⟩
    have s1 := same_new (o := .tup [.int 0]) (Same.refl H) nt0
    refine ⟨n, b, t0, pvs, es, [0], rfl, Same.sqx s1 hB, hP.same s1, .inr (sqt upd_same), he, fun s hs => by rw [List.mem_singleton.mp hs]; exact h0, hn, hel, fun p H2 st s2 np hp hst => ?_⟩
    have s12 := s1.trans s2
    refine ⟨_, rfl, c, rfl, ⟨_, Same.sqt s12 hC⟩, fun D nD => ?_⟩
    refine lc_val walk_tup calm_at (fun i => (gs[i]?).bind fun g => some (V.bl (st g).isSome)) (by rw [List.length_map]; omega) nD (fun H3 s3 => Same.sqt s3 (Same.sqt s12 hC)) ?_ fun H3 s3 h3 => ?_
    · rintro i x H3 H4 hi s3 ⟨rfl, hx⟩ Kt kt
      obtain ⟨g, hgi, rfl⟩ := getmap hx
      have hgn := hg g (List.mem_of_getElem? hgi)
      refine ⟨rfl, tyes ?_⟩
      refine iteT ?_
      refine ⟨_, rfl, _, rfl, p, _, (g : Int), oV (st g), rfl, rfl, sql (s3 _ _ hp), atI_nat (stV_get hgn), rfl, ?_⟩
      have k0 := kt _ (Same.refl _)
      rw [hgi] at k0
      have e : (!decide (oV (st g) = .non)) = (st g).isSome := by
        cases st g with
        | none => rfl
        | some d => rfl
      rw [e]
      exact k0
    · rw [List.length_map, fm_range, fm_some] at h3
      refine ⟨D, gs.map fun g => (st g).isSome, rfl, sql (by rw [h3, List.map_map]; rfl), ?_⟩
      refine q H3 _ (s12.trans s3) ?_
      rw [List.all_eq_true]
      constructor
      · intro h g hgm
        have h1 := h _ (List.mem_map.mpr ⟨g, hgm, rfl⟩)
        have h2 := (hst g (hg g hgm)).2
        refine Classical.byContradiction fun z => ?_
        rw [h2.mpr z] at h1
        cases h1
      · intro h x hx
        obtain ⟨g, hgm, rfl⟩ := List.mem_map.mp hx
        have h2 := (hst g (hg g hgm)).2
        cases e : st g with
        | none => exact absurd (h g hgm) (h2.mp e)
        | some d => rfl

abbrev s_Map_many : Stmt := inClass (topS 19) 1
abbrev sl_Map_many : List Str := ["self"]
theorem sc_Map_many : FnScope ["self"] ["self"] (defScope s_Map_many) := ⟨rfl, rfl, rfl, by decide +kernel, rfl, by decide +kernel, by decide +kernel⟩
/-- what the top says of the class Map and its constants -/
structure MapC (K : PySem.W.Frag) (mg : Str → Option Value) (CMap : Addr) : Prop where
  cl : Cls K CMap
  n1 : NoAttr K CMap "_many"
  n2 : NoAttr K CMap "_arrows"
  n3 : NoAttr K CMap "_goals"
  mgMap : mg "Map" = some (.ref CMap)
  FEWEST_PLACES : ∃ t, mg "FEWEST_PLACES" = some (.int 2 t)
  MOST_PLACES : ∃ t, mg "MOST_PLACES" = some (.int 40 t)
  MOST_ARROWS : ∃ t, mg "MOST_ARROWS" = some (.int 60 t)
def mapF (n : Nat) (a c : Addr) : List (Str × V) := putF "_goals" (.ref c) (putF "_arrows" (.ref a) (putF "_many" (nV n) []))
theorem kn1 : ¬ (("_many" : Str) = "_arrows") := by decide +kernel
theorem kn2 : ¬ (("_many" : Str) = "_goals") := by decide +kernel
theorem kn3 : ¬ (("_arrows" : Str) = "_goals") := by decide +kernel
theorem mapF_m (n : Nat) (a c : Addr) : (mapF n a c).lookup ("_many" : Str) = some (nV n) := by
  unfold mapF
  rw [lookup_putF, if_neg kn2, lookup_putF, if_neg kn1, lookup_putF, if_pos rfl]
theorem mapF_a (n : Nat) (a c : Addr) : (mapF n a c).lookup ("_arrows" : Str) = some (.ref a) := by
  unfold mapF
  rw [lookup_putF, if_neg kn3, lookup_putF, if_pos rfl]
theorem mapF_g (n : Nat) (a c : Addr) : (mapF n a c).lookup ("_goals" : Str) = some (.ref c) := by
  unfold mapF
  rw [lookup_putF, if_pos rfl]
theorem mapF_no (n : Nat) (a c : Addr) {m : Str} (h1 : ¬ m = "_goals") (h2 : ¬ m = "_arrows") (h3 : ¬ m = "_many") : (mapF n a c).lookup m = none := by
  unfold mapF
  rw [lookup_putF, if_neg h1, lookup_putF, if_neg h2, lookup_putF, if_neg h3]
  rfl
theorem mapF_many (n : Nat) (a c : Addr) : (mapF n a c).lookup ("many" : Str) = none := mapF_no n a c (by decide +kernel) (by decide +kernel) (by decide +kernel)
theorem mapF_arrows (n : Nat) (a c : Addr) : (mapF n a c).lookup ("arrows" : Str) = none := mapF_no n a c (by decide +kernel) (by decide +kernel) (by decide +kernel)
theorem mapF_goals (n : Nat) (a c : Addr) : (mapF n a c).lookup ("goals" : Str) = none := mapF_no n a c (by decide +kernel) (by decide +kernel) (by decide +kernel)
/-- a Map stands at p: n places, arrows at a (the values pvs), goals at c -/
structure MapAt (K : PySem.W.Frag) (C : Addr) (H : Hp) (p : Addr) (n : Nat) (a : Addr) (pvs : List V) (c : Addr) (gs : List Nat) : Prop where
  ob : ∃ dx, H p = some (.ins C dx (mapF n a c))
  ar : SqT K H a pvs
  go : SqT K H c (gs.map nV)
theorem MapAt.same {K : PySem.W.Frag} {C : Addr} {H H' : Hp} {p : Addr} {n : Nat} {a : Addr} {pvs : List V} {c : Addr} {gs : List Nat} (m : MapAt K C H p n a pvs c gs) (s : Same H H') : MapAt K C H' p n a pvs c gs :=
  ⟨m.ob.elim fun dx h => ⟨dx, s _ _ h⟩, Same.sqt s m.ar, Same.sqt s m.go⟩
def spMany (K : PySem.W.Frag) (C : Addr) : Sp := fun vs H Q _ => ∃ p n a pvs c gs, vs = [.ref p] ∧ MapAt K C H p n a pvs c gs ∧ Q (nV n) H
theorem ok_many {CMap : Addr} (C : MapC K mg CMap) (D0 : DfM K CMap "many" "Map.many" s_Map_many ["self"]) : HasM P w K mg base CMap "many" 1 ["self"] (spMany K CMap) := by
  refine D0.has fun f fd F => F.ok sc_Map_many (fun vs H Q E h => ?_) (fun cdv A outer s H vs Q E hr h => ?_)
  · obtain ⟨p, n, a, pvs, c, gs, rfl, _⟩ := h
    rfl
  · obtain ⟨p, n, a, pvs, c, gs, rfl, m, q⟩ := h
    obtain ⟨dx, hp⟩ := m.ob
    refine ⟨_, (pss_one (ps_ret (k_fld (K := K) rfl (pv 0) rfl))), ?_⟩
    exact ⟨_, rfl, p, CMap, dx, _, _, rfl, hp, C.cl, C.n1, mapF_m n a c, q⟩

abbrev s_Map_arrows : Stmt := inClass (topS 19) 2
abbrev sl_Map_arrows : List Str := ["self"]
theorem sc_Map_arrows : FnScope ["self"] ["self"] (defScope s_Map_arrows) := ⟨rfl, rfl, rfl, by decide +kernel, rfl, by decide +kernel, by decide +kernel⟩
def spArrows (K : PySem.W.Frag) (C : Addr) : Sp := fun vs H Q _ => ∃ p n a pvs c gs, vs = [.ref p] ∧ MapAt K C H p n a pvs c gs ∧ Q (.ref a) H
theorem ok_arrows {CMap : Addr} (C : MapC K mg CMap) (D0 : DfM K CMap "arrows" "Map.arrows" s_Map_arrows ["self"]) : HasM P w K mg base CMap "arrows" 1 ["self"] (spArrows K CMap) := by
  refine D0.has fun f fd F => F.ok sc_Map_arrows (fun vs H Q E h => ?_) (fun cdv A outer s H vs Q E hr h => ?_)
  · obtain ⟨p, n, a, pvs, c, gs, rfl, _⟩ := h
    rfl
  · obtain ⟨p, n, a, pvs, c, gs, rfl, m, q⟩ := h
    obtain ⟨dx, hp⟩ := m.ob
    refine ⟨_, (pss_one (ps_ret (k_fld (K := K) rfl (pv 0) rfl))), ?_⟩
    exact ⟨_, rfl, p, CMap, dx, _, _, rfl, hp, C.cl, C.n2, mapF_a n a c, q⟩

abbrev s_Map_goals : Stmt := inClass (topS 19) 3
abbrev sl_Map_goals : List Str := ["self"]
theorem sc_Map_goals : FnScope ["self"] ["self"] (defScope s_Map_goals) := ⟨rfl, rfl, rfl, by decide +kernel, rfl, by decide +kernel, by decide +kernel⟩
def spGoals (K : PySem.W.Frag) (C : Addr) : Sp := fun vs H Q _ => ∃ p n a pvs c gs, vs = [.ref p] ∧ MapAt K C H p n a pvs c gs ∧ Q (.ref c) H
theorem ok_goals {CMap : Addr} (C : MapC K mg CMap) (D0 : DfM K CMap "goals" "Map.goals" s_Map_goals ["self"]) : HasM P w K mg base CMap "goals" 1 ["self"] (spGoals K CMap) := by
  refine D0.has fun f fd F => F.ok sc_Map_goals (fun vs H Q E h => ?_) (fun cdv A outer s H vs Q E hr h => ?_)
  · obtain ⟨p, n, a, pvs, c, gs, rfl, _⟩ := h
    rfl
  · obtain ⟨p, n, a, pvs, c, gs, rfl, m, q⟩ := h
    obtain ⟨dx, hp⟩ := m.ob
    refine ⟨_, (pss_one (ps_ret (k_fld (K := K) rfl (pv 0) rfl))), ?_⟩
    exact ⟨_, rfl, p, CMap, dx, _, _, rfl, hp, C.cl, C.n3, mapF_g n a c, q⟩

abbrev s_is_pair : Stmt := topS 22
abbrev sl_is_pair : List Str := ["thing", "many", "tail", "head"]
theorem sc_is_pair : FnScope ["thing", "many", "tail", "head"] ["thing", "many"] (defScope s_is_pair) := ⟨rfl, rfl, rfl, by decide +kernel, rfl, by decide +kernel, by decide +kernel⟩
def pairV (m : Int) : List V → Bool
  | [x, y] => idxV x m && (idxV y m && !decide (x = y))
  | _ => false
/-- whether the value x is a pair for m: b -/
def PairRes (K : PySem.W.Frag) (H : Hp) (m : Int) (x : V) (b : Bool) : Prop :=
  (∃ a ys, x = .ref a ∧ SqT K H a ys ∧ (∀ y ∈ ys, ∃ s, Kn K H y s) ∧ b = pairV m ys) ∨ (∃ s, Kn K H x s ∧ (s == "tuple") = false ∧ b = false)
def spIsPair (K : PySem.W.Frag) : Sp := fun vs H Q _ => ∃ (v : V) (m : Int) (b : Bool), vs = [v, .int m] ∧ PairRes K H m v b ∧ Q (.bl b) H
theorem pairV_ne {m : Int} {ys : List V} (h : ys.length ≠ 2) : pairV m ys = false := by
  match ys, h with
  | [], _ => rfl
  | [_], _ => rfl
  | [_, _], h => exact absurd rfl h
  | _ :: _ :: _ :: _, _ => rfl
theorem ok_is_pair (B : Bt mg) (h_is_index : Has P w K mg base "is_index" 2 ["thing", "many"] (spIsIndex K)) (D0 : Df K mg "is_pair" s_is_pair ["thing", "many"]) : Has P w K mg base "is_pair" 3 ["thing", "many"] (spIsPair K) := by
  refine D0.has fun f fd F => F.ok sc_is_pair (fun vs H Q E h => ?_) (fun cdv A outer s H vs Q E hr h => ?_)
  · obtain ⟨v, m, b, rfl, _⟩ := h
    rfl
  · obtain ⟨v, m, b, rfl, h, q⟩ := h
    refine ⟨_, (pss_cons (ps_if (PW.pt (pw_or (pt_not (pt_val (pe_callB (k_isi (K := K) rfl) (by rfl) B.isinstance bo_isinstance (pa_cons (pv 0) (pa_cons (pe_bltn (v := .ty "tuple") (by rfl) B.tuple bo_tuple rfl) pa_nil))))) (pw_or1 (pt_cmpR op_ne (pe_callB (k_len (K := K) rfl) (by rfl) B.len bo_len (pa_cons (pv 0) pa_nil)) pe_int (nomark _)))))
    (pss_one (ps_ret pe_bl))
    pss_nil)
  (pss_cons (ps_asg (pv 0) (pg_tup rfl (pgs_cons (pg_name (i := 2) sc_is_pair.nd rfl (.inl rfl)) (pgs_cons (pg_name (i := 3) sc_is_pair.nd rfl (.inl rfl)) pgs_nil))))
  (pss_one (ps_ret (pe_and (pcall h_is_index hr (by decide) (by rfl) (pa_cons (pv 2) (pa_cons (pv 1) pa_nil))) (pe_and (pcall h_is_index hr (by decide) (by rfl) (pa_cons (pv 3) (pa_cons (pv 1) pa_nil))) (pe_one (pe_cmpR (k_neD (K := K) rfl hr.units) (pv 2) (pv 3) (nomark _))))))))), ?_⟩
    rcases h with ⟨a, ys, rfl, hS, hk, rfl⟩ | ⟨s, hv, hs, rfl⟩
    · refine ⟨_, rfl, _, .ty "tuple", _, _, _, rfl, .ty "tuple", (kn_of_tup hS).ty, kit_tuple (kn_of_tup hS).mem, _, rfl, iteF ?_⟩
      refine ⟨_, rfl, a, ys, rfl, .inr hS, rfl, _, rfl, ?_⟩
      by_cases h2 : ys.length = 2
      · rw [h2]
        refine iteF ?_
        match ys, h2, hS, hk, q with
        | [x, y], _, hS, hk, q =>
          obtain ⟨sx, kx⟩ := hk x (by simp)
          obtain ⟨sy, ky⟩ := hk y (by simp)
          refine ⟨_, rfl, a, _, rfl, hS, rfl, _, _, rfl, _, _, rfl, rfl, ?_⟩
          refine ⟨x, rfl, _, rfl, x, sx, m, rfl, kx, _, rfl, ?_⟩
          have q : Q (.bl (idxV x m && (idxV y m && !decide (x = y)))) H := q
          cases h3 : idxV x m with
          | false =>
            rw [h3, Bool.false_and] at q
            exact iteF q
          | true =>
            rw [h3, Bool.true_and] at q
            refine iteT ⟨y, rfl, _, rfl, y, sy, m, rfl, ky, _, rfl, ?_⟩
            cases h4 : idxV y m with
            | false =>
              rw [h4, Bool.false_and] at q
              exact iteF q
            | true =>
              rw [h4, Bool.true_and] at q
              refine iteT ?_
              match x, y, h3, h4, q with
              | .int i, .int j, _, _, q =>
                refine ⟨_, rfl, _, rfl, .int i, .int j, .int i, .int j, rfl, rfl, ?_⟩
                have e : (!PyData.eqv (.int i) (.int j)) = !decide (V.int i = V.int j) := by
                  congr 1
                  by_cases h5 : i = j
                  · subst h5
                    simp [PyData.eqv]
                  · have h6 : ¬ V.int i = V.int j := fun z => h5 (by cases z; rfl)
                    simp [PyData.eqv, h5]
                rw [e]
                exact q
      · have e : (!decide (V.int (ys.length : Int) = V.int 2)) = true := by
          have : ¬ V.int (ys.length : Int) = V.int 2 := fun z => h2 (by injection z with z; omega)
          simp [this]
        rw [e]
        refine iteT ?_
        rw [pairV_ne h2] at q
        exact q
    · refine ⟨_, rfl, _, .ty "tuple", _, _, _, rfl, .ty "tuple", hv.ty, kit_tuple hv.mem, _, rfl, ?_⟩
      rw [hs]
      exact iteT (iteT q)

abbrev s_check_pairs : Stmt := topS 21
abbrev sl_check_pairs : List Str := ["many", "pairs", "most", "pair"]
theorem sc_check_pairs : FnScope ["many", "pairs", "most", "pair"] ["many", "pairs", "most"] (defScope s_check_pairs) := ⟨rfl, rfl, rfl, by decide +kernel, rfl, by decide +kernel, by decide +kernel⟩
/-- parts of a map but the goals, all right -/
structure GoodPairs (n : Nat) (es : Es) (m : Nat) : Prop where
  n2 : 2 ≤ n
  n40 : n ≤ 40
  lm : es.length ≤ m
  ok : ∀ e ∈ es, e.1 < n ∧ e.2 < n ∧ e.1 ≠ e.2
def spCheckPairs (K : PySem.W.Frag) : Sp := fun vs H Q _ => ∃ (n : Nat) (a : Addr) (pvs : List V) (es : Es) (m : Nat), vs = [.int (n : Int), .ref a, .int (m : Int)] ∧ SqT K H a pvs ∧ Prs K H pvs es ∧ GoodPairs n es m ∧ m ≤ 60 ∧ ∀ H', Same H H' → Q .non H'
theorem TyX_same {K : PySem.W.Frag} {H H' : Hp} {v : V} {t : Value} (h : TyX K H v t) (s : Same H H') : TyX K H' v t := by
  cases h with
  | base b => cases b with
    | non => exact .base .non
    | bl x => exact .base (.bl x)
    | int i => exact .base (.int i)
    | str x => exact .base (.str x)
    | flt x => exact .base (.flt x)
    | lst e => exact .base (.lst (s _ _ e))
    | frz e => exact .base (.frz (s _ _ e))
    | tup e => exact .base (.tup (s _ _ e))
    | dK e => exact .base (.dK (s _ _ e))
    | dT e => exact .base (.dT (s _ _ e))
    | ins e a b c d f => exact .base (.ins (s _ _ e) a b c d f)
  | byt b => exact .byt b
  | set e => exact .set (s _ _ e)
  | kList a b => exact .kList a b
  | kTuple a b => exact .kTuple a b
  | kDict a b => exact .kDict a b
  | fTuple e => exact .fTuple (s _ _ e)
  | fDict e => exact .fDict (s _ _ e)
theorem Kn.same {K : PySem.W.Frag} {H H' : Hp} {v : V} {t : String} (h : Kn K H v t) (s : Same H H') : Kn K H' v t := ⟨TyX_same h.ty s, h.mem⟩
theorem PairRes.same {K : PySem.W.Frag} {H H' : Hp} {m : Int} {v : V} {b : Bool} (h : PairRes K H m v b) (s : Same H H') : PairRes K H' m v b := by
  rcases h with ⟨a, ys, e, h1, h2, h3⟩ | ⟨t, h1, h2⟩
  · exact .inl ⟨a, ys, e, Same.sqt s h1, fun y hy => (h2 y hy).elim fun t k => ⟨t, k.same s⟩, h3⟩
  · exact .inr ⟨t, h1.same s, h2⟩
theorem pairRes_of {K : PySem.W.Frag} {H : Hp} {n : Nat} {v : V} {e : Nat × Nat} (h : PairAt K H v e) (h1 : e.1 < n) (h2 : e.2 < n) (h3 : e.1 ≠ e.2) : PairRes K H (n : Int) v true := by
  obtain ⟨t, rfl, ht⟩ := h
  refine .inl ⟨t, _, rfl, ht, fun y hy => ?_, ?_⟩
  · simp only [List.mem_cons, List.not_mem_nil, or_false] at hy
    rcases hy with rfl | rfl <;> exact ⟨"int", kn_of_int⟩
  · show true = ((decide (0 ≤ (e.1 : Int)) && decide ((e.1 : Int) < (n : Int))) && ((decide (0 ≤ (e.2 : Int)) && decide ((e.2 : Int) < (n : Int))) && !decide (nV e.1 = nV e.2)))
    have h4 : ¬ nV e.1 = nV e.2 := fun z => by
      have z' : V.int (e.1 : Int) = V.int (e.2 : Int) := z
      injection z' with z'
      exact h3 (by omega)
    simp only [h4, decide_false, Bool.not_false, Bool.and_true]
    symm
    simp only [Bool.and_eq_true, decide_eq_true_eq]
    omega
theorem ok_check_pairs {CMap : Addr} (B : Bt mg) (C : MapC K mg CMap) (h_is_integer : Has P w K mg base "is_integer" 1 ["thing"] (spIsInteger K)) (h_is_pair : Has P w K mg base "is_pair" 3 ["thing", "many"] (spIsPair K)) (D0 : Df K mg "check_pairs" s_check_pairs ["many", "pairs", "most"]) : Has P w K mg base "check_pairs" 4 ["many", "pairs", "most"] (spCheckPairs K) := by
  refine D0.has fun f fd F => F.ok sc_check_pairs (fun vs H Q E h => ?_) (fun cdv A outer s H vs Q E hr h => ?_)
  · obtain ⟨n, a, pvs, es, m, rfl, _⟩ := h
    rfl
  · obtain ⟨n, a, pvs, es, m, rfl, hA, hP, g, hm, q⟩ := h
    refine ⟨_, (pss_cons (ps_if (PW.pt (pw_or (pt_not (pt_val (pcall h_is_integer hr (by decide) (by rfl) (pa_cons (pv 0) pa_nil)))) (pw_or1 (pt_not (pt_chain op_le op_le (pe_glob (v := .int 2) (by rfl) C.FEWEST_PLACES.choose_spec ⟨_, rfl⟩) (pv 0) (pe_glob (v := .int 40) (by rfl) C.MOST_PLACES.choose_spec ⟨_, rfl⟩))))))
    (pss_one ps_never)
    pss_nil)
  (pss_cons (ps_if (PW.pt (pw_or (pt_not (pt_val (pe_callB (k_isi (K := K) rfl) (by rfl) B.isinstance bo_isinstance (pa_cons (pv 1) (pa_cons (pe_bltn (v := .ty "tuple") (by rfl) B.tuple bo_tuple rfl) pa_nil))))) (pw_or1 (pt_cmpR op_gt (pe_callB (k_len (K := K) rfl) (by rfl) B.len bo_len (pa_cons (pv 1) pa_nil)) (pv 2) (nomark _)))))
    (pss_one ps_never)
    pss_nil)
  (pss_one (ps_if (pt_not (pt_val (pe_callB (k_all (K := K) rfl rfl) (by rfl) B.all bo_all (pa_cons (pe_lc (own := [("pair", 3)]) (g := gName 3) rfl sc_check_pairs.nd (k_pit (K := K) rfl (pv 1)) (blkOk_by (N := sl_check_pairs) (sc := defScope s_check_pairs) (by decide +kernel)) (fun _ _ _ _ _ => (pg_name (i := 3) sc_check_pairs.nd rfl (.inl rfl))) (fun _ _ _ _ _ => pts_nil) (fun _ _ _ _ _ => (pcall h_is_pair hr (by decide) (by rfl) (pa_cons (pv 3) (pa_cons (pv 0) pa_nil))))) pa_nil))))
    (pss_one ps_never)
    pss_nil)))), ?_⟩
    have gn2 := g.n2
    have gn40 := g.n40
    have glm := g.lm
    have hl := hP.len
    refine ⟨_, rfl, .int (n : Int), "int", rfl, kn_of_int, _, rfl, iteF ?_⟩
    refine ⟨_, rfl, _, _, rfl, rfl, _, rfl, ?_⟩
    rw [decide_eq_true (show (2 : Int) ≤ (n : Int) by omega)]
    refine iteT ⟨_, _, rfl, rfl, _, rfl, ?_⟩
    rw [decide_eq_true (show (n : Int) ≤ (40 : Int) by omega)]
    refine iteF ?_
    refine ⟨_, rfl, _, .ty "tuple", _, _, _, rfl, .ty "tuple", (kn_of_tup hA).ty, kit_tuple (kn_of_tup hA).mem, _, rfl, iteF ?_⟩
    refine ⟨_, rfl, a, pvs, rfl, .inr hA, _, rfl, _, _, rfl, rfl, _, rfl, ?_⟩
    rw [decide_eq_false (show ¬ (m : Int) < (pvs.length : Int) by omega)]
    refine iteF ?_
    refine ⟨_, rfl, a, rfl, ⟨_, hA⟩, fun D nD => ?_⟩
    refine lc_val walk_tup calm_at (fun i => (pvs[i]?).bind fun _ => some (V.bl true)) (by omega) nD (fun H3 s3 => Same.sqt s3 hA) ?_ fun H3 s3 h3 => ?_
    · rintro i x H3 H4 hi s3 ⟨rfl, hx⟩ Kt kt
      refine ⟨rfl, tyes ?_⟩
      refine iteT ?_
      obtain ⟨e, hei, he⟩ := hP.get hx
      obtain ⟨h1, h2, h3⟩ := g.ok e (List.mem_of_getElem? hei)
      refine ⟨x, rfl, _, rfl, x, (n : Int), true, rfl, (pairRes_of he h1 h2 h3).same s3, ?_⟩
      have k0 := kt _ (Same.refl _)
      rw [hx] at k0
      exact k0
    · rw [fm_range, fm_some] at h3
      refine ⟨D, pvs.map fun _ => true, rfl, sql (by rw [List.map_map]; exact h3), _, rfl, ?_⟩
      rw [show (pvs.map fun _ => true).all id = true by rw [List.all_map]; exact List.all_eq_true.mpr fun _ _ => rfl]
      refine iteF ?_
      exact q H3 s3

abbrev s_are_goals : Stmt := topS 23
abbrev sl_are_goals : List Str := ["thing", "many", "arrows"]
theorem sc_are_goals : FnScope ["thing", "many", "arrows"] ["thing", "many", "arrows"] (defScope s_are_goals) := ⟨rfl, rfl, rfl, by decide +kernel, rfl, by decide +kernel, by decide +kernel⟩
/-- what judges the value v as goals: r told of a lot, or not one at all -/
def spAreGoals (K : PySem.W.Frag) : Sp := fun vs H Q _ => ∃ (v : V) (n : Nat) (b : Addr) (pvs : List V) (es : Es), vs = [v, .int (n : Int), .ref b] ∧ SqT K H b pvs ∧ Prs K H pvs es ∧ (∀ e ∈ es, e.1 < n ∧ e.2 < n) ∧ 0 < n ∧ n ≤ 1000 ∧ es.length ≤ 1000 ∧
  ((∃ c xs, v = .ref c ∧ SqT K H c xs ∧ xs.length ≤ 1000 ∧ (∀ x ∈ xs, ∃ s, Kn K H x s) ∧
    ∀ H' (ok : Bool), Same H H' → (ok = true ↔ ∃ gs : List Nat, xs = gs.map nV ∧ lotFrom (n : Int) (-1) xs = true ∧ gs ≠ [] ∧ (∀ g ∈ gs, g ≠ 0) ∧ ∀ g ∈ gs, Rch es [0] g) → Q (.bl ok) H') ∨
   (∃ s, Kn K H v s ∧ (s == "tuple") = false ∧ Q (.bl false) H))
theorem nV_inj {gs gs' : List Nat} (h : gs.map nV = gs'.map nV) : gs = gs' := by
  refine (List.map_inj_right fun x y e => ?_).mp h
  have e' : V.int (x : Int) = V.int (y : Int) := e
  injection e' with e'
  omega
theorem ok_are_goals (B : Bt mg) (h_is_lot : Has P w K mg base "is_lot" 3 ["thing", "many"] (spIsLot K)) (h_leads_to_all : Has P w K mg base "leads_to_all" 2 ["many", "pairs", "places"] (spLeads K))
    (D0 : Df K mg "are_goals" s_are_goals ["thing", "many", "arrows"]) : Has P w K mg base "are_goals" 4 ["thing", "many", "arrows"] (spAreGoals K) := by
  refine D0.has fun f fd F => F.ok sc_are_goals (fun vs H Q E h => ?_) (fun cdv A outer s H vs Q E hr h => ?_)
  · obtain ⟨v, n, b, pvs, es, rfl, _⟩ := h
    rfl
  · obtain ⟨v, n, b, pvs, es, rfl, hB, hP, he, h0, hn, hel, h⟩ := h
    refine ⟨_, (pss_cons (ps_if (PW.pt (pw_or (pt_not (pt_val (pcall h_is_lot hr (by decide) (by rfl) (pa_cons (pv 0) (pa_cons (pv 1) pa_nil))))) (pw_or (pt_cmpR op_eq (pe_callB (k_len (K := K) rfl) (by rfl) B.len bo_len (pa_cons (pv 0) pa_nil)) pe_int (nomark _)) (pw_or1 (pt_cmpR op_eq (pe_ix (k_ixt (K := K) rfl) (pv 0) pe_int (fun _ _ => rfl)) pe_int (nomark _))))))
    (pss_one (ps_ret pe_bl))
    pss_nil)
  (pss_one (ps_ret (pcall h_leads_to_all hr (by decide) (by rfl) (pa_cons (pv 1) (pa_cons (pv 2) (pa_cons (pv 0) pa_nil))))))), ?_⟩
    rcases h with ⟨c, xs, rfl, hS, hxl, hk, q⟩ | ⟨s, hv, hs, q⟩
    · refine ⟨_, rfl, _, rfl, .ref c, (n : Int), rfl, .inl ⟨c, xs, rfl, hS, hk, _, rfl, ?_⟩⟩
      cases hlf : lotFrom (n : Int) (-1) xs with
      | false =>
        refine iteT (iteT ?_)
        refine q H false (Same.refl H) ⟨fun z => Bool.noConfusion z, ?_⟩
        rintro ⟨gs, _, h2, _⟩
        rw [hlf] at h2
        cases h2
      | true =>
        obtain ⟨gs, rfl, hg, hpw⟩ := lot_nat (Int.le_refl _) hlf
        rw [List.length_map] at hxl
        refine iteF ?_
        refine ⟨_, rfl, c, _, rfl, .inr hS, rfl, _, rfl, ?_⟩
        cases gs with
        | nil =>
          refine iteT (iteT ?_)
          refine q H false (Same.refl H) ⟨fun z => Bool.noConfusion z, ?_⟩
          rintro ⟨gs', h1, _, h3, _⟩
          exact absurd (nV_inj h1).symm h3
        | cons g0 gr =>
          have e1 : decide (V.int (((g0 :: gr).map nV).length : Int) = V.int 0) = false := by
            have : ¬ V.int (((g0 :: gr).map nV).length : Int) = V.int 0 := fun z => by
              injection z with z
              rw [List.length_map, List.length_cons] at z
              omega
            simp only [this, decide_false]
          rw [e1]
          refine iteF ?_
          refine ⟨_, rfl, c, _, (0 : Nat), nV g0, rfl, rfl, hS, atI_nat rfl, rfl, _, rfl, ?_⟩
          by_cases hz : g0 = 0
          · subst hz
            refine iteT ?_
            refine q H false (Same.refl H) ⟨fun z => Bool.noConfusion z, ?_⟩
            rintro ⟨gs', h1, _, _, h4, _⟩
            exact absurd rfl (h4 0 (by rw [← nV_inj h1]; exact List.mem_cons_self))
          · have e2 : decide (nV g0 = V.int 0) = false := by
              have : ¬ nV g0 = V.int 0 := fun z => by
                have z' : V.int (g0 : Int) = V.int 0 := z
                injection z' with z'
                omega
              simp only [this, decide_false]
            rw [e2]
            refine iteF ?_
            refine ⟨_, rfl, _, rfl, _, rfl, n, b, c, pvs, es, g0 :: gr, rfl, .inr hB, hP, hS, he, fun g hm => ?_, h0, hn, hel, hxl, fun H' ok s' hok => q H' ok s' ?_⟩
            · have := (hg g hm).1
              omega
            · rw [hok]
              constructor
              · intro h
                refine ⟨g0 :: gr, rfl, hlf, List.cons_ne_nil _ _, fun g hm => ?_, h⟩
                rcases List.mem_cons.mp hm with rfl | hm
                · exact hz
                · have := List.rel_of_pairwise_cons hpw hm
                  omega
              · rintro ⟨gs', h1, _, _, _, h5⟩
                rw [nV_inj h1]
                exact h5
    · refine ⟨_, rfl, _, rfl, v, (n : Int), rfl, .inr ⟨s, hv, hs, _, rfl, iteT (iteT q)⟩⟩

abbrev s_Map___init__ : Stmt := inClass (topS 19) 0
abbrev sl_Map___init__ : List Str := ["self", "many", "arrows", "goals"]
theorem sc_Map___init__ : FnScope ["self", "many", "arrows", "goals"] ["self", "many", "arrows", "goals"] (defScope s_Map___init__) := ⟨rfl, rfl, rfl, by decide +kernel, rfl, by decide +kernel, by decide +kernel⟩
theorem pw_len {n : Nat} : ∀ {gs : List Nat} {l : Nat}, gs.Pairwise (· < ·) → (∀ g ∈ gs, l ≤ g ∧ g < n) → gs.length ≤ n - l
  | [], _, _, _ => Nat.zero_le _
  | g :: r, l, hp, h => by
    have h1 := h g List.mem_cons_self
    have h2 : r.length ≤ n - (g + 1) := pw_len hp.of_cons fun x hx => ⟨List.rel_of_pairwise_cons hp hx, (h x (List.mem_cons_of_mem _ hx)).2⟩
    rw [List.length_cons]
    omega
theorem putF_len (f : Str) (v : V) : ∀ fs : List (Str × V), (putF f v fs).length ≤ fs.length + 1
  | [] => Nat.le_refl _
  | (g, x) :: r => by
    unfold putF
    split
    · exact Nat.le_succ _
    · rw [List.length_cons, List.length_cons]
      exact Nat.succ_le_succ (putF_len f v r)
/-- parts that make a map -/
structure GoodMap (n : Nat) (es : Es) (gs : List Nat) : Prop where
  n2 : 2 ≤ n
  n40 : n ≤ 40
  l60 : es.length ≤ 60
  ok : ∀ e ∈ es, e.1 < n ∧ e.2 < n ∧ e.1 ≠ e.2
  ne : gs ≠ []
  pw : gs.Pairwise (· < ·)
  gl : ∀ g ∈ gs, g ≠ 0 ∧ g < n
  rch : ∀ g ∈ gs, Rch es [0] g
def spMapInit (K : PySem.W.Frag) (C : Addr) : Sp := fun vs H Q _ => ∃ (p dx : Addr) (n : Nat) (a : Addr) (pvs : List V) (es : Es) (c : Addr) (gs : List Nat), vs = [.ref p, .int (n : Int), .ref a, .ref c] ∧ H p = some (.ins C dx []) ∧
  SqT K H a pvs ∧ Prs K H pvs es ∧ SqT K H c (gs.map nV) ∧ GoodMap n es gs ∧ ∀ H', MapAt K C H' p n a pvs c gs → (∀ b o, b ≠ p → H b = some o → H' b = some o) → Q .non H'
theorem ok_Map_init {CMap : Addr} (C : MapC K mg CMap) (h_check_pairs : Has P w K mg base "check_pairs" 4 ["many", "pairs", "most"] (spCheckPairs K))
    (h_are_goals : Has P w K mg base "are_goals" 4 ["thing", "many", "arrows"] (spAreGoals K)) (D0 : DfI K CMap "Map.__init__" s_Map___init__ ["self", "many", "arrows", "goals"]) : HasI P w K mg base CMap 5 ["self", "many", "arrows", "goals"] (spMapInit K CMap) := by
  refine D0.has fun f fd F => F.ok sc_Map___init__ (fun vs H Q E h => ?_) (fun cdv A outer s H vs Q E hr h => ?_)
  · obtain ⟨p, dx, n, a, pvs, es, c, gs, rfl, _⟩ := h
    rfl
  · obtain ⟨p, dx, n, a, pvs, es, c, gs, rfl, hp, hA, hP, hG, g, q⟩ := h
    refine ⟨_, (pss_cons (ps_expr (pcall h_check_pairs hr (by decide) (by rfl) (pa_cons (pv 1) (pa_cons (pv 2) (pa_cons (pe_glob (v := .int 60) (by rfl) C.MOST_ARROWS.choose_spec ⟨_, rfl⟩) pa_nil)))))
  (pss_cons (ps_if (pt_not (pt_val (pcall h_are_goals hr (by decide) (by rfl) (pa_cons (pv 3) (pa_cons (pv 1) (pa_cons (pv 2) pa_nil))))))
    (pss_one ps_never)
    pss_nil)
  (pss_cons (ps_fld (pv 0) (pv 1) rfl)
  (pss_cons (ps_fld (pv 0) (pv 2) rfl)
  (pss_one (ps_fld (pv 0) (pv 3) rfl)))))), ?_⟩
    have gn2 := g.n2
    have gn40 := g.n40
    -- many, arrows
    refine ⟨_, rfl, _, rfl, n, a, pvs, es, 60, rfl, hA, hP, ⟨g.n2, g.n40, g.l60, g.ok⟩, Nat.le_refl _, fun H1 s1 => ?_⟩
    -- goals
    refine ⟨_, rfl, _, rfl, _, rfl, .ref c, n, a, pvs, es, rfl, Same.sqt s1 hA, hP.same s1, fun e he => ⟨(g.ok e he).1, (g.ok e he).2.1⟩, by omega, by omega, by have := g.l60; omega,
      .inl ⟨c, _, rfl, Same.sqt s1 hG, ?_, fun x hx => ?_, fun H2 ok s2 hok => ⟨_, rfl, ?_⟩⟩⟩
    · rw [List.length_map]
      have h1 : gs.length ≤ n - 0 := pw_len g.pw fun x hx => ⟨Nat.zero_le _, (g.gl x hx).2⟩
      omega
    · obtain ⟨z, _, rfl⟩ := List.mem_map.mp hx
      exact ⟨"int", kn_of_int⟩
    have e2 : ok = true := hok.mpr ⟨gs, rfl, lot_of (fun x hx => ⟨by have := (g.gl x hx).2; omega, by omega⟩) g.pw, g.ne, fun x hx => (g.gl x hx).1, g.rch⟩
    rw [e2]
    refine iteF ?_
    -- the fields
    have hp2 : H2 p = some (.ins CMap dx []) := s2 _ _ (s1 _ _ hp)
    refine ⟨_, rfl, _, rfl, p, CMap, dx, _, rfl, hp2, C.cl, C.n1, by show 0 < 1000; decide, ?_⟩
    refine ⟨_, rfl, _, rfl, p, CMap, dx, _, rfl, upd_same, C.cl, C.n2, by show 1 < 1000; decide, ?_⟩
    refine ⟨_, rfl, _, rfl, p, CMap, dx, _, rfl, upd_same, C.cl, C.n3, Nat.lt_of_le_of_lt (putF_len _ _ _) (by show 1 + 1 < 1000; decide), ?_⟩
    rw [upd_upd, upd_upd]
    have keep : ∀ b o, b ≠ p → H b = some o → upd H2 p (.ins CMap dx (mapF n a c)) b = some o := fun b o nb hb => by
      rw [upd_ne nb]
      exact s2 _ _ (s1 _ _ hb)
    have kt : ∀ {x : Addr} {xs : List V}, SqT K H x xs → SqT K (upd H2 p (.ins CMap dx (mapF n a c))) x xs := fun {x xs} h => by
      rcases h with (h | ⟨o, h⟩) | h
      · exact .inl (.inl (keep _ _ (ne_of h hp (by intro z; cases z)) h))
      · exact .inl (.inr ⟨o, keep _ _ (ne_of h hp (by intro z; cases z)) h⟩)
      · exact .inr h
    exact q _ ⟨⟨dx, upd_same⟩, kt hA, kt hG⟩ keep

abbrev s_goals_are_open : Stmt := topS 20
abbrev sl_goals_are_open : List Str := ["chart", "rotten"]
theorem sc_goals_are_open : FnScope ["chart", "rotten"] ["chart", "rotten"] (defScope s_goals_are_open) := ⟨rfl, rfl, rfl, by decide +kernel, rfl, by decide +kernel, by decide +kernel⟩
/-- a Map at p and what is right of it for every function -/
structure MapOk (K : PySem.W.Frag) (C : Addr) (H : Hp) (p : Addr) (n : Nat) (a : Addr) (pvs : List V) (es : Es) (c : Addr) (gs : List Nat) : Prop where
  at_ : MapAt K C H p n a pvs c gs
  pr : Prs K H pvs es
  n0 : 0 < n
  n1 : n ≤ 1000
  el : es.length ≤ 1000
  gn : gs.length ≤ 1000
  ok : ∀ e ∈ es, e.1 < n ∧ e.2 < n
  gl : ∀ g ∈ gs, g < n
theorem MapOk.same {K : PySem.W.Frag} {C : Addr} {H H' : Hp} {p : Addr} {n : Nat} {a : Addr} {pvs : List V} {es : Es} {c : Addr} {gs : List Nat} (m : MapOk K C H p n a pvs es c gs) (s : Same H H') : MapOk K C H' p n a pvs es c gs :=
  ⟨m.at_.same s, m.pr.same s, m.n0, m.n1, m.el, m.gn, m.ok, m.gl⟩
/-- the edges that are left without the arrows of the lot -/
abbrev left (es : Es) (ls : List Nat) : Es := leftV es ls
theorem mem_leftV {α : Type} {xs : List α} {ls : List Nat} {x : α} : x ∈ leftV xs ls ↔ ∃ i, xs[i]? = some x ∧ i ∉ ls := by
  unfold leftV
  rw [List.mem_filterMap]
  constructor
  · rintro ⟨i, _, h⟩
    by_cases hi : i ∈ ls
    · rw [if_pos hi] at h
      cases h
    · rw [if_neg hi] at h
      exact ⟨i, h, hi⟩
  · rintro ⟨i, h, hi⟩
    exact ⟨i, List.mem_range.mpr (List.getElem?_eq_some_iff.mp h).1, by rw [if_neg hi]; exact h⟩
theorem leftV_len {α : Type} {xs : List α} {ls : List Nat} : (leftV xs ls).length ≤ xs.length := by
  unfold leftV
  have := List.length_filterMap_le (fun i => if i ∈ ls then none else xs[i]?) (List.range xs.length)
  rw [List.length_range] at this
  exact this
theorem left_ok {es : Es} {ls : List Nat} {Pq : Nat × Nat → Prop} (h : ∀ e ∈ es, Pq e) : ∀ e ∈ left es ls, Pq e := fun e he => by
  obtain ⟨i, hi, _⟩ := mem_leftV.mp he
  exact h e (List.mem_of_getElem? hi)
theorem left_map {α β : Type} {f : Nat → Option α} {g : Nat → Option β} : ∀ {l : List Nat}, (∀ i ∈ l, (f i).isSome = (g i).isSome) →
    (l.filterMap f).length = (l.filterMap g).length ∧ ∀ (j : Nat) (x : α) (y : β), (l.filterMap f)[j]? = some x → (l.filterMap g)[j]? = some y → ∃ i ∈ l, f i = some x ∧ g i = some y
  | [], _ => ⟨rfl, fun j x y h _ => by simp at h⟩
  | i :: r, h => by
    obtain ⟨ih1, ih2⟩ := left_map (l := r) fun k hk => h k (List.mem_cons_of_mem _ hk)
    have hi := h i List.mem_cons_self
    cases ef : f i with
    | none =>
      rw [ef] at hi
      have eg : g i = none := by
        cases q : g i with
        | none => rfl
        | some y => rw [q] at hi; cases hi
      rw [List.filterMap_cons_none ef, List.filterMap_cons_none eg]
      exact ⟨ih1, fun j x y a b => (ih2 j x y a b).elim fun k ⟨hk, q⟩ => ⟨k, List.mem_cons_of_mem _ hk, q⟩⟩
    | some x0 =>
      rw [ef] at hi
      cases eg : g i with
      | none => rw [eg] at hi; cases hi
      | some y0 =>
        rw [List.filterMap_cons_some ef, List.filterMap_cons_some eg]
        refine ⟨by rw [List.length_cons, List.length_cons, ih1], fun j x y a b => ?_⟩
        cases j with
        | zero =>
          cases a
          cases b
          exact ⟨i, List.mem_cons_self, ef, eg⟩
        | succ j => exact (ih2 j x y a b).elim fun k ⟨hk, q⟩ => ⟨k, List.mem_cons_of_mem _ hk, q⟩
theorem Prs.left {K : PySem.W.Frag} {H : Hp} {vs : List V} {es : Es} (p : Prs K H vs es) (ls : List Nat) : Prs K H (leftV vs ls) (leftV es ls) := by
  have h := left_map (f := fun i => if i ∈ ls then none else vs[i]?) (g := fun i => if i ∈ ls then none else es[i]?) (l := List.range vs.length) fun i hi => by
    have h1 : i < vs.length := List.mem_range.mp hi
    by_cases hm : i ∈ ls
    · simp only [if_pos hm]
      rfl
    · simp only [if_neg hm]
      rw [List.getElem?_eq_getElem h1, List.getElem?_eq_getElem (by rw [← p.len]; exact h1)]
      rfl
  have e : leftV es ls = (List.range vs.length).filterMap fun i => if i ∈ ls then none else es[i]? := by
    unfold leftV
    rw [p.len]
  rw [e]
  refine ⟨h.1, fun j v e' a b => ?_⟩
  obtain ⟨i, _, q1, q2⟩ := h.2 j v e' a b
  by_cases hm : i ∈ ls
  · rw [if_pos hm] at q1
    cases q1
  · rw [if_neg hm] at q1 q2
    exact p.at_ i v e' q1 q2
def spOpen (K : PySem.W.Frag) (C : Addr) : Sp := fun vs H Q _ => ∃ (p : Addr) (n : Nat) (a : Addr) (pvs : List V) (es : Es) (c : Addr) (gs : List Nat) (b : Addr) (ls : List Nat), vs = [.ref p, .ref b] ∧ MapOk K C H p n a pvs es c gs ∧ SqT K H b (ls.map nV) ∧ (∀ z ∈ ls, z < es.length) ∧
  ∀ H' (ok : Bool), Same H H' → (ok = true ↔ ∀ g ∈ gs, Rch (left es ls) [0] g) → Q (.bl ok) H'
theorem ok_goals_are_open {CMap : Addr} (C : MapC K mg CMap) (h_leads_to_all : Has P w K mg base "leads_to_all" 2 ["many", "pairs", "places"] (spLeads K)) (h_pairs_left : Has P w K mg base "pairs_left" 2 ["arrows", "rotten"] (spPairsLeft K))
    (h_many : HasM P w K mg base CMap "many" 1 ["self"] (spMany K CMap)) (h_arrows : HasM P w K mg base CMap "arrows" 1 ["self"] (spArrows K CMap)) (h_goals : HasM P w K mg base CMap "goals" 1 ["self"] (spGoals K CMap))
    (D0 : Df K mg "goals_are_open" s_goals_are_open ["chart", "rotten"]) : Has P w K mg base "goals_are_open" 3 ["chart", "rotten"] (spOpen K CMap) := by
  refine D0.has fun f fd F => F.ok sc_goals_are_open (fun vs H Q E h => ?_) (fun cdv A outer s H vs Q E hr h => ?_)
  · obtain ⟨p, n, a, pvs, es, c, gs, b, ls, rfl, _⟩ := h
    rfl
  · obtain ⟨p, n, a, pvs, es, c, gs, b, ls, rfl, m, hB, hls, q⟩ := h
    refine ⟨_, (pss_one (ps_ret (pcall h_leads_to_all hr (by decide) (by rfl) (pa_cons (pe_meth0 (pv 0) C.cl h_many.mt h_many.F (hr.mono (by decide)) h_many.b .nil pass0) (pa_cons (pcall h_pairs_left hr (by decide) (by rfl) (pa_cons (pe_meth0 (pv 0) C.cl h_arrows.mt h_arrows.F (hr.mono (by decide)) h_arrows.b .nil pass0) (pa_cons (pv 1) pa_nil))) (pa_cons (pe_meth0 (pv 0) C.cl h_goals.mt h_goals.F (hr.mono (by decide)) h_goals.b .nil pass0) pa_nil)))))), ?_⟩
    have ma := m.at_
    obtain ⟨dx, hp⟩ := ma.ob
    have hl := m.pr.len
    refine ⟨_, rfl, p, dx, _, rfl, hp, mapF_many _ _ _, p, n, a, pvs, c, gs, rfl, ma, ?_⟩
    refine ⟨_, rfl, p, dx, _, rfl, hp, mapF_arrows _ _ _, p, n, a, pvs, c, gs, rfl, ma, _, rfl, ?_⟩
    refine ⟨a, b, pvs, ls, rfl, ma.ar, hB, fun z hz => by rw [hl]; exact hls z hz, by have := m.el; omega, fun d H1 s1 nd hd => ?_⟩
    have m1 := m.same s1
    obtain ⟨dx1, hp1⟩ := m1.at_.ob
    refine ⟨_, rfl, p, dx1, _, rfl, hp1, mapF_goals _ _ _, p, n, a, pvs, c, gs, rfl, m1.at_, ?_⟩
    refine ⟨n, d, c, leftV pvs ls, left es ls, gs, rfl, .inl (sql hd), (m1.pr).left ls, m1.at_.go, left_ok m.ok, m.gl, m.n0, m.n1, Nat.le_trans leftV_len m.el, m.gn, fun H' ok s' hok => q H' ok (s1.trans s') hok⟩

/-- a tuple of two lots of numbers -/
structure StdAt (K : PySem.W.Frag) (H : Hp) (t x y : Addr) (rs ls : List Nat) : Prop where
  t : SqT K H t [.ref x, .ref y]
  x : SqT K H x (rs.map nV)
  y : SqT K H y (ls.map nV)
theorem StdAt.same {K : PySem.W.Frag} {H H' : Hp} {t x y : Addr} {rs ls : List Nat} (h : StdAt K H t x y rs ls) (s : Same H H') : StdAt K H' t x y rs ls := ⟨Same.sqt s h.t, Same.sqt s h.x, Same.sqt s h.y⟩

abbrev s_holds_together : Stmt := topS 30
abbrev sl_holds_together : List Str := ["chart", "reached", "rotten", "inside", "left", "pairs", "tail", "head"]
theorem sc_holds_together : FnScope ["chart", "reached", "rotten", "inside", "left", "pairs", "tail", "head"] ["chart", "reached", "rotten"] (defScope s_holds_together) := ⟨rfl, rfl, rfl, by decide +kernel, rfl, by decide +kernel, by decide +kernel⟩
def PairT (H : Hp) (v : V) (e : Nat × Nat) : Prop := ∃ t, v = .ref t ∧ H t = some (.tup [nV e.1, nV e.2])
theorem PairT.at_ {K : PySem.W.Frag} {H : Hp} {v : V} {e : Nat × Nat} (h : PairT H v e) : PairAt K H v e := h.elim fun t ⟨a, b⟩ => ⟨t, a, sqt b⟩
/-- what a place of a comprehension over pairs gives -/
def RelG (G : Nat × Nat → Option (Nat × Nat)) (es : Es) (i : Nat) (H : Hp) (o : Option V) : Prop :=
  ∃ e, es[i]? = some e ∧ ((∃ e' v, G e = some e' ∧ o = some v ∧ PairT H v e') ∨ (G e = none ∧ o = none))
theorem RelG.stay {G : Nat × Nat → Option (Nat × Nat)} {es : Es} {D : Addr} (i : Nat) (o : Option V) (H H' : Hp) (acc : List V) (hD : H D = some (.lst acc)) (h : RelG G es i H o)
    (k : ∀ b u, b ≠ D → H b = some u → H' b = some u) : RelG G es i H' o := by
  obtain ⟨e, he, h⟩ := h
  refine ⟨e, he, ?_⟩
  rcases h with ⟨e', v, h1, h2, t, rfl, ht⟩ | h
  · exact .inl ⟨e', _, h1, h2, t, rfl, k _ _ (ne_of ht hD (by intro z; cases z)) ht⟩
  · exact .inr h
theorem prs_rel {K : PySem.W.Frag} {H : Hp} {G : Nat × Nat → Option (Nat × Nat)} : ∀ {es : Es} {os : List (Option V)}, os.length = es.length → (∀ i o, os[i]? = some o → RelG G es i H o) → Prs K H (os.filterMap id) (es.filterMap G)
  | [], [], _, _ => ⟨rfl, fun i v e h _ => by simp at h⟩
  | e :: es, o :: os, hl, h => by
    have ih := prs_rel (K := K) (es := es) (os := os) (by simpa using hl) fun i o' hi => by
      obtain ⟨e', h1, h2⟩ := h (i + 1) o' (by simpa using hi)
      exact ⟨e', by simpa using h1, h2⟩
    obtain ⟨e0, h0, h1⟩ := h 0 o rfl
    cases (show some e = some e0 from h0)
    rcases h1 with ⟨e', v, h1, rfl, hv⟩ | ⟨h1, rfl⟩
    · rw [List.filterMap_cons_some h1, List.filterMap_cons_some (f := id) (b := v) rfl]
      refine ⟨by rw [List.length_cons, List.length_cons, ih.len], fun i x y a b => ?_⟩
      cases i with
      | zero =>
        cases a
        cases b
        exact hv.at_
      | succ i => exact ih.at_ i x y a b
    · rw [List.filterMap_cons_none h1, List.filterMap_cons_none (f := id) rfl]
      exact ih
  | [], _ :: _, hl, _ => by cases hl
  | _ :: _, [], hl, _ => by cases hl
/-- the edges between the places that are reached, without the rotten ones -/
def innG (rs : List Nat) (e : Nat × Nat) : Option (Nat × Nat) := if e.1 ∈ rs ∧ e.2 ∈ rs then some e else none
abbrev inner (es : Es) (rs ls : List Nat) : Es := (left es ls).filterMap (innG rs)
theorem fmG_ok {G : Nat × Nat → Option (Nat × Nat)} {es : Es} {Pq : Nat × Nat → Prop} (hG : ∀ e e', G e = some e' → Pq e → Pq e') (h : ∀ e ∈ es, Pq e) : ∀ e ∈ es.filterMap G, Pq e := fun e' he => by
  obtain ⟨e, h1, h2⟩ := List.mem_filterMap.mp he
  exact hG e e' h2 (h e h1)
theorem inn_ok {rs : List Nat} {e e' : Nat × Nat} {Pq : Nat × Nat → Prop} (h : innG rs e = some e') (p : Pq e) : Pq e' := by
  unfold innG at h
  split at h
  · cases h
    exact p
  · cases h
def spHolds (K : PySem.W.Frag) (C : Addr) : Sp := fun vs H Q _ => ∃ (p : Addr) (n : Nat) (a : Addr) (pvs : List V) (es : Es) (c : Addr) (gs : List Nat) (x y : Addr) (rs ls : List Nat), vs = [.ref p, .ref x, .ref y] ∧ MapOk K C H p n a pvs es c gs ∧
  SqT K H x (rs.map nV) ∧ (∀ z ∈ rs, z < n) ∧ rs.length ≤ 1000 ∧ SqT K H y (ls.map nV) ∧ (∀ z ∈ ls, z < es.length) ∧
  ∀ H' (ok : Bool), Same H H' → (ok = true ↔ ∀ r ∈ rs, Rch (inner es rs ls) [0] r) → Q (.bl ok) H'
theorem ok_holds_together {CMap : Addr} (C : MapC K mg CMap) (h_marks : Has P w K mg base "marks" 1 ["many", "lot"] (spMarks K)) (h_leads_to_all : Has P w K mg base "leads_to_all" 2 ["many", "pairs", "places"] (spLeads K))
    (h_pairs_left : Has P w K mg base "pairs_left" 2 ["arrows", "rotten"] (spPairsLeft K)) (h_many : HasM P w K mg base CMap "many" 1 ["self"] (spMany K CMap)) (h_arrows : HasM P w K mg base CMap "arrows" 1 ["self"] (spArrows K CMap))
    (D0 : Df K mg "holds_together" s_holds_together ["chart", "reached", "rotten"]) : Has P w K mg base "holds_together" 3 ["chart", "reached", "rotten"] (spHolds K CMap) := by
  refine D0.has fun f fd F => F.ok sc_holds_together (fun vs H Q E h => ?_) (fun cdv A outer s H vs Q E hr h => ?_)
  · obtain ⟨p, n, a, pvs, es, c, gs, x, y, rs, ls, rfl, _⟩ := h
    rfl
  · obtain ⟨p, n, a, pvs, es, c, gs, x, y, rs, ls, rfl, m, hX, hrs, hrl, hY, hls, q⟩ := h
    refine ⟨_, (pss_cons (ps_set (i := 3) sc_holds_together.nd rfl (.inr rfl) (pcall h_marks hr (by decide) (by rfl) (pa_cons (pe_meth0 (pv 0) C.cl h_many.mt h_many.F (hr.mono (by decide)) h_many.b .nil pass0) (pa_cons (pv 1) pa_nil))))
  (pss_cons (ps_set (i := 4) sc_holds_together.nd rfl (.inl rfl) (pcall h_pairs_left hr (by decide) (by rfl) (pa_cons (pe_meth0 (pv 0) C.cl h_arrows.mt h_arrows.F (hr.mono (by decide)) h_arrows.b .nil pass0) (pa_cons (pv 2) pa_nil))))
  (pss_cons (ps_setLc (i := 5) (own := [("tail", 6), ("head", 7)]) (g := gTup K 2 (gCons (gName 6) (gCons (gName 7) gNil))) rfl sc_holds_together.nd rfl rfl (sw_true rfl rfl rfl (by decide +kernel)) (k_pil (K := K) rfl (pv 4)) (blkOk_by (N := sl_holds_together) (sc := defScope s_holds_together) (by decide +kernel)) (fun _ _ _ _ _ => (pg_tup rfl (pgs_cons (pg_name (i := 6) sc_holds_together.nd rfl (.inl rfl)) (pgs_cons (pg_name (i := 7) sc_holds_together.nd rfl (.inl rfl)) pgs_nil)))) (fun _ _ _ _ _ => pts_one (PW.pt (pw_and (pt_val (pe_ix (k_ixl (K := K) rfl) (pv 3) (pv 6) (fun _ _ => rfl))) (pw_and1 (pt_val (pe_ix (k_ixl (K := K) rfl) (pv 3) (pv 7) (fun _ _ => rfl))))))) (fun _ _ _ _ _ => (pe_tup (pa_cons (pv 6) (pa_cons (pv 7) pa_nil)))))
  (pss_one (ps_ret (pcall h_leads_to_all hr (by decide) (by rfl) (pa_cons (pe_meth0 (pv 0) C.cl h_many.mt h_many.F (hr.mono (by decide)) h_many.b .nil pass0) (pa_cons (pv 5) (pa_cons (pv 1) pa_nil))))))))), ?_⟩
    obtain ⟨dx, hp⟩ := m.at_.ob
    have hl := m.pr.len
    -- inside
    refine ⟨_, rfl, p, dx, _, rfl, hp, mapF_many _ _ _, p, n, a, pvs, c, gs, rfl, m.at_, _, rfl, n, x, rs, rfl, hX, hrs, by have := m.n1; omega, fun d H1 s1 nd hd => ?_⟩
    have m1 := m.same s1
    obtain ⟨dx1, hp1⟩ := m1.at_.ob
    -- left
    refine ⟨_, rfl, p, dx1, _, rfl, hp1, mapF_arrows _ _ _, p, n, a, pvs, c, gs, rfl, m1.at_, _, rfl, a, y, pvs, ls, rfl, m1.at_.ar, Same.sqt s1 hY, fun z hz => by rw [hl]; exact hls z hz, by have := m.el; omega, fun lf H2 s2 nlf hlf => ?_⟩
    have m2 := m1.same s2
    have p2 := m2.pr.left ls
    have hd2 := s2 _ _ hd
    -- pairs
    refine ⟨_, rfl, lf, rfl, ⟨_, sql hlf⟩, fun D nD => ?_⟩
    refine lc_rel walk_list calm_at (RelG (innG rs) (left es ls)) RelG.stay (by have := leftV_len (xs := pvs) (ls := ls); have := m.el; omega) nD (fun H3 s3 => sql (s3 _ _ hlf)) ?_ fun H3 os s3 hol hos h3 => ?_
    · rintro i v H3 H4 hi s3 ⟨rfl, hv⟩ Kt kt
      obtain ⟨e, hei, t, rfl, ht⟩ := p2.get hv
      obtain ⟨e1, e2⟩ := e
      have hok := left_ok m.ok _ (List.mem_of_getElem? hei)
      have hd3 := s3 _ _ hd2
      refine ⟨t, _, rfl, Same.sqt s3 ht, rfl, _, _, rfl, _, _, rfl, rfl, rfl, ?_⟩
      refine ⟨_, rfl, _, rfl, d, _, (e1 : Int), _, rfl, rfl, sql hd3, atI_nat (mks_get hok.1), _, rfl, ?_⟩
      by_cases h1 : e1 ∈ rs
      · rw [decide_eq_true h1]
        refine iteT ⟨_, rfl, _, rfl, d, _, (e2 : Int), _, rfl, rfl, sql hd3, atI_nat (mks_get hok.2), _, rfl, ?_⟩
        by_cases h2 : e2 ∈ rs
        · rw [decide_eq_true h2]
          refine iteT ⟨_, rfl, _, rfl, by show 2 ≤ sizeLine; decide, fun t2 nt2 => kt _ _ (same_new (Same.refl _) nt2) ⟨(e1, e2), hei, .inl ⟨(e1, e2), _, by unfold innG; rw [if_pos ⟨h1, h2⟩], rfl, t2, rfl, upd_same⟩⟩⟩
        · rw [decide_eq_false h2]
          refine iteF (kt _ _ (Same.refl _) ⟨(e1, e2), hei, .inr ⟨by unfold innG; rw [if_neg fun z => h2 z.2], rfl⟩⟩)
      · rw [decide_eq_false h1]
        refine iteF ?_
        refine iteF (kt _ _ (Same.refl _) ⟨(e1, e2), hei, .inr ⟨by unfold innG; rw [if_neg fun z => h1 z.1], rfl⟩⟩)
    · have m3 := m2.same s3
      obtain ⟨dx3, hp3⟩ := m3.at_.ob
      have p3 := prs_rel (K := K) (hol.trans p2.len) hos
      refine ⟨_, rfl, p, dx3, _, rfl, hp3, mapF_many _ _ _, p, n, a, pvs, c, gs, rfl, m3.at_, _, rfl, _, rfl, ?_⟩
      have sm : Same H H3 := (s1.trans s2).trans s3
      refine ⟨n, D, x, _, _, rs, rfl, .inl (sql h3), p3, Same.sqt sm hX, fmG_ok (fun e e' => inn_ok (Pq := fun e => e.1 < n ∧ e.2 < n)) (left_ok m.ok), hrs, m.n0, m.n1, ?_, hrl, fun H' ok s' hok => q H' ok (sm.trans s') hok⟩
      exact Nat.le_trans (List.length_filterMap_le _ _) (Nat.le_trans leftV_len m.el)

abbrev s__unreached_pairs : Stmt := topS 31
abbrev sl__unreached_pairs : List Str := ["chart", "standing", "reached", "rotten", "inside", "left", "tail", "head"]
theorem sc__unreached_pairs : FnScope ["chart", "standing", "reached", "rotten", "inside", "left", "tail", "head"] ["chart", "standing"] (defScope s__unreached_pairs) := ⟨rfl, rfl, rfl, by decide +kernel, rfl, by decide +kernel, by decide +kernel⟩
/-- the edges between places that are not reached -/
def unrG (rs : List Nat) (e : Nat × Nat) : Option (Nat × Nat) := if e.1 ∉ rs ∧ e.2 ∉ rs then some e else none
abbrev unr (es : Es) (rs ls : List Nat) : Es := (left es ls).filterMap (unrG rs)
theorem unr_ok {rs : List Nat} {e e' : Nat × Nat} {Pq : Nat × Nat → Prop} (h : unrG rs e = some e') (p : Pq e) : Pq e' := by
  unfold unrG at h
  split at h
  · cases h
    exact p
  · cases h
def spUnr (K : PySem.W.Frag) (C : Addr) : Sp := fun vs H Q _ => ∃ (p : Addr) (n : Nat) (a : Addr) (pvs : List V) (es : Es) (c : Addr) (gs : List Nat) (t x y : Addr) (rs ls : List Nat), vs = [.ref p, .ref t] ∧ MapOk K C H p n a pvs es c gs ∧
  StdAt K H t x y rs ls ∧ (∀ z ∈ rs, z < n) ∧ (∀ z ∈ ls, z < es.length) ∧
  ∀ D H' xs, Same H H' → H D = none → H' D = some (.lst xs) → Prs K H' xs (unr es rs ls) → Q (.ref D) H'
theorem ok__unreached_pairs {CMap : Addr} (C : MapC K mg CMap) (h_marks : Has P w K mg base "marks" 1 ["many", "lot"] (spMarks K))
    (h_pairs_left : Has P w K mg base "pairs_left" 2 ["arrows", "rotten"] (spPairsLeft K)) (h_many : HasM P w K mg base CMap "many" 1 ["self"] (spMany K CMap)) (h_arrows : HasM P w K mg base CMap "arrows" 1 ["self"] (spArrows K CMap))
    (D0 : Df K mg "_unreached_pairs" s__unreached_pairs ["chart", "standing"]) : Has P w K mg base "_unreached_pairs" 3 ["chart", "standing"] (spUnr K CMap) := by
  refine D0.has fun f fd F => F.ok sc__unreached_pairs (fun vs H Q E h => ?_) (fun cdv A outer s H vs Q E hr h => ?_)
  · obtain ⟨p, n, a, pvs, es, c, gs, t, x, y, rs, ls, rfl, _⟩ := h
    rfl
  · obtain ⟨p, n, a, pvs, es, c, gs, t, x, y, rs, ls, rfl, m, S, hrs, hls, q⟩ := h
    refine ⟨_, (pss_cons (ps_asg (pv 1) (pg_tup rfl (pgs_cons (pg_name (i := 2) sc__unreached_pairs.nd rfl (.inl rfl)) (pgs_cons (pg_name (i := 3) sc__unreached_pairs.nd rfl (.inl rfl)) pgs_nil))))
  (pss_cons (ps_set (i := 4) sc__unreached_pairs.nd rfl (.inr rfl) (pcall h_marks hr (by decide) (by rfl) (pa_cons (pe_meth0 (pv 0) C.cl h_many.mt h_many.F (hr.mono (by decide)) h_many.b .nil pass0) (pa_cons (pv 2) pa_nil))))
  (pss_cons (ps_set (i := 5) sc__unreached_pairs.nd rfl (.inl rfl) (pcall h_pairs_left hr (by decide) (by rfl) (pa_cons (pe_meth0 (pv 0) C.cl h_arrows.mt h_arrows.F (hr.mono (by decide)) h_arrows.b .nil pass0) (pa_cons (pv 3) pa_nil))))
  (pss_one (ps_ret (pe_lc (own := [("tail", 6), ("head", 7)]) (g := gTup K 2 (gCons (gName 6) (gCons (gName 7) gNil))) rfl sc__unreached_pairs.nd (k_pil (K := K) rfl (pv 5)) (blkOk_by (N := sl__unreached_pairs) (sc := defScope s__unreached_pairs) (by decide +kernel)) (fun _ _ _ _ _ => (pg_tup rfl (pgs_cons (pg_name (i := 6) sc__unreached_pairs.nd rfl (.inl rfl)) (pgs_cons (pg_name (i := 7) sc__unreached_pairs.nd rfl (.inl rfl)) pgs_nil)))) (fun _ _ _ _ _ => pts_one (PW.pt (pw_and (pt_not (pt_val (pe_ix (k_ixl (K := K) rfl) (pv 4) (pv 6) (fun _ _ => rfl)))) (pw_and1 (pt_not (pt_val (pe_ix (k_ixl (K := K) rfl) (pv 4) (pv 7) (fun _ _ => rfl)))))))) (fun _ _ _ _ _ => (pe_tup (pa_cons (pv 6) (pa_cons (pv 7) pa_nil)))))))))), ?_⟩
    obtain ⟨dx, hp⟩ := m.at_.ob
    have hl := m.pr.len
    refine ⟨_, rfl, t, _, rfl, S.t, rfl, _, _, rfl, _, _, rfl, rfl, ?_⟩
    refine ⟨_, rfl, p, dx, _, rfl, hp, mapF_many _ _ _, p, n, a, pvs, c, gs, rfl, m.at_, _, rfl, n, x, rs, rfl, S.x, hrs, by have := m.n1; omega, fun d H1 s1 nd hd => ?_⟩
    have m1 := m.same s1
    obtain ⟨dx1, hp1⟩ := m1.at_.ob
    refine ⟨_, rfl, p, dx1, _, rfl, hp1, mapF_arrows _ _ _, p, n, a, pvs, c, gs, rfl, m1.at_, _, rfl, a, y, pvs, ls, rfl, m1.at_.ar, Same.sqt s1 S.y, fun z hz => by rw [hl]; exact hls z hz, by have := m.el; omega, fun lf H2 s2 nlf hlf => ?_⟩
    have m2 := m1.same s2
    have p2 := m2.pr.left ls
    have hd2 := s2 _ _ hd
    refine ⟨_, rfl, lf, rfl, ⟨_, sql hlf⟩, fun D nD => ?_⟩
    refine lc_rel walk_list calm_at (RelG (unrG rs) (left es ls)) RelG.stay (by have := leftV_len (xs := pvs) (ls := ls); have := m.el; omega) nD (fun H3 s3 => sql (s3 _ _ hlf)) ?_ fun H3 os s3 hol hos h3 => ?_
    · rintro i v H3 H4 hi s3 ⟨rfl, hv⟩ Kt kt
      obtain ⟨e, hei, t, rfl, ht⟩ := p2.get hv
      obtain ⟨e1, e2⟩ := e
      have hok := left_ok m.ok _ (List.mem_of_getElem? hei)
      have hd3 := s3 _ _ hd2
      refine ⟨t, _, rfl, Same.sqt s3 ht, rfl, _, _, rfl, _, _, rfl, rfl, rfl, ?_⟩
      refine ⟨_, rfl, _, rfl, d, _, (e1 : Int), _, rfl, rfl, sql hd3, atI_nat (mks_get hok.1), _, rfl, ?_⟩
      by_cases h1 : e1 ∈ rs
      · rw [decide_eq_true h1]
        refine iteF ?_
        refine iteF (kt _ _ (Same.refl _) ⟨(e1, e2), hei, .inr ⟨by unfold unrG; rw [if_neg fun z => z.1 h1], rfl⟩⟩)
      · rw [decide_eq_false h1]
        refine iteT ⟨_, rfl, _, rfl, d, _, (e2 : Int), _, rfl, rfl, sql hd3, atI_nat (mks_get hok.2), _, rfl, ?_⟩
        by_cases h2 : e2 ∈ rs
        · rw [decide_eq_true h2]
          refine iteF (kt _ _ (Same.refl _) ⟨(e1, e2), hei, .inr ⟨by unfold unrG; rw [if_neg fun z => z.2 h2], rfl⟩⟩)
        · rw [decide_eq_false h2]
          refine iteT ⟨_, rfl, _, rfl, by show 2 ≤ sizeLine; decide, fun t2 nt2 => kt _ _ (same_new (Same.refl _) nt2) ⟨(e1, e2), hei, .inl ⟨(e1, e2), _, by unfold unrG; rw [if_pos ⟨h1, h2⟩], rfl, t2, rfl, upd_same⟩⟩⟩
    · have sm : Same H H3 := (s1.trans s2).trans s3
      exact q D H3 _ sm (Same.free (s1.trans s2) nD) h3 (prs_rel (K := K) (hol.trans p2.len) hos)

abbrev s_is_standing : Stmt := topS 25
abbrev sl_is_standing : List Str := ["chart", "thing", "reached", "rotten", "inside", "arrow"]
theorem sc_is_standing : FnScope ["chart", "thing", "reached", "rotten", "inside", "arrow"] ["chart", "thing"] (defScope s_is_standing) := ⟨rfl, rfl, rfl, by decide +kernel, rfl, by decide +kernel, by decide +kernel⟩
/-- a standing of the map -/
structure StdOk (n : Nat) (es : Es) (gs rs ls : List Nat) : Prop where
  rp : rs.Pairwise (· < ·)
  lp : ls.Pairwise (· < ·)
  rn : ∀ r ∈ rs, r < n
  ln : ∀ l ∈ ls, l < es.length
  r0 : 0 ∈ rs
  tl : ∀ l ∈ ls, ∀ e, es[l]? = some e → e.1 ∈ rs
  hold : ∀ r ∈ rs, Rch (inner es rs ls) [0] r
  opn : ∀ g ∈ gs, Rch (left es ls) [0] g
/-- is_standing, where it is one -/
def spIsStd (K : PySem.W.Frag) (C : Addr) : Sp := fun vs H Q _ => ∃ (p : Addr) (n : Nat) (a : Addr) (pvs : List V) (es : Es) (c : Addr) (gs : List Nat) (t x y : Addr) (rs ls : List Nat), vs = [.ref p, .ref t] ∧ MapOk K C H p n a pvs es c gs ∧
  StdAt K H t x y rs ls ∧ StdOk n es gs rs ls ∧ ∀ H', Same H H' → Q (.bl true) H'
theorem kn_nats {K : PySem.W.Frag} {H : Hp} {gs : List Nat} : ∀ x ∈ gs.map nV, ∃ s, Kn K H x s := fun x hx => by
  obtain ⟨z, _, rfl⟩ := List.mem_map.mp hx
  exact ⟨"int", kn_of_int⟩
theorem ok_is_standing {CMap : Addr} (B : Bt mg) (C : MapC K mg CMap) (h_is_lot : Has P w K mg base "is_lot" 3 ["thing", "many"] (spIsLot K)) (h_marks : Has P w K mg base "marks" 1 ["many", "lot"] (spMarks K))
    (h_holds_together : Has P w K mg base "holds_together" 3 ["chart", "reached", "rotten"] (spHolds K CMap)) (h_goals_are_open : Has P w K mg base "goals_are_open" 3 ["chart", "rotten"] (spOpen K CMap))
    (h_many : HasM P w K mg base CMap "many" 1 ["self"] (spMany K CMap)) (h_arrows : HasM P w K mg base CMap "arrows" 1 ["self"] (spArrows K CMap))
    (D0 : Df K mg "is_standing" s_is_standing ["chart", "thing"]) : Has P w K mg base "is_standing" 4 ["chart", "thing"] (spIsStd K CMap) := by
  refine D0.has fun f fd F => F.ok sc_is_standing (fun vs H Q E h => ?_) (fun cdv A outer s H vs Q E hr h => ?_)
  · obtain ⟨p, n, a, pvs, es, c, gs, t, x, y, rs, ls, rfl, _⟩ := h
    rfl
  · obtain ⟨p, n, a, pvs, es, c, gs, t, x, y, rs, ls, rfl, m, S, o, q⟩ := h
    refine ⟨_, (pss_cons (ps_if (PW.pt (pw_or (pt_not (pt_val (pe_callB (k_isi (K := K) rfl) (by rfl) B.isinstance bo_isinstance (pa_cons (pv 1) (pa_cons (pe_bltn (v := .ty "tuple") (by rfl) B.tuple bo_tuple rfl) pa_nil))))) (pw_or1 (pt_cmpR op_ne (pe_callB (k_len (K := K) rfl) (by rfl) B.len bo_len (pa_cons (pv 1) pa_nil)) pe_int (nomark _)))))
    (pss_one (ps_ret pe_bl))
    pss_nil)
  (pss_cons (ps_asg (pv 1) (pg_tup rfl (pgs_cons (pg_name (i := 2) sc_is_standing.nd rfl (.inl rfl)) (pgs_cons (pg_name (i := 3) sc_is_standing.nd rfl (.inl rfl)) pgs_nil))))
  (pss_cons (ps_if (PW.pt (pw_or (pt_not (pt_val (pcall h_is_lot hr (by decide) (by rfl) (pa_cons (pv 2) (pa_cons (pe_meth0 (pv 0) C.cl h_many.mt h_many.F (hr.mono (by decide)) h_many.b .nil pass0) pa_nil))))) (pw_or1 (pt_not (pt_val (pcall h_is_lot hr (by decide) (by rfl) (pa_cons (pv 3) (pa_cons (pe_callB (k_len (K := K) rfl) (by rfl) B.len bo_len (pa_cons (pe_meth0 (pv 0) C.cl h_arrows.mt h_arrows.F (hr.mono (by decide)) h_arrows.b .nil pass0) pa_nil)) pa_nil))))))))
    (pss_one (ps_ret pe_bl))
    pss_nil)
  (pss_cons (ps_set (i := 4) sc_is_standing.nd rfl (.inr rfl) (pcall h_marks hr (by decide) (by rfl) (pa_cons (pe_meth0 (pv 0) C.cl h_many.mt h_many.F (hr.mono (by decide)) h_many.b .nil pass0) (pa_cons (pv 2) pa_nil))))
  (pss_cons (ps_if (PW.pt (pw_or (pt_not (pt_val (pe_ix (k_ixl (K := K) rfl) (pv 4) pe_int (fun _ _ => rfl)))) (pw_or1 (pt_not (pt_val (pe_callB (k_all (K := K) rfl rfl) (by rfl) B.all bo_all (pa_cons (pe_lc (own := [("arrow", 5)]) (g := gName 5) rfl sc_is_standing.nd (k_pit (K := K) rfl (pv 3)) (blkOk_by (N := sl_is_standing) (sc := defScope s_is_standing) (by decide +kernel)) (fun _ _ _ _ _ => (pg_name (i := 5) sc_is_standing.nd rfl (.inl rfl))) (fun _ _ _ _ _ => pts_nil) (fun _ _ _ _ _ => (pe_ix (k_ixl (K := K) rfl) (pv 4) (pe_ix (k_ixt (K := K) rfl) (pe_ix (k_ixt (K := K) rfl) (pe_meth0 (pv 0) C.cl h_arrows.mt h_arrows.F (hr.mono (by decide)) h_arrows.b .nil pass0) (pv 5) (fun _ _ => rfl)) pe_int (fun _ _ => rfl)) (fun _ _ => rfl)))) pa_nil)))))))
    (pss_one (ps_ret pe_bl))
    pss_nil)
  (pss_one (ps_ret (pe_and (pcall h_holds_together hr (by decide) (by rfl) (pa_cons (pv 0) (pa_cons (pv 2) (pa_cons (pv 3) pa_nil)))) (pe_one (pcall h_goals_are_open hr (by decide) (by rfl) (pa_cons (pv 0) (pa_cons (pv 3) pa_nil)))))))))))), ?_⟩
    obtain ⟨dx, hp⟩ := m.at_.ob
    have hl := m.pr.len
    -- a tuple of two
    refine ⟨_, rfl, _, .ty "tuple", _, _, _, rfl, .ty "tuple", (kn_of_tup S.t).ty, kit_tuple (kn_of_tup S.t).mem, _, rfl, iteF ?_⟩
    refine ⟨_, rfl, t, _, rfl, .inr S.t, rfl, _, rfl, iteF ?_⟩
    refine ⟨_, rfl, t, _, rfl, S.t, rfl, _, _, rfl, _, _, rfl, rfl, ?_⟩
    -- lots
    refine ⟨_, rfl, _, rfl, p, dx, _, rfl, hp, mapF_many _ _ _, p, n, a, pvs, c, gs, rfl, m.at_, .ref x, (n : Int), rfl, .inl ⟨x, _, rfl, S.x, kn_nats, _, rfl, ?_⟩⟩
    rw [lot_of (fun z hz => ⟨by have := o.rn z hz; omega, by omega⟩) o.rp]
    refine iteF ?_
    refine ⟨_, rfl, _, rfl, p, dx, _, rfl, hp, mapF_arrows _ _ _, p, n, a, pvs, c, gs, rfl, m.at_, a, pvs, rfl, .inr m.at_.ar, .ref y, (pvs.length : Int), rfl, .inl ⟨y, _, rfl, S.y, kn_nats, _, rfl, ?_⟩⟩
    rw [lot_of (fun z hz => ⟨by have := o.ln z hz; omega, by omega⟩) o.lp]
    refine iteF ?_
    -- inside
    refine ⟨_, rfl, p, dx, _, rfl, hp, mapF_many _ _ _, p, n, a, pvs, c, gs, rfl, m.at_, _, rfl, n, x, rs, rfl, S.x, o.rn, by have := m.n1; omega, fun d H1 s1 nd hd => ?_⟩
    have m1 := m.same s1
    have S1 := S.same s1
    refine ⟨_, rfl, d, _, (0 : Nat), _, rfl, rfl, sql hd, atI_nat (mks_get m.n0), _, rfl, ?_⟩
    rw [decide_eq_true o.r0]
    refine iteF ?_
    refine ⟨_, rfl, y, rfl, ⟨_, S1.y⟩, fun D nD => ?_⟩
    have hll : ls.length ≤ es.length - 0 := pw_len o.lp fun z hz => ⟨Nat.zero_le _, o.ln z hz⟩
    refine lc_val walk_tup calm_at (fun i => (ls[i]?).bind fun _ => some (V.bl true)) (by rw [List.length_map]; have := m.el; omega) nD (fun H3 s3 => Same.sqt s3 S1.y) ?_ fun H3 s3 h3 => ?_
    · rintro i v H3 H4 hi s3 ⟨rfl, hv⟩ Kt kt
      obtain ⟨l, hli, rfl⟩ := getmap hv
      have m3 := m1.same s3
      obtain ⟨dx3, hp3⟩ := m3.at_.ob
      have hln := o.ln l (List.mem_of_getElem? hli)
      have hle : es[l]? = some es[l] := List.getElem?_eq_getElem hln
      have hlv : pvs[l]? = some pvs[l] := List.getElem?_eq_getElem (by omega)
      obtain ⟨tp, htp, ht⟩ := m3.pr.at_ l _ _ hlv hle
      have hin := o.tl l (List.mem_of_getElem? hli) _ hle
      have h1n := (m.ok _ (List.mem_of_getElem? hle)).1
      refine ⟨rfl, tyes ?_⟩
      refine iteT ?_
      refine ⟨_, rfl, _, rfl, p, dx3, _, rfl, hp3, mapF_arrows _ _ _, p, n, a, pvs, c, gs, rfl, m3.at_, _, rfl, a, pvs, (l : Int), _, rfl, rfl, m3.at_.ar, atI_nat hlv, tp, _, (0 : Nat), _, htp, rfl, ht, atI_nat rfl, d, _, (es[l].1 : Int), _, rfl, rfl, sql (s3 _ _ hd), atI_nat (mks_get h1n), ?_⟩
      have k0 := kt _ (Same.refl _)
      rw [hli] at k0
      rw [decide_eq_true hin]
      exact k0
    · rw [List.length_map, fm_range, fm_some] at h3
      refine ⟨D, ls.map fun _ => true, rfl, sql (by rw [h3, List.map_map]; rfl), _, rfl, ?_⟩
      have e1 : (ls.map fun _ => true).all id = true := by
        rw [List.all_eq_true]
        intro z hz
        obtain ⟨_, _, rfl⟩ := List.mem_map.mp hz
        rfl
      rw [e1]
      refine iteF ?_
      have s13 : Same H H3 := s1.trans s3
      have m3 := m.same s13
      have S3 := S.same s13
      refine ⟨_, rfl, _, rfl, _, rfl, p, n, a, pvs, es, c, gs, x, y, rs, ls, rfl, m3, S3.x, o.rn, ?_, S3.y, o.ln, fun H5 ok5 s5 hok5 => ?_⟩
      · have := pw_len o.rp (l := 0) fun z hz => ⟨Nat.zero_le _, o.rn z hz⟩
        have := m.n1
        omega
      refine ⟨_, rfl, ?_⟩
      rw [hok5.mpr o.hold]
      refine iteT ⟨_, rfl, _, rfl, p, n, a, pvs, es, c, gs, y, ls, rfl, m3.same s5, Same.sqt s5 S3.y, o.ln, fun H6 ok6 s6 hok6 => ?_⟩
      rw [hok6.mpr o.opn]
      exact q H6 ((s13.trans s5).trans s6)

abbrev s_check_standing : Stmt := topS 26
abbrev sl_check_standing : List Str := ["chart", "thing"]
theorem sc_check_standing : FnScope ["chart", "thing"] ["chart", "thing"] (defScope s_check_standing) := ⟨rfl, rfl, rfl, by decide +kernel, rfl, by decide +kernel, by decide +kernel⟩
def spCheck (K : PySem.W.Frag) (C : Addr) : Sp := fun vs H Q _ => ∃ (p : Addr) (n : Nat) (a : Addr) (pvs : List V) (es : Es) (c : Addr) (gs : List Nat) (t x y : Addr) (rs ls : List Nat), vs = [.ref p, .ref t] ∧ MapOk K C H p n a pvs es c gs ∧
  StdAt K H t x y rs ls ∧ StdOk n es gs rs ls ∧ ∀ H', Same H H' → Q .non H'
theorem ok_check_standing {CMap : Addr} (h_is_standing : Has P w K mg base "is_standing" 4 ["chart", "thing"] (spIsStd K CMap)) (D0 : Df K mg "check_standing" s_check_standing ["chart", "thing"]) : Has P w K mg base "check_standing" 5 ["chart", "thing"] (spCheck K CMap) := by
  refine D0.has fun f fd F => F.ok sc_check_standing (fun vs H Q E h => ?_) (fun cdv A outer s H vs Q E hr h => ?_)
  · obtain ⟨p, n, a, pvs, es, c, gs, t, x, y, rs, ls, rfl, _⟩ := h
    rfl
  · obtain ⟨p, n, a, pvs, es, c, gs, t, x, y, rs, ls, rfl, m, S, o, q⟩ := h
    refine ⟨_, (pss_one (ps_if (pt_not (pt_val (pcall h_is_standing hr (by decide) (by rfl) (pa_cons (pv 0) (pa_cons (pv 1) pa_nil)))))
    (pss_one ps_never)
    pss_nil)), ?_⟩
    refine ⟨_, rfl, _, rfl, p, n, a, pvs, es, c, gs, t, x, y, rs, ls, rfl, m, S, o, fun H' s' => ⟨_, rfl, ?_⟩⟩
    refine iteF ?_
    exact q H' s'

/-- a standing of a map, as it is handed in: the values, and that it is one -/
structure At (K : PySem.W.Frag) (C : Addr) (H : Hp) (p : Addr) (n : Nat) (a : Addr) (pvs : List V) (es : Es) (c : Addr) (gs : List Nat) (t x y : Addr) (rs ls : List Nat) : Prop where
  m : MapOk K C H p n a pvs es c gs
  S : StdAt K H t x y rs ls
  o : StdOk n es gs rs ls
theorem At.same {K : PySem.W.Frag} {C : Addr} {H H' : Hp} {p : Addr} {n : Nat} {a : Addr} {pvs : List V} {es : Es} {c : Addr} {gs : List Nat} {t x y : Addr} {rs ls : List Nat} (h : At K C H p n a pvs es c gs t x y rs ls) (s : Same H H') :
    At K C H' p n a pvs es c gs t x y rs ls := ⟨h.m.same s, h.S.same s, h.o⟩
theorem At.rl {K : PySem.W.Frag} {C : Addr} {H : Hp} {p : Addr} {n : Nat} {a : Addr} {pvs : List V} {es : Es} {c : Addr} {gs : List Nat} {t x y : Addr} {rs ls : List Nat} (h : At K C H p n a pvs es c gs t x y rs ls) : rs.length ≤ 1000 := by
  have := pw_len h.o.rp (l := 0) fun z hz => ⟨Nat.zero_le _, h.o.rn z hz⟩
  have := h.m.n1
  omega
theorem At.ll {K : PySem.W.Frag} {C : Addr} {H : Hp} {p : Addr} {n : Nat} {a : Addr} {pvs : List V} {es : Es} {c : Addr} {gs : List Nat} {t x y : Addr} {rs ls : List Nat} (h : At K C H p n a pvs es c gs t x y rs ls) : ls.length ≤ 1000 := by
  have := pw_len h.o.lp (l := 0) fun z hz => ⟨Nat.zero_le _, h.o.ln z hz⟩
  have := h.m.el
  omega
/-- promises of functions of a map and a standing: R of the answer and the heap -/
def spOf (K : PySem.W.Frag) (C : Addr) (R : Nat → Es → List Nat → List Nat → List Nat → Hp → V → Hp → Prop) : Sp := fun vs H Q _ =>
  ∃ (p : Addr) (n : Nat) (a : Addr) (pvs : List V) (es : Es) (c : Addr) (gs : List Nat) (t x y : Addr) (rs ls : List Nat), vs = [.ref p, .ref t] ∧ At K C H p n a pvs es c gs t x y rs ls ∧ ∀ v H', Same H H' → R n es gs rs ls H v H' → Q v H'
theorem range_pw (n : Nat) : (List.range n).Pairwise (· < ·) := List.pairwise_lt_range
theorem fm_pw {n : Nat} {F : Nat → Option Nat} (hF : ∀ i j, F i = some j → j = i) : ((List.range n).filterMap F).Pairwise (· < ·) := by
  refine List.Pairwise.filterMap F (fun a b hab x hx y hy => ?_) (range_pw n)
  rw [hF a x hx, hF b y hy]
  exact hab

/-- what may be handed in where a lot is asked for: the items, if it is a tuple -/
def LotT (K : PySem.W.Frag) (H : Hp) (v : V) : Option (List V) → Prop
  | none => ∃ s, Kn K H v s ∧ (s == "tuple") = false
  | some xs => ∃ q, v = .ref q ∧ SqT K H q xs ∧ xs.length ≤ 1000 ∧ ∀ x ∈ xs, ∃ s, Kn K H x s
/-- what may be handed in as a standing; R tells whether it is one -/
def StdRes (K : PySem.W.Frag) (H : Hp) (n : Nat) (es : Es) (gs : List Nat) (v : V) (R : Prop) : Prop :=
  ((∃ s, Kn K H v s ∧ (s == "tuple") = false) ∧ ¬ R) ∨ ((∃ t xs, v = .ref t ∧ SqT K H t xs ∧ xs.length ≠ 2) ∧ ¬ R) ∨
  ∃ t a1 a2 o1 o2, v = .ref t ∧ SqT K H t [a1, a2] ∧ LotT K H a1 o1 ∧ LotT K H a2 o2 ∧ (R ↔ ∃ rs ls : List Nat, o1 = some (rs.map nV) ∧ o2 = some (ls.map nV) ∧ StdOk n es gs rs ls)
theorem StdRes.of {K : PySem.W.Frag} {H : Hp} {n : Nat} {es : Es} {gs : List Nat} {t x y : Addr} {rs ls : List Nat} (S : StdAt K H t x y rs ls) (o : StdOk n es gs rs ls) (h1 : rs.length ≤ 1000) (h2 : ls.length ≤ 1000) : StdRes K H n es gs (.ref t) True :=
  .inr (.inr ⟨t, _, _, some (rs.map nV), some (ls.map nV), rfl, S.t, ⟨x, rfl, S.x, by rw [List.length_map]; exact h1, kn_nats⟩, ⟨y, rfl, S.y, by rw [List.length_map]; exact h2, kn_nats⟩, ⟨fun _ => ⟨rs, ls, rfl, rfl, o⟩, fun _ => trivial⟩⟩)
def spStdAny (K : PySem.W.Frag) (C : Addr) : Sp := fun vs H Q _ => ∃ (p : Addr) (n : Nat) (a : Addr) (pvs : List V) (es : Es) (c : Addr) (gs : List Nat) (v : V) (R : Prop), vs = [.ref p, v] ∧ MapOk K C H p n a pvs es c gs ∧ StdRes K H n es gs v R ∧
  ∀ H' (b : Bool), Same H H' → (b = true ↔ R) → Q (.bl b) H'
/-- the items are a lot -/
theorem lot_items {m : Nat} {xs : List V} (h : lotFrom (m : Int) (-1) xs = true) : ∃ gs : List Nat, xs = gs.map nV ∧ (∀ g ∈ gs, g < m) ∧ gs.Pairwise (· < ·) := by
  obtain ⟨gs, e, h1, h2⟩ := lot_nat (by omega) h
  exact ⟨gs, e, fun g hg => by have := (h1 g hg).1; omega, h2⟩
theorem fm_cg {α β : Type} {f g : α → Option β} : ∀ {l : List α}, (∀ x ∈ l, f x = g x) → l.filterMap f = l.filterMap g
  | [], _ => rfl
  | x :: r, h => by
    rw [List.filterMap_cons, List.filterMap_cons, h x List.mem_cons_self, fm_cg fun y hy => h y (List.mem_cons_of_mem _ hy)]
theorem okg_is_standing {CMap : Addr} (B : Bt mg) (C : MapC K mg CMap) (h_is_lot : Has P w K mg base "is_lot" 3 ["thing", "many"] (spIsLot K)) (h_marks : Has P w K mg base "marks" 1 ["many", "lot"] (spMarks K))
    (h_holds_together : Has P w K mg base "holds_together" 3 ["chart", "reached", "rotten"] (spHolds K CMap)) (h_goals_are_open : Has P w K mg base "goals_are_open" 3 ["chart", "rotten"] (spOpen K CMap))
    (h_many : HasM P w K mg base CMap "many" 1 ["self"] (spMany K CMap)) (h_arrows : HasM P w K mg base CMap "arrows" 1 ["self"] (spArrows K CMap))
    (D0 : Df K mg "is_standing" s_is_standing ["chart", "thing"]) : Has P w K mg base "is_standing" 4 ["chart", "thing"] (spStdAny K CMap) := by
  refine D0.has fun f fd F => F.ok sc_is_standing (fun vs H Q E h => ?_) (fun cdv A outer s H vs Q E hr h => ?_)
  · obtain ⟨p, n, a, pvs, es, c, gs, v, R, rfl, _⟩ := h
    rfl
  · obtain ⟨p, n, a, pvs, es, c, gs, v, R, rfl, m, hR, q⟩ := h
    refine ⟨_, (pss_cons (ps_if (PW.pt (pw_or (pt_not (pt_val (pe_callB (k_isi (K := K) rfl) (by rfl) B.isinstance bo_isinstance (pa_cons (pv 1) (pa_cons (pe_bltn (v := .ty "tuple") (by rfl) B.tuple bo_tuple rfl) pa_nil))))) (pw_or1 (pt_cmpR op_ne (pe_callB (k_len (K := K) rfl) (by rfl) B.len bo_len (pa_cons (pv 1) pa_nil)) pe_int (nomark _)))))
    (pss_one (ps_ret pe_bl))
    pss_nil)
  (pss_cons (ps_asg (pv 1) (pg_tup rfl (pgs_cons (pg_name (i := 2) sc_is_standing.nd rfl (.inl rfl)) (pgs_cons (pg_name (i := 3) sc_is_standing.nd rfl (.inl rfl)) pgs_nil))))
  (pss_cons (ps_if (PW.pt (pw_or (pt_not (pt_val (pcall h_is_lot hr (by decide) (by rfl) (pa_cons (pv 2) (pa_cons (pe_meth0 (pv 0) C.cl h_many.mt h_many.F (hr.mono (by decide)) h_many.b .nil pass0) pa_nil))))) (pw_or1 (pt_not (pt_val (pcall h_is_lot hr (by decide) (by rfl) (pa_cons (pv 3) (pa_cons (pe_callB (k_len (K := K) rfl) (by rfl) B.len bo_len (pa_cons (pe_meth0 (pv 0) C.cl h_arrows.mt h_arrows.F (hr.mono (by decide)) h_arrows.b .nil pass0) pa_nil)) pa_nil))))))))
    (pss_one (ps_ret pe_bl))
    pss_nil)
  (pss_cons (ps_set (i := 4) sc_is_standing.nd rfl (.inr rfl) (pcall h_marks hr (by decide) (by rfl) (pa_cons (pe_meth0 (pv 0) C.cl h_many.mt h_many.F (hr.mono (by decide)) h_many.b .nil pass0) (pa_cons (pv 2) pa_nil))))
  (pss_cons (ps_if (PW.pt (pw_or (pt_not (pt_val (pe_ix (k_ixl (K := K) rfl) (pv 4) pe_int (fun _ _ => rfl)))) (pw_or1 (pt_not (pt_val (pe_callB (k_all (K := K) rfl rfl) (by rfl) B.all bo_all (pa_cons (pe_lc (own := [("arrow", 5)]) (g := gName 5) rfl sc_is_standing.nd (k_pit (K := K) rfl (pv 3)) (blkOk_by (N := sl_is_standing) (sc := defScope s_is_standing) (by decide +kernel)) (fun _ _ _ _ _ => (pg_name (i := 5) sc_is_standing.nd rfl (.inl rfl))) (fun _ _ _ _ _ => pts_nil) (fun _ _ _ _ _ => (pe_ix (k_ixl (K := K) rfl) (pv 4) (pe_ix (k_ixt (K := K) rfl) (pe_ix (k_ixt (K := K) rfl) (pe_meth0 (pv 0) C.cl h_arrows.mt h_arrows.F (hr.mono (by decide)) h_arrows.b .nil pass0) (pv 5) (fun _ _ => rfl)) pe_int (fun _ _ => rfl)) (fun _ _ => rfl)))) pa_nil)))))))
    (pss_one (ps_ret pe_bl))
    pss_nil)
  (pss_one (ps_ret (pe_and (pcall h_holds_together hr (by decide) (by rfl) (pa_cons (pv 0) (pa_cons (pv 2) (pa_cons (pv 3) pa_nil)))) (pe_one (pcall h_goals_are_open hr (by decide) (by rfl) (pa_cons (pv 0) (pa_cons (pv 3) pa_nil)))))))))))), ?_⟩
    obtain ⟨dx, hp⟩ := m.at_.ob
    have hl := m.pr.len
    have hn1 := m.n1
    have qf : ¬ R → Q (.bl false) H := fun z => q H false (Same.refl H) ⟨fun e => (by cases e), fun e => absurd e z⟩
    rcases hR with ⟨⟨s, hk, hs⟩, hn⟩ | ⟨⟨t, xs, rfl, hS, hlen⟩, hn⟩ | ⟨t, a1, a2, o1, o2, rfl, hS, hA1, hA2, hR⟩
    · refine ⟨_, rfl, _, .ty "tuple", _, _, _, rfl, .ty "tuple", hk.ty, kit_tuple hk.mem, _, rfl, ?_⟩
      rw [hs]
      exact iteT (iteT (qf hn))
    · refine ⟨_, rfl, _, .ty "tuple", _, _, _, rfl, .ty "tuple", (kn_of_tup hS).ty, kit_tuple (kn_of_tup hS).mem, _, rfl, iteF ?_⟩
      refine ⟨_, rfl, t, _, rfl, .inr hS, rfl, _, rfl, ?_⟩
      have e : (!decide (V.int (xs.length : Int) = V.int 2)) = true := by
        rw [Bool.not_eq_true', decide_eq_false_iff_not]
        intro z
        injection z with z
        omega
      rw [e]
      exact iteT (qf hn)
    · refine ⟨_, rfl, _, .ty "tuple", _, _, _, rfl, .ty "tuple", (kn_of_tup hS).ty, kit_tuple (kn_of_tup hS).mem, _, rfl, iteF ?_⟩
      refine ⟨_, rfl, t, _, rfl, .inr hS, rfl, _, rfl, iteF ?_⟩
      refine ⟨_, rfl, t, _, rfl, hS, rfl, _, _, rfl, _, _, rfl, rfl, ?_⟩
      refine ⟨_, rfl, _, rfl, p, dx, _, rfl, hp, mapF_many _ _ _, p, n, a, pvs, c, gs, rfl, m.at_, a1, (n : Int), rfl, ?_⟩
      -- the first lot
      cases o1 with
      | none =>
        obtain ⟨s, hk, hs⟩ := hA1
        refine .inr ⟨s, hk, hs, _, rfl, iteT (iteT (qf fun z => ?_))⟩
        obtain ⟨rs, ls, e, _⟩ := hR.mp z
        cases e
      | some xs1 =>
      obtain ⟨x, rfl, hx, hxl, hxk⟩ := hA1
      refine .inl ⟨x, xs1, rfl, hx, hxk, _, rfl, ?_⟩
      cases hL1 : lotFrom (n : Int) (-1) xs1 with
      | false =>
        refine iteT (iteT (qf fun z => ?_))
        obtain ⟨rs, ls, e, _, o⟩ := hR.mp z
        cases e
        rw [lot_of (fun z hz => ⟨by have := o.rn z hz; omega, by omega⟩) o.rp] at hL1
        cases hL1
      | true =>
      refine iteF ?_
      refine ⟨_, rfl, _, rfl, p, dx, _, rfl, hp, mapF_arrows _ _ _, p, n, a, pvs, c, gs, rfl, m.at_, a, pvs, rfl, .inr m.at_.ar, a2, (pvs.length : Int), rfl, ?_⟩
      cases o2 with
      | none =>
        obtain ⟨s, hk, hs⟩ := hA2
        refine .inr ⟨s, hk, hs, _, rfl, iteT (qf fun z => ?_)⟩
        obtain ⟨rs, ls, _, e, _⟩ := hR.mp z
        cases e
      | some xs2 =>
      obtain ⟨y, rfl, hy, hyl, hyk⟩ := hA2
      refine .inl ⟨y, xs2, rfl, hy, hyk, _, rfl, ?_⟩
      cases hL2 : lotFrom (pvs.length : Int) (-1) xs2 with
      | false =>
        refine iteT (qf fun z => ?_)
        obtain ⟨rs, ls, _, e, o⟩ := hR.mp z
        cases e
        rw [lot_of (fun z hz => ⟨by have := o.ln z hz; omega, by omega⟩) o.lp] at hL2
        cases hL2
      | true =>
      refine iteF ?_
      obtain ⟨rs, rfl, hrn, hrp⟩ := lot_items hL1
      obtain ⟨ls, rfl, hln, hlp⟩ := lot_items hL2
      rw [hl] at hln
      have hR2 : R ↔ StdOk n es gs rs ls := by
        rw [hR]
        constructor
        · rintro ⟨rs', ls', e1, e2, o⟩
          rw [nV_inj (Option.some.inj e1), nV_inj (Option.some.inj e2)]
          exact o
        · intro o
          exact ⟨rs, ls, rfl, rfl, o⟩
      rw [List.length_map] at hxl hyl
      -- inside
      refine ⟨_, rfl, p, dx, _, rfl, hp, mapF_many _ _ _, p, n, a, pvs, c, gs, rfl, m.at_, _, rfl, n, x, rs, rfl, hx, hrn, by omega, fun d H1 s1 nd hd => ?_⟩
      have m1 := m.same s1
      have qf1 : ∀ H', Same H H' → ¬ StdOk n es gs rs ls → Q (.bl false) H' := fun H' sm z => q H' false sm ⟨fun e => (by cases e), fun e => absurd (hR2.mp e) z⟩
      refine ⟨_, rfl, d, _, (0 : Nat), _, rfl, rfl, sql hd, atI_nat (mks_get m.n0), _, rfl, ?_⟩
      by_cases h0 : 0 ∈ rs
      · rw [decide_eq_true h0]
        refine iteF ?_
        refine ⟨_, rfl, y, rfl, ⟨_, Same.sqt s1 hy⟩, fun D nD => ?_⟩
        refine lc_val walk_tup calm_at (fun i => (ls[i]?).bind fun l => (es[l]?).bind fun e => some (V.bl (decide (e.1 ∈ rs)))) (by rw [List.length_map]; omega) nD (fun H3 s3 => Same.sqt (s1.trans s3) hy) ?_ fun H3 s3 h3 => ?_
        · rintro i v H3 H4 hi s3 ⟨rfl, hv⟩ Kt kt
          obtain ⟨l, hli, rfl⟩ := getmap hv
          have m3 := m1.same s3
          obtain ⟨dx3, hp3⟩ := m3.at_.ob
          have hln1 := hln l (List.mem_of_getElem? hli)
          have hle : es[l]? = some es[l] := List.getElem?_eq_getElem hln1
          have hlv : pvs[l]? = some pvs[l] := List.getElem?_eq_getElem (by omega)
          obtain ⟨tp, htp, ht⟩ := m3.pr.at_ l _ _ hlv hle
          have h1n := (m.ok _ (List.mem_of_getElem? hle)).1
          refine ⟨rfl, tyes ?_⟩
          refine iteT ?_
          refine ⟨_, rfl, _, rfl, p, dx3, _, rfl, hp3, mapF_arrows _ _ _, p, n, a, pvs, c, gs, rfl, m3.at_, _, rfl, a, pvs, (l : Int), _, rfl, rfl, m3.at_.ar, atI_nat hlv, tp, _, (0 : Nat), _, htp, rfl, ht, atI_nat rfl, d, _, (es[l].1 : Int), _, rfl, rfl, sql (s3 _ _ hd), atI_nat (mks_get h1n), ?_⟩
          have k0 := kt _ (Same.refl _)
          rw [hli] at k0
          simp only [Option.bind_some] at k0
          rw [hle] at k0
          exact k0
        rw [List.length_map, fm_range] at h3
        have e2 : (ls.filterMap fun l => (es[l]?).bind fun e => some (V.bl (decide (e.1 ∈ rs)))) = (ls.map fun l => ((es[l]?).map fun e => decide (e.1 ∈ rs)).getD false).map V.bl := by
          rw [List.map_map, ← fm_some]
          refine fm_cg fun l hl2 => ?_
          show _ = some (V.bl (((es[l]?).map fun e => decide (e.1 ∈ rs)).getD false))
          rw [List.getElem?_eq_getElem (hln l hl2)]
          rfl
        rw [e2] at h3
        refine ⟨D, _, rfl, sql h3, _, rfl, ?_⟩
        have e3 : (ls.map fun l => ((es[l]?).map fun e => decide (e.1 ∈ rs)).getD false).all id = true ↔ ∀ l ∈ ls, ∀ e, es[l]? = some e → e.1 ∈ rs := by
          rw [List.all_eq_true]
          constructor
          · intro h l hl2 e he
            have := h _ (List.mem_map.mpr ⟨l, hl2, rfl⟩)
            rw [he] at this
            exact of_decide_eq_true this
          · intro h z hz
            obtain ⟨l, hl2, rfl⟩ := List.mem_map.mp hz
            have he := List.getElem?_eq_getElem (hln l hl2)
            rw [he]
            exact decide_eq_true (h l hl2 _ he)
        have s13 : Same H H3 := s1.trans s3
        cases hall : (ls.map fun l => ((es[l]?).map fun e => decide (e.1 ∈ rs)).getD false).all id with
        | false =>
          refine iteT (qf1 H3 s13 fun o => ?_)
          rw [e3.mpr o.tl] at hall
          cases hall
        | true =>
        refine iteF ?_
        have htl := e3.mp hall
        have m3 := m.same s13
        refine ⟨_, rfl, _, rfl, _, rfl, p, n, a, pvs, es, c, gs, x, y, rs, ls, rfl, m3, Same.sqt s13 hx, hrn, hxl, Same.sqt s13 hy, hln, fun H5 ok5 s5 hok5 => ?_⟩
        refine ⟨_, rfl, ?_⟩
        have s15 := s13.trans s5
        cases ok5 with
        | false =>
          refine iteF (qf1 H5 s15 fun o => ?_)
          have := hok5.mpr o.hold
          cases this
        | true =>
        refine iteT ⟨_, rfl, _, rfl, p, n, a, pvs, es, c, gs, y, ls, rfl, m3.same s5, Same.sqt s15 hy, hln, fun H6 ok6 s6 hok6 => ?_⟩
        refine q H6 ok6 (s15.trans s6) (hR2.trans ⟨fun o => hok6.mpr o.opn, fun z => ⟨hrp, hlp, hrn, hln, h0, htl, hok5.mp rfl, hok6.mp z⟩⟩).symm
      · rw [decide_eq_false h0]
        refine iteT (iteT (qf1 H1 s1 fun o => h0 o.r0))

abbrev s_steps_to_go : Stmt := topS 29
abbrev sl_steps_to_go : List Str := ["chart", "standing", "reached", "_", "inside", "turned", "goals", "tail", "head", "goal"]
theorem sc_steps_to_go : FnScope ["chart", "standing", "reached", "_", "inside", "turned", "goals", "tail", "head", "goal"] ["chart", "standing"] (defScope s_steps_to_go) := ⟨rfl, rfl, rfl, by decide +kernel, rfl, by decide +kernel, by decide +kernel⟩
/-- edges turned about -/
def swp (e : Nat × Nat) : Nat × Nat := (e.2, e.1)
abbrev backE (es : Es) (rs ls : List Nat) : Es := (unr es rs ls).filterMap fun e => some (swp e)
abbrev openG (gs rs : List Nat) : List Nat := gs.filterMap fun g => if g ∈ rs then none else some g
theorem mem_openG {gs rs : List Nat} {g : Nat} : g ∈ openG gs rs ↔ g ∈ gs ∧ g ∉ rs := by
  unfold openG
  rw [List.mem_filterMap]
  constructor
  · rintro ⟨z, hz, h⟩
    by_cases hm : z ∈ rs
    · rw [if_pos hm] at h
      cases h
    · rw [if_neg hm] at h
      cases h
      exact ⟨hz, hm⟩
  · rintro ⟨h1, h2⟩
    exact ⟨g, h1, if_neg h2⟩
def RGo : Nat → Es → List Nat → List Nat → List Nat → Hp → V → Hp → Prop := fun n es gs rs ls H v H' => ∃ D st, v = .ref D ∧ H D = none ∧ H' D = some (.lst (stV n st)) ∧
  ∀ u, u < n → (∀ d, st u = some d ↔ Dst (backE es rs ls) (openG gs rs) u d) ∧ (st u = none ↔ ¬ Rch (backE es rs ls) (openG gs rs) u)
theorem ok_steps_to_go {CMap : Addr} (C : MapC K mg CMap) (h_marks : Has P w K mg base "marks" 1 ["many", "lot"] (spMarks K)) (h_steps_from : Has P w K mg base "steps_from" 1 ["many", "pairs", "sources"] (spSteps K))
    (h_unreached_pairs : Has P w K mg base "_unreached_pairs" 3 ["chart", "standing"] (spUnr K CMap))
    (h_many : HasM P w K mg base CMap "many" 1 ["self"] (spMany K CMap)) (h_goals : HasM P w K mg base CMap "goals" 1 ["self"] (spGoals K CMap))
    (D0 : Df K mg "steps_to_go" s_steps_to_go ["chart", "standing"]) : Has P w K mg base "steps_to_go" 4 ["chart", "standing"] (spOf K CMap RGo) := by
  refine D0.has fun f fd F => F.ok sc_steps_to_go (fun vs H Q E h => ?_) (fun cdv A outer s H vs Q E hr h => ?_)
  · obtain ⟨p, n, a, pvs, es, c, gs, t, x, y, rs, ls, rfl, _⟩ := h
    rfl
  · obtain ⟨p, n, a, pvs, es, c, gs, t, x, y, rs, ls, rfl, h1, q⟩ := h
    refine ⟨_, (pss_cons (ps_asg (pv 1) (pg_tup rfl (pgs_cons (pg_name (i := 2) sc_steps_to_go.nd rfl (.inl rfl)) (pgs_cons (pg_name (i := 3) sc_steps_to_go.nd rfl (.inl rfl)) pgs_nil))))
  (pss_cons (ps_set (i := 4) sc_steps_to_go.nd rfl (.inr rfl) (pcall h_marks hr (by decide) (by rfl) (pa_cons (pe_meth0 (pv 0) C.cl h_many.mt h_many.F (hr.mono (by decide)) h_many.b .nil pass0) (pa_cons (pv 2) pa_nil))))
  (pss_cons (ps_setLc (i := 5) (own := [("tail", 7), ("head", 8)]) (g := gTup K 2 (gCons (gName 7) (gCons (gName 8) gNil))) rfl sc_steps_to_go.nd rfl rfl (sw_true rfl rfl rfl (by decide +kernel)) (k_pil (K := K) rfl (pcall h_unreached_pairs hr (by decide) (by rfl) (pa_cons (pv 0) (pa_cons (pv 1) pa_nil)))) (blkOk_by (N := sl_steps_to_go) (sc := defScope s_steps_to_go) (by decide +kernel)) (fun _ _ _ _ _ => (pg_tup rfl (pgs_cons (pg_name (i := 7) sc_steps_to_go.nd rfl (.inl rfl)) (pgs_cons (pg_name (i := 8) sc_steps_to_go.nd rfl (.inl rfl)) pgs_nil)))) (fun _ _ _ _ _ => pts_nil) (fun _ _ _ _ _ => (pe_tup (pa_cons (pv 8) (pa_cons (pv 7) pa_nil)))))
  (pss_cons (ps_setLc (i := 6) (own := [("goal", 9)]) (g := gName 9) rfl sc_steps_to_go.nd rfl rfl (sw_true rfl rfl rfl (by decide +kernel)) (k_pit (K := K) rfl (pe_meth0 (pv 0) C.cl h_goals.mt h_goals.F (hr.mono (by decide)) h_goals.b .nil pass0)) (blkOk_by (N := sl_steps_to_go) (sc := defScope s_steps_to_go) (by decide +kernel)) (fun _ _ _ _ _ => (pg_name (i := 9) sc_steps_to_go.nd rfl (.inl rfl))) (fun _ _ _ _ _ => pts_one (pt_not (pt_val (pe_ix (k_ixl (K := K) rfl) (pv 4) (pv 9) (fun _ _ => rfl))))) (fun _ _ _ _ _ => (pv 9)))
  (pss_one (ps_ret (pcall h_steps_from hr (by decide) (by rfl) (pa_cons (pe_meth0 (pv 0) C.cl h_many.mt h_many.F (hr.mono (by decide)) h_many.b .nil pass0) (pa_cons (pv 5) (pa_cons (pv 6) pa_nil)))))))))), ?_⟩
    obtain ⟨dx, hp⟩ := h1.m.at_.ob
    refine ⟨_, rfl, t, _, rfl, h1.S.t, rfl, _, _, rfl, _, _, rfl, rfl, ?_⟩
    refine ⟨_, rfl, p, dx, _, rfl, hp, mapF_many _ _ _, p, n, a, pvs, c, gs, rfl, h1.m.at_, _, rfl, n, x, rs, rfl, h1.S.x, h1.o.rn, by have := h1.m.n1; omega, fun d H2 s2 nd hd => ?_⟩
    have h2 := h1.same s2
    -- turned
    refine ⟨_, rfl, _, rfl, p, n, a, pvs, es, c, gs, t, x, y, rs, ls, rfl, h2.m, h2.S, h2.o.rn, h2.o.ln, fun ul H3 uvs s3 nul hul hpr => ?_⟩
    have h3 := h2.same s3
    refine ⟨ul, rfl, ⟨_, sql hul⟩, fun D nD => ?_⟩
    have hul2 : uvs.length ≤ 1000 := by
      rw [hpr.len]
      exact Nat.le_trans (List.length_filterMap_le _ _) (Nat.le_trans leftV_len h1.m.el)
    refine lc_rel walk_list calm_at (RelG (fun e => some (swp e)) (unr es rs ls)) RelG.stay (by omega) nD (fun H4 s4 => sql (s4 _ _ hul)) ?_ fun H4 os s4 hol hos hD4 => ?_
    · rintro i v H4 H5 hi s4 ⟨rfl, hv⟩ Kt kt
      obtain ⟨e, hei, tt, rfl, ht⟩ := hpr.get hv
      obtain ⟨e1, e2⟩ := e
      refine ⟨tt, _, rfl, Same.sqt s4 ht, rfl, _, _, rfl, _, _, rfl, rfl, rfl, tyes ?_⟩
      refine iteT ?_
      exact ⟨_, rfl, _, rfl, by show 2 ≤ sizeLine; decide, fun t2 nt2 => kt _ _ (same_new (Same.refl _) nt2) ⟨(e1, e2), hei, .inl ⟨(e2, e1), _, rfl, rfl, t2, rfl, upd_same⟩⟩⟩
    have p4 := prs_rel (K := K) (hol.trans hpr.len) hos
    have h4 := h3.same s4
    have hd4 := s4 _ _ (s3 _ _ hd)
    obtain ⟨dx4, hp4⟩ := h4.m.at_.ob
    -- goals
    refine ⟨_, rfl, p, dx4, _, rfl, hp4, mapF_goals _ _ _, p, n, a, pvs, c, gs, rfl, h4.m.at_, c, rfl, ⟨_, h4.m.at_.go⟩, fun G nG => ?_⟩
    refine lc_val walk_tup calm_at (fun i => (gs[i]?).bind fun g => if g ∈ rs then none else some (nV g)) (by rw [List.length_map]; have := h2.m.gn; omega) nG (fun H5 s5 => Same.sqt s5 h4.m.at_.go) ?_ fun H5 s5 hG5 => ?_
    · rintro i v H5 H6 hi s5 ⟨rfl, hv⟩ Kt kt
      obtain ⟨g, hgi, rfl⟩ := getmap hv
      have hgn := h2.m.gl g (List.mem_of_getElem? hgi)
      refine ⟨rfl, ?_⟩
      refine ⟨_, rfl, _, rfl, d, _, (g : Int), _, rfl, rfl, sql (s5 _ _ hd4), atI_nat (mks_get hgn), _, rfl, ?_⟩
      have k0 := kt _ (Same.refl _)
      rw [hgi] at k0
      by_cases hm : g ∈ rs
      · rw [decide_eq_true hm]
        refine iteF ?_
        have k1 : Kt (if g ∈ rs then none else some (nV g)) _ := k0
        rw [if_pos hm] at k1
        exact k1
      · rw [decide_eq_false hm]
        refine iteT ⟨_, rfl, ?_⟩
        have k1 : Kt (if g ∈ rs then none else some (nV g)) _ := k0
        rw [if_neg hm] at k1
        exact k1
    rw [List.length_map, fm_range] at hG5
    have eG : (gs.filterMap fun g => if g ∈ rs then none else some (nV g)) = (openG gs rs).map nV := by
      unfold openG
      rw [List.map_filterMap]
      congr 1
      funext g
      by_cases hm : g ∈ rs
      · rw [if_pos hm, if_pos hm]
        rfl
      · rw [if_neg hm, if_neg hm]
        rfl
    rw [eG] at hG5
    have h5 := h4.same s5
    obtain ⟨dx5, hp5⟩ := h5.m.at_.ob
    refine ⟨_, rfl, p, dx5, _, rfl, hp5, mapF_many _ _ _, p, n, a, pvs, c, gs, rfl, h5.m.at_, _, rfl, _, rfl, ?_⟩
    have hok : ∀ e ∈ backE es rs ls, e.1 < n ∧ e.2 < n := fun e he => by
      obtain ⟨e0, h6, h7⟩ := List.mem_filterMap.mp he
      cases h7
      have h8 := fmG_ok (Pq := fun e => e.1 < n ∧ e.2 < n) (fun e e' => unr_ok (Pq := fun e => e.1 < n ∧ e.2 < n)) (left_ok h1.m.ok) e0 h6
      exact ⟨h8.2, h8.1⟩
    refine ⟨n, D, G, _, backE es rs ls, openG gs rs, rfl, .inl (sql (s5 _ _ hD4)), p4.same s5, .inl (sql hG5), hok, fun g hg => h1.m.gl g (mem_openG.mp hg).1, h1.m.n1, ?_, fun r H6 st s6 nr hr6 hst => ?_⟩
    · exact Nat.le_trans (List.length_filterMap_le _ _) (Nat.le_trans (List.length_filterMap_le _ _) (Nat.le_trans leftV_len h1.m.el))
    · have sm : Same H H5 := ((s2.trans s3).trans s4).trans s5
      exact q _ H6 (sm.trans s6) ⟨r, st, rfl, Same.free sm nr, hr6, hst⟩

/-- the place is alive -/
def Alive (es : Es) (gs rs ls : List Nat) (v : Nat) : Prop := Rch (backE es rs ls) (openG gs rs) v
def RAlive : Nat → Es → List Nat → List Nat → List Nat → Hp → V → Hp → Prop := fun n es gs rs ls H v H' => ∃ (q : Addr) (as : List Nat), v = .ref q ∧ H q = none ∧ H' q = some (.tup (as.map nV)) ∧ as.Pairwise (· < ·) ∧ ∀ u, u ∈ as ↔ u < n ∧ Alive es gs rs ls u
theorem no_alive {es : Es} {gs rs ls : List Nat} (h : ∀ g ∈ gs, g ∈ rs) {v : Nat} (ha : Alive es gs rs ls v) : False :=
  ha.ind (P := fun _ => False) (fun v hv => (mem_openG.mp hv).2 (h v (mem_openG.mp hv).1)) fun _ _ z _ => z
theorem alive_out {es : Es} {gs rs ls : List Nat} {v : Nat} (h : Alive es gs rs ls v) : v ∉ rs :=
  h.ind (P := fun v => v ∉ rs) (fun v hv => (mem_openG.mp hv).2) fun u v _ e => by
    obtain ⟨e0, h6, h7⟩ := List.mem_filterMap.mp e
    cases h7
    obtain ⟨e1, _, h9⟩ := List.mem_filterMap.mp h6
    unfold unrG at h9
    split at h9
    · rename_i hc
      cases h9
      exact hc.1
    · cases h9
theorem alive_back {es : Es} {gs rs ls : List Nat} {u v k : Nat} (ha : Alive es gs rs ls v) (hk : es[k]? = some (u, v)) (hl : k ∉ ls) (hu : u ∉ rs) (hv : v ∉ rs) : Alive es gs rs ls u := by
  refine Rch.edge ha (List.mem_filterMap.mpr ⟨(u, v), List.mem_filterMap.mpr ⟨(u, v), mem_leftV.mpr ⟨k, hk, hl⟩, ?_⟩, rfl⟩)
  unfold unrG
  exact if_pos ⟨hu, hv⟩
theorem mem_backE {es : Es} {rs ls : List Nat} {e : Nat × Nat} : e ∈ backE es rs ls ↔ ∃ k, es[k]? = some (swp e) ∧ k ∉ ls ∧ e.1 ∉ rs ∧ e.2 ∉ rs := by
  constructor
  · intro h
    obtain ⟨e0, h6, h7⟩ := List.mem_filterMap.mp h
    cases h7
    obtain ⟨e1, h8, h9⟩ := List.mem_filterMap.mp h6
    unfold unrG at h9
    split at h9
    · rename_i hc
      cases h9
      obtain ⟨k, h10, h11⟩ := mem_leftV.mp h8
      exact ⟨k, h10, h11, hc.2, hc.1⟩
    · cases h9
  · rintro ⟨k, h1, h2, h3, h4⟩
    refine List.mem_filterMap.mpr ⟨swp e, List.mem_filterMap.mpr ⟨swp e, mem_leftV.mpr ⟨k, h1, h2⟩, ?_⟩, rfl⟩
    unfold unrG
    exact if_pos ⟨h4, h3⟩

abbrev s_tries_at : Stmt := topS 27
abbrev sl_tries_at : List Str := ["chart", "standing", "reached", "rotten", "inside", "gone", "arrow", "tail", "head"]
theorem sc_tries_at : FnScope ["chart", "standing", "reached", "rotten", "inside", "gone", "arrow", "tail", "head"] ["chart", "standing"] (defScope s_tries_at) := ⟨rfl, rfl, rfl, by decide +kernel, rfl, by decide +kernel, by decide +kernel⟩
def isTry (es : Es) (rs ls : List Nat) (i : Nat) : Option Nat := (es[i]?).bind fun e => if i ∉ ls ∧ e.1 ∈ rs ∧ e.2 ∉ rs then some i else none
def triesL (es : Es) (rs ls : List Nat) : List Nat := (List.range es.length).filterMap (isTry es rs ls)
theorem isTry_some {es : Es} {rs ls : List Nat} {i j : Nat} (h : isTry es rs ls i = some j) : j = i ∧ ∃ e, es[i]? = some e ∧ i ∉ ls ∧ e.1 ∈ rs ∧ e.2 ∉ rs := by
  unfold isTry at h
  cases e : es[i]? with
  | none => rw [e] at h; cases h
  | some x =>
    rw [e] at h
    simp only [Option.bind_some] at h
    split at h
    · rename_i hc
      exact ⟨(Option.some.inj h).symm, x, rfl, hc⟩
    · cases h
theorem mem_tries {es : Es} {rs ls : List Nat} {i : Nat} : i ∈ triesL es rs ls ↔ ∃ e, es[i]? = some e ∧ i ∉ ls ∧ e.1 ∈ rs ∧ e.2 ∉ rs := by
  unfold triesL
  rw [List.mem_filterMap]
  constructor
  · rintro ⟨j, _, h⟩
    obtain ⟨h1, h2⟩ := isTry_some h
    rw [h1]
    exact h2
  · rintro ⟨e, he, h⟩
    refine ⟨i, List.mem_range.mpr (List.getElem?_eq_some_iff.mp he).1, ?_⟩
    unfold isTry
    rw [he]
    exact if_pos h
theorem tries_pw {es : Es} {rs ls : List Nat} : (triesL es rs ls).Pairwise (· < ·) := fm_pw fun i j h => (isTry_some h).1
def RTries : Nat → Es → List Nat → List Nat → List Nat → Hp → V → Hp → Prop := fun n es gs rs ls H v H' => ∃ q : Addr, v = .ref q ∧ H q = none ∧ H' q = some (.tup ((triesL es rs ls).map nV))
theorem ok_tries_at {CMap : Addr} (B : Bt mg) (C : MapC K mg CMap) (h_marks : Has P w K mg base "marks" 1 ["many", "lot"] (spMarks K))
    (h_many : HasM P w K mg base CMap "many" 1 ["self"] (spMany K CMap)) (h_arrows : HasM P w K mg base CMap "arrows" 1 ["self"] (spArrows K CMap))
    (D0 : Df K mg "tries_at" s_tries_at ["chart", "standing"]) : Has P w K mg base "tries_at" 3 ["chart", "standing"] (spOf K CMap RTries) := by
  refine D0.has fun f fd F => F.ok sc_tries_at (fun vs H Q E h => ?_) (fun cdv A outer s H vs Q E hr h => ?_)
  · obtain ⟨p, n, a, pvs, es, c, gs, t, x, y, rs, ls, rfl, _⟩ := h
    rfl
  · obtain ⟨p, n, a, pvs, es, c, gs, t, x, y, rs, ls, rfl, hh, q⟩ := h
    refine ⟨_, (pss_cons (ps_asg (pv 1) (pg_tup rfl (pgs_cons (pg_name (i := 2) sc_tries_at.nd rfl (.inl rfl)) (pgs_cons (pg_name (i := 3) sc_tries_at.nd rfl (.inl rfl)) pgs_nil))))
  (pss_cons (ps_set (i := 4) sc_tries_at.nd rfl (.inr rfl) (pcall h_marks hr (by decide) (by rfl) (pa_cons (pe_meth0 (pv 0) C.cl h_many.mt h_many.F (hr.mono (by decide)) h_many.b .nil pass0) (pa_cons (pv 2) pa_nil))))
  (pss_cons (ps_set (i := 5) sc_tries_at.nd rfl (.inr rfl) (pcall h_marks hr (by decide) (by rfl) (pa_cons (pe_callB (k_len (K := K) rfl) (by rfl) B.len bo_len (pa_cons (pe_meth0 (pv 0) C.cl h_arrows.mt h_arrows.F (hr.mono (by decide)) h_arrows.b .nil pass0) pa_nil)) (pa_cons (pv 3) pa_nil))))
  (pss_one (ps_ret (pe_callTy (k_tuple (K := K) rfl) (by rfl) B.tuple bo_tuple (pa_cons (pe_lc (own := [("arrow", 6), ("tail", 7), ("head", 8)]) (g := gTup K 2 (gCons (gName 6) (gCons (gTup K 2 (gCons (gName 7) (gCons (gName 8) gNil))) gNil))) rfl sc_tries_at.nd (pi_enumT (by rfl) B.enumerate (pa_cons (pe_meth0 (pv 0) C.cl h_arrows.mt h_arrows.F (hr.mono (by decide)) h_arrows.b .nil pass0) pa_nil)) (blkOk_by (N := sl_tries_at) (sc := defScope s_tries_at) (by decide +kernel)) (fun _ _ _ _ _ => (pg_tup rfl (pgs_cons (pg_name (i := 6) sc_tries_at.nd rfl (.inl rfl)) (pgs_cons (pg_tup rfl (pgs_cons (pg_name (i := 7) sc_tries_at.nd rfl (.inl rfl)) (pgs_cons (pg_name (i := 8) sc_tries_at.nd rfl (.inl rfl)) pgs_nil))) pgs_nil)))) (fun _ _ _ _ _ => pts_one (PW.pt (pw_and (pt_not (pt_val (pe_ix (k_ixl (K := K) rfl) (pv 5) (pv 6) (fun _ _ => rfl)))) (pw_and (pt_val (pe_ix (k_ixl (K := K) rfl) (pv 4) (pv 7) (fun _ _ => rfl))) (pw_and1 (pt_not (pt_val (pe_ix (k_ixl (K := K) rfl) (pv 4) (pv 8) (fun _ _ => rfl))))))))) (fun _ _ _ _ _ => (pv 6))) pa_nil))))))), ?_⟩
    have hl := hh.m.pr.len
    have hn1 := hh.m.n1
    have hel := hh.m.el
    have s1 := Same.refl H
    have h1 := hh
    obtain ⟨dx, hp⟩ := h1.m.at_.ob
    refine ⟨_, rfl, t, _, rfl, h1.S.t, rfl, _, _, rfl, _, _, rfl, rfl, ?_⟩
    refine ⟨_, rfl, p, dx, _, rfl, hp, mapF_many _ _ _, p, n, a, pvs, c, gs, rfl, h1.m.at_, _, rfl, n, x, rs, rfl, h1.S.x, h1.o.rn, by omega, fun d H2 s2 nd hd => ?_⟩
    have h2 := h1.same s2
    obtain ⟨dx2, hp2⟩ := h2.m.at_.ob
    refine ⟨_, rfl, p, dx2, _, rfl, hp2, mapF_arrows _ _ _, p, n, a, pvs, c, gs, rfl, h2.m.at_, a, pvs, rfl, .inr h2.m.at_.ar, _, rfl, pvs.length, y, ls, rfl, h2.S.y, fun z hz => by rw [hl]; exact hh.o.ln z hz, by omega, fun g H3 s3 ng hg => ?_⟩
    have h3 := h2.same s3
    have hd3 := s3 _ _ hd
    obtain ⟨dx3, hp3⟩ := h3.m.at_.ob
    refine ⟨_, rfl, p, dx3, _, rfl, hp3, mapF_arrows _ _ _, p, n, a, pvs, c, gs, rfl, h3.m.at_, a, pvs, rfl, h3.m.at_.ar, fun D nD => ?_⟩
    refine lc_val walkT calm_pair (fun i => (isTry es rs ls i).map nV) (by omega) nD (fun H4 s4 => Same.sqt s4 h3.m.at_.ar) ?_ fun H4 s4 h4 => ?_
    · rintro i v H4 H5 hi s4 ⟨T, x1, x2, rfl, nT, rfl, e1, e2⟩ Kt kt
      cases e1
      have s5 := same_new (o := .tup [.int (i : Nat), x2]) (Same.refl H4) nT
      obtain ⟨e, hei, tt, rfl, ht⟩ := hh.m.pr.get (show pvs[i]? = some x2 from e2)
      obtain ⟨e1, e2⟩ := e
      have hok := hh.m.ok _ (List.mem_of_getElem? hei)
      have sm : Same H (upd H4 T (.tup [.int (i : Nat), .ref tt])) := (((s1.trans s2).trans s3).trans s4).trans s5
      have hg5 := s5 _ _ (s4 _ _ hg)
      have hd5 := s5 _ _ (s4 _ _ hd3)
      have k0 := kt _ (Same.refl _)
      have kf : ¬ (i ∉ ls ∧ e1 ∈ rs ∧ e2 ∉ rs) → Kt none (upd H4 T (.tup [.int (i : Nat), .ref tt])) := fun z => by
        unfold isTry at k0
        rw [hei] at k0
        simp only [Option.bind_some] at k0
        rw [if_neg z] at k0
        exact k0
      refine ⟨T, _, rfl, sqt upd_same, rfl, _, _, rfl, _, _, rfl, ⟨tt, _, rfl, Same.sqt sm ht, rfl, _, _, rfl, _, _, rfl, rfl, rfl, rfl, ?_⟩⟩
      refine ⟨_, rfl, _, rfl, g, _, (i : Int), _, rfl, rfl, sql hg5, atI_nat (mks_get hi), _, rfl, ?_⟩
      by_cases m1 : i ∈ ls
      · rw [decide_eq_true m1]
        refine iteF ?_
        exact iteF (kf fun z => z.1 m1)
      rw [decide_eq_false m1]
      refine iteT ⟨_, rfl, _, rfl, d, _, (e1 : Int), _, rfl, rfl, sql hd5, atI_nat (mks_get hok.1), _, rfl, ?_⟩
      by_cases m2 : e1 ∈ rs
      · rw [decide_eq_true m2]
        refine iteT ⟨_, rfl, _, rfl, d, _, (e2 : Int), _, rfl, rfl, sql hd5, atI_nat (mks_get hok.2), _, rfl, ?_⟩
        by_cases m3 : e2 ∈ rs
        · rw [decide_eq_true m3]
          refine iteF ?_
          exact kf fun z => z.2.2 m3
        · rw [decide_eq_false m3]
          refine iteT ⟨_, rfl, ?_⟩
          unfold isTry at k0
          rw [hei] at k0
          simp only [Option.bind_some] at k0
          rw [if_pos ⟨m1, m2, m3⟩] at k0
          exact k0
      · rw [decide_eq_false m2]
        refine iteF ?_
        exact iteF (kf fun z => m2 z.2.1)
    · have e1 : ((List.range pvs.length).filterMap fun i => (isTry es rs ls i).map nV) = (triesL es rs ls).map nV := by
        unfold triesL
        rw [List.map_filterMap, hl]
      rw [e1] at h4
      refine ⟨D, _, rfl, .inl ⟨sql h4, fun q1 nq1 => ?_⟩⟩
      have sm : Same H H4 := ((s1.trans s2).trans s3).trans s4
      exact q _ _ (same_new sm nq1) ⟨q1, rfl, Same.free sm nq1, upd_same⟩

abbrev s_worth_at : Stmt := topS 28
abbrev sl_worth_at : List Str := ["chart", "standing", "tried", "steps", "arrows", "arrow"]
theorem sc_worth_at : FnScope ["chart", "standing", "tried", "steps", "arrows", "arrow"] ["chart", "standing"] (defScope s_worth_at) := ⟨rfl, rfl, rfl, by decide +kernel, rfl, by decide +kernel, by decide +kernel⟩
def RWorth : Nat → Es → List Nat → List Nat → List Nat → Hp → V → Hp → Prop := fun n es gs rs ls H v H' => ∃ (q : Addr) (ws : List Nat), v = .ref q ∧ H q = none ∧ H' q = some (.tup (ws.map nV)) ∧ ws.Pairwise (· < ·) ∧
  ∀ i, i ∈ ws ↔ i ∈ triesL es rs ls ∧ ∃ e, es[i]? = some e ∧ Alive es gs rs ls e.2
theorem ok_worth_at {CMap : Addr} (B : Bt mg) (C : MapC K mg CMap) (h_tries_at : Has P w K mg base "tries_at" 3 ["chart", "standing"] (spOf K CMap RTries)) (h_steps_to_go : Has P w K mg base "steps_to_go" 4 ["chart", "standing"] (spOf K CMap RGo))
    (h_arrows : HasM P w K mg base CMap "arrows" 1 ["self"] (spArrows K CMap)) (D0 : Df K mg "worth_at" s_worth_at ["chart", "standing"]) : Has P w K mg base "worth_at" 5 ["chart", "standing"] (spOf K CMap RWorth) := by
  refine D0.has fun f fd F => F.ok sc_worth_at (fun vs H Q E h => ?_) (fun cdv A outer s H vs Q E hr h => ?_)
  · obtain ⟨p, n, a, pvs, es, c, gs, t, x, y, rs, ls, rfl, _⟩ := h
    rfl
  · obtain ⟨p, n, a, pvs, es, c, gs, t, x, y, rs, ls, rfl, hh, q⟩ := h
    refine ⟨_, (pss_cons (ps_set (i := 2) sc_worth_at.nd rfl (.inl rfl) (pcall h_tries_at hr (by decide) (by rfl) (pa_cons (pv 0) (pa_cons (pv 1) pa_nil))))
  (pss_cons (ps_set (i := 3) sc_worth_at.nd rfl (.inr rfl) (pcall h_steps_to_go hr (by decide) (by rfl) (pa_cons (pv 0) (pa_cons (pv 1) pa_nil))))
  (pss_cons (ps_set (i := 4) sc_worth_at.nd rfl (.inr rfl) (pe_meth0 (pv 0) C.cl h_arrows.mt h_arrows.F (hr.mono (by decide)) h_arrows.b .nil pass0))
  (pss_one (ps_ret (pe_callTy (k_tuple (K := K) rfl) (by rfl) B.tuple bo_tuple (pa_cons (pe_lc (own := [("arrow", 5)]) (g := gName 5) rfl sc_worth_at.nd (k_pit (K := K) rfl (pv 2)) (blkOk_by (N := sl_worth_at) (sc := defScope s_worth_at) (by decide +kernel)) (fun _ _ _ _ _ => (pg_name (i := 5) sc_worth_at.nd rfl (.inl rfl))) (fun _ _ _ _ _ => pts_one (pt_cmpR op_notN (pe_ix (k_ixl (K := K) rfl) (pv 3) (pe_ix (k_ixt (K := K) rfl) (pe_ix (k_ixt (K := K) rfl) (pv 4) (pv 5) (fun _ _ => rfl)) pe_int (fun _ _ => rfl)) (fun _ _ => rfl)) pe_non (nomark _))) (fun _ _ _ _ _ => (pv 5))) pa_nil))))))), ?_⟩
    have hl := hh.m.pr.len
    have hel := hh.m.el
    refine ⟨_, rfl, _, rfl, p, n, a, pvs, es, c, gs, t, x, y, rs, ls, rfl, hh, fun v H1 s1 hv => ?_⟩
    obtain ⟨tr, rfl, ntr, htr⟩ := hv
    have h1 := hh.same s1
    refine ⟨_, rfl, _, rfl, p, n, a, pvs, es, c, gs, t, x, y, rs, ls, rfl, h1, fun v H2 s2 hv => ?_⟩
    obtain ⟨d, st, rfl, nd, hd, hst⟩ := hv
    have h2 := h1.same s2
    have htr2 := s2 _ _ htr
    obtain ⟨dx, hp⟩ := h2.m.at_.ob
    refine ⟨_, rfl, p, dx, _, rfl, hp, mapF_arrows _ _ _, p, n, a, pvs, c, gs, rfl, h2.m.at_, ?_⟩
    refine ⟨_, rfl, tr, rfl, ⟨_, sqt htr2⟩, fun D nD => ?_⟩
    have hlt : (triesL es rs ls).length ≤ es.length - 0 := pw_len tries_pw fun z hz => ⟨Nat.zero_le _, by
      obtain ⟨e, he, _⟩ := mem_tries.mp hz
      exact (List.getElem?_eq_some_iff.mp he).1⟩
    refine lc_val walk_tup calm_at (fun i => ((triesL es rs ls)[i]?).bind fun k => (es[k]?).bind fun e => if (st e.2).isSome then some (nV k) else none) (by rw [List.length_map]; omega) nD (fun H3 s3 => sqt (s3 _ _ htr2)) ?_ fun H3 s3 h3 => ?_
    · rintro i v H3 H4 hi s3 ⟨rfl, hv⟩ Kt kt
      obtain ⟨k, hki, rfl⟩ := getmap hv
      obtain ⟨e, hke, _⟩ := mem_tries.mp (List.mem_of_getElem? hki)
      have h3 := h2.same s3
      have hkl : k < pvs.length := by rw [hl]; exact (List.getElem?_eq_some_iff.mp hke).1
      have hk : pvs[k]? = some pvs[k] := List.getElem?_eq_getElem hkl
      obtain ⟨tt, htt, ht⟩ := h3.m.pr.at_ k _ _ hk hke
      have hok := hh.m.ok _ (List.mem_of_getElem? hke)
      refine ⟨rfl, ?_⟩
      refine ⟨_, rfl, _, rfl, _, rfl, a, pvs, (k : Int), _, rfl, rfl, h3.m.at_.ar, atI_nat hk, tt, _, (1 : Nat), nV e.2, htt, rfl, ht, atI_nat rfl, d, _, (e.2 : Int), oV (st e.2), rfl, rfl, sql (s3 _ _ hd), atI_nat (stV_get hok.2), rfl, _, rfl, ?_⟩
      have k0 := kt _ (Same.refl _)
      rw [hki] at k0
      simp only [Option.bind_some] at k0
      rw [hke] at k0
      simp only [Option.bind_some] at k0
      cases e5 : st e.2 with
      | none =>
        rw [e5] at k0
        exact iteF k0
      | some dd =>
        rw [e5] at k0
        exact iteT ⟨_, rfl, k0⟩
    · rw [List.length_map, fm_range] at h3
      have e1 : ((triesL es rs ls).filterMap fun k => (es[k]?).bind fun e => if (st e.2).isSome then some (nV k) else none) = ((triesL es rs ls).filterMap fun k => (es[k]?).bind fun e => if (st e.2).isSome then some k else none).map nV := by
        rw [List.map_filterMap]
        congr 1
        funext k
        cases es[k]? with
        | none => rfl
        | some e =>
          simp only [Option.bind_some]
          split <;> rfl
      rw [e1] at h3
      refine ⟨D, _, rfl, .inl ⟨sql h3, fun q1 nq1 => ?_⟩⟩
      have sm : Same H H3 := (s1.trans s2).trans s3
      have hF : ∀ (k j : Nat), ((es[k]?).bind fun (e : Nat × Nat) => if (st e.2).isSome then some k else none) = some j → j = k ∧ ∃ e : Nat × Nat, es[k]? = some e ∧ (st e.2).isSome = true := fun k j h => by
        cases e2 : es[k]? with
        | none => rw [e2] at h; cases h
        | some e =>
          rw [e2] at h
          simp only [Option.bind_some] at h
          split at h
          · rename_i hc
            exact ⟨(Option.some.inj h).symm, e, rfl, hc⟩
          · cases h
      refine q _ _ (same_new sm nq1) ⟨q1, _, rfl, Same.free sm nq1, upd_same, ?_, fun i => ?_⟩
      · refine List.Pairwise.filterMap _ (fun k j hkj u hu v hv => ?_) tries_pw
        rw [(hF k u hu).1, (hF j v hv).1]
        exact hkj
      · rw [List.mem_filterMap]
        constructor
        · rintro ⟨k, hk, hj⟩
          obtain ⟨rfl, e, he, hs⟩ := hF k i hj
          refine ⟨hk, e, he, Classical.byContradiction fun z => ?_⟩
          have hen := (hh.m.ok _ (List.mem_of_getElem? he)).2
          rw [(hst _ hen).2.mpr z] at hs
          cases hs
        · rintro ⟨hk, e, he, ha⟩
          refine ⟨i, hk, ?_⟩
          have hen := (hh.m.ok _ (List.mem_of_getElem? he)).2
          rw [he]
          refine if_pos ?_
          cases e5 : st e.2 with
          | none => exact absurd ha ((hst _ hen).2.mp e5)
          | some dd => rfl

abbrev s__law_led : Stmt := topS 42
abbrev sl__law_led : List Str := ["_law_arrows", "_law_begun", "_law_let", "_law_barred", "_law_found", "_law_at", "_law_k", "_law_tail_here", "_law_head"]
theorem sc__law_led : FnScope ["_law_arrows", "_law_begun", "_law_let", "_law_barred", "_law_found", "_law_at", "_law_k", "_law_tail_here", "_law_head"] ["_law_arrows", "_law_begun", "_law_let", "_law_barred"] (defScope s__law_led) := ⟨rfl, rfl, rfl, by decide +kernel, rfl, by decide +kernel, by decide +kernel⟩
def ledG (lt br : List Nat) (k : Nat) (e : Nat × Nat) : Option (Nat × Nat) := if k ∉ br ∧ e.2 ∈ lt then some e else none
def ledE (es : Es) (lt br : List Nat) : Es := (List.range es.length).filterMap fun k => (es[k]?).bind (ledG lt br k)
theorem mem_ledE {es : Es} {lt br : List Nat} {e : Nat × Nat} : e ∈ ledE es lt br ↔ ∃ k, es[k]? = some e ∧ k ∉ br ∧ e.2 ∈ lt := by
  unfold ledE
  rw [List.mem_filterMap]
  constructor
  · rintro ⟨k, _, h⟩
    cases e2 : es[k]? with
    | none => rw [e2] at h; cases h
    | some x =>
      rw [e2] at h
      have h' : (if k ∉ br ∧ x.2 ∈ lt then some x else none) = some e := h
      split at h'
      · rename_i hc
        cases h'
        exact ⟨k, e2, hc⟩
      · cases h'
  · rintro ⟨k, h1, h2⟩
    refine ⟨k, List.mem_range.mpr (List.getElem?_eq_some_iff.mp h1).1, ?_⟩
    rw [h1]
    exact if_pos h2
def spLed (K : PySem.W.Frag) : Sp := fun vs H Q _ => ∃ (a b c d : Addr) (pvs : List V) (es : Es) (S lt br : List Nat) (n : Nat), vs = [.ref a, .ref b, .ref c, .ref d] ∧ SqX K H a pvs ∧ Prs K H pvs es ∧ SqX K H b (S.map nV) ∧ SqX K H c (lt.map nV) ∧ SqX K H d (br.map nV) ∧
  (∀ e ∈ es, e.2 < n) ∧ (∀ s ∈ S, s < n) ∧ S.Nodup ∧ n ≤ 1000 ∧ es.length ≤ 1000 ∧
  ∀ p H' (fs : List Nat), Same H H' → H p = none → H' p = some (.lst (fs.map nV)) → fs.Nodup → (∀ v, v ∈ fs ↔ Rch (ledE es lt br) S v) → Q (.ref p) H'
theorem ok__law_led (B : Bt mg) (D0 : Df K mg "_law_led" s__law_led ["_law_arrows", "_law_begun", "_law_let", "_law_barred"]) : Has P w K mg base "_law_led" 1 ["_law_arrows", "_law_begun", "_law_let", "_law_barred"] (spLed K) := by
  refine D0.has fun f fd F => F.ok sc__law_led (fun vs H Q E h => ?_) (fun cdv A outer s H vs Q E hr h => ?_)
  · obtain ⟨a, b, c, d, pvs, es, S, lt, br, n, rfl, _⟩ := h
    rfl
  · obtain ⟨a, b, c, d, pvs, es, S, lt, br, n, rfl, hA, hP, hB, hC, hD, he, hS, hSn, hn, hel, q⟩ := h
    refine ⟨_, (pss_cons (ps_set (i := 4) sc__law_led.nd rfl (.inl rfl) (pe_callTy (k_list (K := K) rfl) (by rfl) B.list bo_list (pa_cons (pv 1) pa_nil)))
  (pss_cons (ps_set (i := 5) sc__law_led.nd rfl (.inl rfl) pe_int)
  (pss_cons (ps_while PassesOwn.never (pt_cmpR op_lt (pv 5) (pe_callB (k_len (K := K) rfl) (by rfl) B.len bo_len (pa_cons (pv 4) pa_nil)) (nomark _))
    (pss_cons (ps_for PassesOwn.never rfl (pi_range1 (by rfl) B.range (pa_cons (pe_callB (k_len (K := K) rfl) (by rfl) B.len bo_len (pa_cons (pv 0) pa_nil)) pa_nil)) (pg_name (i := 6) sc__law_led.nd rfl (.inl rfl))
    (pss_cons (ps_asg (pe_ix (k_ixx (K := K) rfl) (pv 0) (pv 6) (fun _ _ => rfl)) (pg_tup rfl (pgs_cons (pg_name (i := 7) sc__law_led.nd rfl (.inl rfl)) (pgs_cons (pg_name (i := 8) sc__law_led.nd rfl (.inl rfl)) pgs_nil))))
  (pss_one (ps_if (PW.pt (pw_and (pt_cmpR op_eq (pv 7) (pe_ix (k_ixl (K := K) rfl) (pv 4) (pv 5) (fun _ _ => rfl)) (nomark _)) (pw_and (pt_cmpR (k_notin (K := K) rfl) (pv 6) (pv 3) (by rfl)) (pw_and (pt_cmpR (k_in (K := K) rfl) (pv 8) (pv 2) (by rfl)) (pw_and1 (pt_cmpR (k_notin (K := K) rfl) (pv 8) (pv 4) (by rfl)))))))
    (pss_one (ps_expr (pe_bm PySem.F.plainAttrs_list PySem.F.slot_list_append PySem.F.type_list_append mt_append (pv 4) (pa_cons (pv 8) pa_nil))))
    pss_nil))))
  (pss_one (ps_set (i := 5) sc__law_led.nd rfl (.inl rfl) (pe_op op_add (pv 5) pe_int)))))
  (pss_one (ps_ret (pv 4)))))), ?_⟩
    have hl := hP.len
    refine ⟨_, rfl, b, S.map nV, rfl, hB, fun p np => ?_⟩
    -- while
    refine ⟨fun m σ H' => ∃ (at' : Nat) (fs : List Nat) (k t h : Option V), σ = [some (.ref a), some (.ref b), some (.ref c), some (.ref d), some (.ref p), some (.int (at' : Int)), k, t, h] ∧ Same H H' ∧ H' p = some (.lst (fs.map nV)) ∧ fs.Nodup ∧ (∀ z ∈ fs, z < n) ∧ (∀ s ∈ S, s ∈ fs) ∧
      at' ≤ fs.length ∧ (∀ v ∈ fs, Rch (ledE es lt br) S v) ∧ (∀ i v, i < at' → fs[i]? = some v → ∀ u, (v, u) ∈ ledE es lt br → u ∈ fs) ∧ m = n - at',
      ⟨_, 0, S, none, none, none, rfl, same_new (Same.refl H) np, upd_same, hSn, hS, fun s h => h, Nat.zero_le _, fun v h => .base h, fun i v h => absurd h (Nat.not_lt_zero i), rfl⟩, ?_⟩
    rintro m σ H1 ⟨at', fs, k, t, h, rfl, s1, hp1, nd, hfn, hSf, hat, hrc, hcl, rfl⟩
    refine ⟨_, rfl, _, rfl, p, _, rfl, .inl (sql hp1), _, _, rfl, rfl, _, rfl, ?_⟩
    rw [List.length_map]
    by_cases hlt : at' < fs.length
    · rw [decide_eq_true (show (at' : Int) < (fs.length : Int) by omega)]
      refine iteT ⟨_, fun σ' H' z => z, ?_⟩
      have hfl := nodup_le nd hfn
      -- for k in range(len(arrows))
      refine ⟨_, rfl, a, pvs, rfl, Same.sqx s1 hA, pvs.length, rfl, by omega, by omega, ?_⟩
      have hz : fs[at']? = some fs[at'] := List.getElem?_eq_getElem hlt
      generalize fs[at'] = z at hz
      refine for_range (lo := 0) (n := (pvs.length : Int).toNat) (fun i σ H' => ∃ (fs' : List Nat) (k t h : Option V), σ = [some (.ref a), some (.ref b), some (.ref c), some (.ref d), some (.ref p), some (.int (at' : Int)), k, t, h] ∧ Same H H' ∧ H' p = some (.lst (fs'.map nV)) ∧ fs'.Nodup ∧ (∀ z ∈ fs', z < n) ∧
        fs <+: fs' ∧ (∀ v ∈ fs', Rch (ledE es lt br) S v) ∧ ∀ (j : Nat) (e : Nat × Nat), j < i → es[j]? = some e → j ∉ br → e.2 ∈ lt → e.1 = z → e.2 ∈ fs')
        ⟨fs, k, t, h, rfl, s1, hp1, nd, hfn, List.prefix_refl _, hrc, fun j e hj => absurd hj (Nat.not_lt_zero j)⟩ ?_ ?_
      · rintro i σ H2 hi ⟨fs', k, t, h, rfl, s2, hp2, nd2, hfn2, hpre, hrc2, hcl2⟩
        have hin : i < pvs.length := hi
        have e0 : (0 : Int) + (i : Int) = (i : Int) := Int.zero_add _
        have hiv : pvs[i]? = some pvs[i] := List.getElem?_eq_getElem hin
        have hie : es[i]? = some (es[i]'(by omega)) := List.getElem?_eq_getElem (by omega)
        generalize es[i]'(by omega) = e at hie
        obtain ⟨tt, htt, ht⟩ := hP.at_ i _ _ hiv hie
        obtain ⟨e1, e2⟩ := e
        have hA2 := Same.sqx s2 hA
        have hz2 : fs'[at']? = some z := by
          obtain ⟨r, rfl⟩ := hpre
          rw [List.getElem?_append_left hlt]
          exact hz
        have he2n : e2 < n := he _ (List.mem_of_getElem? hie)
        have keep : ∀ (k' t' h' : Option V), (∀ (hc : i ∉ br ∧ e2 ∈ lt ∧ e1 = z), e2 ∈ fs') → ∃ (fs'' : List Nat) (k t h : Option V), ([some (.ref a), some (.ref b), some (.ref c), some (.ref d), some (.ref p), some (.int (at' : Int)), k', t', h'] : L2.St) = [some (.ref a), some (.ref b), some (.ref c), some (.ref d), some (.ref p), some (.int (at' : Int)), k, t, h] ∧ Same H H2 ∧ H2 p = some (.lst (fs''.map nV)) ∧ fs''.Nodup ∧ (∀ z ∈ fs'', z < n) ∧
            fs <+: fs'' ∧ (∀ v ∈ fs'', Rch (ledE es lt br) S v) ∧ ∀ (j : Nat) (e : Nat × Nat), j < i + 1 → es[j]? = some e → j ∉ br → e.2 ∈ lt → e.1 = z → e.2 ∈ fs'' := fun k' t' h' hc =>
          ⟨fs', k', t', h', rfl, s2, hp2, nd2, hfn2, hpre, hrc2, fun j e hj he3 h1 h2 h3 => by
            by_cases hji : j = i
            · subst hji
              rw [hie] at he3
              cases he3
              exact hc ⟨h1, h2, h3⟩
            · exact hcl2 j e (by omega) he3 h1 h2 h3⟩
        -- tail, head = arrows[k]
        have ix : ∀ (R : V → Hp → Prop), R pvs[i] H2 → rIx K (.ref a) (.int ((0 : Int) + (i : Int))) H2 R := fun R r => by
          rw [e0]
          rcases hA2 with hA2 | hA2
          · exact .inl ⟨a, _, _, _, rfl, rfl, hA2, atI_nat hiv, r⟩
          · exact .inr (.inl ⟨a, _, _, _, rfl, rfl, hA2, atI_nat hiv, r⟩)
        refine ⟨_, rfl, _, rfl, ix _ ⟨tt, _, htt, Same.sqt s2 ht, rfl, _, _, rfl, _, _, rfl, rfl, ?_⟩⟩
        refine ⟨_, rfl, _, rfl, _, rfl, p, _, (at' : Int), nV z, rfl, rfl, sql hp2, atI_nat (by rw [List.getElem?_map, hz2]; rfl), rfl, _, rfl, ?_⟩
        by_cases c1 : e1 = z
        · subst c1
          rw [decide_eq_true (show nV e1 = nV e1 from rfl)]
          refine iteT ⟨_, rfl, _, rfl, d, _, rfl, Same.sqx s2 hD, rfl, flat_nats _, _, rfl, ?_⟩
          have ei : inV (V.int ((0 : Int) + (i : Int))) (br.map nV) = decide (i ∈ br) := by rw [e0]; exact inV_nats i br
          rw [if_pos rfl, ei]
          by_cases c2 : i ∈ br
          · rw [decide_eq_true c2]
            refine iteF ?_
            exact iteF (keep _ _ _ fun z => absurd c2 z.1)
          rw [decide_eq_false c2]
          refine iteT ⟨_, rfl, _, rfl, c, _, rfl, Same.sqx s2 hC, rfl, flat_nats _, _, rfl, ?_⟩
          rw [if_neg Bool.false_ne_true, inV_nats]
          by_cases c3 : e2 ∈ lt
          · rw [decide_eq_true c3]
            refine iteT ⟨_, rfl, _, rfl, p, _, rfl, .inl (sql hp2), rfl, flat_nats _, _, rfl, ?_⟩
            rw [if_pos rfl, inV_nats]
            by_cases c4 : e2 ∈ fs'
            · rw [decide_eq_true c4]
              refine iteF ?_
              exact keep _ _ _ fun _ => c4
            · rw [decide_eq_false c4]
              have hfl2 := nodup_le nd2 hfn2
              refine iteT ⟨_, rfl, .inl ⟨rfl, _, sql hp2⟩, _, rfl, p, _, _, rfl, rfl, hp2, by rw [List.length_map]; exact small_lt (by omega), ?_⟩
              have hre : Rch (ledE es lt br) S e2 := (hrc2 e1 (List.mem_of_getElem? hz2)).edge (mem_ledE.mpr ⟨i, hie, c2, c3⟩)
              refine ⟨fs' ++ [e2], _, _, _, rfl, same_mut s2 np, by rw [upd_same, List.map_append]; rfl, ?_, ?_, hpre.trans (List.prefix_append _ _), ?_, ?_⟩
              · rw [List.nodup_append]
                refine ⟨nd2, by simp, fun x hx y hy => ?_⟩
                rw [List.mem_singleton.mp hy]
                exact fun z => c4 (z ▸ hx)
              · intro x hx
                rcases List.mem_append.mp hx with hx | hx
                · exact hfn2 x hx
                · rw [List.mem_singleton.mp hx]
                  exact he2n
              · intro x hx
                rcases List.mem_append.mp hx with hx | hx
                · exact hrc2 x hx
                · rw [List.mem_singleton.mp hx]
                  exact hre
              · intro j e hj he3 h1 h2 h3
                by_cases hji : j = i
                · subst hji
                  rw [hie] at he3
                  cases he3
                  exact List.mem_append_right _ List.mem_cons_self
                · exact List.mem_append_left _ (hcl2 j e (by omega) he3 h1 h2 h3)
          · rw [decide_eq_false c3]
            refine iteF ?_
            exact iteF (keep _ _ _ fun z => absurd z.2.1 c3)
        · have c1' : ¬ nV e1 = nV z := fun y => by
            have y' : V.int (e1 : Int) = V.int (z : Int) := y
            injection y' with y'
            exact c1 (by omega)
          rw [decide_eq_false c1']
          refine iteF ?_
          exact iteF (keep _ _ _ fun z => absurd z.2.2 c1)
      · rintro σ H2 ⟨fs', k, t, h, rfl, s2, hp2, nd2, hfn2, hpre, hrc2, hcl2⟩
        refine ⟨_, rfl, _, _, rfl, rfl, n - (at' + 1), by omega, at' + 1, fs', k, t, h, rfl, s2, hp2, nd2, hfn2, fun s hs => hpre.subset (hSf s hs), ?_, hrc2, ?_, rfl⟩
        · have := hpre.length_le
          omega
        · intro i v hi hv u hu
          by_cases hia : i = at'
          · subst hia
            obtain ⟨r, rfl⟩ := hpre
            rw [List.getElem?_append_left hlt, hz] at hv
            cases hv
            obtain ⟨j, h1, h2, h3⟩ := mem_ledE.mp hu
            exact hcl2 j _ (by have := (List.getElem?_eq_some_iff.mp h1).1; show j < pvs.length; omega) h1 h2 h3 rfl
          · obtain ⟨r, rfl⟩ := id hpre
            rw [List.getElem?_append_left (by omega)] at hv
            exact hpre.subset (hcl i v (by omega) hv u hu)
    · rw [decide_eq_false (show ¬ (at' : Int) < (fs.length : Int) by omega)]
      refine iteF ⟨_, rfl, q p H1 fs s1 np hp1 nd fun v => ⟨hrc v, fun hv => ?_⟩⟩
      refine hv.ind hSf fun u v' hu he' => ?_
      obtain ⟨i, hi⟩ := List.getElem?_of_mem hu
      exact hcl i u (by have := (List.getElem?_eq_some_iff.mp hi).1; omega) hi v' he'

abbrev s__law_is_world : Stmt := topS 43
abbrev sl__law_is_world : List Str := ["_law_parts_here", "_law_rotten", "_law_many", "_law_arrows", "_law_goals", "_law_there", "_law_goal"]
theorem sc__law_is_world : FnScope ["_law_parts_here", "_law_rotten", "_law_many", "_law_arrows", "_law_goals", "_law_there", "_law_goal"] ["_law_parts_here", "_law_rotten"] (defScope s__law_is_world) := ⟨rfl, rfl, rfl, by decide +kernel, rfl, by decide +kernel, by decide +kernel⟩
/-- the parts of a map as a tuple -/
structure PtsAt (K : PySem.W.Frag) (H : Hp) (t : Addr) (n : Nat) (a : Addr) (pvs : List V) (es : Es) (c : Addr) (gs : List Nat) : Prop where
  tp : SqT K H t [nV n, .ref a, .ref c]
  ar : SqT K H a pvs
  pr : Prs K H pvs es
  go : SqT K H c (gs.map nV)
  gm : GoodMap n es gs
theorem PtsAt.same {K : PySem.W.Frag} {H H' : Hp} {t : Addr} {n : Nat} {a : Addr} {pvs : List V} {es : Es} {c : Addr} {gs : List Nat} (h : PtsAt K H t n a pvs es c gs) (s : Same H H') : PtsAt K H' t n a pvs es c gs :=
  ⟨Same.sqt s h.tp, Same.sqt s h.ar, h.pr.same s, Same.sqt s h.go, h.gm⟩
theorem GoodMap.gl2 {n : Nat} {es : Es} {gs : List Nat} (g : GoodMap n es gs) : gs.length ≤ n - 0 := pw_len g.pw fun x hx => ⟨Nat.zero_le _, (g.gl x hx).2⟩
theorem rch_led_left {n : Nat} {es : Es} {br S : List Nat} (h : ∀ e ∈ es, e.2 < n) {v : Nat} : Rch (ledE es (List.range n) br) S v ↔ Rch (left es br) S v := by
  constructor
  · exact Rch.mono (fun e he => by
      obtain ⟨k, h1, h2, _⟩ := mem_ledE.mp he
      exact mem_leftV.mpr ⟨k, h1, h2⟩) fun _ h => h
  · exact Rch.mono (fun e he => by
      obtain ⟨k, h1, h2⟩ := mem_leftV.mp he
      exact mem_ledE.mpr ⟨k, h1, h2, List.mem_range.mpr (h e (List.mem_of_getElem? h1))⟩) fun _ h => h
def spIsWorld (K : PySem.W.Frag) : Sp := fun vs H Q _ => ∃ (t : Addr) (n : Nat) (a : Addr) (pvs : List V) (es : Es) (c : Addr) (gs : List Nat) (d : Addr) (br : List Nat), vs = [.ref t, .ref d] ∧ PtsAt K H t n a pvs es c gs ∧ SqX K H d (br.map nV) ∧
  ∀ H' (ok : Bool), Same H H' → (ok = true ↔ ∀ g ∈ gs, Rch (left es br) [0] g) → Q (.bl ok) H'
theorem ok__law_is_world (B : Bt mg) (h_law_led : Has P w K mg base "_law_led" 1 ["_law_arrows", "_law_begun", "_law_let", "_law_barred"] (spLed K)) (D0 : Df K mg "_law_is_world" s__law_is_world ["_law_parts_here", "_law_rotten"]) : Has P w K mg base "_law_is_world" 2 ["_law_parts_here", "_law_rotten"] (spIsWorld K) := by
  refine D0.has fun f fd F => F.ok sc__law_is_world (fun vs H Q E h => ?_) (fun cdv A outer s H vs Q E hr h => ?_)
  · obtain ⟨t, n, a, pvs, es, c, gs, d, br, rfl, _⟩ := h
    rfl
  · obtain ⟨t, n, a, pvs, es, c, gs, d, br, rfl, hp, hd, q⟩ := h
    refine ⟨_, (pss_cons (ps_asg (pv 0) (pg_tup rfl (pgs_cons (pg_name (i := 2) sc__law_is_world.nd rfl (.inl rfl)) (pgs_cons (pg_name (i := 3) sc__law_is_world.nd rfl (.inl rfl)) (pgs_cons (pg_name (i := 4) sc__law_is_world.nd rfl (.inl rfl)) pgs_nil)))))
  (pss_cons (ps_set (i := 5) sc__law_is_world.nd rfl (.inr rfl) (pcall h_law_led hr (by decide) (by rfl) (pa_cons (pv 3) (pa_cons (pe_lst (pa_cons pe_int pa_nil)) (pa_cons (pe_listRg rfl (by rfl) B.list (prg_1 (by rfl) B.range (pv 2))) (pa_cons (pv 1) pa_nil))))))
  (pss_one (ps_ret (pe_callB (k_all (K := K) rfl rfl) (by rfl) B.all bo_all (pa_cons (pe_lc (own := [("_law_goal", 6)]) (g := gName 6) rfl sc__law_is_world.nd (k_pit (K := K) rfl (pv 4)) (blkOk_by (N := sl__law_is_world) (sc := defScope s__law_is_world) (by decide +kernel)) (fun _ _ _ _ _ => (pg_name (i := 6) sc__law_is_world.nd rfl (.inl rfl))) (fun _ _ _ _ _ => pts_nil) (fun _ _ _ _ _ => (pe_cmpR (k_in (K := K) rfl) (pv 6) (pv 5) (by rfl)))) pa_nil)))))), ?_⟩
    have gn := hp.gm.n40
    have g2 := hp.gm.n2
    have g60 := hp.gm.l60
    have ggl := hp.gm.gl2
    refine ⟨_, rfl, t, _, rfl, hp.tp, rfl, _, _, rfl, _, _, rfl, _, _, rfl, rfl, ?_⟩
    refine ⟨_, rfl, Nat.le_of_lt (small_lt (by decide : 1 ≤ 100000)), fun z nz => ⟨_, rfl, (n : Int), rfl, ⟨by omega, by omega, by omega, by omega, by omega⟩, fun r nr => ⟨_, rfl, ?_⟩⟩⟩
    have s1 := same_new (o := .lst [.int 0]) (Same.refl H) nz
    have s2 := same_new (o := .lst (rgV 0 (n : Int))) s1 nr
    have hz2 : upd (upd H z (.lst [.int 0])) r (.lst (rgV 0 (n : Int))) z = some (.lst [.int 0]) := by rw [upd_ne (ne_of_none (upd_same) nr), upd_same]
    refine ⟨a, z, r, d, pvs, es, [0], List.range n, br, n, rfl, .inr (Same.sqt s2 hp.ar), hp.pr.same s2, .inl (sql hz2), .inl (sql (by rw [upd_same, rgV0])), Same.sqx s2 hd, fun e he => (hp.gm.ok e he).2.1, fun x hx => by rw [List.mem_singleton.mp hx]; omega, by simp, by omega, by omega,
      fun p H3 fs s3 np hp3 nd hfs => ?_⟩
    have sm : Same H H3 := Same.trans s2 s3
    refine ⟨_, rfl, c, rfl, ⟨_, Same.sqt sm hp.go⟩, fun D nD => ?_⟩
    refine lc_val walk_tup calm_at (fun i => (gs[i]?).bind fun g => some (V.bl (decide (g ∈ fs)))) (by rw [List.length_map]; omega) nD (fun H4 s4 => Same.sqt (sm.trans s4) hp.go) ?_ fun H4 s4 h4 => ?_
    · rintro i v H4 H5 hi s4 ⟨rfl, hv⟩ Kt kt
      obtain ⟨g, hgi, rfl⟩ := getmap hv
      refine ⟨rfl, tyes ?_⟩
      refine iteT ?_
      refine ⟨_, rfl, _, rfl, p, _, rfl, .inl (sql (s4 _ _ hp3)), rfl, flat_nats _, ?_⟩
      rw [if_neg Bool.false_ne_true, inV_nats]
      have k0 := kt _ (Same.refl _)
      rw [hgi] at k0
      exact k0
    · rw [List.length_map, fm_range, fm_some] at h4
      refine ⟨D, gs.map fun g => decide (g ∈ fs), rfl, sql (by rw [h4, List.map_map]; rfl), ?_⟩
      refine q H4 _ (sm.trans s4) ?_
      rw [List.all_eq_true]
      have hiff : ∀ g, g ∈ fs ↔ Rch (left es br) [0] g := fun g => (hfs g).trans (rch_led_left fun e he => (hp.gm.ok e he).2.1)
      constructor
      · intro h g hg
        exact (hiff g).mp (of_decide_eq_true (h _ (List.mem_map.mpr ⟨g, hg, rfl⟩)))
      · intro h x hx
        obtain ⟨g, hg, rfl⟩ := List.mem_map.mp hx
        exact decide_eq_true ((hiff g).mpr (h g hg))

abbrev s__law_is_standing : Stmt := topS 44
abbrev sl__law_is_standing : List Str := ["_law_parts_here", "_law_reached", "_law_rotten", "_law_there", "_law_k"]
theorem sc__law_is_standing : FnScope ["_law_parts_here", "_law_reached", "_law_rotten", "_law_there", "_law_k"] ["_law_parts_here", "_law_reached", "_law_rotten"] (defScope s__law_is_standing) := ⟨rfl, rfl, rfl, by decide +kernel, rfl, by decide +kernel, by decide +kernel⟩
/-- what the law asks of reached places and rotten arrows -/
structure StdL (es : Es) (gs rs ls : List Nat) : Prop where
  r0 : 0 ∈ rs
  tl : ∀ l ∈ ls, ∀ e, es[l]? = some e → e.1 ∈ rs
  hold : ∀ r ∈ rs, Rch (ledE es rs ls) [0] r
  opn : ∀ g ∈ gs, Rch (left es ls) [0] g
theorem led_sub {es : Es} {rs ls : List Nat} (h0 : 0 ∈ rs) {v : Nat} (h : Rch (ledE es rs ls) [0] v) : v ∈ rs :=
  h.ind (fun v hv => by rw [List.mem_singleton.mp hv]; exact h0) fun u v _ e => by
    obtain ⟨k, _, _, h2⟩ := mem_ledE.mp e
    exact h2
def spIsStdL (K : PySem.W.Frag) : Sp := fun vs H Q _ => ∃ (t : Addr) (n : Nat) (a : Addr) (pvs : List V) (es : Es) (c : Addr) (gs : List Nat) (x y : Addr) (rs ls : List Nat), vs = [.ref t, .ref x, .ref y] ∧ PtsAt K H t n a pvs es c gs ∧
  SqX K H x (rs.map nV) ∧ SqX K H y (ls.map nV) ∧ rs.Nodup ∧ (∀ r ∈ rs, r < n) ∧ (∀ l ∈ ls, l < es.length) ∧ ls.length ≤ 1000 ∧
  ∀ H' (ok : Bool), Same H H' → (ok = true ↔ StdL es gs rs ls) → Q (.bl ok) H'
theorem ok__law_is_standing (B : Bt mg) (h_law_led : Has P w K mg base "_law_led" 1 ["_law_arrows", "_law_begun", "_law_let", "_law_barred"] (spLed K)) (h_law_is_world : Has P w K mg base "_law_is_world" 2 ["_law_parts_here", "_law_rotten"] (spIsWorld K))
    (D0 : Df K mg "_law_is_standing" s__law_is_standing ["_law_parts_here", "_law_reached", "_law_rotten"]) : Has P w K mg base "_law_is_standing" 3 ["_law_parts_here", "_law_reached", "_law_rotten"] (spIsStdL K) := by
  refine D0.has fun f fd F => F.ok sc__law_is_standing (fun vs H Q E h => ?_) (fun cdv A outer s H vs Q E hr h => ?_)
  · obtain ⟨t, n, a, pvs, es, c, gs, x, y, rs, ls, rfl, _⟩ := h
    rfl
  · obtain ⟨t, n, a, pvs, es, c, gs, x, y, rs, ls, rfl, hp, hx, hy, hrd, hrn, hln, hll, q⟩ := h
    refine ⟨_, (pss_cons (ps_if (PW.pt (pw_or (pt_cmpR (k_notin (K := K) rfl) pe_int (pv 1) (by rfl)) (pw_or1 (pt_not (pt_val (pe_callB (k_all (K := K) rfl rfl) (by rfl) B.all bo_all (pa_cons (pe_lc (own := [("_law_k", 4)]) (g := gName 4) rfl sc__law_is_standing.nd (k_pis (K := K) rfl (pv 2)) (blkOk_by (N := sl__law_is_standing) (sc := defScope s__law_is_standing) (by decide +kernel)) (fun _ _ _ _ _ => (pg_name (i := 4) sc__law_is_standing.nd rfl (.inl rfl))) (fun _ _ _ _ _ => pts_nil) (fun _ _ _ _ _ => (pe_cmpR (k_in (K := K) rfl) (pe_ix (k_ixt (K := K) rfl) (pe_ix (k_ixt (K := K) rfl) (pe_ix (k_ixt (K := K) rfl) (pv 0) pe_int (fun _ _ => rfl)) (pv 4) (fun _ _ => rfl)) pe_int (fun _ _ => rfl)) (pv 1) (by rfl)))) pa_nil)))))))
    (pss_one (ps_ret pe_bl))
    pss_nil)
  (pss_cons (ps_set (i := 3) sc__law_is_standing.nd rfl (.inl rfl) (pcall h_law_led hr (by decide) (by rfl) (pa_cons (pe_ix (k_ixt (K := K) rfl) (pv 0) pe_int (fun _ _ => rfl)) (pa_cons (pe_lst (pa_cons pe_int pa_nil)) (pa_cons (pv 1) (pa_cons (pv 2) pa_nil))))))
  (pss_one (ps_ret (pe_and (pe_cmpR op_eq (pe_callB (k_len (K := K) rfl) (by rfl) B.len bo_len (pa_cons (pv 3) pa_nil)) (pe_callB (k_len (K := K) rfl) (by rfl) B.len bo_len (pa_cons (pv 1) pa_nil)) (nomark _)) (pe_one (pcall h_law_is_world hr (by decide) (by rfl) (pa_cons (pv 0) (pa_cons (pv 2) pa_nil))))))))), ?_⟩
    have gn := hp.gm.n40
    have g2 := hp.gm.n2
    have g60 := hp.gm.l60
    have hl := hp.pr.len
    refine ⟨_, rfl, x, _, rfl, hx, rfl, flat_nats _, _, rfl, ?_⟩
    rw [if_pos rfl, show V.int 0 = nV 0 from rfl, inV_nats]
    by_cases h0 : 0 ∈ rs
    · rw [decide_eq_true h0]
      refine iteF ?_
      -- the tails
      refine ⟨_, rfl, y, rfl, ?_⟩
      refine lc_seq hy (Same.refl H) (fun i => (ls[i]?).bind fun l => some (V.bl (match es[l]? with
        | some e => decide (e.1 ∈ rs)
        | none => false))) (by rw [List.length_map]; omega) ?_ fun H1 D s1 nD h1 => ?_
      · rintro i v H4 H5 hi s4 ⟨rfl, hv⟩ Kt kt
        obtain ⟨l, hli, rfl⟩ := getmap hv
        have hlm := hln l (List.mem_of_getElem? hli)
        have hle : es[l]? = some es[l] := List.getElem?_eq_getElem hlm
        have hlp : l < pvs.length := by omega
        have hlv : pvs[l]? = some pvs[l] := List.getElem?_eq_getElem hlp
        have h4 := hp.same s4
        obtain ⟨tt, htt, ht⟩ := h4.pr.at_ l _ _ hlv hle
        refine ⟨rfl, tyes ?_⟩
        refine iteT ?_
        refine ⟨_, rfl, t, _, (1 : Nat), .ref a, rfl, rfl, h4.tp, atI_nat rfl, _, rfl, a, pvs, (l : Int), _, rfl, rfl, h4.ar, atI_nat hlv, tt, _, (0 : Nat), nV es[l].1, htt, rfl, ht, atI_nat rfl, _, rfl, x, _, rfl, Same.sqx s4 hx, rfl, flat_nats _, ?_⟩
        rw [if_neg Bool.false_ne_true, inV_nats]
        have k0 := kt _ (Same.refl _)
        rw [hli] at k0
        simp only [Option.bind_some] at k0
        rw [hle] at k0
        exact k0
      rw [List.length_map, fm_range, fm_some] at h1
      refine ⟨D, ls.map fun l => (match es[l]? with
        | some e => decide (e.1 ∈ rs)
        | none => false), rfl, sql (by rw [h1, List.map_map]; rfl), _, rfl, ?_⟩
      have htl : ((ls.map fun l => (match es[l]? with
        | some e => decide (e.1 ∈ rs)
        | none => false)).all id) = true ↔ ∀ l ∈ ls, ∀ e, es[l]? = some e → e.1 ∈ rs := by
        rw [List.all_eq_true]
        constructor
        · intro h l hl e he
          have := h _ (List.mem_map.mpr ⟨l, hl, rfl⟩)
          rw [he] at this
          exact of_decide_eq_true this
        · intro h z hz
          obtain ⟨l, hl, rfl⟩ := List.mem_map.mp hz
          have hle : es[l]? = some (es[l]'(hln l hl)) := List.getElem?_eq_getElem (hln l hl)
          rw [hle]
          exact decide_eq_true (h l hl _ hle)
      cases hb : (ls.map fun l => (match es[l]? with
        | some e => decide (e.1 ∈ rs)
        | none => false)).all id with
      | false =>
        refine iteT (q H1 false s1 ⟨fun z => Bool.noConfusion z, fun z => ?_⟩)
        rw [htl.mpr z.tl] at hb
        cases hb
      | true =>
        refine iteF ?_
        have h1p := hp.same s1
        -- led
        refine ⟨_, rfl, t, _, (1 : Nat), .ref a, rfl, rfl, h1p.tp, atI_nat rfl, Nat.le_of_lt (small_lt (by decide : 1 ≤ 100000)), fun z nz => ⟨_, rfl, _, rfl, ?_⟩⟩
        have s2 := same_new (o := .lst [.int 0]) s1 nz
        refine ⟨a, z, x, y, pvs, es, [0], rs, ls, n, rfl, .inr (Same.sqt s2 hp.ar), hp.pr.same s2, .inl (sql upd_same), Same.sqx s2 hx, Same.sqx s2 hy, fun e he => (hp.gm.ok e he).2.1, fun x hx => by rw [List.mem_singleton.mp hx]; omega, by simp, by omega, by omega,
          fun p H3 fs s3 np hp3 nd hfs => ?_⟩
        have sm : Same H H3 := Same.trans s2 s3
        refine ⟨_, rfl, p, _, rfl, .inl (sql hp3), _, rfl, x, _, rfl, Same.sqx sm hx, rfl, _, rfl, ?_⟩
        have hsub : fs ⊆ rs := fun v hv => led_sub h0 ((hfs v).mp hv)
        have hhold : decide (V.int ((fs.map nV).length : Int) = V.int ((rs.map nV).length : Int)) = true ↔ ∀ r ∈ rs, Rch (ledE es rs ls) [0] r := by
          rw [decide_eq_true_eq, List.length_map, List.length_map]
          constructor
          · intro e r hr
            injection e with e
            refine (hfs r).mp (Classical.byContradiction fun z => ?_)
            have h5 : (r :: fs).length ≤ rs.length := (List.nodup_cons.mpr ⟨z, nd⟩).length_le_of_subset fun v hv => by
              rcases List.mem_cons.mp hv with rfl | hv
              · exact hr
              · exact hsub hv
            rw [List.length_cons] at h5
            omega
          · intro h
            have h6 := nd.length_le_of_subset hsub
            have h7 := hrd.length_le_of_subset fun v hv => (hfs v).mpr (h v hv)
            congr 1
            omega
        cases hb2 : decide (V.int ((fs.map nV).length : Int) = V.int ((rs.map nV).length : Int)) with
        | false =>
          refine iteF (q H3 false sm ⟨fun z => Bool.noConfusion z, fun z => ?_⟩)
          rw [hhold.mpr z.hold] at hb2
          cases hb2
        | true =>
          refine iteT ⟨_, rfl, _, rfl, t, n, a, pvs, es, c, gs, y, ls, rfl, hp.same sm, Same.sqx sm hy, fun H5 ok s5 hok => q H5 ok (sm.trans s5) ?_⟩
          rw [hok]
          exact ⟨fun z => ⟨h0, htl.mp hb, hhold.mp hb2, z⟩, fun z => z.opn⟩
    · rw [decide_eq_false h0]
      refine iteT ?_
      refine iteT (q H false (Same.refl H) ⟨fun z => Bool.noConfusion z, fun z => absurd z.r0 h0⟩)

abbrev s__law_hand : Stmt := topS 36
abbrev sl__law_hand : List Str := ["_law_script", "_law_cells", "_law_cell"]
theorem sc__law_hand : FnScope ["_law_script", "_law_cells", "_law_cell"] ["_law_script"] (defScope s__law_hand) := ⟨rfl, rfl, rfl, by decide +kernel, rfl, by decide +kernel, by decide +kernel⟩
def spHand (K : PySem.W.Frag) : Sp := fun vs H Q _ => ∃ (a : Addr) (ns : List Int) (F : Hp), vs = [.ref a] ∧ SqL K H a (ns.map V.int) ∧ ns.length ≤ 1000 ∧ Same F H ∧
  ∀ h F' H', Grow (fun _ => False) F H F' H' → HandAt F' H' h → Q (.ref h) H'
theorem cutV_int (ns : List Int) (lo hi : Option Int) : ∃ ms : List Int, cutV (ns.map V.int) lo hi = ms.map V.int ∧ ms.length ≤ ns.length := by
  unfold cutV
  rw [← List.map_drop, ← List.map_take]
  refine ⟨_, rfl, ?_⟩
  rw [List.length_take, List.length_drop]
  omega
theorem ok__law_hand (B : Bt mg) (D0 : Df K mg "_law_hand" s__law_hand ["_law_script"]) : Has P w K mg base "_law_hand" 1 ["_law_script"] (spHand K) := by
  refine D0.has fun f fd F => F.ok sc__law_hand (fun vs H Q E h => ?_) (fun cdv A outer s H vs Q E hr h => ?_)
  · obtain ⟨a, ns, F, rfl, _⟩ := h
    rfl
  · obtain ⟨a, ns, F0, rfl, hS, hl, hF, q⟩ := h
    refine ⟨_, (pss_cons (ps_setLc (i := 1) (own := [("_law_cell", 2)]) (g := gName 2) rfl sc__law_hand.nd rfl rfl (sw_true rfl rfl rfl (by decide +kernel)) (k_pil (K := K) rfl (pe_slice (k_sll (K := K) rfl) (pv 0) po_none (po_some pe_int))) (blkOk_by (N := sl__law_hand) (sc := defScope s__law_hand) (by decide +kernel)) (fun _ _ _ _ _ => (pg_name (i := 2) sc__law_hand.nd rfl (.inl rfl))) (fun _ _ _ _ _ => pts_nil) (fun _ _ _ _ _ => (pe_callB call_abs (by rfl) B.abs bo_abs (pa_cons (pe_callTy call_int1 (by rfl) B.int bo_int (pa_cons (pv 2) pa_nil)) pa_nil))))
  (pss_one (ps_ret (pe_lst (pa_cons (pv 1) (pa_cons pe_int (pa_cons pe_int (pa_cons (pe_op op_add pe_int (pe_callB (k_len (K := K) rfl) (by rfl) B.len bo_len (pa_cons (pv 1) pa_nil))) (pa_cons pe_int pa_nil))))))))), ?_⟩
    obtain ⟨ms, hms, hml⟩ := cutV_int ns none (some 63)
    refine ⟨_, rfl, _, rfl, a, _, rfl, hS, fun p np => ⟨p, rfl, ⟨_, sql upd_same⟩, fun D nD => ?_⟩⟩
    rw [hms] at nD ⊢
    have s1 := same_new (o := .lst (ms.map V.int)) (Same.refl H) np
    refine lc_val (walk_list (xs := ms.map V.int)) calm_at (fun i => (ms[i]?).bind fun z => some (V.int (if z < 0 then -z else z))) (by rw [List.length_map]; omega) nD (fun H3 s3 => sql (s3 _ _ upd_same)) ?_ fun H3 s3 h3 => ?_
    · rintro i v H3 H4 hi s3 ⟨rfl, hv⟩ Kt kt
      obtain ⟨z, hz, rfl⟩ := getmap hv
      refine ⟨rfl, tyes ?_⟩
      refine iteT ?_
      refine ⟨_, rfl, .inl ⟨z, rfl, z, rfl, ?_⟩⟩
      have k0 := kt _ (Same.refl _)
      rw [hz] at k0
      exact k0
    · rw [List.length_map, fm_range, fm_some] at h3
      have eC : (ms.map fun z => V.int (if z < 0 then -z else z)) = (ms.map fun z => if z < 0 then -z else z).map V.int := by
        rw [List.map_map]
        rfl
      rw [eC] at h3
      refine ⟨_, rfl, _, rfl, D, _, rfl, .inl (sql h3), _, _, rfl, rfl, Nat.le_of_lt (small_lt (by decide : 5 ≤ 100000)), fun hh nh => ?_⟩
      have sm : Same H H3 := Same.trans s1 s3
      have hDh : D ≠ hh := ne_of_none h3 nh
      have sm2 := same_new (o := handO D 0 0 (1 + (((ms.map fun z => if z < 0 then -z else z).map V.int).length : Int)) 0) sm nh
      refine q hh (upd F0 D (.lst ((ms.map fun z => if z < 0 then -z else z).map V.int))) _ ⟨fun b o _ e => sm2 _ _ e, fun b hb z => ?_, ?_, ?_, ?_⟩ ⟨⟨D, _, 0, 0, _, 0, upd_same, upd_same, Int.le_refl _⟩, ?_⟩
      · cases e : H b with
        | none => exact hb e
        | some o => exact absurd ((sm2 _ _ e).symm.trans z) (by intro y; cases y)
      · exact same_new (Same.refl F0) (Same.free (hF.trans s1) nD)
      · intro b o e
        by_cases hb : b = D
        · subst hb
          rw [upd_same] at e
          rw [upd_ne hDh, h3]
          exact e
        · rw [upd_ne hb] at e
          exact sm2 _ _ (hF _ _ e)
      · intro b h1 h2
        by_cases hb : b = D
        · rw [hb]
          exact Same.free s1 nD
        · rw [upd_ne hb] at h1
          exact absurd h2 h1
      · rw [upd_ne hDh.symm]
        exact Same.free (hF.trans sm) nh

abbrev s__law_draw : Stmt := topS 37
abbrev sl__law_draw : List Str := ["_law_hand_here", "_law_many", "_law_cell", "_law_digit", "_law_number"]
theorem sc__law_draw : FnScope ["_law_hand_here", "_law_many", "_law_cell", "_law_digit", "_law_number"] ["_law_hand_here", "_law_many"] (defScope s__law_draw) := ⟨rfl, rfl, rfl, by decide +kernel, rfl, by decide +kernel, by decide +kernel⟩
theorem cells_at {cells : List Int} {i : Int} (h0 : 0 ≤ i) (h1 : i < (cells.length : Int)) : ∃ z, atI (cells.map V.int) i = some (.int z) := by
  obtain ⟨j, rfl⟩ : ∃ j : Nat, i = (j : Int) := ⟨i.toNat, by omega⟩
  have hj : j < cells.length := by omega
  exact ⟨cells[j], atI_nat (by rw [List.getElem?_map, List.getElem?_eq_getElem hj]; rfl)⟩
theorem cm1 {a b : Int} : CMul (a % 2147483647) b :=
  .inl ⟨Int.lt_of_lt_of_le (by decide) (Int.emod_nonneg a (by decide)), Int.lt_trans (Int.emod_lt_of_pos a (by decide)) (by decide)⟩
theorem ok__law_draw (B : Bt mg) (D0 : Df K mg "_law_draw" s__law_draw ["_law_hand_here", "_law_many"]) : Has P w K mg base "_law_draw" 1 ["_law_hand_here", "_law_many"] spDraw := by
  refine D0.has fun f fd F => F.ok sc__law_draw (fun vs H Q E h => ?_) (fun cdv A outer s H vs Q E hr h => ?_)
  · obtain ⟨h, m, F, rfl, _⟩ := h
    rfl
  · obtain ⟨h, m, F0, rfl, hm0, hml, hF, hA, q⟩ := h
    refine ⟨_, (C8.pss_cut (ps_if (PW.pt (pw_and (pt_cmpR op_eq (pe_ix (k_ixl (K := K) rfl) (pv 0) pe_int (fun _ _ => rfl)) pe_int (nomark _)) (pw_and1 (pt_cmpR op_lt (pe_ix (k_ixl (K := K) rfl) (pv 0) pe_int (fun _ _ => rfl)) (pe_callB (k_len (K := K) rfl) (by rfl) B.len bo_len (pa_cons (pe_ix (k_ixl (K := K) rfl) (pv 0) pe_int (fun _ _ => rfl)) pa_nil)) (nomark _)))))
    (pss_cons (ps_set (i := 2) sc__law_draw.nd rfl (.inl rfl) (pe_ix (k_ixl (K := K) rfl) (pe_ix (k_ixl (K := K) rfl) (pv 0) pe_int (fun _ _ => rfl)) (pe_ix (k_ixl (K := K) rfl) (pv 0) pe_int (fun _ _ => rfl)) (fun _ _ => rfl)))
  (pss_cons (ps_asg (pe_op op_add (pe_ix (k_ixl (K := K) rfl) (pv 0) pe_int (fun _ _ => rfl)) pe_int) (pg_sub (pv 0) pe_int set_list))
  (pss_cons (ps_asg (pe_op op_mod (pe_callTy call_int1 (by rfl) B.int bo_int (pa_cons (pe_op op_add (pe_op op_add (pe_op op_mul (pe_ix (k_ixl (K := K) rfl) (pv 0) pe_int (fun _ _ => rfl)) pe_int) (pv 2)) pe_int) pa_nil)) pe_int) (pg_sub (pv 0) pe_int set_list))
  (pss_one (ps_if (pt_cmpR op_ge (pv 2) (pe_op op_pow pe_int pe_int) (nomark _))
    (pss_one (ps_asg (pv 2) (pg_sub (pv 0) pe_int set_list)))
    pss_nil)))))
    pss_nil)
  (pss_cons (ps_if (pt_cmpR op_gt (pe_ix (k_ixl (K := K) rfl) (pv 0) pe_int (fun _ _ => rfl)) pe_int (nomark _))
    (pss_cons (ps_set (i := 3) sc__law_draw.nd rfl (.inl rfl) (pe_op op_mod (pe_callTy call_int1 (by rfl) B.int bo_int (pa_cons (pe_ix (k_ixl (K := K) rfl) (pv 0) pe_int (fun _ _ => rfl)) pa_nil)) (pv 1)))
  (pss_cons (ps_asg (pe_op op_fdivW (pe_ix (k_ixl (K := K) rfl) (pv 0) pe_int (fun _ _ => rfl)) (pv 1)) (pg_sub (pv 0) pe_int set_list))
  (pss_one (ps_ret (pv 3)))))
    pss_nil)
  (pss_cons (ps_asg (pe_op op_add (pe_ix (k_ixl (K := K) rfl) (pv 0) pe_int (fun _ _ => rfl)) pe_int) (pg_sub (pv 0) pe_int set_list))
  (pss_cons (ps_set (i := 4) sc__law_draw.nd rfl (.inl rfl) (pe_op op_mod (pe_callTy call_int1 (by rfl) B.int bo_int (pa_cons (pe_op op_mul (pe_callTy call_int1 (by rfl) B.int bo_int (pa_cons (pe_op op_add (pe_ix (k_ixl (K := K) rfl) (pv 0) pe_int (fun _ _ => rfl)) (pe_op op_mul pe_int (pe_ix (k_ixl (K := K) rfl) (pv 0) pe_int (fun _ _ => rfl)))) pa_nil)) pe_int) pa_nil)) pe_int))
  (pss_cons (ps_set (i := 4) sc__law_draw.nd rfl (.inl rfl) (pe_op op_mod (pe_callTy call_int1 (by rfl) B.int bo_int (pa_cons (pe_op op_mul (pv 4) (pe_op op_add (pe_op op_fdiv (pv 4) pe_int) pe_int)) pa_nil)) pe_int))
  (pss_cons (ps_set (i := 4) sc__law_draw.nd rfl (.inl rfl) (pe_op op_mod (pe_callTy call_int1 (by rfl) B.int bo_int (pa_cons (pe_op op_mul (pv 4) (pe_op op_add (pe_op op_fdiv (pv 4) pe_int) pe_int)) pa_nil)) pe_int))
  (pss_one (ps_ret (pe_op op_mod (pe_callTy call_int1 (by rfl) B.int bo_int (pa_cons (pe_op op_fdiv (pv 4) pe_int) pa_nil)) (pv 1)))))))))), ?_⟩
    refine ⟨fun σ H' => ∃ x2, σ = [some (.ref h), some (.int m), x2, none, none] ∧ HandAt F0 H' h ∧ Same F0 H' ∧ ∀ b, b ≠ h → H' b = H b, ?_, ?_⟩
    · obtain ⟨c, cells, i, r, s, k, hh, hc, hi⟩ := hA.ob
      have hcH : H c = some (.lst (cells.map V.int)) := hF _ _ hc
      have stay : ∃ x2, ([some (.ref h), some (.int m), none, none, none] : L2.St) = [some (.ref h), some (.int m), x2, none, none] ∧ HandAt F0 H h ∧ Same F0 H ∧ ∀ b, b ≠ h → H b = H b := ⟨none, rfl, hA, hF, fun _ _ => rfl⟩
      refine ⟨_, rfl, h, _, (2 : Nat), .int r, rfl, rfl, sql hh, atI_nat rfl, rfl, _, rfl, ?_⟩
      by_cases hr0 : r = 0
      · rw [hr0, decide_eq_true (rfl : V.int 0 = V.int 0)]
        refine iteT ⟨_, rfl, h, _, (1 : Nat), .int i, rfl, rfl, sql hh, atI_nat rfl, _, rfl, h, _, (0 : Nat), .ref c, rfl, rfl, sql hh, atI_nat rfl, c, _, rfl, .inl (sql hcH), _, _, rfl, rfl, _, rfl, ?_⟩
        rw [List.length_map]
        by_cases hic : i < (cells.length : Int)
        · rw [decide_eq_true hic]
          refine iteT ?_
          obtain ⟨z, hz⟩ := cells_at hi hic
          have nch : c ≠ h := fun e => by
            have := hA.nF
            rw [← e, hc] at this
            cases this
          refine ⟨_, rfl, h, _, (0 : Nat), .ref c, rfl, rfl, sql hh, atI_nat rfl, _, rfl, h, _, (1 : Nat), .int i, rfl, rfl, sql hh, atI_nat rfl, c, _, i, .int z, rfl, rfl, sql hcH, hz, ?_⟩
          refine ⟨_, rfl, h, _, (1 : Nat), .int i, rfl, rfl, sql hh, atI_nat rfl, _, _, rfl, rfl, _, rfl, h, _, (1 : Nat), 1, rfl, rfl, hh, ixN_nat (by show 1 < 5; decide), ?_⟩
          refine ⟨_, rfl, h, _, (3 : Nat), .int s, rfl, rfl, sql upd_same, atI_nat rfl, s, 69621, rfl, rfl, .inr ⟨by decide, by decide⟩, _, rfl, _, _, rfl, rfl, _, _, rfl, rfl, .inl ⟨_, rfl, _, _, rfl, rfl, (by show (0 : Int) < 2147483629; decide), _, rfl, h, _, (3 : Nat), 3, rfl, rfl, upd_same, ixN_nat (by show 3 < 5; decide), ?_⟩⟩
          rw [upd_upd]
          refine ⟨_, rfl, _, _, rfl, rfl, ⟨by decide, by decide, by decide⟩, _, _, rfl, rfl, _, rfl, ?_⟩
          by_cases hbig : (10 : Int) ^ (18 : Int).toNat ≤ z
          · rw [decide_eq_true hbig]
            refine iteT ?_
            refine ⟨_, rfl, _, rfl, h, _, (2 : Nat), 2, rfl, rfl, upd_same, ixN_nat (by show 2 < 5; decide), ?_⟩
            rw [upd_upd]
            exact ⟨_, rfl, (drew_upd hF hA.nF hc (by omega)).hand, same_mut hF hA.nF, fun b hb => upd_ne hb⟩
          · rw [decide_eq_false hbig]
            refine iteF ?_
            exact ⟨_, rfl, (drew_upd hF hA.nF hc (by omega)).hand, same_mut hF hA.nF, fun b hb => upd_ne hb⟩
        · rw [decide_eq_false hic]
          refine iteF ?_
          exact stay
      · have : ¬ V.int r = V.int 0 := fun z => hr0 (by injection z)
        rw [decide_eq_false this]
        refine iteF ?_
        exact iteF stay
    · rintro σ H1 ⟨x2, rfl, hA1, hF1, hk1⟩
      obtain ⟨c, cells, i, r, s, k, hh, hc, hi⟩ := hA1.ob
      refine ⟨_, rfl, h, _, (2 : Nat), .int r, rfl, rfl, sql hh, atI_nat rfl, _, _, rfl, rfl, _, rfl, ?_⟩
      by_cases hr0 : (0 : Int) < r
      · rw [decide_eq_true hr0]
        refine iteT ?_
        refine ⟨_, rfl, h, _, (2 : Nat), .int r, rfl, rfl, sql hh, atI_nat rfl, .inl ⟨_, rfl, _, rfl, _, _, rfl, rfl, hm0, ?_⟩⟩
        refine ⟨_, rfl, h, _, (2 : Nat), .int r, rfl, rfl, sql hh, atI_nat rfl, _, rfl, _, _, rfl, rfl, ⟨hm0, hml⟩, _, rfl, h, _, (2 : Nat), 2, rfl, rfl, hh, ixN_nat (by show 2 < 5; decide), ?_⟩
        refine ⟨_, rfl, q _ _ (Int.emod_nonneg _ (by omega)) (Int.emod_lt_of_pos _ hm0) ⟨(drew_upd hF1 hA1.nF hc hi).hand, fun b hb => (upd_ne hb).trans (hk1 b hb), same_mut hF1 hA1.nF⟩⟩
      · rw [decide_eq_false hr0]
        refine iteF ?_
        refine ⟨_, rfl, h, _, (4 : Nat), .int k, rfl, rfl, sql hh, atI_nat rfl, _, _, rfl, rfl, _, rfl, h, _, (4 : Nat), 4, rfl, rfl, hh, ixN_nat (by show 4 < 5; decide), ?_⟩
        refine ⟨_, rfl, h, _, (3 : Nat), .int s, rfl, rfl, sql upd_same, atI_nat rfl, _, rfl, h, _, (4 : Nat), .int (k + 1), rfl, rfl, sql upd_same, atI_nat rfl, _, _, rfl, rfl, .inl ⟨by decide, by decide⟩, _, _, rfl, rfl, .inl ⟨_, rfl, _, _, rfl, rfl, .inr ⟨by decide, by decide⟩, .inl ⟨_, rfl, _, _, rfl, rfl, (by show (0 : Int) < 2147483647; decide), ?_⟩⟩⟩
        refine ⟨_, rfl, _, rfl, _, _, rfl, rfl, ⟨by decide, by decide⟩, _, _, rfl, rfl, _, _, rfl, rfl, cm1, .inl ⟨_, rfl, _, _, rfl, rfl, (by show (0 : Int) < 2147483647; decide), ?_⟩⟩
        refine ⟨_, rfl, _, rfl, _, _, rfl, rfl, ⟨by decide, by decide⟩, _, _, rfl, rfl, _, _, rfl, rfl, cm1, .inl ⟨_, rfl, _, _, rfl, rfl, (by show (0 : Int) < 2147483399; decide), ?_⟩⟩
        refine ⟨_, rfl, _, _, rfl, rfl, ⟨by decide, by decide⟩, .inl ⟨_, rfl, _, rfl, _, _, rfl, rfl, hm0, ?_⟩⟩
        exact q _ _ (Int.emod_nonneg _ (by omega)) (Int.emod_lt_of_pos _ hm0) ⟨(drew_upd hF1 hA1.nF hc hi).hand, fun b hb => (upd_ne hb).trans (hk1 b hb), same_mut hF1 hA1.nF⟩

abbrev s__law_shuffled : Stmt := topS 38
abbrev sl__law_shuffled : List Str := ["_law_hand_here", "_law_things", "_law_left", "_law_found"]
theorem sc__law_shuffled : FnScope ["_law_hand_here", "_law_things", "_law_left", "_law_found"] ["_law_hand_here", "_law_things"] (defScope s__law_shuffled) := ⟨rfl, rfl, rfl, by decide +kernel, rfl, by decide +kernel, by decide +kernel⟩
def spShuffled (K : PySem.W.Frag) : Sp := fun vs H Q _ => ∃ (h a : Addr) (xs : List V) (F : Hp), vs = [.ref h, .ref a] ∧ SqX K H a xs ∧ xs.length ≤ 1000 ∧ Same F H ∧ HandAt F H h ∧
  ∀ p H' ys, ys.Perm xs → Dr F H H' h → H p = none → H' p = some (.lst ys) → Q (.ref p) H'
theorem perm_erase {y : V} : ∀ {zs : List V} {k : Nat}, zs[k]? = some y → (y :: zs.eraseIdx k).Perm zs
  | [], k, h => by simp at h
  | z :: r, 0, h => by
    cases h
    exact List.Perm.refl _
  | z :: r, k + 1, h => by
    have ih := perm_erase (zs := r) (k := k) (by simpa using h)
    rw [List.eraseIdx_cons_succ]
    exact (List.Perm.swap z y _).trans (ih.cons z)
theorem ok__law_shuffled (B : Bt mg) (h_law_draw : Has P w K mg base "_law_draw" 1 ["_law_hand_here", "_law_many"] spDraw) (D0 : Df K mg "_law_shuffled" s__law_shuffled ["_law_hand_here", "_law_things"]) : Has P w K mg base "_law_shuffled" 2 ["_law_hand_here", "_law_things"] (spShuffled K) := by
  refine D0.has fun f fd F => F.ok sc__law_shuffled (fun vs H Q E h => ?_) (fun cdv A outer s H vs Q E hr h => ?_)
  · obtain ⟨h, a, xs, F, rfl, _⟩ := h
    rfl
  · obtain ⟨h, a, xs, F0, rfl, hS, hl, hF, hA, q⟩ := h
    refine ⟨_, (pss_cons (ps_set (i := 2) sc__law_shuffled.nd rfl (.inl rfl) (pe_callTy (k_list (K := K) rfl) (by rfl) B.list bo_list (pa_cons (pv 1) pa_nil)))
  (pss_cons (ps_set (i := 3) sc__law_shuffled.nd rfl (.inl rfl) (pe_lst pa_nil))
  (pss_cons (ps_while PassesOwn.never (pt_cmpR op_gt (pe_callB (k_len (K := K) rfl) (by rfl) B.len bo_len (pa_cons (pv 2) pa_nil)) pe_int (nomark _))
    (pss_one (ps_expr (pe_bm PySem.F.plainAttrs_list PySem.F.slot_list_append PySem.F.type_list_append mt_append (pv 3) (pa_cons (pe_bm PySem.F.plainAttrs_list PySem.F.slot_list_pop PySem.F.type_list_pop mt_popAt (pv 2) (pa_cons (pcall h_law_draw hr (by decide) (by rfl) (pa_cons (pv 0) (pa_cons (pe_callB (k_len (K := K) rfl) (by rfl) B.len bo_len (pa_cons (pv 2) pa_nil)) pa_nil))) pa_nil)) pa_nil)))))
  (pss_one (ps_ret (pv 3)))))), ?_⟩
    refine ⟨_, rfl, a, xs, rfl, hS, fun l nl => ⟨Nat.zero_le _, fun p np => ?_⟩⟩
    have s1 := same_new (o := .lst xs) (Same.refl H) nl
    have s2 := same_new (o := .lst []) s1 np
    have nlh : l ≠ h := hA.ne nl
    have np0 : H p = none := Same.free s1 np
    have nph : p ≠ h := hA.ne np0
    have nlp : l ≠ p := ne_of_none upd_same np
    have nlF : F0 l = none := Same.free hF nl
    have npF : F0 p = none := Same.free hF np0
    refine ⟨fun m σ H' => ∃ (zs ys : List V), σ = [some (.ref h), some (.ref a), some (.ref l), some (.ref p)] ∧ Dr F0 H H' h ∧ H' l = some (.lst zs) ∧ H' p = some (.lst ys) ∧ (ys ++ zs).Perm xs ∧ m = zs.length,
      ⟨_, xs, [], rfl, Dr.of_same hA hF s2, by rw [upd_ne nlp, upd_same], upd_same, List.Perm.refl _, rfl⟩, ?_⟩
    rintro m σ H1 ⟨zs, ys, rfl, d1, hl1, hp1, hpm, rfl⟩
    refine ⟨_, rfl, l, zs, rfl, .inl (sql hl1), _, _, rfl, rfl, _, rfl, ?_⟩
    have hlen : ys.length + zs.length = xs.length := by
      have := hpm.length_eq
      rw [List.length_append] at this
      exact this
    cases hz : zs with
    | nil =>
      subst hz
      refine iteF ⟨_, rfl, q p H1 ys (by rw [List.append_nil] at hpm; exact hpm) d1 np0 hp1⟩
    | cons z0 zr =>
      rw [← hz]
      have hpos : 0 < zs.length := by rw [hz]; exact Nat.succ_pos _
      rw [decide_eq_true (show (0 : Int) < (zs.length : Int) by omega)]
      refine iteT ⟨_, fun σ' H' z => z, ?_⟩
      refine ⟨_, rfl, .inl ⟨rfl, _, sql hp1⟩, _, rfl, .inl ⟨rfl, _, sql hl1⟩, _, rfl, _, rfl, l, zs, rfl, .inl (sql hl1), h, (zs.length : Int), F0, rfl, by omega, small_log (by omega) (by omega), d1.sub, d1.hand, fun n H2 hn0 hn1 dd => ?_⟩
      have d2 := d1.trans dd.dr
      have hl2 : H2 l = some (.lst zs) := by rw [dd.rest l nlh]; exact hl1
      have hp2 : H2 p = some (.lst ys) := by rw [dd.rest p nph]; exact hp1
      obtain ⟨k, rfl⟩ : ∃ k : Nat, n = (k : Int) := ⟨n.toNat, by omega⟩
      have hk : k < zs.length := by omega
      refine ⟨l, zs, (k : Int), k, zs[k], rfl, rfl, hl2, by omega, by omega, seqIndex_of (by omega) (by omega), List.getElem?_eq_getElem hk, p, ys, _, rfl, rfl, by rw [upd_ne nlp.symm]; exact hp2, small_lt (by omega), ?_⟩
      refine ⟨_, ?_, zs.eraseIdx k, ys ++ [zs[k]], rfl, (d2.upd nl nlh nlF).upd np0 nph npF, by rw [upd_ne nlp, upd_same], upd_same, ?_, rfl⟩
      · rw [List.length_eraseIdx_of_lt hk]
        omega
      · rw [List.append_assoc]
        exact (List.Perm.append_left ys (perm_erase (List.getElem?_eq_getElem hk))).trans hpm

abbrev s__law_tail : Stmt := topS 40
abbrev sl__law_tail : List Str := ["_law_hand_here", "_law_pairs", "_law_goals", "_law_place", "_law_there", "_law_tail_here", "_law_head", "_law_one"]
theorem sc__law_tail : FnScope ["_law_hand_here", "_law_pairs", "_law_goals", "_law_place", "_law_there", "_law_tail_here", "_law_head", "_law_one"] ["_law_hand_here", "_law_pairs", "_law_goals", "_law_place"] (defScope s__law_tail) := ⟨rfl, rfl, rfl, by decide +kernel, rfl, by decide +kernel, by decide +kernel⟩
def spTail (K : PySem.W.Frag) : Sp := fun vs H Q _ => ∃ (h b g : Addr) (pl : Int) (pvs : List V) (es : Es) (gs : List Nat) (F : Hp), vs = [.ref h, .ref b, .ref g, .int pl] ∧ SqL K H b pvs ∧ Prs K H pvs es ∧ SqL K H g (gs.map nV) ∧ 0 ∉ gs ∧ es.length ≤ 1000 ∧ Same F H ∧ HandAt F H h ∧
  ∀ (v : Nat) H', (v = 0 ∨ ∃ e ∈ es, e.2 = v) → Dr F H H' h → Q (nV v) H'
theorem ok__law_tail (B : Bt mg) (h_law_draw : Has P w K mg base "_law_draw" 1 ["_law_hand_here", "_law_many"] spDraw) (D0 : Df K mg "_law_tail" s__law_tail ["_law_hand_here", "_law_pairs", "_law_goals", "_law_place"]) : Has P w K mg base "_law_tail" 2 ["_law_hand_here", "_law_pairs", "_law_goals", "_law_place"] (spTail K) := by
  refine D0.has fun f fd F => F.ok sc__law_tail (fun vs H Q E h => ?_) (fun cdv A outer s H vs Q E hr h => ?_)
  · obtain ⟨h, b, g, pl, pvs, es, gs, F, rfl, _⟩ := h
    rfl
  · obtain ⟨h, b, g, pl, pvs, es, gs, F0, rfl, hB, hP, hG, h0, hel, hF, hA, q⟩ := h
    refine ⟨_, (pss_cons (ps_set (i := 4) sc__law_tail.nd rfl (.inl rfl) (pe_op op_cat (pe_lst (pa_cons pe_int pa_nil)) (pe_lc (own := [("_law_tail_here", 5), ("_law_head", 6)]) (g := gTup K 2 (gCons (gName 5) (gCons (gName 6) gNil))) rfl sc__law_tail.nd (k_pil (K := K) rfl (pv 1)) (blkOk_by (N := sl__law_tail) (sc := defScope s__law_tail) (by decide +kernel)) (fun _ _ _ _ _ => (pg_tup rfl (pgs_cons (pg_name (i := 5) sc__law_tail.nd rfl (.inl rfl)) (pgs_cons (pg_name (i := 6) sc__law_tail.nd rfl (.inl rfl)) pgs_nil)))) (fun _ _ _ _ _ => pts_nil) (fun _ _ _ _ _ => (pv 6)))))
  (C8.pss_cut (ps_if (pt_cmpR op_gt (pcall h_law_draw hr (by decide) (by rfl) (pa_cons (pv 0) (pa_cons pe_int pa_nil))) pe_int (nomark _))
    (pss_one (ps_setLc (i := 4) (own := [("_law_one", 7)]) (g := gName 7) rfl sc__law_tail.nd rfl rfl (sw_true rfl rfl rfl (by decide +kernel)) (k_pil (K := K) rfl (pv 4)) (blkOk_by (N := sl__law_tail) (sc := defScope s__law_tail) (by decide +kernel)) (fun _ _ _ _ _ => (pg_name (i := 7) sc__law_tail.nd rfl (.inl rfl))) (fun _ _ _ _ _ => pts_one (pt_cmpR (k_notin (K := K) rfl) (pv 7) (pv 2) (by rfl))) (fun _ _ _ _ _ => (pv 7))))
    pss_nil)
  (pss_one (ps_ret (pe_ix (k_ixl (K := K) rfl) (pv 4) (pcall h_law_draw hr (by decide) (by rfl) (pa_cons (pv 0) (pa_cons (pe_callB (k_len (K := K) rfl) (by rfl) B.len bo_len (pa_cons (pv 4) pa_nil)) pa_nil))) (fun _ _ => rfl)))))), ?_⟩
    have hl := hP.len
    refine ⟨Nat.le_of_lt (small_lt (by decide : 1 ≤ 100000)), fun z nz => ?_⟩
    have s1 := same_new (o := .lst [.int 0]) (Same.refl H) nz
    refine ⟨_, rfl, b, rfl, ⟨_, Same.seq s1 hB⟩, fun D nD => ?_⟩
    refine lc_val walk_list calm_at (fun i => (es[i]?).bind fun e => some (nV e.2)) (by omega) nD (fun H3 s3 => Same.seq (Same.trans s1 s3) hB) ?_ fun H3 s3 h3 => ?_
    · rintro i v H3 H4 hi s3 ⟨rfl, hv⟩ Kt kt
      obtain ⟨e, hei, t, rfl, ht⟩ := hP.get hv
      have sm : Same H H4 := Same.trans s1 s3
      refine ⟨t, _, rfl, Same.sqt sm ht, rfl, _, _, rfl, _, _, rfl, rfl, rfl, tyes ?_⟩
      refine iteT ⟨_, rfl, ?_⟩
      have k0 := kt _ (Same.refl _)
      rw [hei] at k0
      exact k0
    rw [hl, fm_range, fm_some] at h3
    have s13 : Same H H3 := Same.trans s1 s3
    have hz3 : H3 z = some (.lst [.int 0]) := s3 _ _ upd_same
    have e3 : (es.map fun e => nV e.2) = (es.map (·.2)).map nV := by rw [List.map_map]; rfl
    rw [e3] at h3
    refine ⟨z, D, _, _, rfl, rfl, hz3, h3, by rw [List.length_map, List.length_map]; exact small_sz (by show 1 + es.length ≤ 100000; omega), fun th nth => ?_⟩
    have hcat : ([V.int 0] ++ (es.map (·.2)).map nV) = (0 :: es.map (·.2)).map nV := rfl
    rw [hcat]
    have s14 := same_new (o := .lst ((0 :: es.map (·.2)).map nV)) s13 nth
    have nthh : th ≠ h := hA.ne (Same.free s13 nth)
    -- if draw > 0
    refine ⟨fun σ H' => ∃ (th' : Addr) (ts : List Nat) (x : Option V), σ = [some (.ref h), some (.ref b), some (.ref g), some (.int pl), some (.ref th'), none, none, none] ∧ Dr F0 H H' h ∧ H' th' = some (.lst (ts.map nV)) ∧ th' ≠ h ∧ 0 ∈ ts ∧ ts.length ≤ 1001 ∧ (∀ v ∈ ts, v = 0 ∨ ∃ e ∈ es, e.2 = v), ?_, ?_⟩
    · have dA := Dr.of_same hA hF s14
      refine ⟨_, rfl, h, 4, F0, rfl, by decide, small_log (by decide) (by omega), dA.sub, dA.hand, fun n H5 hn0 hn1 dd => ⟨_, _, rfl, rfl, _, rfl, ?_⟩⟩
      have d5 := dA.trans dd.dr
      have hth5 : H5 th = some (.lst ((0 :: es.map (·.2)).map nV)) := by rw [dd.rest th nthh]; exact upd_same
      have hts : ∀ v ∈ (0 :: es.map (·.2)), v = 0 ∨ ∃ e ∈ es, e.2 = v := fun v hv => by
        rcases List.mem_cons.mp hv with hv | hv
        · exact .inl hv
        · obtain ⟨e, he, rfl⟩ := List.mem_map.mp hv
          exact .inr ⟨e, he, rfl⟩
      have htl : (0 :: es.map (·.2)).length ≤ 1001 := by rw [List.length_cons, List.length_map]; omega
      by_cases hn : (0 : Int) < n
      · rw [decide_eq_true hn]
        refine iteT ⟨_, rfl, th, rfl, ⟨_, sql hth5⟩, fun D2 nD2 => ?_⟩
        have hG5 : SqL K H5 g (gs.map nV) := by
          obtain ⟨c, cells, i, r, s', k, h1, _⟩ := hA.ob
          rcases hG with (hg | ⟨o, hg⟩) | hg
          · exact .inl (.inl (d5.same _ _ (fun e => by
              subst e
              rw [hg] at h1
              have h2 := Option.some.inj h1
              injection h2 with h2
              cases gs with
              | nil => cases h2
              | cons g0 gr => injection h2 with h2 _; cases h2) hg))
          · exact .inl (.inr ⟨o, d5.same _ _ (ne_of hg h1 (by intro z; cases z)) hg⟩)
          · exact .inr hg
        refine lc_val walk_list calm_at (fun i => ((0 :: es.map (·.2))[i]?).bind fun v => if v ∈ gs then none else some (nV v)) (by rw [List.length_map]; omega) nD2 (fun H6 s6 => sql (s6 _ _ hth5)) ?_ fun H6 s6 h6 => ?_
        · rintro i v H6 H7 hi s6 ⟨rfl, hv⟩ Kt kt
          obtain ⟨u, hui, rfl⟩ := getmap hv
          refine ⟨rfl, ?_⟩
          refine ⟨_, rfl, _, rfl, g, _, rfl, .inl (Same.seq s6 hG5), rfl, flat_nats _, _, rfl, ?_⟩
          rw [if_pos rfl, inV_nats]
          have k0 := kt _ (Same.refl _)
          rw [hui] at k0
          simp only [Option.bind_some] at k0
          by_cases hm : u ∈ gs
          · rw [decide_eq_true hm]
            rw [if_pos hm] at k0
            exact iteF k0
          · rw [decide_eq_false hm]
            rw [if_neg hm] at k0
            exact iteT ⟨_, rfl, k0⟩
        rw [List.length_map, fm_range] at h6
        have e6 : ((0 :: es.map (·.2)).filterMap fun v => if v ∈ gs then none else some (nV v)) = ((0 :: es.map (·.2)).filterMap fun v => if v ∈ gs then none else some v).map nV := by
          rw [List.map_filterMap]
          congr 1
          funext v
          split <;> rfl
        rw [e6] at h6
        have d6 := d5.trans (Dr.of_same d5.hand d5.sub s6)
        refine ⟨D2, _, none, rfl, d6, h6, hA.ne (d5.free nD2), ?_, Nat.le_trans (List.length_filterMap_le _ _) htl, fun v hv => ?_⟩
        · exact List.mem_filterMap.mpr ⟨0, List.mem_cons_self, if_neg h0⟩
        · obtain ⟨u, hu, e⟩ := List.mem_filterMap.mp hv
          split at e
          · cases e
          · cases e
            exact hts _ hu
      · rw [decide_eq_false hn]
        refine iteF ?_
        exact ⟨th, _, none, rfl, d5, hth5, nthh, List.mem_cons_self, htl, hts⟩
    · rintro σ H5 ⟨th', ts, x, rfl, d5, hth5, nth5, h0t, htl, hts⟩
      have hpos : 0 < ts.length := List.length_pos_of_mem h0t
      refine ⟨_, rfl, _, rfl, _, rfl, th', _, rfl, .inl (sql hth5), h, (ts.length : Int), F0, by rw [List.length_map]; rfl, by omega, small_log (by omega) (by omega), d5.sub, d5.hand, fun n H6 hn0 hn1 dd => ?_⟩
      obtain ⟨k, rfl⟩ : ∃ k : Nat, n = (k : Int) := ⟨n.toNat, by omega⟩
      have hk : k < ts.length := by omega
      have htk : ts[k]? = some ts[k] := List.getElem?_eq_getElem hk
      refine ⟨th', _, (k : Int), nV ts[k], rfl, rfl, sql (by rw [dd.rest th' nth5]; exact hth5), atI_nat (by rw [List.getElem?_map, htk]; rfl), q _ H6 (hts _ (List.mem_of_getElem? htk)) (d5.trans dd.dr)⟩

abbrev s__law_renamed : Stmt := topS 41
abbrev sl__law_renamed : List Str := ["_law_hand_here", "_law_many", "_law_pairs", "_law_goals", "_law_number", "_law_arrows", "_law_one", "_law_other", "_law_goal"]
theorem sc__law_renamed : FnScope ["_law_hand_here", "_law_many", "_law_pairs", "_law_goals", "_law_number", "_law_arrows", "_law_one", "_law_other", "_law_goal"] ["_law_hand_here", "_law_many", "_law_pairs", "_law_goals"] (defScope s__law_renamed) := ⟨rfl, rfl, rfl, by decide +kernel, rfl, by decide +kernel, by decide +kernel⟩
/-- pairs made since H0 -/
def PairN (H0 H : Hp) (v : V) (e : Nat × Nat) : Prop := ∃ t, v = .ref t ∧ H t = some (.tup [nV e.1, nV e.2]) ∧ H0 t = none
def RelN (H0 : Hp) (G : Nat × Nat → Nat × Nat) (es : Es) (i : Nat) (H : Hp) (o : Option V) : Prop := ∃ e v, es[i]? = some e ∧ o = some v ∧ PairN H0 H v (G e)
theorem RelN.stay {H0 : Hp} {G : Nat × Nat → Nat × Nat} {es : Es} {D : Addr} (i : Nat) (o : Option V) (H H' : Hp) (acc : List V) (hD : H D = some (.lst acc)) (h : RelN H0 G es i H o)
    (k : ∀ b u, b ≠ D → H b = some u → H' b = some u) : RelN H0 G es i H' o := by
  obtain ⟨e, v, he, h1, t, rfl, ht, hn⟩ := h
  exact ⟨e, _, he, h1, t, rfl, k _ _ (ne_of ht hD (by intro z; cases z)) ht, hn⟩
theorem relN_vals {H0 H : Hp} {G : Nat × Nat → Nat × Nat} {es : Es} {os : List (Option V)} (hl : os.length = es.length) (h : ∀ (i : Nat) (o : Option V), os[i]? = some o → RelN H0 G es i H o) :
    (os.filterMap id).length = es.length ∧ ∀ (i : Nat) (v : V) (e : Nat × Nat), (os.filterMap id)[i]? = some v → es[i]? = some e → PairN H0 H v (G e) := by
  have e1 : ∃ vs : List V, os = vs.map some := by
    refine ⟨os.map fun o => o.getD .non, ?_⟩
    rw [List.map_map]
    symm
    rw [show os = os.map id by rw [List.map_id]]
    rw [List.map_map]
    refine List.map_congr_left fun o ho => ?_
    obtain ⟨i, hi⟩ := List.getElem?_of_mem ho
    obtain ⟨e, v, _, rfl, _⟩ := h i o hi
    rfl
  obtain ⟨vs, rfl⟩ := e1
  have e2 : (vs.map some).filterMap id = vs := by
    rw [List.filterMap_map]
    exact List.filterMap_some
  rw [e2]
  rw [List.length_map] at hl
  refine ⟨hl, fun i v e hv he => ?_⟩
  obtain ⟨e', v', he', hv', hp⟩ := h i (some v) (by rw [List.getElem?_map, hv]; rfl)
  rw [he] at he'
  cases he'
  cases hv'
  exact hp
theorem nd_map {f : Nat → Nat} {l : List Nat} (h : ∀ a b, a ∈ l → b ∈ l → f a = f b → a = b) (nd : l.Nodup) : (l.map f).Nodup := by
  unfold List.Nodup
  rw [List.pairwise_map]
  exact List.Pairwise.imp_of_mem (fun {a b} ha hb hab e => hab (h a b ha hb e)) nd
/-- the numbers of the places anew -/
structure Num (n : Nat) (num : List Nat) : Prop where
  len : num.length = n
  nd : num.Nodup
  lt : ∀ v ∈ num, v < n
  z : num[0]? = some 0
def pi (num : List Nat) (v : Nat) : Nat := num[v]?.getD 0
theorem Num.at_ {n : Nat} {num : List Nat} (h : Num n num) {v : Nat} (hv : v < n) : num[v]? = some (pi num v) := by
  have h1 : v < num.length := by rw [h.len]; exact hv
  unfold pi
  rw [List.getElem?_eq_getElem h1]
  rfl
theorem Num.pilt {n : Nat} {num : List Nat} (h : Num n num) {v : Nat} (hv : v < n) : pi num v < n := h.lt _ (List.mem_of_getElem? (h.at_ hv))
theorem Num.inj {n : Nat} {num : List Nat} (h : Num n num) {u v : Nat} (hu : u < n) (hv : v < n) (e : pi num u = pi num v) : u = v :=
  (List.getElem?_inj (by rw [h.len]; exact hu) h.nd).mp (by rw [h.at_ hu, h.at_ hv, e])
theorem Num.pi0 {n : Nat} {num : List Nat} (h : Num n num) : pi num 0 = 0 := by
  unfold pi
  rw [h.z]
  rfl
def ren (num : List Nat) (e : Nat × Nat) : Nat × Nat := (pi num e.1, pi num e.2)
theorem Num.rch {n : Nat} {num : List Nat} (h : Num n num) {es : Es} {v : Nat} (hr : Rch es [0] v) : Rch (es.map (ren num)) [0] (pi num v) :=
  hr.ind (P := fun v => Rch (es.map (ren num)) [0] (pi num v)) (fun v hv => by
    rw [List.mem_singleton.mp hv, h.pi0]
    exact .base List.mem_cons_self) fun u v hu e => hu.edge (List.mem_map.mpr ⟨(u, v), e, rfl⟩)
theorem num_of {n : Nat} {ys : List Nat} (hn : 2 ≤ n) (h : ys.Perm ((List.range (n - 1)).map (· + 1))) : Num n (0 :: ys) where
  len := by
    rw [List.length_cons, h.length_eq, List.length_map, List.length_range]
    omega
  nd := by
    refine List.nodup_cons.mpr ⟨fun z => ?_, ?_⟩
    · obtain ⟨k, _, e⟩ := List.mem_map.mp (h.mem_iff.mp z)
      omega
    · refine h.nodup_iff.mpr ?_
      exact nd_map (fun a b _ _ hab => by omega) List.nodup_range
  lt := fun v hv => by
    rcases List.mem_cons.mp hv with rfl | hv
    · omega
    · obtain ⟨k, hk, rfl⟩ := List.mem_map.mp (h.mem_iff.mp hv)
      have := List.mem_range.mp hk
      omega
  z := rfl
theorem Prs.dr {K : PySem.W.Frag} {F H H' : Hp} {h : Addr} {vs : List V} {es : Es} (p : Prs K H vs es) (d : Dr F H H' h) (hA : HandAt F H h) : Prs K H' vs es :=
  ⟨p.len, fun i v e a b => (p.at_ i v e a b).elim fun t ⟨h1, h2⟩ => ⟨t, h1, d.sqt hA h2⟩⟩
/-- what can be renamed to a map -/
structure RawMap (n : Nat) (es : Es) (gs : List Nat) : Prop where
  n2 : 2 ≤ n
  n40 : n ≤ 40
  l60 : es.length ≤ 60
  ok : ∀ e ∈ es, e.1 < n ∧ e.2 < n ∧ e.1 ≠ e.2
  ne : gs ≠ []
  nd : gs.Nodup
  gl : ∀ g ∈ gs, g ≠ 0 ∧ g < n
  rch : ∀ g ∈ gs, Rch es [0] g
theorem good_of {n : Nat} {num : List Nat} (N : Num n num) {es : Es} {gs gs' : List Nat} (r : RawMap n es gs) (hp : gs'.Perm (gs.map (pi num))) (hs : gs'.Pairwise (· ≤ ·)) : GoodMap n (es.map (ren num)) gs' where
  n2 := r.n2
  n40 := r.n40
  l60 := by rw [List.length_map]; exact r.l60
  ok := fun e he => by
    obtain ⟨e0, h0, rfl⟩ := List.mem_map.mp he
    obtain ⟨h1, h2, h3⟩ := r.ok e0 h0
    exact ⟨N.pilt h1, N.pilt h2, fun z => h3 (N.inj h1 h2 z)⟩
  ne := fun z => by
    rw [z] at hp
    have := hp.length_eq
    rw [List.length_map] at this
    exact r.ne (List.length_eq_zero_iff.mp this.symm)
  pw := pw_lt hs (hp.nodup_iff.mpr (nd_map (fun a b ha hb e => N.inj (r.gl a ha).2 (r.gl b hb).2 e) r.nd))
  gl := fun g hg => by
    obtain ⟨g0, h0, rfl⟩ := List.mem_map.mp (hp.mem_iff.mp hg)
    obtain ⟨h1, h2⟩ := r.gl g0 h0
    exact ⟨fun z => h1 (N.inj h2 (by have := r.n2; omega) (by rw [z, N.pi0])), N.pilt h2⟩
  rch := fun g hg => by
    obtain ⟨g0, h0, rfl⟩ := List.mem_map.mp (hp.mem_iff.mp hg)
    exact N.rch (r.rch g0 h0)

def spRenamed (K : PySem.W.Frag) : Sp := fun vs H Q _ => ∃ (h b g : Addr) (n : Nat) (pvs : List V) (es : Es) (gs : List Nat) (F : Hp), vs = [.ref h, .int (n : Int), .ref b, .ref g] ∧ H b = some (.lst pvs) ∧ b ≠ h ∧ Prs K H pvs es ∧ H g = some (.lst (gs.map nV)) ∧ g ≠ h ∧ RawMap n es gs ∧ Same F H ∧ HandAt F H h ∧
  ∀ (t a c : Addr) (pvs' : List V) (es' : Es) (gs' : List Nat) (H' : Hp), Dr F H H' h → es'.length = es.length → PtsAt K (hv F H H') t n a pvs' es' c gs' → Q (.ref t) H'
theorem ok__law_renamed (B : Bt mg) (h_law_shuffled : Has P w K mg base "_law_shuffled" 2 ["_law_hand_here", "_law_things"] (spShuffled K)) (D0 : Df K mg "_law_renamed" s__law_renamed ["_law_hand_here", "_law_many", "_law_pairs", "_law_goals"]) : Has P w K mg base "_law_renamed" 3 ["_law_hand_here", "_law_many", "_law_pairs", "_law_goals"] (spRenamed K) := by
  refine D0.has fun f fd F => F.ok sc__law_renamed (fun vs H Q E h => ?_) (fun cdv A outer s H vs Q E hr h => ?_)
  · obtain ⟨h, b, g, n, pvs, es, gs, F, rfl, _⟩ := h
    rfl
  · obtain ⟨h, b, g, n, pvs, es, gs, F0, rfl, hB, nbh, hP, hG, ngh, rm, hF, hA, q⟩ := h
    refine ⟨_, (pss_cons (ps_set (i := 4) sc__law_renamed.nd rfl (.inr rfl) (pe_op op_cat (pe_lst (pa_cons pe_int pa_nil)) (pcall h_law_shuffled hr (by decide) (by rfl) (pa_cons (pv 0) (pa_cons (pe_listRg rfl (by rfl) B.list (prg_2 (by rfl) B.range pe_int (pv 1))) pa_nil)))))
  (pss_cons (ps_set (i := 5) sc__law_renamed.nd rfl (.inl rfl) (pe_callTy (k_tuple (K := K) rfl) (by rfl) B.tuple bo_tuple (pa_cons (pe_lc (own := [("_law_one", 6), ("_law_other", 7)]) (g := gTup K 2 (gCons (gName 6) (gCons (gName 7) gNil))) rfl sc__law_renamed.nd (k_pil (K := K) rfl (pv 2)) (blkOk_by (N := sl__law_renamed) (sc := defScope s__law_renamed) (by decide +kernel)) (fun _ _ _ _ _ => (pg_tup rfl (pgs_cons (pg_name (i := 6) sc__law_renamed.nd rfl (.inl rfl)) (pgs_cons (pg_name (i := 7) sc__law_renamed.nd rfl (.inl rfl)) pgs_nil)))) (fun _ _ _ _ _ => pts_nil) (fun _ _ _ _ _ => (pe_tup (pa_cons (pe_ix (k_ixl (K := K) rfl) (pv 4) (pv 6) (fun _ _ => rfl)) (pa_cons (pe_ix (k_ixl (K := K) rfl) (pv 4) (pv 7) (fun _ _ => rfl)) pa_nil))))) pa_nil)))
  (pss_one (ps_ret (pe_tup (pa_cons (pv 1) (pa_cons (pv 5) (pa_cons (pe_callTy (k_tuple (K := K) rfl) (by rfl) B.tuple bo_tuple (pa_cons (pe_callB (k_sorted (K := K) rfl) (by rfl) B.sorted bo_sorted (pa_cons (pe_lc (own := [("_law_goal", 8)]) (g := gName 8) rfl sc__law_renamed.nd (k_pil (K := K) rfl (pv 3)) (blkOk_by (N := sl__law_renamed) (sc := defScope s__law_renamed) (by decide +kernel)) (fun _ _ _ _ _ => (pg_name (i := 8) sc__law_renamed.nd rfl (.inl rfl))) (fun _ _ _ _ _ => pts_nil) (fun _ _ _ _ _ => (pe_ix (k_ixl (K := K) rfl) (pv 4) (pv 8) (fun _ _ => rfl)))) pa_nil)) pa_nil)) pa_nil)))))))), ?_⟩
    have hl := hP.len
    have rn2 := rm.n2
    have rn40 := rm.n40
    have r60 := rm.l60
    -- number
    refine ⟨Nat.le_of_lt (small_lt (by decide : 1 ≤ 100000)), fun z nz => ⟨_, rfl, _, rfl, _, (n : Int), rfl, rfl, ⟨by omega, by omega, by omega, by omega, by omega⟩, fun r nr => ?_⟩⟩
    have s1 := same_new (o := .lst [.int 0]) (Same.refl H) nz
    have s2 := same_new (o := .lst (rgV 1 (n : Int))) s1 nr
    have d2 := Dr.of_same hA hF s2
    have nzh : z ≠ h := hA.ne nz
    refine ⟨h, r, _, F0, rfl, .inl (sql upd_same), by rw [rgV_length]; omega, d2.sub, d2.hand, fun p H3 ysv hperm d3 np hp3 => ?_⟩
    have d23 := d2.trans d3
    rw [rgV1] at hperm
    obtain ⟨ys, rfl, hys⟩ := perm_nats hperm
    have N := num_of rn2 hys
    have hz3 : H3 z = some (.lst [.int 0]) := d3.same z _ nzh (by rw [upd_ne (ne_of_none upd_same nr), upd_same])
    refine ⟨z, p, _, _, rfl, rfl, hz3, hp3, by rw [List.length_map]; have := N.len; rw [List.length_cons] at this; exact small_sz (by show 1 + ys.length ≤ 100000; omega), fun nm nnm => ?_⟩
    have hcat : ([V.int 0] ++ ys.map nV) = (0 :: ys).map nV := rfl
    rw [hcat]
    generalize 0 :: ys = num at N ⊢
    have d4 := d23.trans (Dr.of_same d23.hand d23.sub (same_new (o := .lst (num.map nV)) (Same.refl H3) nnm))
    have nnm0 : H nm = none := d23.free nnm
    have nnmh : nm ≠ h := hA.ne nnm0
    generalize hH4 : upd H3 nm (.lst (num.map nV)) = H4 at d4
    have hnm4 : H4 nm = some (.lst (num.map nV)) := by rw [← hH4]; exact upd_same
    have hB4 := d4.same b _ nbh hB
    have hG4 := d4.same g _ ngh hG
    have hP4 := hP.dr d4 hA
    -- arrows
    refine ⟨_, rfl, b, rfl, ⟨_, sql hB4⟩, fun D nD => ?_⟩
    refine lc_rel walk_list calm_at (RelN H (ren num) es) RelN.stay (by omega) nD (fun H5 s5 => sql (s5 _ _ hB4)) ?_ fun H5 os s5 hol hos hD5 => ?_
    · rintro i v H5 H6 hi s5 ⟨rfl, hv⟩ Kt kt
      obtain ⟨e, hei, tt, rfl, ht⟩ := hP4.get hv
      obtain ⟨e1, e2⟩ := e
      obtain ⟨h1, h2, _⟩ := rm.ok _ (List.mem_of_getElem? hei)
      have hnm5 := s5 _ _ hnm4
      refine ⟨tt, _, rfl, Same.sqt s5 ht, rfl, _, _, rfl, _, _, rfl, rfl, rfl, tyes ?_⟩
      refine iteT ?_
      refine ⟨_, rfl, _, rfl, nm, _, (e1 : Int), nV (pi num e1), rfl, rfl, sql hnm5, atI_nat (by rw [List.getElem?_map, N.at_ h1]; rfl), _, rfl, _, rfl, nm, _, (e2 : Int), nV (pi num e2), rfl, rfl, sql hnm5, atI_nat (by rw [List.getElem?_map, N.at_ h2]; rfl), by show 2 ≤ sizeLine; decide, fun t2 nt2 => ?_⟩
      refine kt _ _ (same_new (Same.refl _) nt2) ⟨(e1, e2), _, hei, rfl, t2, rfl, upd_same, ?_⟩
      exact d4.free (Same.free s5 nt2)
    obtain ⟨hvl, hva⟩ := relN_vals (hol.trans hl) hos
    generalize os.filterMap id = pvs2 at hD5 hvl hva
    have d5 := d4.trans (Dr.of_same d4.hand d4.sub s5)
    refine ⟨D, _, rfl, .inl ⟨sql hD5, fun ar nar => ?_⟩⟩
    have nar0 : H ar = none := d5.free nar
    have s6 := same_new (o := .tup pvs2) (Same.refl H5) nar
    have d6 := d5.trans (Dr.of_same d5.hand d5.sub s6)
    generalize hH6 : upd H5 ar (.tup pvs2) = H6 at d6 s6
    have har6 : H6 ar = some (.tup pvs2) := by rw [← hH6]; exact upd_same
    have hG6 := d6.same g _ ngh hG
    have hnm6 : H6 nm = some (.lst (num.map nV)) := s6 _ _ (s5 _ _ hnm4)
    -- the goals, sorted
    refine ⟨_, rfl, _, rfl, _, rfl, g, rfl, ⟨_, sql hG6⟩, fun D2 nD2 => ?_⟩
    have hgl : gs.length ≤ n := nodup_le rm.nd fun x hx => (rm.gl x hx).2
    refine lc_val (walk_list (xs := gs.map nV)) calm_at (fun i => (gs[i]?).bind fun g => some (nV (pi num g))) (by rw [List.length_map]; omega) nD2 (fun H7 s7 => sql (s7 _ _ hG6)) ?_ fun H7 s7 h7 => ?_
    · rintro i v H7 H8 hi s7 ⟨rfl, hv⟩ Kt kt
      obtain ⟨x, hxi, rfl⟩ := getmap hv
      have hxn := (rm.gl x (List.mem_of_getElem? hxi)).2
      refine ⟨rfl, tyes ?_⟩
      refine iteT ?_
      refine ⟨_, rfl, _, rfl, nm, _, (x : Int), nV (pi num x), rfl, rfl, sql (s7 _ _ hnm6), atI_nat (by rw [List.getElem?_map, N.at_ hxn]; rfl), ?_⟩
      have k0 := kt _ (Same.refl _)
      rw [hxi] at k0
      exact k0
    rw [List.length_map, fm_range, fm_some] at h7
    refine ⟨D2, (gs.map (pi num)).map fun (n : Nat) => (n : Int), rfl, sql (by rw [h7, List.map_map, List.map_map]; rfl), fun ns so hpm hpw nso => ?_⟩
    obtain ⟨gs', hgs', hgp, hgw⟩ := sort_nats hpm hpw
    rw [hgs']
    refine ⟨so, _, rfl, .inl ⟨sql upd_same, fun c nc => ⟨Nat.le_of_lt (small_lt (by decide : 3 ≤ 100000)), fun t nt => ?_⟩⟩⟩
    have s8 := same_new (o := .tup [.int (n : Int), .ref ar, .ref c]) (same_new (o := .tup (gs'.map nV)) (same_new (o := .lst (gs'.map nV)) (Same.trans (Same.refl H6) s7) nso) nc) nt
    have d8 := d6.trans (Dr.of_same d6.hand d6.sub s8)
    have nc0 : H c = none := d6.free (Same.free s7 (Same.free (same_new (o := .lst (gs'.map nV)) (Same.refl H7) nso) nc))
    have nt0 : H t = none := d6.free (Same.free (same_new (o := .tup (gs'.map nV)) (same_new (o := .lst (gs'.map nV)) s7 nso) nc) nt)
    have nct : c ≠ t := ne_of_none upd_same nt
    refine q t ar c pvs2 (es.map (ren num)) gs' _ d8 (List.length_map _) ⟨?_, ?_, ⟨?_, fun i v e hv he => ?_⟩, ?_, good_of N rm hgp hgw⟩
    · exact sqt (hv_new hF nt0 upd_same)
    · exact sqt (hv_new hF nar0 (s8 _ _ har6))
    · rw [List.length_map, hvl]
    · rw [List.getElem?_map] at he
      cases he0 : es[i]? with
      | none => rw [he0] at he; cases he
      | some e0 =>
        rw [he0] at he
        cases he
        obtain ⟨tt, rfl, ht, hn⟩ := hva i v e0 hv he0
        exact ⟨tt, rfl, sqt (hv_new hF hn (s8 _ _ (s6 _ _ ht)))⟩
    · exact sqt (hv_new hF nc0 (by rw [upd_ne nct, upd_same]))

abbrev s__law_parts : Stmt := topS 39
abbrev sl__law_parts : List Str := ["_law_hand_here", "_law_places", "_law_arrows", "_law_many", "_law_goals", "_law_pairs", "_law_place", "_law_turn", "_law_way", "_law_one", "_law_other"]
theorem sc__law_parts : FnScope ["_law_hand_here", "_law_places", "_law_arrows", "_law_many", "_law_goals", "_law_pairs", "_law_place", "_law_turn", "_law_way", "_law_one", "_law_other"] ["_law_hand_here", "_law_places", "_law_arrows"] (defScope s__law_parts) := ⟨rfl, rfl, rfl, by decide +kernel, rfl, by decide +kernel, by decide +kernel⟩
/-- the pairs that are drawn so far; all heads are at most i, each head can be come to -/
structure Grown (n i : Nat) (es : Es) (gs : List Nat) : Prop where
  len : es.length ≤ i
  ok : ∀ e ∈ es, e.1 < n ∧ e.2 < n ∧ e.1 ≠ e.2
  hd : ∀ e ∈ es, e.2 ≤ i
  rch : ∀ e ∈ es, Rch es [0] e.2
  gl : ∀ g ∈ gs, g ≤ i → ∃ e ∈ es, e.2 = g
theorem Grown.add {n i v : Nat} {es : Es} {gs : List Nat} (g : Grown n i es gs) (hv : v = 0 ∨ ∃ e ∈ es, e.2 = v) (hi : i + 1 < n) : Grown n (i + 1) (es ++ [(v, i + 1)]) gs := by
  have hvr : Rch es [0] v := by
    rcases hv with rfl | ⟨e, he, rfl⟩
    · exact .base List.mem_cons_self
    · exact g.rch e he
  have hvi : v ≤ i := by
    rcases hv with rfl | ⟨e, he, rfl⟩
    · exact Nat.zero_le _
    · exact g.hd e he
  have sub : ∀ e ∈ es, e ∈ es ++ [(v, i + 1)] := fun e he => List.mem_append_left _ he
  refine ⟨by rw [List.length_append, List.length_singleton]; have := g.len; omega, fun e he => ?_, fun e he => ?_, fun e he => ?_, fun x hx hxi => ?_⟩
  · rcases List.mem_append.mp he with he | he
    · exact g.ok e he
    · rw [List.mem_singleton.mp he]
      exact ⟨by show v < n; omega, hi, by show v ≠ i + 1; omega⟩
  · rcases List.mem_append.mp he with he | he
    · exact Nat.le_succ_of_le (g.hd e he)
    · rw [List.mem_singleton.mp he]
      exact Nat.le_refl _
  · rcases List.mem_append.mp he with he | he
    · exact (g.rch e he).mono sub fun _ h => h
    · rw [List.mem_singleton.mp he]
      exact (hvr.mono sub fun _ h => h).edge (List.mem_append_right _ List.mem_cons_self)
  · by_cases h : x ≤ i
    · obtain ⟨e, he, h1⟩ := g.gl x hx h
      exact ⟨e, sub e he, h1⟩
    · exact ⟨_, List.mem_append_right _ List.mem_cons_self, by show i + 1 = x; omega⟩
theorem Grown.skip {n i : Nat} {es : Es} {gs : List Nat} (g : Grown n i es gs) (h : i + 1 ∉ gs) : Grown n (i + 1) es gs :=
  ⟨Nat.le_succ_of_le g.len, g.ok, fun e he => Nat.le_succ_of_le (g.hd e he), g.rch, fun x hx hxi => g.gl x hx (by
    have : x ≠ i + 1 := fun z => h (z ▸ hx)
    omega)⟩
theorem Prs.snoc {K : PySem.W.Frag} {H : Hp} {vs : List V} {es : Es} {v : V} {e : Nat × Nat} (p : Prs K H vs es) (h : PairAt K H v e) : Prs K H (vs ++ [v]) (es ++ [e]) where
  len := by rw [List.length_append, List.length_append, p.len]; rfl
  at_ := fun i x y a b => by
    by_cases hi : i < vs.length
    · rw [List.getElem?_append_left hi] at a
      rw [List.getElem?_append_left (by rw [← p.len]; exact hi)] at b
      exact p.at_ i x y a b
    · rw [List.getElem?_append_right (by omega)] at a
      rw [List.getElem?_append_right (by rw [← p.len]; omega)] at b
      have e0 : i - vs.length = 0 := by
        have := (List.getElem?_eq_some_iff.mp a).1
        simp at this
        omega
      rw [e0] at a
      rw [← p.len, e0] at b
      cases a
      cases b
      exact h
theorem Prs.keep {K : PySem.W.Frag} {H H' : Hp} {vs : List V} {es : Es} (p : Prs K H vs es) (k : ∀ t xs, SqT K H t xs → SqT K H' t xs) : Prs K H' vs es :=
  ⟨p.len, fun i v e a b => (p.at_ i v e a b).elim fun t ⟨h1, h2⟩ => ⟨t, h1, k _ _ h2⟩⟩
/-- a list is stored to, tuples stay -/
theorem sqt_upd {K : PySem.W.Frag} {H : Hp} {x t : Addr} {xs ys : List V} {o : HO} (hx : H x = some (.lst ys)) (s : SqT K H t xs) : SqT K (upd H x o) t xs := by
  rcases s with (s | ⟨o, s⟩) | s
  · exact .inl (.inl (by rw [upd_ne (ne_of s hx (by intro z; cases z))]; exact s))
  · exact .inl (.inr ⟨o, by rw [upd_ne (ne_of s hx (by intro z; cases z))]; exact s⟩)
  · exact .inr s
/-- values in another order are the pairs in another order -/
theorem prs_perm {K : PySem.W.Frag} {H : Hp} {vs ys : List V} {es : Es} (p : Prs K H vs es) (h : ys.Perm vs) : ∃ es' : Es, es'.Perm es ∧ Prs K H ys es' := by
  induction h generalizing es with
  | nil => exact ⟨es, List.Perm.refl _, p⟩
  | @cons x l1 l2 hp ih =>
    cases es with
    | nil => have := p.len; cases this
    | cons e er =>
      obtain ⟨es', h1, h2⟩ := ih (es := er) ⟨by have := p.len; simpa using this, fun i v e a b => p.at_ (i + 1) v e (by simpa using a) (by simpa using b)⟩
      refine ⟨e :: es', h1.cons e, by rw [List.length_cons, List.length_cons, h2.len], fun i v e' a b => ?_⟩
      cases i with
      | zero =>
        cases a
        cases b
        exact p.at_ 0 _ _ rfl rfl
      | succ i => exact h2.at_ i v e' (by simpa using a) (by simpa using b)
  | @swap x y l =>
    cases es with
    | nil => have := p.len; cases this
    | cons e er =>
      cases er with
      | nil => have := p.len; simp at this
      | cons e2 er =>
        refine ⟨e2 :: e :: er, List.Perm.swap e e2 er, by have := p.len; simpa using this, fun i v e' a b => ?_⟩
        match i, a, b with
        | 0, a, b => cases a; cases b; exact p.at_ 1 _ _ rfl rfl
        | 1, a, b => cases a; cases b; exact p.at_ 0 _ _ rfl rfl
        | i + 2, a, b => exact p.at_ (i + 2) v e' (by simpa using a) (by simpa using b)
  | trans _ _ ih1 ih2 =>
    obtain ⟨es1, h1, p1⟩ := ih2 p
    obtain ⟨es2, h2, p2⟩ := ih1 p1
    exact ⟨es2, h2.trans h1, p2⟩
theorem rgVn (a b : Nat) : rgV (a : Int) (b : Int) = ((List.range (b - a)).map (a + ·)).map nV := by
  unfold rgV
  rw [show ((b : Int) - (a : Int)).toNat = b - a by omega, List.map_map]
  refine List.map_congr_left fun i _ => ?_
  show V.int ((a : Int) + (i : Int)) = V.int ((a + i : Nat) : Int)
  congr 1
theorem mod_two {x n : Nat} (h : x < 2 * n) : (x : Int) % (n : Int) = ((if x < n then x else x - n : Nat) : Int) := by
  rw [← Int.natCast_emod]
  congr 1
  by_cases hx : x < n
  · rw [if_pos hx, Nat.mod_eq_of_lt hx]
  · rw [if_neg hx, Nat.mod_eq_sub_mod (by omega), Nat.mod_eq_of_lt (by omega)]
def spParts (K : PySem.W.Frag) : Sp := fun vs H Q _ => ∃ (h : Addr) (pl ar : Nat) (F : Hp), vs = [.ref h, .int (pl : Int), .int (ar : Int)] ∧ 2 ≤ pl ∧ pl ≤ 40 ∧ ar ≤ 60 ∧ Same F H ∧ HandAt F H h ∧
  ∀ t n a c pvs es gs H', n ≤ pl → es.length ≤ max pl ar → Dr F H H' h → PtsAt K (hv F H H') t n a pvs es c gs → Q (.ref t) H'
theorem ok__law_parts (B : Bt mg) (h_law_draw : Has P w K mg base "_law_draw" 1 ["_law_hand_here", "_law_many"] spDraw) (h_law_tail : Has P w K mg base "_law_tail" 2 ["_law_hand_here", "_law_pairs", "_law_goals", "_law_place"] (spTail K))
    (h_law_shuffled : Has P w K mg base "_law_shuffled" 2 ["_law_hand_here", "_law_things"] (spShuffled K)) (h_law_renamed : Has P w K mg base "_law_renamed" 3 ["_law_hand_here", "_law_many", "_law_pairs", "_law_goals"] (spRenamed K))
    (D0 : Df K mg "_law_parts" s__law_parts ["_law_hand_here", "_law_places", "_law_arrows"]) : Has P w K mg base "_law_parts" 4 ["_law_hand_here", "_law_places", "_law_arrows"] (spParts K) := by
  refine D0.has fun f fd F => F.ok sc__law_parts (fun vs H Q E h => ?_) (fun cdv A outer s H vs Q E hr h => ?_)
  · obtain ⟨h, pl, ar, F, rfl, _⟩ := h
    rfl
  · obtain ⟨h, pl, ar, F0, rfl, hp2, hp40, har, hF, hA, q⟩ := h
    refine ⟨_, (pss_cons (ps_set (i := 3) sc__law_parts.nd rfl (.inl rfl) (pe_op op_add pe_int (pcall h_law_draw hr (by decide) (by rfl) (pa_cons (pv 0) (pa_cons (pe_op op_sub (pv 1) pe_int) pa_nil)))))
  (pss_cons (ps_set (i := 4) sc__law_parts.nd rfl (.inl rfl) (pe_lst (pa_cons (pe_op op_sub (pv 3) pe_int) pa_nil)))
  (C8.pss_cut (ps_if (PW.pt (pw_and (pt_cmpR op_gt (pv 3) pe_int (nomark _)) (pw_and1 (pt_cmpR op_eq (pcall h_law_draw hr (by decide) (by rfl) (pa_cons (pv 0) (pa_cons pe_int pa_nil))) pe_int (nomark _)))))
    (pss_one (ps_set (i := 4) sc__law_parts.nd rfl (.inl rfl) (pe_listRg rfl (by rfl) B.list (prg_2 (by rfl) B.range (pe_op op_sub (pe_op op_sub (pv 3) pe_int) (pcall h_law_draw hr (by decide) (by rfl) (pa_cons (pv 0) (pa_cons (pe_callB (call_min2 rfl) (by rfl) B.min bo_min (pa_cons pe_int (pa_cons (pe_op op_sub (pv 3) pe_int) pa_nil))) pa_nil)))) (pv 3)))))
    pss_nil)
  (pss_cons (ps_set (i := 5) sc__law_parts.nd rfl (.inl rfl) (pe_lst pa_nil))
  (pss_cons (ps_for PassesOwn.never rfl (pi_range2 (by rfl) B.range (pa_cons pe_int (pa_cons (pv 3) pa_nil))) (pg_name (i := 6) sc__law_parts.nd rfl (.inl rfl))
    (pss_one (ps_if (PW.pt (pw_or (pt_cmpR (k_in (K := K) rfl) (pv 6) (pv 4) (by rfl)) (pw_or1 (pt_cmpR op_gt (pcall h_law_draw hr (by decide) (by rfl) (pa_cons (pv 0) (pa_cons pe_int pa_nil))) pe_int (nomark _)))))
    (pss_one (ps_expr (pe_bm PySem.F.plainAttrs_list PySem.F.slot_list_append PySem.F.type_list_append mt_append (pv 5) (pa_cons (pe_tup (pa_cons (pcall h_law_tail hr (by decide) (by rfl) (pa_cons (pv 0) (pa_cons (pv 5) (pa_cons (pv 4) (pa_cons (pv 6) pa_nil))))) (pa_cons (pv 6) pa_nil))) pa_nil))))
    pss_nil)))
  (pss_cons (ps_for PassesOwn.never rfl (pi_range1 (by rfl) B.range (pa_cons (pcall h_law_draw hr (by decide) (by rfl) (pa_cons (pv 0) (pa_cons (pe_op op_add (pe_callB (call_max2 rfl) (by rfl) B.max bo_max (pa_cons pe_int (pa_cons (pe_op op_sub (pv 2) (pe_callB (k_len (K := K) rfl) (by rfl) B.len bo_len (pa_cons (pv 5) pa_nil))) pa_nil))) pe_int) pa_nil))) pa_nil)) (pg_name (i := 7) sc__law_parts.nd rfl (.inl rfl))
    (pss_cons (ps_set (i := 8) sc__law_parts.nd rfl (.inl rfl) (pcall h_law_draw hr (by decide) (by rfl) (pa_cons (pv 0) (pa_cons pe_int pa_nil))))
  (pss_cons (ps_set (i := 9) sc__law_parts.nd rfl (.inl rfl) (pcall h_law_draw hr (by decide) (by rfl) (pa_cons (pv 0) (pa_cons (pv 3) pa_nil))))
  (pss_cons (ps_set (i := 10) sc__law_parts.nd rfl (.inl rfl) (pe_op op_mod (pe_op op_add (pe_op op_add (pv 9) pe_int) (pcall h_law_draw hr (by decide) (by rfl) (pa_cons (pv 0) (pa_cons (pe_op op_sub (pv 3) pe_int) pa_nil)))) (pv 3)))
  (C8.pss_cut (ps_if (pt_cmpR op_eq (pv 8) pe_int (nomark _))
    (pss_one (ps_asg (pe_ix (k_ixl (K := K) rfl) (pv 5) (pcall h_law_draw hr (by decide) (by rfl) (pa_cons (pv 0) (pa_cons (pe_callB (k_len (K := K) rfl) (by rfl) B.len bo_len (pa_cons (pv 5) pa_nil)) pa_nil))) (fun _ _ => rfl)) (pg_tup rfl (pgs_cons (pg_name (i := 9) sc__law_parts.nd rfl (.inl rfl)) (pgs_cons (pg_name (i := 10) sc__law_parts.nd rfl (.inl rfl)) pgs_nil)))))
    pss_nil)
  (C8.pss_cut (ps_if (pt_cmpR op_eq (pv 8) pe_int (nomark _))
    (pss_one (ps_asg (pe_ix (k_ixl (K := K) rfl) (pv 5) (pcall h_law_draw hr (by decide) (by rfl) (pa_cons (pv 0) (pa_cons (pe_callB (k_len (K := K) rfl) (by rfl) B.len bo_len (pa_cons (pv 5) pa_nil)) pa_nil))) (fun _ _ => rfl)) (pg_tup rfl (pgs_cons (pg_name (i := 10) sc__law_parts.nd rfl (.inl rfl)) (pgs_cons (pg_name (i := 9) sc__law_parts.nd rfl (.inl rfl)) pgs_nil)))))
    pss_nil)
  (pss_one (ps_expr (pe_bm PySem.F.plainAttrs_list PySem.F.slot_list_append PySem.F.type_list_append mt_append (pv 5) (pa_cons (pe_tup (pa_cons (pv 9) (pa_cons (pv 10) pa_nil))) pa_nil))))))))))
  (pss_one (ps_ret (pcall h_law_renamed hr (by decide) (by rfl) (pa_cons (pv 0) (pa_cons (pv 3) (pa_cons (pcall h_law_shuffled hr (by decide) (by rfl) (pa_cons (pv 0) (pa_cons (pv 5) pa_nil))) (pa_cons (pv 4) pa_nil))))))))))))), ?_⟩
    -- many
    refine ⟨_, rfl, _, rfl, _, _, rfl, rfl, h, (pl : Int) - 1, F0, rfl, by omega, small_log (by omega) (by omega), hF, hA, fun n0 H1 hn0 hn1 dd1 => ⟨_, _, rfl, rfl, ?_⟩⟩
    obtain ⟨k0, rfl⟩ : ∃ k : Nat, n0 = (k : Int) := ⟨n0.toNat, by omega⟩
    obtain ⟨n, hn⟩ : ∃ n : Nat, n = k0 + 2 := ⟨_, rfl⟩
    have hnv : (2 : Int) + (k0 : Int) = (n : Int) := by omega
    have hnpl : n ≤ pl := by omega
    change gName 3 (V.int ((2 : Int) + (k0 : Int))) _ _ _
    rw [hnv]
    have d1 := dd1.dr
    -- goals
    refine ⟨_, rfl, _, _, rfl, rfl, Nat.le_of_lt (small_lt (by decide : 1 ≤ 100000)), fun g ng => ?_⟩
    have ng0 : H g = none := d1.free ng
    have ngh : g ≠ h := hA.ne ng0
    have dg := d1.trans (Dr.of_same d1.hand d1.sub (same_new (o := .lst [.int ((n : Int) - 1)]) (Same.refl H1) ng))
    refine ⟨fun σ H' => ∃ (g : Addr) (gs : List Nat), σ = [some (.ref h), some (.int (pl : Int)), some (.int (ar : Int)), some (.int (n : Int)), some (.ref g), none, none, none, none, none, none] ∧ Dr F0 H H' h ∧ g ≠ h ∧ H g = none ∧ H' g = some (.lst (gs.map nV)) ∧ gs ≠ [] ∧ gs.Nodup ∧ (∀ x ∈ gs, x ≠ 0 ∧ x < n), ?_, ?_⟩
    · have e1 : V.int ((n : Int) - 1) = nV (n - 1) := by
        show V.int ((n : Int) - 1) = V.int ((n - 1 : Nat) : Int)
        congr 1
        omega
      have one : ∀ H2, Dr F0 (upd H1 g (.lst [.int ((n : Int) - 1)])) H2 h → ∃ (g' : Addr) (gs : List Nat), ([some (.ref h), some (.int (pl : Int)), some (.int (ar : Int)), some (.int (n : Int)), some (.ref g), none, none, none, none, none, none] : L2.St) = [some (.ref h), some (.int (pl : Int)), some (.int (ar : Int)), some (.int (n : Int)), some (.ref g'), none, none, none, none, none, none] ∧
          Dr F0 H H2 h ∧ g' ≠ h ∧ H g' = none ∧ H2 g' = some (.lst (gs.map nV)) ∧ gs ≠ [] ∧ gs.Nodup ∧ (∀ x ∈ gs, x ≠ 0 ∧ x < n) := fun H2 d2 =>
        ⟨g, [n - 1], rfl, dg.trans d2, ngh, ng0, by rw [List.map_cons, List.map_nil, ← e1]; exact d2.same g _ ngh upd_same, List.cons_ne_nil _ _, by simp, fun x hx => by rw [List.mem_singleton.mp hx]; omega⟩
      refine ⟨_, rfl, _, _, rfl, rfl, _, rfl, ?_⟩
      by_cases h3 : (3 : Int) < (n : Int)
      · rw [decide_eq_true h3]
        refine iteT ⟨_, rfl, h, 3, F0, rfl, by decide, small_log (by decide) (by omega), dg.sub, dg.hand, fun n1 H2 hn0 hn1 dd2 => ⟨rfl, _, rfl, ?_⟩⟩
        by_cases hz : n1 = 0
        · rw [hz, decide_eq_true (rfl : V.int 0 = V.int 0)]
          refine iteT ?_
          have d2 := dg.trans dd2.dr
          refine ⟨_, rfl, _, _, rfl, rfl, _, rfl, _, rfl, _, _, rfl, rfl, _, _, rfl, h, _, F0, rfl, ?_, ?_, d2.sub, d2.hand, fun n3 H3 hn30 hn31 dd3 => ?_⟩
          · show (0 : Int) < (if (n : Int) - 3 < 4 then (n : Int) - 3 else 4)
            split <;> omega
          · refine small_log ?_ ?_
            · show (0 : Int) < (if (n : Int) - 3 < 4 then (n : Int) - 3 else 4)
              split <;> omega
            · show (if (n : Int) - 3 < 4 then (n : Int) - 3 else 4) < 2 ^ 8999
              split <;> omega
          have hn32 : n3 < (n : Int) - 3 := by
            have : n3 < (if (n : Int) - 3 < 4 then (n : Int) - 3 else 4) := hn31
            split at this <;> omega
          obtain ⟨lo, hlo⟩ : ∃ lo : Nat, (n : Int) - 2 - n3 = (lo : Int) := ⟨((n : Int) - 2 - n3).toNat, by omega⟩
          refine ⟨_, _, rfl, rfl, _, rfl, _, _, rfl, rfl, ⟨by omega, by omega, by omega, by omega, by omega⟩, fun g2 ng2 => ?_⟩
          have d3 := d2.trans dd3.dr
          change gName 4 (.ref g2) _ (upd H3 g2 (.lst (rgV ((n : Int) - 2 - n3) (n : Int)))) _
          rw [hlo, rgVn]
          refine ⟨g2, (List.range (n - lo)).map (lo + ·), rfl, d3.trans (Dr.of_same d3.hand d3.sub (same_new (Same.refl H3) ng2)), hA.ne (d3.free ng2), d3.free ng2, upd_same, fun z => ?_, ?_, fun x hx => ?_⟩
          · have := congrArg List.length z
            rw [List.length_map, List.length_range] at this
            simp at this
            omega
          · exact nd_map (fun a b _ _ hab => by omega) List.nodup_range
          · obtain ⟨i, hi, rfl⟩ := List.mem_map.mp hx
            have := List.mem_range.mp hi
            omega
        · have : ¬ V.int n1 = V.int 0 := fun z => hz (by injection z)
          rw [decide_eq_false this]
          refine iteF ?_
          exact one H2 dd2.dr
      · rw [decide_eq_false h3]
        refine iteF ?_
        exact iteF (one _ (Dr.refl dg.hand dg.sub))
    · rintro σ H2 ⟨g, gs, rfl, d2, ngh, ng0, hg2, hne, hnd, hgn⟩
      -- pairs
      refine ⟨Nat.zero_le _, fun p np => ?_⟩
      have np0 : H p = none := d2.free np
      have nph : p ≠ h := hA.ne np0
      have npF : F0 p = none := Same.free hF np0
      have ngp : g ≠ p := ne_of_none hg2 np
      have ngF : F0 g = none := Same.free hF ng0
      have d3 := d2.trans (Dr.of_same d2.hand d2.sub (same_new (o := .lst []) (Same.refl H2) np))
      -- for place in range(1, many)
      refine ⟨_, rfl, 1, (n : Int), rfl, ⟨by omega, by omega, by omega, by omega⟩, ?_⟩
      refine for_range (lo := 1) (n := ((n : Int) - 1).toNat) (fun i σ H' => ∃ (x : Option V) (pvs : List V) (es : Es), σ = [some (.ref h), some (.int (pl : Int)), some (.int (ar : Int)), some (.int (n : Int)), some (.ref g), some (.ref p), x, none, none, none, none] ∧ Dr F0 H H' h ∧
        H' g = some (.lst (gs.map nV)) ∧ H' p = some (.lst pvs) ∧ Prs K H' pvs es ∧ Grown n i es gs)
        ⟨none, [], [], rfl, d3, by rw [upd_ne ngp]; exact hg2, upd_same, ⟨rfl, fun i v e a _ => by simp at a⟩, ⟨Nat.le_refl _, fun e he => (List.not_mem_nil he).elim, fun e he => (List.not_mem_nil he).elim, fun e he => (List.not_mem_nil he).elim, fun x hx hx0 => absurd (Nat.le_zero.mp hx0) (hgn x hx).1⟩⟩ ?_ ?_
      · rintro i σ H4 hi ⟨x, pvs, es, rfl, d4, hg4, hp4, hpr, gr⟩
        have hin : i + 1 < n := by omega
        have epl : V.int ((1 : Int) + (i : Int)) = nV (i + 1) := by
          show V.int ((1 : Int) + (i : Int)) = V.int ((i + 1 : Nat) : Int)
          congr 1
          omega
        refine ifs_split (fun H5 => Dr F0 H4 H5 h) (fun H5 => Dr F0 H4 H5 h ∧ i + 1 ∉ gs) (fun Kt kt kf => ?_) (fun H5 d45 => ?_) fun H5 ⟨d45, hng⟩ => ?_
        · refine ⟨_, rfl, _, rfl, g, _, rfl, .inl (sql hg4), rfl, flat_nats _, _, rfl, ?_⟩
          rw [if_neg Bool.false_ne_true, show V.int ((1 : Int) + (i : Int)) = nV (i + 1) from epl, inV_nats]
          by_cases hm : i + 1 ∈ gs
          · rw [decide_eq_true hm]
            exact iteT (kt _ (Dr.refl d4.hand d4.sub))
          · rw [decide_eq_false hm]
            refine iteF ⟨_, rfl, h, 6, F0, rfl, by decide, small_log (by decide) (by omega), d4.sub, d4.hand, fun n5 H5 hn50 hn51 dd5 => ⟨_, _, rfl, rfl, _, rfl, ?_⟩⟩
            by_cases h6 : (0 : Int) < n5
            · rw [decide_eq_true h6]
              exact kt _ dd5.dr
            · rw [decide_eq_false h6]
              exact kf _ ⟨dd5.dr, hm⟩
        · have d5 := d4.trans d45
          have hg5 := d45.same g _ ngh hg4
          have hp5 := d45.same p _ nph hp4
          have hpr5 := hpr.dr d45 d4.hand
          refine ⟨_, rfl, .inl ⟨rfl, _, sql hp5⟩, _, rfl, _, rfl, _, rfl, _, rfl, h, p, g, (1 : Int) + (i : Int), pvs, es, gs, F0, rfl, sql hp5, hpr5, sql hg5, fun z => (hgn 0 z).1 rfl, by have := gr.len; omega, d5.sub, d5.hand, fun v H6 hv d56 => ?_⟩
          have d6 := d5.trans d56
          have hg6 := d56.same g _ ngh hg5
          have hp6 := d56.same p _ nph hp5
          have hpr6 := hpr5.dr d56 d5.hand
          refine ⟨_, rfl, by show 2 ≤ sizeLine; decide, fun t nt => ⟨p, _, _, rfl, rfl, by rw [upd_ne (ne_of_none hp6 nt)]; exact hp6, ?_, ?_⟩⟩
          · have := hpr.len
            have := gr.len
            exact small_lt (by omega)
          have s7 := same_new (o := .tup [nV v, .int ((1 : Int) + (i : Int))]) (Same.refl H6) nt
          have npt : p ≠ t := ne_of_none hp6 nt
          have ngt : g ≠ t := ne_of_none hg6 nt
          have hp7 : (upd H6 t (.tup [nV v, .int ((1 : Int) + (i : Int))])) p = some (.lst pvs) := s7 _ _ hp6
          refine ⟨_, pvs ++ [.ref t], es ++ [(v, i + 1)], rfl, (d6.trans (Dr.of_same d6.hand d6.sub s7)).upd np0 nph npF, by rw [upd_ne ngp, upd_ne ngt]; exact hg6, upd_same, ?_, gr.add hv hin⟩
          · refine ((hpr6.same s7).keep fun t xs => sqt_upd hp7).snoc ⟨t, rfl, sqt ?_⟩
            rw [upd_ne npt.symm, upd_same, epl]
        · have hp5 := d45.same p _ nph hp4
          refine ⟨_, pvs, es, rfl, d4.trans d45, d45.same g _ ngh hg4, hp5, hpr.dr d45 d4.hand, gr.skip hng⟩
      · rintro σ H4 ⟨x, pvs, es, rfl, d4, hg4, hp4, hpr, gr⟩
        have hpl := hpr.len
        have hrch : ∀ g ∈ gs, Rch es [0] g := fun x hx => by
          obtain ⟨e, he, rfl⟩ := gr.gl x hx (by have := (hgn x hx).2; omega)
          exact gr.rch e he
        have hpos : 0 < es.length := by
          obtain ⟨x, hx⟩ := List.exists_mem_of_ne_nil gs hne
          obtain ⟨e, he, _⟩ := gr.gl x hx (by have := (hgn x hx).2; omega)
          exact List.length_pos_of_mem he
        have hlen0 : es.length ≤ n - 1 := by have := gr.len; omega
        generalize hL : es.length = L0 at hlen0 hpos
        have hmx : ∀ z : Int, (if z > (1 : Int) then z else 1) = max 1 z := fun z => by
          rw [Int.max_def]
          split <;> split <;> omega
        refine ⟨_, rfl, _, rfl, _, rfl, p, _, rfl, .inl (sql hp4), _, _, rfl, rfl, _, _, rfl, _, _, rfl, rfl, h, _, F0, rfl, ?_, ?_, d4.sub, d4.hand, fun nT H5 hT0 hT1 dd5 => ?_⟩
        · show (0 : Int) < (if (ar : Int) - (pvs.length : Int) > 1 then (ar : Int) - (pvs.length : Int) else 1) + 1
          split <;> omega
        · refine small_log ?_ ?_
          · show (0 : Int) < (if (ar : Int) - (pvs.length : Int) > 1 then (ar : Int) - (pvs.length : Int) else 1) + 1
            split <;> omega
          · show (if (ar : Int) - (pvs.length : Int) > 1 then (ar : Int) - (pvs.length : Int) else 1) + 1 < 2 ^ 8999
            split <;> omega
        have hT2 : nT.toNat + L0 ≤ max (L0 + 1) ar := by
          have h1 : nT < (if (ar : Int) - (pvs.length : Int) > 1 then (ar : Int) - (pvs.length : Int) else 1) + 1 := hT1
          rw [Nat.max_def]
          split at h1 <;> split <;> omega
        have hLa : max (L0 + 1) ar ≤ max pl ar := by
          rw [Nat.max_def, Nat.max_def]
          split <;> split <;> omega
        have hma : max pl ar ≤ 60 := by
          rw [Nat.max_def]
          split <;> omega
        refine ⟨nT, rfl, by omega, by omega, ?_⟩
        have d45 := dd5.dr
        have d5 := d4.trans d45
        refine for_range (lo := 0) (n := nT.toNat) (fun i σ H' => ∃ (x6 x7 x8 x9 x10 : Option V) (pvs : List V) (es : Es), σ = [some (.ref h), some (.int (pl : Int)), some (.int (ar : Int)), some (.int (n : Int)), some (.ref g), some (.ref p), x6, x7, x8, x9, x10] ∧ Dr F0 H H' h ∧
          H' g = some (.lst (gs.map nV)) ∧ H' p = some (.lst pvs) ∧ Prs K H' pvs es ∧ (∀ e ∈ es, e.1 < n ∧ e.2 < n ∧ e.1 ≠ e.2) ∧ es.length = L0 + i ∧ ∀ g ∈ gs, Rch es [0] g)
          ⟨_, _, _, _, _, pvs, es, rfl, d5, d45.same g _ ngh hg4, d45.same p _ nph hp4, hpr.dr d45 d4.hand, gr.ok, hL, hrch⟩ ?_ ?_
        · rintro i σ H6 hi ⟨x6, x7, x8, x9, x10, pvs, es, rfl, d6, hg6, hp6, hpr6, hok6, hel6, hrc6⟩
          have hpl6 := hpr6.len
          have hi' : i < nT.toNat := hi
          -- way, one, other
          refine ⟨_, rfl, h, 5, F0, rfl, by decide, small_log (by decide) (by omega), d6.sub, d6.hand, fun w H7 _ _ dd7 => ?_⟩
          have d7 := d6.trans dd7.dr
          refine ⟨_, rfl, _, rfl, h, _, F0, rfl, by omega, small_log (by omega) (by omega), d7.sub, d7.hand, fun u0 H8 hu0 hu1 dd8 => ?_⟩
          have d8 := d7.trans dd8.dr
          obtain ⟨u, rfl⟩ : ∃ u : Nat, u0 = (u : Int) := ⟨u0.toNat, by omega⟩
          refine ⟨_, rfl, _, _, rfl, rfl, _, rfl, _, rfl, _, _, rfl, rfl, h, _, F0, rfl, ?_, ?_, d8.sub, d8.hand, fun e0 H9 he0 he1 dd9 => ?_⟩
          · show (0 : Int) < (n : Int) - 1
            omega
          · exact small_log (by show (0 : Int) < (n : Int) - 1; omega) (by show (n : Int) - 1 < 2 ^ 8999; omega)
          have d9 := d8.trans dd9.dr
          have he2 : e0 < (n : Int) - 1 := he1
          obtain ⟨dd, rfl⟩ : ∃ dd : Nat, e0 = (dd : Int) := ⟨e0.toNat, by omega⟩
          refine ⟨_, _, rfl, rfl, _, rfl, _, _, rfl, rfl, by show (0 : Int) < (n : Int); omega, ?_⟩
          obtain ⟨v, hv⟩ : ∃ v : Nat, v = if u + 1 + dd < n then u + 1 + dd else u + 1 + dd - n := ⟨_, rfl⟩
          have hve : V.int (((u : Int) + 1 + (dd : Int)) % (n : Int)) = nV v := by
            show V.int _ = V.int (v : Int)
            congr 1
            rw [show (u : Int) + 1 + (dd : Int) = ((u + 1 + dd : Nat) : Int) by omega, mod_two (by omega), ← hv]
          have hv1 : v < n := by rw [hv]; split <;> omega
          have hv2 : u ≠ v := by rw [hv]; split <;> omega
          have dA : Dr F0 H6 H9 h := (dd7.dr.trans dd8.dr).trans dd9.dr
          change gName 10 (V.int (((u : Int) + 1 + (dd : Int)) % (n : Int))) _ _ _
          rw [hve]
          -- the arrow that is taken again
          have mid : ∀ (H' : Hp), Dr F0 H6 H' h → Dr F0 H H' h ∧ H' g = some (.lst (gs.map nV)) ∧ H' p = some (.lst pvs) ∧ Prs K H' pvs es := fun H' d =>
            ⟨d6.trans d, d.same g _ ngh hg6, d.same p _ nph hp6, hpr6.dr d d6.hand⟩
          have pick : ∀ (H' : Hp), Dr F0 H6 H' h → ∀ k : Nat, k < pvs.length → ∃ t e1 e2, pvs[k]? = some (.ref t) ∧ SqT K H' t [nV e1, nV e2] ∧ e1 < n ∧ e2 < n ∧ e1 ≠ e2 := fun H' d k hk => by
            obtain ⟨_, _, _, hpp⟩ := mid H' d
            obtain ⟨e, he, t, ht1, ht2⟩ := hpp.get (List.getElem?_eq_getElem hk)
            obtain ⟨o1, o2, o3⟩ := hok6 e (List.mem_of_getElem? he)
            exact ⟨t, e.1, e.2, by rw [← ht1]; exact List.getElem?_eq_getElem hk, ht2, o1, o2, o3⟩
          refine ⟨fun σ H' => ∃ (u v : Nat), σ = [some (.ref h), some (.int (pl : Int)), some (.int (ar : Int)), some (.int (n : Int)), some (.ref g), some (.ref p), x6, some (.int ((0 : Int) + (i : Int))), some (.int w), some (nV u), some (nV v)] ∧ Dr F0 H6 H' h ∧ u < n ∧ v < n ∧ u ≠ v, ?_, ?_⟩
          · refine ⟨_, rfl, rfl, _, rfl, ?_⟩
            by_cases hw : w = 0
            · rw [hw, decide_eq_true (rfl : V.int 0 = V.int 0)]
              refine iteT ?_
              obtain ⟨dm, _, hpm, _⟩ := mid H9 dA
              refine ⟨_, rfl, _, rfl, _, rfl, p, _, rfl, .inl (sql hpm), h, (pvs.length : Int), F0, rfl, by omega, small_log (by omega) (by omega), dm.sub, dm.hand, fun k0 H10 hk0 hk1 dd10 => ?_⟩
              obtain ⟨k, rfl⟩ : ∃ k : Nat, k0 = (k : Int) := ⟨k0.toNat, by omega⟩
              have dB := dA.trans dd10.dr
              obtain ⟨t, e1, e2, hk, ht, o1, o2, o3⟩ := pick H10 dB k (by omega)
              obtain ⟨_, _, hpm2, _⟩ := mid H10 dB
              refine ⟨p, pvs, (k : Int), _, rfl, rfl, sql hpm2, atI_nat hk, t, _, rfl, ht, rfl, _, _, rfl, _, _, rfl, rfl, ?_⟩
              exact ⟨e1, e2, rfl, dB, o1, o2, o3⟩
            · have : ¬ V.int w = V.int 0 := fun z => hw (by injection z)
              rw [decide_eq_false this]
              refine iteF ?_
              exact ⟨u, v, rfl, dA, by omega, hv1, hv2⟩
          rintro σ H10 ⟨u, v, rfl, dB, hu, hv, huv⟩
          refine ⟨fun σ H' => ∃ (u v : Nat), σ = [some (.ref h), some (.int (pl : Int)), some (.int (ar : Int)), some (.int (n : Int)), some (.ref g), some (.ref p), x6, some (.int ((0 : Int) + (i : Int))), some (.int w), some (nV u), some (nV v)] ∧ Dr F0 H6 H' h ∧ u < n ∧ v < n ∧ u ≠ v, ?_, ?_⟩
          · refine ⟨_, rfl, rfl, _, rfl, ?_⟩
            by_cases hw : w = 1
            · rw [hw, decide_eq_true (rfl : V.int 1 = V.int 1)]
              refine iteT ?_
              obtain ⟨dm, _, hpm, _⟩ := mid H10 dB
              refine ⟨_, rfl, _, rfl, _, rfl, p, _, rfl, .inl (sql hpm), h, (pvs.length : Int), F0, rfl, by omega, small_log (by omega) (by omega), dm.sub, dm.hand, fun k0 H11 hk0 hk1 dd11 => ?_⟩
              obtain ⟨k, rfl⟩ : ∃ k : Nat, k0 = (k : Int) := ⟨k0.toNat, by omega⟩
              have dC := dB.trans dd11.dr
              obtain ⟨t, e1, e2, hk, ht, o1, o2, o3⟩ := pick H11 dC k (by omega)
              obtain ⟨_, _, hpm2, _⟩ := mid H11 dC
              refine ⟨p, pvs, (k : Int), _, rfl, rfl, sql hpm2, atI_nat hk, t, _, rfl, ht, rfl, _, _, rfl, _, _, rfl, rfl, ?_⟩
              exact ⟨e2, e1, rfl, dC, o2, o1, o3.symm⟩
            · have : ¬ V.int w = V.int 1 := fun z => hw (by injection z)
              rw [decide_eq_false this]
              refine iteF ?_
              exact ⟨u, v, rfl, dB, hu, hv, huv⟩
          rintro σ H11 ⟨u, v, rfl, dC, hu, hv, huv⟩
          obtain ⟨d11, hg11, hp11, hpr11⟩ := mid H11 dC
          refine ⟨_, rfl, .inl ⟨rfl, _, sql hp11⟩, _, rfl, _, rfl, by show 2 ≤ sizeLine; decide, fun t nt => ⟨p, _, _, rfl, rfl, by rw [upd_ne (ne_of_none hp11 nt)]; exact hp11, small_lt (by omega), ?_⟩⟩
          have s12 := same_new (o := .tup [nV u, nV v]) (Same.refl H11) nt
          have npt : p ≠ t := ne_of_none hp11 nt
          have ngt : g ≠ t := ne_of_none hg11 nt
          have hp12 : (upd H11 t (.tup [nV u, nV v])) p = some (.lst pvs) := s12 _ _ hp11
          refine ⟨_, _, _, _, _, pvs ++ [.ref t], es ++ [(u, v)], rfl, (d11.trans (Dr.of_same d11.hand d11.sub s12)).upd np0 nph npF, by rw [upd_ne ngp, upd_ne ngt]; exact hg11, upd_same, ?_, fun e he => ?_, ?_, fun x hx => ?_⟩
          · refine ((hpr11.same s12).keep fun t xs => sqt_upd hp12).snoc ⟨t, rfl, sqt ?_⟩
            rw [upd_ne npt.symm, upd_same]
          · rcases List.mem_append.mp he with he | he
            · exact hok6 e he
            · rw [List.mem_singleton.mp he]
              exact ⟨hu, hv, huv⟩
          · rw [List.length_append, hel6]
            rfl
          · exact (hrc6 x hx).mono (fun e he => List.mem_append_left _ he) fun _ h => h
        · rintro σ H6 ⟨x6, x7, x8, x9, x10, pvs, es, rfl, d6, hg6, hp6, hpr6, hok6, hel6, hrc6⟩
          have hpl6 := hpr6.len
          have hel60 : es.length ≤ max pl ar := by omega
          refine ⟨_, rfl, _, rfl, _, rfl, _, rfl, h, p, pvs, F0, rfl, .inl (sql hp6), by omega, d6.sub, d6.hand, fun sh H7 ys hperm d67 nsh hsh => ?_⟩
          have d7 := d6.trans d67
          have hsh0 := d6.free nsh
          have hpr7 := hpr6.dr d67 d6.hand
          -- the pairs in their new order
          obtain ⟨es', hpe, hpr'⟩ := prs_perm hpr7 hperm
          refine ⟨_, rfl, h, sh, g, n, ys, es', gs, F0, rfl, hsh, hA.ne hsh0, hpr', d67.same g _ ngh hg6, ngh, ⟨by omega, by omega, by rw [hpe.length_eq]; omega, fun e he => hok6 e (hpe.mem_iff.mp he), hne, hnd, hgn, fun x hx => (hrc6 x hx).mono (fun e he => hpe.mem_iff.mpr he) fun _ h => h⟩, d7.sub, d7.hand, fun t a c pvs2 es2 gs2 H8 d78 hl2 pt => ?_⟩
          exact q t n a c pvs2 es2 gs2 H8 hnpl (by rw [hl2, hpe.length_eq]; exact hel60) (d7.trans d78) (pt.same (hv_sub fun b hb => d7.free hb))

theorem PtsAt.dr {K : PySem.W.Frag} {F H H' : Hp} {h t : Addr} {n : Nat} {a : Addr} {pvs : List V} {es : Es} {c : Addr} {gs : List Nat} (p : PtsAt K H t n a pvs es c gs) (d : Dr F H H' h) (hA : HandAt F H h) : PtsAt K H' t n a pvs es c gs :=
  ⟨d.sqt hA p.tp, d.sqt hA p.ar, p.pr.dr d hA, d.sqt hA p.go, p.gm⟩
theorem left_same {es : Es} {ls ls' : List Nat} (hl : ∀ x, x ∈ ls' ↔ x ∈ ls) {S : List Nat} {v : Nat} (h : Rch (left es ls) S v) : Rch (left es ls') S v :=
  h.mono (fun e he => by
    obtain ⟨k, h1, h2⟩ := mem_leftV.mp he
    exact mem_leftV.mpr ⟨k, h1, fun z => h2 ((hl k).mp z)⟩) fun _ h => h

abbrev s__law_standing : Stmt := topS 45
abbrev sl__law_standing : List Str := ["_law_hand_here", "_law_parts_here", "_law_many", "_law_arrows", "_law_goals", "_law_reached", "_law_turn", "_law_found", "_law_rotten", "_law_share", "_law_k", "_law_tail_here", "_law_head", "_law_place"]
theorem sc__law_standing : FnScope ["_law_hand_here", "_law_parts_here", "_law_many", "_law_arrows", "_law_goals", "_law_reached", "_law_turn", "_law_found", "_law_rotten", "_law_share", "_law_k", "_law_tail_here", "_law_head", "_law_place"] ["_law_hand_here", "_law_parts_here"] (defScope s__law_standing) := ⟨rfl, rfl, rfl, by decide +kernel, rfl, by decide +kernel, by decide +kernel⟩
theorem led_inner {es : Es} {rs ls rs' ls' : List Nat} (hr : ∀ x, x ∈ rs' ↔ x ∈ rs) (hl : ∀ x, x ∈ ls' ↔ x ∈ ls) (h0 : 0 ∈ rs) {v : Nat} (h : Rch (ledE es rs ls) [0] v) : v ∈ rs ∧ Rch (inner es rs' ls') [0] v :=
  h.ind (P := fun v => v ∈ rs ∧ Rch (inner es rs' ls') [0] v) (fun v hv => by
    rw [List.mem_singleton.mp hv]
    exact ⟨h0, .base List.mem_cons_self⟩) fun u v ⟨hu, hru⟩ e => by
    obtain ⟨k, h1, h2, h3⟩ := mem_ledE.mp e
    refine ⟨h3, hru.edge (List.mem_filterMap.mpr ⟨(u, v), mem_leftV.mpr ⟨k, h1, fun z => h2 ((hl k).mp z)⟩, ?_⟩)⟩
    unfold innG
    exact if_pos ⟨(hr u).mpr hu, (hr v).mpr h3⟩
theorem StdL.ok {n : Nat} {es : Es} {gs rs ls rs' ls' : List Nat} (s : StdL es gs rs ls) (hrn : ∀ r ∈ rs, r < n) (hln : ∀ l ∈ ls, l < es.length) (hr : ∀ x, x ∈ rs' ↔ x ∈ rs) (hl : ∀ x, x ∈ ls' ↔ x ∈ ls)
    (rp : rs'.Pairwise (· < ·)) (lp : ls'.Pairwise (· < ·)) : StdOk n es gs rs' ls' where
  rp := rp
  lp := lp
  rn := fun r h => hrn r ((hr r).mp h)
  ln := fun l h => hln l ((hl l).mp h)
  r0 := (hr 0).mpr s.r0
  tl := fun l h e he => (hr _).mpr (s.tl l ((hl l).mp h) e he)
  hold := fun r h => (led_inner hr hl s.r0 (s.hold r ((hr r).mp h))).2
  opn := fun g h => left_same hl (s.opn g h)
theorem led_more {es : Es} {rs ls : List Nat} {u v : Nat} (h : Rch (ledE es rs ls) [0] u) : Rch (ledE es (rs ++ [v]) ls) [0] u :=
  h.mono (fun e he => by
    obtain ⟨k, h1, h2, h3⟩ := mem_ledE.mp he
    exact mem_ledE.mpr ⟨k, h1, h2, List.mem_append_left _ h3⟩) fun _ h => h
theorem sqx_dr {F H H' : Hp} {h x : Addr} {xs : List V} {K : PySem.W.Frag} (d : Dr F H H' h) (hx : H x = some (.lst xs)) (nx : x ≠ h) : SqX K H' x xs := .inl (sql (d.same x _ nx hx))
def spStanding (K : PySem.W.Frag) : Sp := fun vs H Q _ => ∃ (h t : Addr) (n : Nat) (a : Addr) (pvs : List V) (es : Es) (c : Addr) (gs : List Nat) (F : Hp), vs = [.ref h, .ref t] ∧ PtsAt K H t n a pvs es c gs ∧ Same F H ∧ HandAt F H h ∧
  ∀ (v x y : Addr) (rs ls : List Nat) (H' : Hp), Dr F H H' h → StdAt K (hv F H H') v x y rs ls → StdOk n es gs rs ls → Q (.ref v) H'
theorem ok__law_standing (B : Bt mg) (h_law_draw : Has P w K mg base "_law_draw" 1 ["_law_hand_here", "_law_many"] spDraw) (h_law_shuffled : Has P w K mg base "_law_shuffled" 2 ["_law_hand_here", "_law_things"] (spShuffled K))
    (h_law_is_standing : Has P w K mg base "_law_is_standing" 3 ["_law_parts_here", "_law_reached", "_law_rotten"] (spIsStdL K)) (D0 : Df K mg "_law_standing" s__law_standing ["_law_hand_here", "_law_parts_here"]) : Has P w K mg base "_law_standing" 4 ["_law_hand_here", "_law_parts_here"] (spStanding K) := by
  refine D0.has fun f fd F => F.ok sc__law_standing (fun vs H Q E h => ?_) (fun cdv A outer s H vs Q E hr h => ?_)
  · obtain ⟨h, t, n, a, pvs, es, c, gs, F, rfl, _⟩ := h
    rfl
  · obtain ⟨h, t, n, a, pvs, es, c, gs, F0, rfl, pt, hF, hA, q⟩ := h
    refine ⟨_, (pss_cons (ps_asg (pv 1) (pg_tup rfl (pgs_cons (pg_name (i := 2) sc__law_standing.nd rfl (.inl rfl)) (pgs_cons (pg_name (i := 3) sc__law_standing.nd rfl (.inl rfl)) (pgs_cons (pg_name (i := 4) sc__law_standing.nd rfl (.inl rfl)) pgs_nil)))))
  (pss_cons (ps_set (i := 5) sc__law_standing.nd rfl (.inr rfl) (pe_lst (pa_cons pe_int pa_nil)))
  (pss_cons (ps_for PassesOwn.never rfl (pi_range1 (by rfl) B.range (pa_cons (pcall h_law_draw hr (by decide) (by rfl) (pa_cons (pv 0) (pa_cons (pv 2) pa_nil))) pa_nil)) (pg_name (i := 6) sc__law_standing.nd rfl (.inl rfl))
    (pss_cons (ps_setLc (i := 7) (own := [("_law_tail_here", 11), ("_law_head", 12)]) (g := gTup K 2 (gCons (gName 11) (gCons (gName 12) gNil))) rfl sc__law_standing.nd rfl rfl (sw_true rfl rfl rfl (by decide +kernel)) (k_pit (K := K) rfl (pv 3)) (blkOk_by (N := sl__law_standing) (sc := defScope s__law_standing) (by decide +kernel)) (fun _ _ _ _ _ => (pg_tup rfl (pgs_cons (pg_name (i := 11) sc__law_standing.nd rfl (.inl rfl)) (pgs_cons (pg_name (i := 12) sc__law_standing.nd rfl (.inl rfl)) pgs_nil)))) (fun _ _ _ _ _ => pts_one (pt_cmpR (k_in (K := K) rfl) (pv 11) (pv 5) (by rfl))) (fun _ _ _ _ _ => (pv 12)))
  (pss_cons (ps_setLc (i := 7) (own := [("_law_place", 13)]) (g := gName 13) rfl sc__law_standing.nd rfl rfl (sw_true rfl rfl rfl (by decide +kernel)) (k_pil (K := K) rfl (pv 7)) (blkOk_by (N := sl__law_standing) (sc := defScope s__law_standing) (by decide +kernel)) (fun _ _ _ _ _ => (pg_name (i := 13) sc__law_standing.nd rfl (.inl rfl))) (fun _ _ _ _ _ => pts_one (pt_cmpR (k_notin (K := K) rfl) (pv 13) (pv 5) (by rfl))) (fun _ _ _ _ _ => (pv 13)))
  (pss_one (ps_if (pt_cmpR op_gt (pe_callB (k_len (K := K) rfl) (by rfl) B.len bo_len (pa_cons (pv 7) pa_nil)) pe_int (nomark _))
    (pss_one (ps_expr (pe_bm PySem.F.plainAttrs_list PySem.F.slot_list_append PySem.F.type_list_append mt_append (pv 5) (pa_cons (pe_ix (k_ixl (K := K) rfl) (pv 7) (pcall h_law_draw hr (by decide) (by rfl) (pa_cons (pv 0) (pa_cons (pe_callB (k_len (K := K) rfl) (by rfl) B.len bo_len (pa_cons (pv 7) pa_nil)) pa_nil))) (fun _ _ => rfl)) pa_nil))))
    pss_nil)))))
  (pss_cons (ps_set (i := 8) sc__law_standing.nd rfl (.inl rfl) (pe_lst pa_nil))
  (pss_cons (ps_set (i := 9) sc__law_standing.nd rfl (.inl rfl) (pe_op op_add pe_int (pcall h_law_draw hr (by decide) (by rfl) (pa_cons (pv 0) (pa_cons pe_int pa_nil)))))
  (pss_cons (ps_for PassesOwn.never rfl (k_pil (K := K) rfl (pcall h_law_shuffled hr (by decide) (by rfl) (pa_cons (pv 0) (pa_cons (pe_listRg rfl (by rfl) B.list (prg_1 (by rfl) B.range (pe_callB (k_len (K := K) rfl) (by rfl) B.len bo_len (pa_cons (pv 3) pa_nil)))) pa_nil)))) (pg_name (i := 10) sc__law_standing.nd rfl (.inl rfl))
    (pss_one (ps_if (PW.pt (pw_and (pt_cmpR op_eq (pcall h_law_draw hr (by decide) (by rfl) (pa_cons (pv 0) (pa_cons (pv 9) pa_nil))) pe_int (nomark _)) (pw_and1 (pt_val (pcall h_law_is_standing hr (by decide) (by rfl) (pa_cons (pv 1) (pa_cons (pv 5) (pa_cons (pe_op op_cat (pv 8) (pe_lst (pa_cons (pv 10) pa_nil))) pa_nil))))))))
    (pss_one (ps_expr (pe_bm PySem.F.plainAttrs_list PySem.F.slot_list_append PySem.F.type_list_append mt_append (pv 8) (pa_cons (pv 10) pa_nil))))
    pss_nil)))
  (pss_one (ps_ret (pe_tup (pa_cons (pe_callTy (k_tuple (K := K) rfl) (by rfl) B.tuple bo_tuple (pa_cons (pe_callB (k_sorted (K := K) rfl) (by rfl) B.sorted bo_sorted (pa_cons (pv 5) pa_nil)) pa_nil)) (pa_cons (pe_callTy (k_tuple (K := K) rfl) (by rfl) B.tuple bo_tuple (pa_cons (pe_callB (k_sorted (K := K) rfl) (by rfl) B.sorted bo_sorted (pa_cons (pv 8) pa_nil)) pa_nil)) pa_nil))))))))))), ?_⟩
    have gn := pt.gm.n40
    have g2 := pt.gm.n2
    have g60 := pt.gm.l60
    have hl := pt.pr.len
    refine ⟨_, rfl, t, _, rfl, pt.tp, rfl, _, _, rfl, _, _, rfl, _, _, rfl, rfl, ?_⟩
    -- reached = [0]
    refine ⟨Nat.le_of_lt (small_lt (by decide : 1 ≤ 100000)), fun r nr => ?_⟩
    have nrh : r ≠ h := hA.ne nr
    have nrF : F0 r = none := Same.free hF nr
    have d1 := Dr.of_same hA hF (same_new (o := .lst [.int 0]) (Same.refl H) nr)
    refine ⟨_, rfl, _, rfl, h, (n : Int), F0, rfl, by omega, small_log (by omega) (by omega), d1.sub, d1.hand, fun nT H2 hT0 hT1 dd2 => ⟨nT, rfl, by omega, by omega, ?_⟩⟩
    have d2 := d1.trans dd2.dr
    refine for_range (lo := 0) (n := nT.toNat) (fun i σ H' => ∃ (x6 x7 : Option V) (rs : List Nat), σ = [some (.ref h), some (.ref t), some (nV n), some (.ref a), some (.ref c), some (.ref r), x6, x7, none, none, none, none, none, none] ∧ Dr F0 H H' h ∧ H' r = some (.lst (rs.map nV)) ∧ rs.Nodup ∧ 0 ∈ rs ∧ (∀ v ∈ rs, v < n) ∧ ∀ v ∈ rs, Rch (ledE es rs []) [0] v)
      ⟨none, none, [0], rfl, d2, by rw [dd2.rest r nrh]; exact upd_same, by simp, List.mem_cons_self, fun v hv => by rw [List.mem_singleton.mp hv]; omega, fun v hv => .base hv⟩ ?_ ?_
    · rintro i σ H3 hi ⟨x6, x7, rs, rfl, d3, hr3, rnd, r0, rn, rr⟩
      have pt3 := pt.dr d3 hA
      have rlen := nodup_le rnd rn
      -- found
      refine ⟨_, rfl, a, rfl, ⟨_, pt3.ar⟩, fun D nD => ?_⟩
      refine lc_val walk_tup calm_at (fun i => (es[i]?).bind fun e => if e.1 ∈ rs then some (nV e.2) else none) (by omega) nD (fun H4 s4 => Same.sqt s4 pt3.ar) ?_ fun H4 s4 h4 => ?_
      · rintro i v H4 H5 hi s4 ⟨rfl, hv⟩ Kt kt
        obtain ⟨e, hei, tt, rfl, ht⟩ := pt3.pr.get hv
        obtain ⟨e1, e2⟩ := e
        refine ⟨tt, _, rfl, Same.sqt s4 ht, rfl, _, _, rfl, _, _, rfl, rfl, rfl, ?_⟩
        refine ⟨_, rfl, _, rfl, r, _, rfl, .inl (sql (s4 _ _ hr3)), rfl, flat_nats _, _, rfl, ?_⟩
        rw [if_neg Bool.false_ne_true, inV_nats]
        have k0 := kt _ (Same.refl _)
        rw [hei] at k0
        simp only [Option.bind_some] at k0
        by_cases hm : e1 ∈ rs
        · rw [decide_eq_true hm]
          rw [if_pos hm] at k0
          exact iteT ⟨_, rfl, k0⟩
        · rw [decide_eq_false hm]
          rw [if_neg hm] at k0
          exact iteF k0
      rw [hl, fm_range] at h4
      obtain ⟨f1, hf1⟩ : ∃ f1 : List Nat, f1 = es.filterMap fun e => if e.1 ∈ rs then some e.2 else none := ⟨_, rfl⟩
      have e4 : (es.filterMap fun e => if e.1 ∈ rs then some (nV e.2) else none) = f1.map nV := by
        rw [hf1, List.map_filterMap]
        congr 1
        funext e
        split <;> rfl
      rw [e4] at h4
      have hf1m : ∀ v ∈ f1, ∃ e ∈ es, e.1 ∈ rs ∧ e.2 = v := fun v hv => by
        rw [hf1] at hv
        obtain ⟨e, he, h⟩ := List.mem_filterMap.mp hv
        split at h
        · rename_i hc
          exact ⟨e, he, hc, Option.some.inj h⟩
        · cases h
      have hf1l : f1.length ≤ es.length := by rw [hf1]; exact List.length_filterMap_le _ _
      have d4 := d3.trans (Dr.of_same d3.hand d3.sub s4)
      have hr4 := s4 _ _ hr3
      refine ⟨_, rfl, D, rfl, ⟨_, sql h4⟩, fun D2 nD2 => ?_⟩
      refine lc_val (walk_list (xs := f1.map nV)) calm_at (fun i => (f1[i]?).bind fun v => if v ∈ rs then none else some (nV v)) (by rw [List.length_map]; omega) nD2 (fun H5 s5 => sql (s5 _ _ h4)) ?_ fun H5 s5 h5 => ?_
      · rintro i v H5 H6 hi s5 ⟨rfl, hv⟩ Kt kt
        obtain ⟨u, hui, rfl⟩ := getmap hv
        refine ⟨rfl, ?_⟩
        refine ⟨_, rfl, _, rfl, r, _, rfl, .inl (sql (s5 _ _ hr4)), rfl, flat_nats _, _, rfl, ?_⟩
        rw [if_pos rfl, inV_nats]
        have k0 := kt _ (Same.refl _)
        rw [hui] at k0
        simp only [Option.bind_some] at k0
        by_cases hm : u ∈ rs
        · rw [decide_eq_true hm]
          rw [if_pos hm] at k0
          exact iteF k0
        · rw [decide_eq_false hm]
          rw [if_neg hm] at k0
          exact iteT ⟨_, rfl, k0⟩
      rw [List.length_map, fm_range] at h5
      obtain ⟨f2, hf2⟩ : ∃ f2 : List Nat, f2 = f1.filterMap fun v => if v ∈ rs then none else some v := ⟨_, rfl⟩
      have e5 : (f1.filterMap fun v => if v ∈ rs then none else some (nV v)) = f2.map nV := by
        rw [hf2, List.map_filterMap]
        congr 1
        funext v
        split <;> rfl
      rw [e5] at h5
      have hf2m : ∀ v ∈ f2, v ∉ rs ∧ ∃ e ∈ es, e.1 ∈ rs ∧ e.2 = v := fun v hv => by
        rw [hf2] at hv
        obtain ⟨u, hu, h⟩ := List.mem_filterMap.mp hv
        split at h
        · cases h
        · rename_i hc
          cases h
          exact ⟨hc, hf1m _ hu⟩
      have hf2l : f2.length ≤ es.length := by rw [hf2]; exact Nat.le_trans (List.length_filterMap_le _ _) hf1l
      have d5 := d4.trans (Dr.of_same d4.hand d4.sub s5)
      have hr5 := s5 _ _ hr4
      have nD2h : D2 ≠ h := hA.ne (d4.free nD2)
      -- if len(found) > 0
      refine ⟨_, rfl, D2, _, rfl, .inl (sql h5), _, _, rfl, rfl, _, rfl, ?_⟩
      rw [List.length_map]
      by_cases hpos : (0 : Int) < (f2.length : Int)
      · rw [decide_eq_true hpos]
        refine iteT ?_
        refine ⟨_, rfl, .inl ⟨rfl, _, sql hr5⟩, _, rfl, _, rfl, _, rfl, D2, _, rfl, .inl (sql h5), h, (f2.length : Int), F0, by rw [List.length_map]; rfl, hpos, small_log hpos (by omega), d5.sub, d5.hand, fun k0 H6 hk0 hk1 dd6 => ?_⟩
        obtain ⟨k, rfl⟩ : ∃ k : Nat, k0 = (k : Int) := ⟨k0.toNat, by omega⟩
        have hk : k < f2.length := by omega
        have hfk : f2[k]? = some f2[k] := List.getElem?_eq_getElem hk
        generalize f2[k] = v at hfk
        obtain ⟨hv1, e, he, hv2, hv3⟩ := hf2m v (List.mem_of_getElem? hfk)
        have hr6 : H6 r = some (.lst (rs.map nV)) := by rw [dd6.rest r nrh]; exact hr5
        refine ⟨D2, _, (k : Int), nV v, rfl, rfl, sql (by rw [dd6.rest D2 nD2h]; exact h5), atI_nat (by rw [List.getElem?_map, hfk]; rfl), r, _, _, rfl, rfl, hr6, by rw [List.length_map]; exact small_lt (by omega), ?_⟩
        refine ⟨_, _, rs ++ [v], rfl, (d5.trans dd6.dr).upd nr nrh nrF, by rw [upd_same, List.map_append]; rfl, ?_, List.mem_append_left _ r0, fun u hu => ?_, fun u hu => ?_⟩
        · rw [List.nodup_append]
          refine ⟨rnd, by simp, fun x hx y hy => ?_⟩
          rw [List.mem_singleton.mp hy]
          exact fun z => hv1 (z ▸ hx)
        · rcases List.mem_append.mp hu with hu | hu
          · exact rn u hu
          · rw [List.mem_singleton.mp hu, ← hv3]
            exact (pt.gm.ok e he).2.1
        · rcases List.mem_append.mp hu with hu | hu
          · exact led_more (rr u hu)
          · rw [List.mem_singleton.mp hu]
            obtain ⟨j, hj⟩ := List.getElem?_of_mem he
            exact (led_more (rr e.1 hv2)).edge (mem_ledE.mpr ⟨j, by rw [hj, ← hv3], List.not_mem_nil, List.mem_append_right _ List.mem_cons_self⟩)
      · rw [decide_eq_false hpos]
        refine iteF ?_
        exact ⟨_, _, rs, rfl, d5, hr5, rnd, r0, rn, rr⟩
    · rintro σ H3 ⟨x6, x7, rs, rfl, d3, hr3, rnd, r0, rn, rr⟩
      have pt3 := pt.dr d3 hA
      have rlen := nodup_le rnd rn
      -- rotten, share
      refine ⟨Nat.zero_le _, fun l nl => ?_⟩
      have nl0 := d3.free nl
      have nlh : l ≠ h := hA.ne nl0
      have nlF : F0 l = none := Same.free hF nl0
      have nrl : r ≠ l := ne_of_none hr3 nl
      have d4 := d3.trans (Dr.of_same d3.hand d3.sub (same_new (o := .lst []) (Same.refl H3) nl))
      refine ⟨_, rfl, h, 3, F0, rfl, by decide, small_log (by decide) (by omega), d4.sub, d4.hand, fun sh0 H5 hs0 hs1 dd5 => ⟨_, _, rfl, rfl, ?_⟩⟩
      have d5 := d4.trans dd5.dr
      have hr5 : H5 r = some (.lst (rs.map nV)) := by rw [dd5.rest r nrh, upd_ne nrl]; exact hr3
      have hl5 : H5 l = some (.lst ([] : List V)) := by rw [dd5.rest l nlh]; exact upd_same
      have pt5 := pt.dr d5 hA
      -- the arrows in a drawn order
      refine ⟨_, rfl, _, rfl, a, pvs, rfl, .inr pt5.ar, pvs.length, rfl, ⟨by omega, by omega, by omega, by omega, by omega⟩, fun rg nrg => ?_⟩
      have s6 := same_new (o := .lst (rgV 0 (pvs.length : Int))) (Same.refl H5) nrg
      have d6 := d5.trans (Dr.of_same d5.hand d5.sub s6)
      refine ⟨h, rg, _, F0, rfl, .inl (sql upd_same), by rw [rgV_length]; omega, d6.sub, d6.hand, fun sf H7 ksv hperm d67 nsf hsf => ?_⟩
      rw [rgV0] at hperm
      obtain ⟨ks, rfl, hks⟩ := perm_nats hperm
      have d7 := d6.trans d67
      have hsf0 := d6.free nsf
      have nsfh : sf ≠ h := hA.ne hsf0
      have hr7 := d67.same r _ nrh (s6 _ _ hr5)
      have hl7 := d67.same l _ nlh (s6 _ _ hl5)
      have nlsf : l ≠ sf := ne_of_none (s6 _ _ hl5) nsf
      have knd : ks.Nodup := hks.nodup_iff.mpr List.nodup_range
      have kn : ∀ k ∈ ks, k < es.length := fun k hk => by have := List.mem_range.mp (hks.mem_iff.mp hk); omega
      refine ⟨sf, rfl, ⟨_, sql hsf⟩, ?_⟩
      have st0 : StdL es gs rs [] := ⟨r0, fun l hl => (List.not_mem_nil hl).elim, rr, fun g hg => (pt.gm.rch g hg).mono (fun e he => by
        obtain ⟨k, hk⟩ := List.getElem?_of_mem he
        exact mem_leftV.mpr ⟨k, hk, List.not_mem_nil⟩) fun _ h => h⟩
      refine for_list (xs := ks.map nV) (fun i σ H' => ∃ (x10 : Option V) (ls : List Nat), σ = [some (.ref h), some (.ref t), some (nV n), some (.ref a), some (.ref c), some (.ref r), x6, x7, some (.ref l), some (.int ((2 : Int) + sh0)), x10, none, none, none] ∧ Dr F0 H H' h ∧ H' r = some (.lst (rs.map nV)) ∧ H' l = some (.lst (ls.map nV)) ∧ H' sf = some (.lst (ks.map nV)) ∧
        StdL es gs rs ls ∧ ls.Nodup ∧ (∀ x ∈ ls, x ∈ ks.take i) ∧ ls.length ≤ i)
        ⟨none, [], rfl, d7, hr7, hl7, hsf, st0, List.nodup_nil, fun x hx => (List.not_mem_nil hx).elim, Nat.zero_le _⟩ ?_ ?_ ?_
      · rintro i σ H' _ ⟨x10, ls, rfl, _, _, _, h5, _⟩
        exact sql h5
      · rintro i v σ H8 hv ⟨x10, ls, rfl, d8, hr8, hl8, hsf8, st8, lnd, lks, lll⟩
        obtain ⟨k, hki, rfl⟩ := getmap hv
        have hkn := kn k (List.mem_of_getElem? hki)
        have hilt := (List.getElem?_eq_some_iff.mp hki).1
        have hkl : ks.length = es.length := by rw [hks.length_eq, List.length_range]; exact hl
        have hnk : k ∉ ls := fun z => by
          obtain ⟨j, hj⟩ := List.getElem?_of_mem (lks k z)
          have hji : j < i := by
            have := (List.getElem?_eq_some_iff.mp hj).1
            rw [List.length_take] at this
            omega
          rw [List.getElem?_take_of_lt hji] at hj
          have := (List.getElem?_inj (by omega) knd).mp (by rw [hj, hki])
          omega
        refine ifs_split (fun H9 => Dr F0 H8 H9 h ∧ StdL es gs rs (ls ++ [k])) (fun H9 => Dr F0 H8 H9 h) (fun Kt kt kf => ?_) (fun H9 ⟨d89, st9⟩ => ?_) fun H9 d89 => ?_
        · refine ⟨_, rfl, _, rfl, h, _, F0, rfl, by omega, small_log (by omega) (by omega), d8.sub, d8.hand, fun n0 H9 hn0 hn1 dd9 => ⟨rfl, _, rfl, ?_⟩⟩
          by_cases hz : n0 = 0
          · rw [hz, decide_eq_true (rfl : V.int 0 = V.int 0)]
            have d9 := d8.trans dd9.dr
            have hr9 : H9 r = some (.lst (rs.map nV)) := by rw [dd9.rest r nrh]; exact hr8
            have hl9 : H9 l = some (.lst (ls.map nV)) := by rw [dd9.rest l nlh]; exact hl8
            have pt9 := pt.dr d9 hA
            refine iteT ⟨_, rfl, _, rfl, _, rfl, _, rfl, Nat.le_of_lt (small_lt (by decide : 1 ≤ 100000)), fun z nz => ?_⟩
            have s10 := same_new (o := .lst [nV k]) (Same.refl H9) nz
            refine ⟨l, z, _, _, rfl, rfl, s10 _ _ hl9, upd_same, by rw [List.length_map]; exact small_sz (by show ls.length + 1 ≤ 100000; omega), fun lz nlz => ?_⟩
            have hcat : (ls.map nV ++ [nV k]) = (ls ++ [k]).map nV := by rw [List.map_append]; rfl
            rw [hcat]
            have s11 := same_new (o := .lst ((ls ++ [k]).map nV)) s10 nlz
            refine ⟨t, n, a, pvs, es, c, gs, r, lz, rs, ls ++ [k], rfl, pt9.same s11, .inl (sql (s11 _ _ hr9)), .inl (sql upd_same), rnd, rn, fun x hx => ?_, by rw [List.length_append, List.length_singleton]; omega, fun H12 ok s12 hok => ⟨_, rfl, ?_⟩⟩
            · rcases List.mem_append.mp hx with hx | hx
              · exact kn x (List.mem_of_mem_take (lks x hx))
              · rw [List.mem_singleton.mp hx]
                exact hkn
            · have dA : Dr F0 H8 H12 h := dd9.dr.trans ((Dr.of_same dd9.hand dd9.sub s11).trans (Dr.of_same (Dr.of_same dd9.hand dd9.sub s11).hand (Dr.of_same dd9.hand dd9.sub s11).sub s12))
              cases ok with
              | true => exact kt _ ⟨dA, hok.mp rfl⟩
              | false => exact kf _ dA
          · have : ¬ V.int n0 = V.int 0 := fun z => hz (by injection z)
            rw [decide_eq_false this]
            exact iteF (kf _ dd9.dr)
        · have hl9 := d89.same l _ nlh hl8
          have d9 := d8.trans d89
          refine ⟨_, rfl, .inl ⟨rfl, _, sql hl9⟩, _, rfl, l, _, _, rfl, rfl, hl9, by rw [List.length_map]; exact small_lt (by omega), ?_⟩
          refine ⟨_, ls ++ [k], rfl, d9.upd nl0 nlh nlF, by rw [upd_ne nrl]; exact d89.same r _ nrh hr8, by rw [upd_same, List.map_append]; rfl, by rw [upd_ne nlsf.symm]; exact d89.same sf _ nsfh hsf8, st9, ?_, fun x hx => ?_, by rw [List.length_append, List.length_singleton]; omega⟩
          · rw [List.nodup_append]
            refine ⟨lnd, by simp, fun x hx y hy => ?_⟩
            rw [List.mem_singleton.mp hy]
            exact fun z => hnk (z ▸ hx)
          · rw [take_snoc_of hki]
            rcases List.mem_append.mp hx with hx | hx
            · exact List.mem_append_left _ (lks x hx)
            · exact List.mem_append_right _ hx
        · refine ⟨_, ls, rfl, d8.trans d89, d89.same r _ nrh hr8, d89.same l _ nlh hl8, d89.same sf _ nsfh hsf8, st8, lnd, fun x hx => ?_, by omega⟩
          rw [take_snoc_of hki]
          exact List.mem_append_left _ (lks x hx)
      · rintro σ H8 ⟨x10, ls, rfl, d8, hr8, hl8, hsf8, st8, lnd, lks, lll⟩
        -- the two sorted tuples
        refine ⟨_, rfl, r, rs.map fun (n : Nat) => (n : Int), rfl, sql (by rw [hr8, List.map_map]; rfl), fun ns1 p1 hp1 hw1 np1 => ?_⟩
        obtain ⟨rs', e1, hpr, hwr⟩ := sort_nats hp1 hw1
        rw [e1]
        refine ⟨p1, _, rfl, .inl ⟨sql upd_same, fun tx ntx => ?_⟩⟩
        have s9 := same_new (o := .tup (rs'.map nV)) (same_new (o := .lst (rs'.map nV)) (Same.refl H8) np1) ntx
        have hl9 := s9 _ _ hl8
        generalize hH9 : upd (upd H8 p1 (.lst (rs'.map nV))) tx (.tup (rs'.map nV)) = H9 at s9 hl9
        have htx9 : H9 tx = some (.tup (rs'.map nV)) := by rw [← hH9]; exact upd_same
        have ntx0 : H tx = none := d8.free (Same.free (same_new (o := .lst (rs'.map nV)) (Same.refl H8) np1) ntx)
        refine ⟨_, rfl, l, ls.map fun (n : Nat) => (n : Int), rfl, sql (by rw [hl9, List.map_map]; rfl), fun ns2 p2 hp2 hw2 np2 => ?_⟩
        obtain ⟨ls', e2, hpl, hwl⟩ := sort_nats hp2 hw2
        rw [e2]
        refine ⟨p2, _, rfl, .inl ⟨sql upd_same, fun ty nty => ⟨Nat.le_of_lt (small_lt (by decide : 2 ≤ 100000)), fun tv ntv => ?_⟩⟩⟩
        have s10 := same_new (o := .lst (ls'.map nV)) s9 np2
        have s11 := same_new (o := .tup (ls'.map nV)) s10 nty
        have s12 := same_new (o := .tup [.ref tx, .ref ty]) s11 ntv
        have nty0 : H ty = none := d8.free (Same.free s10 nty)
        have ntv0 : H tv = none := d8.free (Same.free s11 ntv)
        have d12 := d8.trans (Dr.of_same d8.hand d8.sub s12)
        have nxy : tx ≠ ty := ne_of_none (same_new (o := .lst (ls'.map nV)) (Same.refl H9) np2 _ _ htx9) nty
        have nxv : tx ≠ tv := ne_of_none (by rw [upd_ne nxy]; exact same_new (o := .lst (ls'.map nV)) (Same.refl H9) np2 _ _ htx9) ntv
        have nyv : ty ≠ tv := ne_of_none upd_same ntv
        refine q tv tx ty rs' ls' _ d12 ⟨sqt (hv_new hF ntv0 upd_same), sqt (hv_new hF ntx0 ?_), sqt (hv_new hF nty0 ?_)⟩
          (st8.ok rn (fun x hx => kn x (List.mem_of_mem_take (lks x hx))) (fun x => hpr.mem_iff) (fun x => hpl.mem_iff) (pw_lt hwr (hpr.nodup_iff.mpr rnd)) (pw_lt hwl (hpl.nodup_iff.mpr lnd)))
        · rw [upd_ne nxv, upd_ne nxy]
          exact same_new (o := .lst (ls'.map nV)) (Same.refl H9) np2 _ _ htx9
        · rw [upd_ne nyv, upd_same]

abbrev s__law_tries : Stmt := topS 47
abbrev sl__law_tries : List Str := ["_law_parts_here", "_law_reached", "_law_rotten", "_law_arrows", "_law_found", "_law_k"]
theorem sc__law_tries : FnScope ["_law_parts_here", "_law_reached", "_law_rotten", "_law_arrows", "_law_found", "_law_k"] ["_law_parts_here", "_law_reached", "_law_rotten"] (defScope s__law_tries) := ⟨rfl, rfl, rfl, by decide +kernel, rfl, by decide +kernel, by decide +kernel⟩
/-- the law's own lots: a new list of numbers -/
def spLT (K : PySem.W.Frag) (R : Nat → Es → List Nat → List Nat → List Nat → List Nat → Prop) : Sp := fun vs H Q _ => ∃ (t : Addr) (n : Nat) (a : Addr) (pvs : List V) (es : Es) (c : Addr) (gs : List Nat) (x y : Addr) (rs ls : List Nat), vs = [.ref t, .ref x, .ref y] ∧ PtsAt K H t n a pvs es c gs ∧
  SqT K H x (rs.map nV) ∧ SqT K H y (ls.map nV) ∧ StdOk n es gs rs ls ∧ ∀ (z : Addr) (os : List Nat) (H' : Hp), Same H H' → H z = none → H' z = some (.lst (os.map nV)) → R n es gs rs ls os → Q (.ref z) H'
def LTries : Nat → Es → List Nat → List Nat → List Nat → List Nat → Prop := fun _ es _ rs ls os => os = triesL es rs ls
theorem ok__law_tries (B : Bt mg) (D0 : Df K mg "_law_tries" s__law_tries ["_law_parts_here", "_law_reached", "_law_rotten"]) : Has P w K mg base "_law_tries" 1 ["_law_parts_here", "_law_reached", "_law_rotten"] (spLT K LTries) := by
  refine D0.has fun f fd F => F.ok sc__law_tries (fun vs H Q E h => ?_) (fun cdv A outer s H vs Q E hr h => ?_)
  · obtain ⟨t, n, a, pvs, es, c, gs, x, y, rs, ls, rfl, _⟩ := h
    rfl
  · obtain ⟨t, n, a, pvs, es, c, gs, x, y, rs, ls, rfl, hp, hx, hy, o, q⟩ := h
    refine ⟨_, (pss_cons (ps_set (i := 3) sc__law_tries.nd rfl (.inr rfl) (pe_ix (k_ixt (K := K) rfl) (pv 0) pe_int (fun _ _ => rfl)))
  (pss_cons (ps_setLc (i := 4) (own := [("_law_k", 5)]) (g := gName 5) rfl sc__law_tries.nd rfl rfl (sw_true rfl rfl rfl (by decide +kernel)) (pi_range1 (by rfl) B.range (pa_cons (pe_callB (k_len (K := K) rfl) (by rfl) B.len bo_len (pa_cons (pv 3) pa_nil)) pa_nil)) (blkOk_by (N := sl__law_tries) (sc := defScope s__law_tries) (by decide +kernel)) (fun _ _ _ _ _ => (pg_name (i := 5) sc__law_tries.nd rfl (.inl rfl))) (fun _ _ _ _ _ => pts_one (PW.pt (pw_and (pt_cmpR (k_in (K := K) rfl) (pe_ix (k_ixt (K := K) rfl) (pe_ix (k_ixt (K := K) rfl) (pv 3) (pv 5) (fun _ _ => rfl)) pe_int (fun _ _ => rfl)) (pv 1) (by rfl)) (pw_and1 (pt_cmpR (k_notin (K := K) rfl) (pe_ix (k_ixt (K := K) rfl) (pe_ix (k_ixt (K := K) rfl) (pv 3) (pv 5) (fun _ _ => rfl)) pe_int (fun _ _ => rfl)) (pv 1) (by rfl)))))) (fun _ _ _ _ _ => (pv 5)))
  (pss_one (ps_ret (pe_lc (own := [("_law_k", 5)]) (g := gName 5) rfl sc__law_tries.nd (k_pil (K := K) rfl (pv 4)) (blkOk_by (N := sl__law_tries) (sc := defScope s__law_tries) (by decide +kernel)) (fun _ _ _ _ _ => (pg_name (i := 5) sc__law_tries.nd rfl (.inl rfl))) (fun _ _ _ _ _ => pts_one (pt_cmpR (k_notin (K := K) rfl) (pv 5) (pv 2) (by rfl))) (fun _ _ _ _ _ => (pv 5))))))), ?_⟩
    have hl := hp.pr.len
    have g60 := hp.gm.l60
    refine ⟨_, rfl, t, _, (1 : Nat), .ref a, rfl, rfl, hp.tp, atI_nat rfl, ?_⟩
    refine ⟨_, rfl, a, pvs, rfl, .inr hp.ar, pvs.length, rfl, by omega, by omega, fun D nD => ?_⟩
    refine lc_val walk_range calm_fn (fun i => (es[i]?).bind fun e => if e.1 ∈ rs ∧ e.2 ∉ rs then some (nV i) else none) (by show ((pvs.length : Nat) : Int).toNat ≤ 100000; omega) nD (fun _ _ => trivial) ?_ fun H1 s1 h1 => ?_
    · rintro i v H4 H5 hi s4 ⟨rfl, rfl⟩ Kt kt
      have hin : i < pvs.length := hi
      have e0 : (0 : Int) + (i : Int) = (i : Int) := Int.zero_add _
      have hiv : pvs[i]? = some pvs[i] := List.getElem?_eq_getElem hin
      obtain ⟨e, hie, tt, htt, ht⟩ := (hp.pr.same s4).get hiv
      obtain ⟨e1, e2⟩ := e
      have k0 := kt _ (Same.refl _)
      rw [hie] at k0
      simp only [Option.bind_some] at k0
      refine ⟨rfl, ?_⟩
      refine ⟨_, rfl, _, rfl, a, pvs, _, _, rfl, rfl, Same.sqt s4 hp.ar, by rw [e0]; exact atI_nat hiv, tt, _, (0 : Nat), nV e1, htt, rfl, ht, atI_nat rfl, _, rfl, x, _, rfl, .inr (Same.sqt s4 hx), rfl, flat_nats _, _, rfl, ?_⟩
      rw [if_neg Bool.false_ne_true, inV_nats]
      by_cases m1 : e1 ∈ rs
      · rw [decide_eq_true m1]
        refine iteT ⟨_, rfl, _, rfl, a, pvs, _, _, rfl, rfl, Same.sqt s4 hp.ar, by rw [e0]; exact atI_nat hiv, tt, _, (1 : Nat), nV e2, htt, rfl, ht, atI_nat rfl, _, rfl, x, _, rfl, .inr (Same.sqt s4 hx), rfl, flat_nats _, _, rfl, ?_⟩
        rw [if_pos rfl, inV_nats]
        by_cases m2 : e2 ∈ rs
        · rw [decide_eq_true m2]
          rw [if_neg (fun z => z.2 m2)] at k0
          exact iteF k0
        · rw [decide_eq_false m2]
          rw [if_pos ⟨m1, m2⟩] at k0
          refine iteT ⟨_, rfl, ?_⟩
          show Kt (some (V.int ((0 : Int) + (i : Int)))) _
          rw [e0]
          exact k0
      · rw [decide_eq_false m1]
        rw [if_neg (fun z => m1 z.1)] at k0
        refine iteF ?_
        exact iteF k0
    · obtain ⟨F1, hF1⟩ : ∃ F1 : List Nat, F1 = (List.range es.length).filterMap fun i => (es[i]?).bind fun e => if e.1 ∈ rs ∧ e.2 ∉ rs then some i else none := ⟨_, rfl⟩
      have e1 : ((List.range ((pvs.length : Nat) : Int).toNat).filterMap fun i => (es[i]?).bind fun e => if e.1 ∈ rs ∧ e.2 ∉ rs then some (nV i) else none) = F1.map nV := by
        rw [hF1, List.map_filterMap, show ((pvs.length : Nat) : Int).toNat = es.length by omega]
        congr 1
        funext i
        cases es[i]? with
        | none => rfl
        | some e =>
          simp only [Option.bind_some]
          split <;> rfl
      rw [e1] at h1
      have hFl : F1.length ≤ 60 := by
        rw [hF1]
        exact Nat.le_trans (List.length_filterMap_le _ _) (by rw [List.length_range]; exact g60)
      refine ⟨_, rfl, D, rfl, ⟨_, sql h1⟩, fun D2 nD2 => ?_⟩
      refine lc_val (walk_list (xs := F1.map nV)) calm_at (fun i => (F1[i]?).bind fun k => if k ∈ ls then none else some (nV k)) (by rw [List.length_map]; omega) nD2 (fun H5 s5 => sql (s5 _ _ h1)) ?_ fun H5 s5 h5 => ?_
      · rintro i v H5 H6 hi s5 ⟨rfl, hv⟩ Kt kt
        obtain ⟨u, hui, rfl⟩ := getmap hv
        refine ⟨rfl, ?_⟩
        refine ⟨_, rfl, _, rfl, y, _, rfl, .inr (Same.sqt (s1.trans s5) hy), rfl, flat_nats _, _, rfl, ?_⟩
        rw [if_pos rfl, inV_nats]
        have k0 := kt _ (Same.refl _)
        rw [hui] at k0
        simp only [Option.bind_some] at k0
        by_cases hm : u ∈ ls
        · rw [decide_eq_true hm]
          rw [if_pos hm] at k0
          exact iteF k0
        · rw [decide_eq_false hm]
          rw [if_neg hm] at k0
          exact iteT ⟨_, rfl, k0⟩
      rw [List.length_map, fm_range] at h5
      have e2 : (F1.filterMap fun k => if k ∈ ls then none else some (nV k)) = (triesL es rs ls).map nV := by
        unfold triesL
        rw [hF1, List.filterMap_filterMap, List.map_filterMap]
        congr 1
        funext i
        unfold isTry
        cases es[i]? with
        | none => rfl
        | some e =>
          simp only [Option.bind_some]
          by_cases h1 : e.1 ∈ rs ∧ e.2 ∉ rs
          · rw [if_pos h1]
            by_cases h2 : i ∈ ls
            · rw [if_neg (fun z => z.1 h2)]
              exact if_pos h2
            · rw [if_pos ⟨h2, h1⟩]
              exact if_neg h2
          · rw [if_neg h1, if_neg (fun z => h1 z.2)]
            rfl
      rw [e2] at h5
      exact q D2 _ H5 (s1.trans s5) (Same.free s1 nD2) h5 rfl

abbrev s__law_alive : Stmt := topS 46
abbrev sl__law_alive : List Str := ["_law_parts_here", "_law_reached", "_law_rotten", "_law_many", "_law_arrows", "_law_goals", "_law_unreached", "_law_back", "_law_place", "_law_tail_here", "_law_head", "_law_goal"]
theorem sc__law_alive : FnScope ["_law_parts_here", "_law_reached", "_law_rotten", "_law_many", "_law_arrows", "_law_goals", "_law_unreached", "_law_back", "_law_place", "_law_tail_here", "_law_head", "_law_goal"] ["_law_parts_here", "_law_reached", "_law_rotten"] (defScope s__law_alive) := ⟨rfl, rfl, rfl, by decide +kernel, rfl, by decide +kernel, by decide +kernel⟩
def LAlive : Nat → Es → List Nat → List Nat → List Nat → List Nat → Prop := fun n es gs rs ls os => os.Pairwise (· < ·) ∧ ∀ u, u ∈ os ↔ u < n ∧ Alive es gs rs ls u
/-- going backward from the unreached goals, as the law does it -/
theorem led_alive {n : Nat} {es : Es} {gs rs ls U S : List Nat} (hU : ∀ v, v ∈ U ↔ v < n ∧ v ∉ rs) (hS : ∀ v, v ∈ S ↔ v ∈ gs ∧ v ∉ rs) (ok : ∀ e ∈ es, e.1 < n ∧ e.2 < n) {v : Nat} :
    Rch (ledE (es.filterMap fun e => some (swp e)) U ls) S v ↔ Alive es gs rs ls v := by
  have hsw : ∀ (k : Nat) (e : Nat × Nat), (es.filterMap fun e => some (swp e))[k]? = some e ↔ es[k]? = some (swp e) := fun k e => by
    rw [fm_some, List.getElem?_map]
    cases es[k]? with
    | none => simp
    | some x =>
      obtain ⟨x1, x2⟩ := x
      obtain ⟨e1, e2⟩ := e
      simp only [Option.map_some, swp, Option.some.injEq, Prod.mk.injEq]
      exact ⟨fun ⟨a, b⟩ => ⟨b, a⟩, fun ⟨a, b⟩ => ⟨b, a⟩⟩
  have hback : ∀ e : Nat × Nat, e ∈ backE es rs ls ↔ ∃ k, es[k]? = some (swp e) ∧ k ∉ ls ∧ e.1 ∉ rs ∧ e.2 ∉ rs := fun e => by
    constructor
    · intro h
      obtain ⟨e0, h6, h7⟩ := List.mem_filterMap.mp h
      cases h7
      obtain ⟨e1, h8, h9⟩ := List.mem_filterMap.mp h6
      unfold unrG at h9
      split at h9
      · rename_i hc
        cases h9
        obtain ⟨k, h10, h11⟩ := mem_leftV.mp h8
        exact ⟨k, h10, h11, hc.2, hc.1⟩
      · cases h9
    · rintro ⟨k, h1, h2, h3, h4⟩
      refine List.mem_filterMap.mpr ⟨swp e, List.mem_filterMap.mpr ⟨swp e, mem_leftV.mpr ⟨k, h1, h2⟩, ?_⟩, rfl⟩
      unfold unrG
      exact if_pos ⟨h4, h3⟩
  constructor
  · intro h
    refine (h.ind (P := fun v => v ∉ rs ∧ Rch (backE es rs ls) (openG gs rs) v) (fun v hv => ?_) fun u v ⟨hu, hr⟩ e => ?_).2
    · obtain ⟨h1, h2⟩ := (hS v).mp hv
      exact ⟨h2, .base (mem_openG.mpr ⟨h1, h2⟩)⟩
    · obtain ⟨k, h1, h2, h3⟩ := mem_ledE.mp e
      have h4 := ((hU v).mp h3).2
      exact ⟨h4, hr.edge ((hback _).mpr ⟨k, (hsw k _).mp h1, h2, hu, h4⟩)⟩
  · refine Rch.mono (fun e he => ?_) fun v hv => ?_
    · obtain ⟨k, h1, h2, h3, h4⟩ := (hback e).mp he
      exact mem_ledE.mpr ⟨k, (hsw k e).mpr h1, h2, (hU _).mpr ⟨(ok _ (List.mem_of_getElem? h1)).1, h4⟩⟩
    · exact (hS v).mpr (mem_openG.mp hv)
theorem ok__law_alive (B : Bt mg) (h_law_led : Has P w K mg base "_law_led" 1 ["_law_arrows", "_law_begun", "_law_let", "_law_barred"] (spLed K)) (D0 : Df K mg "_law_alive" s__law_alive ["_law_parts_here", "_law_reached", "_law_rotten"]) : Has P w K mg base "_law_alive" 2 ["_law_parts_here", "_law_reached", "_law_rotten"] (spLT K LAlive) := by
  refine D0.has fun f fd F => F.ok sc__law_alive (fun vs H Q E h => ?_) (fun cdv A outer s H vs Q E hr h => ?_)
  · obtain ⟨t, n, a, pvs, es, c, gs, x, y, rs, ls, rfl, _⟩ := h
    rfl
  · obtain ⟨t, n, a, pvs, es, c, gs, x, y, rs, ls, rfl, hp, hx, hy, o, q⟩ := h
    refine ⟨_, (pss_cons (ps_asg (pv 0) (pg_tup rfl (pgs_cons (pg_name (i := 3) sc__law_alive.nd rfl (.inl rfl)) (pgs_cons (pg_name (i := 4) sc__law_alive.nd rfl (.inl rfl)) (pgs_cons (pg_name (i := 5) sc__law_alive.nd rfl (.inl rfl)) pgs_nil)))))
  (pss_cons (ps_set (i := 6) sc__law_alive.nd rfl (.inr rfl) (pe_lc (own := [("_law_place", 8)]) (g := gName 8) rfl sc__law_alive.nd (pi_range1 (by rfl) B.range (pa_cons (pv 3) pa_nil)) (blkOk_by (N := sl__law_alive) (sc := defScope s__law_alive) (by decide +kernel)) (fun _ _ _ _ _ => (pg_name (i := 8) sc__law_alive.nd rfl (.inl rfl))) (fun _ _ _ _ _ => pts_one (pt_cmpR (k_notin (K := K) rfl) (pv 8) (pv 1) (by rfl))) (fun _ _ _ _ _ => (pv 8))))
  (pss_cons (ps_setLc (i := 7) (own := [("_law_tail_here", 9), ("_law_head", 10)]) (g := gTup K 2 (gCons (gName 9) (gCons (gName 10) gNil))) rfl sc__law_alive.nd rfl rfl (sw_true rfl rfl rfl (by decide +kernel)) (k_pit (K := K) rfl (pv 4)) (blkOk_by (N := sl__law_alive) (sc := defScope s__law_alive) (by decide +kernel)) (fun _ _ _ _ _ => (pg_tup rfl (pgs_cons (pg_name (i := 9) sc__law_alive.nd rfl (.inl rfl)) (pgs_cons (pg_name (i := 10) sc__law_alive.nd rfl (.inl rfl)) pgs_nil)))) (fun _ _ _ _ _ => pts_nil) (fun _ _ _ _ _ => (pe_tup (pa_cons (pv 10) (pa_cons (pv 9) pa_nil)))))
  (pss_one (ps_ret (pe_callB (k_sorted (K := K) rfl) (by rfl) B.sorted bo_sorted (pa_cons (pcall h_law_led hr (by decide) (by rfl) (pa_cons (pv 7) (pa_cons (pe_lc (own := [("_law_goal", 11)]) (g := gName 11) rfl sc__law_alive.nd (k_pit (K := K) rfl (pv 5)) (blkOk_by (N := sl__law_alive) (sc := defScope s__law_alive) (by decide +kernel)) (fun _ _ _ _ _ => (pg_name (i := 11) sc__law_alive.nd rfl (.inl rfl))) (fun _ _ _ _ _ => pts_one (pt_cmpR (k_in (K := K) rfl) (pv 11) (pv 6) (by rfl))) (fun _ _ _ _ _ => (pv 11))) (pa_cons (pv 6) (pa_cons (pv 2) pa_nil))))) pa_nil))))))), ?_⟩
    have hl := hp.pr.len
    have gn := hp.gm.n40
    have g2 := hp.gm.n2
    have g60 := hp.gm.l60
    have ggl := hp.gm.gl2
    refine ⟨_, rfl, t, _, rfl, hp.tp, rfl, _, _, rfl, _, _, rfl, _, _, rfl, rfl, ?_⟩
    -- unreached
    refine ⟨_, rfl, n, rfl, by omega, by omega, fun D nD => ?_⟩
    refine lc_val walk_range calm_fn (fun i => (if i ∈ rs then none else some i).map nV) (by show ((n : Nat) : Int).toNat ≤ 100000; omega) nD (fun _ _ => trivial) ?_ fun H1 s1 h1 => ?_
    · rintro i v H4 H5 hi s4 ⟨rfl, rfl⟩ Kt kt
      have e0 : (0 : Int) + (i : Int) = (i : Int) := Int.zero_add _
      have k0 := kt _ (Same.refl _)
      refine ⟨rfl, ?_⟩
      refine ⟨_, rfl, _, rfl, x, _, rfl, .inr (Same.sqt s4 hx), rfl, flat_nats _, _, rfl, ?_⟩
      have ei : inV (V.int ((0 : Int) + (i : Int))) (rs.map nV) = decide (i ∈ rs) := by rw [e0]; exact inV_nats i rs
      rw [if_pos rfl, ei]
      by_cases m : i ∈ rs
      · rw [decide_eq_true m]
        rw [if_pos m] at k0
        exact iteF k0
      · rw [decide_eq_false m]
        rw [if_neg m] at k0
        refine iteT ⟨_, rfl, ?_⟩
        show Kt (some (V.int ((0 : Int) + (i : Int)))) _
        rw [e0]
        exact k0
    obtain ⟨U, hUd⟩ : ∃ U : List Nat, U = (List.range n).filterMap fun i => if i ∈ rs then none else some i := ⟨_, rfl⟩
    have e1 : ((List.range ((n : Nat) : Int).toNat).filterMap fun i => (if i ∈ rs then none else some i).map nV) = U.map nV := by
      rw [hUd, List.map_filterMap]
      rfl
    rw [e1] at h1
    have hU : ∀ v, v ∈ U ↔ v < n ∧ v ∉ rs := fun v => by
      rw [hUd, List.mem_filterMap]
      constructor
      · rintro ⟨i, hi, h⟩
        split at h
        · cases h
        · rename_i hc
          cases h
          exact ⟨List.mem_range.mp hi, hc⟩
      · rintro ⟨h1, h2⟩
        exact ⟨v, List.mem_range.mpr h1, if_neg h2⟩
    -- back
    refine ⟨_, rfl, a, rfl, ⟨_, Same.sqt s1 hp.ar⟩, fun D2 nD2 => ?_⟩
    have hp1 := hp.same s1
    refine lc_rel walk_tup calm_at (RelG (fun e => some (swp e)) es) RelG.stay (by omega) nD2 (fun H4 s4 => Same.sqt s4 hp1.ar) ?_ fun H2 os s2 hol hos h2 => ?_
    · rintro i v H4 H5 hi s4 ⟨rfl, hv⟩ Kt kt
      obtain ⟨e, hei, tt, rfl, ht⟩ := hp1.pr.get hv
      obtain ⟨e1, e2⟩ := e
      refine ⟨tt, _, rfl, Same.sqt s4 ht, rfl, _, _, rfl, _, _, rfl, rfl, rfl, tyes ?_⟩
      refine iteT ?_
      exact ⟨_, rfl, _, rfl, by show 2 ≤ sizeLine; decide, fun t2 nt2 => kt _ _ (same_new (Same.refl _) nt2) ⟨(e1, e2), hei, .inl ⟨(e2, e1), _, rfl, rfl, t2, rfl, upd_same⟩⟩⟩
    have p2 := prs_rel (K := K) (hol.trans hl) hos
    have s12 := s1.trans s2
    have hp2 := hp.same s12
    have h12 := s2 _ _ h1
    -- the unreached goals
    refine ⟨_, rfl, _, rfl, c, rfl, ⟨_, hp2.go⟩, fun D3 nD3 => ?_⟩
    refine lc_val walk_tup calm_at (fun i => (gs[i]?).bind fun g => if g ∈ U then some (nV g) else none) (by rw [List.length_map]; omega) nD3 (fun H5 s5 => Same.sqt s5 hp2.go) ?_ fun H3 s3 h3 => ?_
    · rintro i v H5 H6 hi s5 ⟨rfl, hv⟩ Kt kt
      obtain ⟨g, hgi, rfl⟩ := getmap hv
      refine ⟨rfl, ?_⟩
      refine ⟨_, rfl, _, rfl, D, _, rfl, .inl (sql (s5 _ _ h12)), rfl, flat_nats _, _, rfl, ?_⟩
      rw [if_neg Bool.false_ne_true, inV_nats]
      have k0 := kt _ (Same.refl _)
      rw [hgi] at k0
      simp only [Option.bind_some] at k0
      by_cases hm : g ∈ U
      · rw [decide_eq_true hm]
        rw [if_pos hm] at k0
        exact iteT ⟨_, rfl, k0⟩
      · rw [decide_eq_false hm]
        rw [if_neg hm] at k0
        exact iteF k0
    rw [List.length_map, fm_range] at h3
    obtain ⟨S, hSd⟩ : ∃ S : List Nat, S = gs.filterMap fun g => if g ∈ U then some g else none := ⟨_, rfl⟩
    have e3 : (gs.filterMap fun g => if g ∈ U then some (nV g) else none) = S.map nV := by
      rw [hSd, List.map_filterMap]
      congr 1
      funext g
      split <;> rfl
    rw [e3] at h3
    have hS : ∀ v, v ∈ S ↔ v ∈ gs ∧ v ∉ rs := fun v => by
      rw [hSd, List.mem_filterMap]
      constructor
      · rintro ⟨g, hg, h⟩
        split at h
        · rename_i hc
          cases h
          exact ⟨hg, ((hU _).mp hc).2⟩
        · cases h
      · rintro ⟨h1, h2⟩
        exact ⟨v, h1, if_pos ((hU v).mpr ⟨(hp.gm.gl v h1).2, h2⟩)⟩
    have hSn : S.Nodup := by
      rw [hSd]
      refine (List.Pairwise.filterMap (R := fun a b : Nat => a < b) (S := fun a b : Nat => a < b) _ (fun a b hab x hx y hy => ?_) hp.gm.pw).imp fun h => Nat.ne_of_lt h
      · split at hx
        · cases hx
          split at hy
          · cases hy
            exact hab
          · cases hy
        · cases hx
    have hx3 := Same.sqt (s12.trans s3) hx
    have hy3 := Same.sqt (s12.trans s3) hy
    refine ⟨_, rfl, _, rfl, D2, D3, D, y, _, _, S, U, ls, n, rfl, .inl (sql (s3 _ _ h2)), p2.same s3, .inl (sql h3), .inl (sql (s3 _ _ h12)), .inr hy3, fun e he => ?_, fun s hs => (hp.gm.gl s ((hS s).mp hs).1).2, hSn, by omega, ?_, fun p H4 fs s4 np hp4 nd hfs => ?_⟩
    · obtain ⟨e0, he0, h⟩ := List.mem_filterMap.mp he
      cases h
      exact (hp.gm.ok e0 he0).1
    · exact Nat.le_trans (List.length_filterMap_le _ _) (by omega)
    have hiff : ∀ v, v ∈ fs ↔ Alive es gs rs ls v := fun v => (hfs v).trans (led_alive hU hS fun e he => ⟨(hp.gm.ok e he).1, (hp.gm.ok e he).2.1⟩)
    refine ⟨p, fs.map fun (n : Nat) => (n : Int), rfl, sql (by rw [hp4, List.map_map]; rfl), fun ns' z hperm hsrt nz => ?_⟩
    obtain ⟨os, e5, hos5, hpw⟩ := sort_nats hperm hsrt
    have sm : Same H H4 := (s12.trans s3).trans s4
    rw [e5]
    refine q z os _ (same_new sm nz) (Same.free sm nz) upd_same ⟨pw_lt hpw (hos5.nodup_iff.mpr nd), fun u => ?_⟩
    rw [hos5.mem_iff, hiff]
    refine ⟨fun h => ⟨?_, h⟩, fun h => h.2⟩
    exact ((hfs u).mp ((hiff u).mpr h)).lt (fun s hs => (hp.gm.gl s ((hS s).mp hs).1).2) fun e he => by
      obtain ⟨_, _, _, h9⟩ := mem_ledE.mp he
      exact ((hU _).mp h9).1

abbrev s__law_worth : Stmt := topS 48
abbrev sl__law_worth : List Str := ["_law_parts_here", "_law_reached", "_law_rotten", "_law_living", "_law_k"]
theorem sc__law_worth : FnScope ["_law_parts_here", "_law_reached", "_law_rotten", "_law_living", "_law_k"] ["_law_parts_here", "_law_reached", "_law_rotten"] (defScope s__law_worth) := ⟨rfl, rfl, rfl, by decide +kernel, rfl, by decide +kernel, by decide +kernel⟩
def LWorth : Nat → Es → List Nat → List Nat → List Nat → List Nat → Prop := fun n es gs rs ls os => os.Pairwise (· < ·) ∧ ∀ i, i ∈ os ↔ i ∈ triesL es rs ls ∧ ∃ e, es[i]? = some e ∧ Alive es gs rs ls e.2
theorem ok__law_worth (B : Bt mg) (h_law_alive : Has P w K mg base "_law_alive" 2 ["_law_parts_here", "_law_reached", "_law_rotten"] (spLT K LAlive)) (h_law_tries : Has P w K mg base "_law_tries" 1 ["_law_parts_here", "_law_reached", "_law_rotten"] (spLT K LTries))
    (D0 : Df K mg "_law_worth" s__law_worth ["_law_parts_here", "_law_reached", "_law_rotten"]) : Has P w K mg base "_law_worth" 3 ["_law_parts_here", "_law_reached", "_law_rotten"] (spLT K LWorth) := by
  refine D0.has fun f fd F => F.ok sc__law_worth (fun vs H Q E h => ?_) (fun cdv A outer s H vs Q E hr h => ?_)
  · obtain ⟨t, n, a, pvs, es, c, gs, x, y, rs, ls, rfl, _⟩ := h
    rfl
  · obtain ⟨t, n, a, pvs, es, c, gs, x, y, rs, ls, rfl, hp, hx, hy, o, q⟩ := h
    refine ⟨_, (pss_cons (ps_set (i := 3) sc__law_worth.nd rfl (.inr rfl) (pcall h_law_alive hr (by decide) (by rfl) (pa_cons (pv 0) (pa_cons (pv 1) (pa_cons (pv 2) pa_nil)))))
  (pss_one (ps_ret (pe_lc (own := [("_law_k", 4)]) (g := gName 4) rfl sc__law_worth.nd (k_pil (K := K) rfl (pcall h_law_tries hr (by decide) (by rfl) (pa_cons (pv 0) (pa_cons (pv 1) (pa_cons (pv 2) pa_nil))))) (blkOk_by (N := sl__law_worth) (sc := defScope s__law_worth) (by decide +kernel)) (fun _ _ _ _ _ => (pg_name (i := 4) sc__law_worth.nd rfl (.inl rfl))) (fun _ _ _ _ _ => pts_one (pt_cmpR (k_in (K := K) rfl) (pe_ix (k_ixt (K := K) rfl) (pe_ix (k_ixt (K := K) rfl) (pe_ix (k_ixt (K := K) rfl) (pv 0) pe_int (fun _ _ => rfl)) (pv 4) (fun _ _ => rfl)) pe_int (fun _ _ => rfl)) (pv 3) (by rfl))) (fun _ _ _ _ _ => (pv 4)))))), ?_⟩
    have hl := hp.pr.len
    have g60 := hp.gm.l60
    refine ⟨_, rfl, _, rfl, _, rfl, t, n, a, pvs, es, c, gs, x, y, rs, ls, rfl, hp, hx, hy, o, fun z as H1 s1 nz hz has => ?_⟩
    have hp1 := hp.same s1
    refine ⟨_, rfl, _, rfl, _, rfl, t, n, a, pvs, es, c, gs, x, y, rs, ls, rfl, hp1, Same.sqt s1 hx, Same.sqt s1 hy, o, fun w ts H2 s2 nw hw hts => ?_⟩
    have hts' : ts = triesL es rs ls := hts
    rw [hts'] at hw
    have hp2 := hp1.same s2
    have hz2 := s2 _ _ hz
    have hlt : (triesL es rs ls).length ≤ es.length - 0 := pw_len tries_pw fun z hz => ⟨Nat.zero_le _, by
      obtain ⟨e, he, _⟩ := mem_tries.mp hz
      exact (List.getElem?_eq_some_iff.mp he).1⟩
    refine ⟨w, rfl, ⟨_, sql hw⟩, fun D nD => ?_⟩
    refine lc_val (walk_list (xs := (triesL es rs ls).map nV)) calm_at (fun i => ((triesL es rs ls)[i]?).bind fun k => (es[k]?).bind fun e => if e.2 ∈ as then some (nV k) else none) (by rw [List.length_map]; omega) nD (fun H3 s3 => sql (s3 _ _ hw)) ?_ fun H3 s3 h3 => ?_
    · rintro i v H3 H4 hi s3 ⟨rfl, hv⟩ Kt kt
      obtain ⟨k, hki, rfl⟩ := getmap hv
      obtain ⟨e, hke, _⟩ := mem_tries.mp (List.mem_of_getElem? hki)
      have h3 := hp2.same s3
      have hkl : k < pvs.length := by rw [hl]; exact (List.getElem?_eq_some_iff.mp hke).1
      have hk : pvs[k]? = some pvs[k] := List.getElem?_eq_getElem hkl
      obtain ⟨tt, htt, ht⟩ := h3.pr.at_ k _ _ hk hke
      have k0 := kt _ (Same.refl _)
      rw [hki] at k0
      simp only [Option.bind_some] at k0
      rw [hke] at k0
      simp only [Option.bind_some] at k0
      refine ⟨rfl, ?_⟩
      refine ⟨_, rfl, t, _, (1 : Nat), .ref a, rfl, rfl, h3.tp, atI_nat rfl, _, rfl, a, pvs, (k : Int), _, rfl, rfl, h3.ar, atI_nat hk, tt, _, (1 : Nat), nV e.2, htt, rfl, ht, atI_nat rfl, _, rfl, z, _, rfl, .inl (sql (s3 _ _ hz2)), rfl, flat_nats _, _, rfl, ?_⟩
      rw [if_neg Bool.false_ne_true, inV_nats]
      by_cases hm : e.2 ∈ as
      · rw [decide_eq_true hm]
        rw [if_pos hm] at k0
        exact iteT ⟨_, rfl, k0⟩
      · rw [decide_eq_false hm]
        rw [if_neg hm] at k0
        exact iteF k0
    rw [List.length_map, fm_range] at h3
    obtain ⟨os, hos⟩ : ∃ os : List Nat, os = (triesL es rs ls).filterMap fun k => (es[k]?).bind fun e => if e.2 ∈ as then some k else none := ⟨_, rfl⟩
    have e1 : ((triesL es rs ls).filterMap fun k => (es[k]?).bind fun e => if e.2 ∈ as then some (nV k) else none) = os.map nV := by
      rw [hos, List.map_filterMap]
      congr 1
      funext k
      cases es[k]? with
      | none => rfl
      | some e =>
        simp only [Option.bind_some]
        split <;> rfl
    rw [e1] at h3
    have hF : ∀ (k j : Nat), ((es[k]?).bind fun (e : Nat × Nat) => if e.2 ∈ as then some k else none) = some j → j = k ∧ ∃ e : Nat × Nat, es[k]? = some e ∧ e.2 ∈ as := fun k j h => by
      cases e2 : es[k]? with
      | none => rw [e2] at h; cases h
      | some e =>
        rw [e2] at h
        simp only [Option.bind_some] at h
        split at h
        · rename_i hc
          exact ⟨(Option.some.inj h).symm, e, rfl, hc⟩
        · cases h
    have sm : Same H H3 := (s1.trans s2).trans s3
    refine q D os H3 sm (Same.free (s1.trans s2) nD) h3 ⟨?_, fun i => ?_⟩
    · rw [hos]
      refine List.Pairwise.filterMap _ (fun k j hkj u hu v hv => ?_) tries_pw
      rw [(hF k u hu).1, (hF j v hv).1]
      exact hkj
    · rw [hos, List.mem_filterMap]
      constructor
      · rintro ⟨k, hk, hj⟩
        obtain ⟨rfl, e, he, hs⟩ := hF k i hj
        exact ⟨hk, e, he, ((has.2 _).mp hs).2⟩
      · rintro ⟨hk, e, he, ha⟩
        refine ⟨i, hk, ?_⟩
        rw [he]
        exact if_pos ((has.2 _).mpr ⟨(hp.gm.ok _ (List.mem_of_getElem? he)).2.1, ha⟩)

/-- where a goal is not reached, an arrow is worth a try -/
theorem worth_ex {n : Nat} {es : Es} {gs rs ls : List Nat} (o : StdOk n es gs rs ls) {g : Nat} (hg : g ∈ gs) (hn : g ∉ rs) : Alive es gs rs ls g ∧ ∃ i, i ∈ triesL es rs ls ∧ ∃ e, es[i]? = some e ∧ Alive es gs rs ls e.2 := by
  have h0 : Alive es gs rs ls g := .base (mem_openG.mpr ⟨hg, hn⟩)
  refine ⟨h0, ?_⟩
  have key : g ∈ rs ∨ (Alive es gs rs ls g → ∃ i, i ∈ triesL es rs ls ∧ ∃ e, es[i]? = some e ∧ Alive es gs rs ls e.2) := by
    refine (o.opn g hg).ind (P := fun v => v ∈ rs ∨ (Alive es gs rs ls v → ∃ i, i ∈ triesL es rs ls ∧ ∃ e, es[i]? = some e ∧ Alive es gs rs ls e.2)) (fun v hv => ?_) fun u v ih e => ?_
    · rw [List.mem_singleton.mp hv]
      exact .inl o.r0
    · by_cases hv : v ∈ rs
      · exact .inl hv
      · refine .inr fun ha => ?_
        obtain ⟨k, hk, hkl⟩ := mem_leftV.mp e
        by_cases hu : u ∈ rs
        · exact ⟨k, mem_tries.mpr ⟨_, hk, hkl, hu, hv⟩, _, hk, ha⟩
        · rcases ih with ih | ih
          · exact absurd ih hu
          · refine ih (Rch.edge ha (List.mem_filterMap.mpr ⟨(u, v), List.mem_filterMap.mpr ⟨(u, v), e, ?_⟩, rfl⟩))
            unfold unrG
            exact if_pos ⟨hu, hv⟩
  rcases key with h | h
  · exact absurd h hn
  · exact h h0

theorem dp_prs {K : PySem.W.Frag} {H : Hp} : ∀ {pvs : List V} {es : Es}, Prs K H pvs es → DpAll K H pvs (es.map dE)
  | [], [], _ => .nil
  | [], _ :: _, p => absurd p.len (by simp)
  | _ :: _, [], p => absurd p.len (by simp)
  | v :: vs, e :: es, p => by
    obtain ⟨t, rfl, ht⟩ := p.at_ 0 v e rfl rfl
    refine .cons (.tup ht (.cons (.int _) (.cons (.int _) .nil))) (dp_prs ⟨?_, fun i v e a b => p.at_ (i + 1) v e ?_ ?_⟩)
    · have := p.len
      simpa using this
    · simpa using a
    · simpa using b
theorem MapOk.of {K : PySem.W.Frag} {C : Addr} {H : Hp} {p : Addr} {n : Nat} {a : Addr} {pvs : List V} {es : Es} {c : Addr} {gs : List Nat} (m : MapAt K C H p n a pvs c gs) (pr : Prs K H pvs es) (g : GoodMap n es gs) : MapOk K C H p n a pvs es c gs :=
  ⟨m, pr, by have := g.n2; omega, by have := g.n40; omega, by have := g.l60; omega, by have := g.gl2; have := g.n40; omega, fun e he => ⟨(g.ok e he).1, (g.ok e he).2.1⟩, fun x hx => (g.gl x hx).2⟩
theorem MapOk.dr {K : PySem.W.Frag} {C : Addr} {F H H' : Hp} {h p : Addr} {n : Nat} {a : Addr} {pvs : List V} {es : Es} {c : Addr} {gs : List Nat} (m : MapOk K C H p n a pvs es c gs) (d : Dr F H H' h) (hA : HandAt F H h) : MapOk K C H' p n a pvs es c gs := by
  obtain ⟨⟨dx, hp⟩, har, hgo⟩ := m.at_
  obtain ⟨cc, cells, i, r, s, k, h1, _⟩ := hA.ob
  exact ⟨⟨⟨dx, d.same _ _ (ne_of hp h1 (by intro z; cases z)) hp⟩, d.sqt hA har, d.sqt hA hgo⟩, m.pr.dr d hA, m.n0, m.n1, m.el, m.gn, m.ok, m.gl⟩

theorem StdAt.dr {K : PySem.W.Frag} {F H H' : Hp} {h t x y : Addr} {rs ls : List Nat} (s : StdAt K H t x y rs ls) (d : Dr F H H' h) (hA : HandAt F H h) : StdAt K H' t x y rs ls := ⟨d.sqt hA s.t, d.sqt hA s.x, d.sqt hA s.y⟩
theorem StdAt.upd {K : PySem.W.Frag} {H : Hp} {t x y p : Addr} {rs ls : List Nat} {ys : List V} {o : HO} (hp : H p = some (.lst ys)) (s : StdAt K H t x y rs ls) : StdAt K (upd H p o) t x y rs ls := ⟨sqt_upd hp s.t, sqt_upd hp s.x, sqt_upd hp s.y⟩
/-- a value that is a standing of the map -/
def IsSt (K : PySem.W.Frag) (H : Hp) (n : Nat) (es : Es) (gs : List Nat) (v : V) : Prop := ∃ (u x y : Addr) (rs ls : List Nat), v = .ref u ∧ StdAt K H u x y rs ls ∧ StdOk n es gs rs ls
theorem IsSt.same {K : PySem.W.Frag} {H H' : Hp} {n : Nat} {es : Es} {gs : List Nat} {v : V} (s : Same H H') (h : IsSt K H n es gs v) : IsSt K H' n es gs v := by
  obtain ⟨u, x, y, rs, ls, e, S, o⟩ := h
  exact ⟨u, x, y, rs, ls, e, S.same s, o⟩
theorem begin_ok {n : Nat} {es : Es} {gs : List Nat} (g : GoodMap n es gs) : StdOk n es gs [0] [] where
  rp := by simp
  lp := List.Pairwise.nil
  rn := fun r hr => by rw [List.mem_singleton.mp hr]; have := g.n2; omega
  ln := fun l hl => (List.not_mem_nil hl).elim
  r0 := List.mem_cons_self
  tl := fun l hl => (List.not_mem_nil hl).elim
  hold := fun r hr => .base hr
  opn := fun x hx => (g.rch x hx).mono (fun e he => by
    obtain ⟨k, hk⟩ := List.getElem?_of_mem he
    exact mem_leftV.mpr ⟨k, hk, List.not_mem_nil⟩) fun _ h => h

/-- check_standing of anything that may be handed in -/
def spCheckAny (K : PySem.W.Frag) (C CS : Addr) : Sp := fun vs H Q E => ∃ (p : Addr) (n : Nat) (a : Addr) (pvs : List V) (es : Es) (c : Addr) (gs : List Nat) (v : V) (R : Prop), vs = [.ref p, v] ∧ MapOk K C H p n a pvs es c gs ∧ StdRes K H n es gs v R ∧
  ∀ H', Same H H' → (R → Q .non H') ∧ (¬ R → E (.ref CS) none H')
theorem okx_check_standing {CMap CNoStanding : Addr} (T_NoStanding : Ex K mg "NoStanding" CNoStanding) (hg_is_standing : Has P w K mg base "is_standing" 4 ["chart", "thing"] (spStdAny K CMap)) (D0 : Df K mg "check_standing" s_check_standing ["chart", "thing"]) : HasX P w K mg base "check_standing" 5 ["chart", "thing"] (spCheckAny K CMap CNoStanding) := by
  refine D0.hasX fun f fd F => F.okX sc_check_standing (fun vs H Q E h => ?_) (fun cdv A outer s H vs Q E hr h => ?_)
  · obtain ⟨p, n, a, pvs, es, c, gs, v, R, rfl, _⟩ := h
    rfl
  · obtain ⟨p, n, a, pvs, es, c, gs, v, R, rfl, m, hR, q⟩ := h
    have h_is_standing := hg_is_standing
    refine ⟨_, (pss_one (ps_if (pt_not (pt_val (pcall h_is_standing hr (by decide) (by rfl) (pa_cons (pv 0) (pa_cons (pv 1) pa_nil)))))
    (pss_one (ps_raise0 T_NoStanding rfl (takes_of rfl rfl rfl rfl) (by rfl)))
    pss_nil)), ?_⟩
    refine ⟨_, rfl, _, rfl, p, n, a, pvs, es, c, gs, v, R, rfl, m, hR, fun H' b s' hb => ⟨_, rfl, ?_⟩⟩
    obtain ⟨q1, q2⟩ := q H' s'
    cases b with
    | true =>
      refine iteF ?_
      exact q1 (hb.mp rfl)
    | false =>
      refine iteT ?_
      exact q2 fun z => Bool.noConfusion (hb.mpr z)

/-- values of known kinds, no tuples -/
inductive Kn0 (K : PySem.W.Frag) (H : Hp) : V → Prop
  | non : Kn0 K H .non
  | bl (b : Bool) : Kn0 K H (.bl b)
  | int (i : Int) : Kn0 K H (.int i)
  | str (x : Str) : Kn0 K H (.str x)
  | lst {a : Addr} {xs : List V} (e : H a = some (.lst xs)) : Kn0 K H (.ref a)
  | dic {a : Addr} {kvs : List (Key × V)} (e : H a = some (.dK kvs)) : Kn0 K H (.ref a)
theorem Kn0.kn {K : PySem.W.Frag} {H : Hp} {v : V} (h : Kn0 K H v) : ∃ s, Kn K H v s ∧ (s == "tuple") = false := by
  cases h with
  | non => exact ⟨"NoneType", ⟨.base .non, by simp⟩, by decide⟩
  | bl b => exact ⟨"bool", ⟨.base (.bl b), by simp⟩, by decide⟩
  | int i => exact ⟨"int", ⟨.base (.int i), by simp⟩, by decide⟩
  | str x => exact ⟨"str", ⟨.base (.str x), by simp⟩, by decide⟩
  | lst e => exact ⟨"list", ⟨.base (.lst e), by simp⟩, by decide⟩
  | dic e => exact ⟨"dict", ⟨.base (.dK e), by simp⟩, by decide⟩
theorem Kn0.same {K : PySem.W.Frag} {H H' : Hp} {v : V} (s : Same H H') (h : Kn0 K H v) : Kn0 K H' v := by
  cases h with
  | non => exact .non
  | bl b => exact .bl b
  | int i => exact .int i
  | str x => exact .str x
  | lst e => exact .lst (s _ _ e)
  | dic e => exact .dic (s _ _ e)
/-- an item of a tuple: of a known kind -/
def KnI (K : PySem.W.Frag) (H : Hp) (v : V) : Prop := Kn0 K H v ∨ ∃ a xs, v = .ref a ∧ SqT K H a xs
theorem KnI.kn {K : PySem.W.Frag} {H : Hp} {v : V} (h : KnI K H v) : ∃ s, Kn K H v s := by
  rcases h with h | ⟨a, xs, rfl, h⟩
  · obtain ⟨s, h1, _⟩ := h.kn
    exact ⟨s, h1⟩
  · exact ⟨"tuple", kn_of_tup h⟩
theorem KnI.same {K : PySem.W.Frag} {H H' : Hp} {v : V} (s : Same H H') (h : KnI K H v) : KnI K H' v := by
  rcases h with h | ⟨a, xs, rfl, h⟩
  · exact .inl (h.same s)
  · exact .inr ⟨a, xs, rfl, Same.sqt s h⟩
theorem knI_nat {K : PySem.W.Frag} {H : Hp} {ls : List Nat} : ∀ x ∈ ls.map nV, KnI K H x := fun x hx => by
  obtain ⟨z, _, rfl⟩ := List.mem_map.mp hx
  exact .inl (.int _)
/-- what may be handed in as a lot -/
def Thing (K : PySem.W.Frag) (H : Hp) (v : V) : Prop := (∃ a xs, v = .ref a ∧ SqT K H a xs ∧ xs.length ≤ 1000 ∧ ∀ x ∈ xs, KnI K H x) ∨ Kn0 K H v
theorem Thing.same {K : PySem.W.Frag} {H H' : Hp} {v : V} (s : Same H H') (h : Thing K H v) : Thing K H' v := by
  rcases h with ⟨a, xs, rfl, h1, h2, h3⟩ | h
  · exact .inl ⟨a, xs, rfl, Same.sqt s h1, h2, fun x hx => (h3 x hx).same s⟩
  · exact .inr (h.same s)
/-- the items are a lot of numbers below m -/
def LotX (m : Nat) (xs : List V) : Prop := ∃ ls : List Nat, xs = ls.map nV ∧ ls.Pairwise (· < ·) ∧ ∀ l ∈ ls, l < m
theorem lotX_iff {m : Nat} {xs : List V} : LotX m xs ↔ lotFrom (m : Int) (-1) xs = true := by
  constructor
  · rintro ⟨ls, rfl, h1, h2⟩
    exact lot_of (fun g hg => ⟨by have := h2 g hg; omega, by omega⟩) h1
  · intro h
    obtain ⟨ls, e, h1, h2⟩ := lot_nat (by omega) h
    exact ⟨ls, e, h2, fun l hl => by have := (h1 l hl).1; omega⟩
theorem map_nV_inj {as bs : List Nat} (h : as.map nV = bs.map nV) : as = bs :=
  (List.map_inj_right fun x y z => by
    have z' : V.int (x : Int) = V.int (y : Int) := z
    injection z' with z'
    omega).mp h
def WorldX (es : Es) (gs : List Nat) (xs : List V) : Prop := ∃ ls : List Nat, xs = ls.map nV ∧ ls.Pairwise (· < ·) ∧ (∀ l ∈ ls, l < es.length) ∧ ∀ g ∈ gs, Rch (left es ls) [0] g

/-- a tuple of at most n items of known kinds -/
def TupK (K : PySem.W.Frag) (H : Hp) (v : V) (n : Nat) : Prop := ∃ a xs, v = .ref a ∧ SqT K H a xs ∧ xs.length ≤ n ∧ ∀ x ∈ xs, KnI K H x
theorem TupK.same {K : PySem.W.Frag} {H H' : Hp} {v : V} {n : Nat} (h : TupK K H v n) (s : Same H H') : TupK K H' v n := by
  obtain ⟨a, xs, rfl, h1, h2, h3⟩ := h
  exact ⟨a, xs, rfl, Same.sqt s h1, h2, fun x hx => (h3 x hx).same s⟩
theorem TupK.thing {K : PySem.W.Frag} {H : Hp} {v : V} {n : Nat} (h : TupK K H v n) (hn : n ≤ 1000) : Thing K H v := by
  obtain ⟨a, xs, rfl, h1, h2, h3⟩ := h
  exact .inl ⟨a, xs, rfl, h1, by omega, h3⟩
theorem Kn0.updl {K : PySem.W.Frag} {H : Hp} {l : Addr} {ys zs : List V} {v : V} (hl : H l = some (.lst ys)) (h : Kn0 K H v) : Kn0 K (upd H l (.lst zs)) v := by
  cases h with
  | non => exact .non
  | bl b => exact .bl b
  | int i => exact .int i
  | str x => exact .str x
  | @lst a xs e =>
    by_cases ha : a = l
    · subst ha
      exact .lst upd_same
    · exact .lst (by rw [upd_ne ha]; exact e)
  | @dic a kvs e => exact .dic (by rw [upd_ne (ne_of e hl (by intro z; cases z))]; exact e)
theorem KnI.updl {K : PySem.W.Frag} {H : Hp} {l : Addr} {ys zs : List V} {v : V} (hl : H l = some (.lst ys)) (h : KnI K H v) : KnI K (upd H l (.lst zs)) v := by
  rcases h with h | ⟨a, xs, rfl, h⟩
  · exact .inl (h.updl hl)
  · exact .inr ⟨a, xs, rfl, sqt_upd hl h⟩
theorem TupK.updl {K : PySem.W.Frag} {H : Hp} {l : Addr} {ys zs : List V} {v : V} {n : Nat} (hl : H l = some (.lst ys)) (h : TupK K H v n) : TupK K (upd H l (.lst zs)) v n := by
  obtain ⟨a, xs, rfl, h1, h2, h3⟩ := h
  exact ⟨a, xs, rfl, sqt_upd hl h1, h2, fun x hx => (h3 x hx).updl hl⟩
theorem Thing.updl {K : PySem.W.Frag} {H : Hp} {l : Addr} {ys zs : List V} {v : V} (hl : H l = some (.lst ys)) (h : Thing K H v) : Thing K (upd H l (.lst zs)) v := by
  rcases h with h | h
  · exact .inl (TupK.updl hl h)
  · exact .inr (h.updl hl)
theorem Kn0.dr {K : PySem.W.Frag} {F H H' : Hp} {h : Addr} {v : V} (d : Dr F H H' h) (hA : HandAt F H h) (k : Kn0 K H v) : Kn0 K H' v := by
  obtain ⟨c, cells, i, r, s', k', h1, _⟩ := hA.ob
  cases k with
  | non => exact .non
  | bl b => exact .bl b
  | int i => exact .int i
  | str x => exact .str x
  | @lst a xs e =>
    by_cases ha : a = h
    · obtain ⟨c, cells, i, r, s', k', h2, _⟩ := d.hand.ob
      rw [ha]
      exact .lst h2
    · exact .lst (d.same _ _ ha e)
  | @dic a kvs e => exact .dic (d.same _ _ (ne_of e h1 (by intro z; cases z)) e)
theorem KnI.dr {K : PySem.W.Frag} {F H H' : Hp} {h : Addr} {v : V} (d : Dr F H H' h) (hA : HandAt F H h) (k : KnI K H v) : KnI K H' v := by
  rcases k with k | ⟨a, xs, rfl, k⟩
  · exact .inl (k.dr d hA)
  · exact .inr ⟨a, xs, rfl, d.sqt hA k⟩
theorem TupK.dr {K : PySem.W.Frag} {F H H' : Hp} {h : Addr} {v : V} {n : Nat} (d : Dr F H H' h) (hA : HandAt F H h) (k : TupK K H v n) : TupK K H' v n := by
  obtain ⟨a, xs, rfl, h1, h2, h3⟩ := k
  exact ⟨a, xs, rfl, d.sqt hA h1, h2, fun x hx => (h3 x hx).dr d hA⟩
theorem Thing.dr {K : PySem.W.Frag} {F H H' : Hp} {h : Addr} {v : V} (d : Dr F H H' h) (hA : HandAt F H h) (k : Thing K H v) : Thing K H' v := by
  rcases k with k | k
  · exact .inl (TupK.dr d hA k)
  · exact .inr (k.dr d hA)
theorem sl_tk {K : PySem.W.Frag} {H : Hp} {v : V} {n : Nat} {lo hi : Option Int} {Q : VK} (h : TupK K H v n) (q : ∀ d H', Same H H' → TupK K H' d n → Q d H') : rSlA K v lo hi H Q := by
  obtain ⟨a, xs, rfl, h1, h2, h3⟩ := h
  refine ⟨a, xs, rfl, h1, fun _ => q _ H (Same.refl H) ⟨a, xs, rfl, h1, h2, h3⟩, fun _ p np => ?_⟩
  have s := same_new (o := .tup (cutV xs lo hi)) (Same.refl H) np
  refine q _ _ s ⟨p, _, rfl, sqt upd_same, ?_, fun x hx => (h3 x ?_).same s⟩
  · unfold cutV
    rw [List.length_take, List.length_drop]
    omega
  · unfold cutV at hx
    first
      | exact List.mem_of_mem_drop (List.mem_of_mem_take hx)
      | exact List.mem_of_mem_take (List.mem_of_mem_drop hx)
theorem cat_tk {K : PySem.W.Frag} {H : Hp} {x y : V} {n m : Nat} {Q : VK} (hx : TupK K H x n) (hy : TupK K H y m) (hl : n + m ≤ 1000) (q : ∀ d H', Same H H' → TupK K H' d (n + m) → Q d H') : rCatA K x y H Q := by
  obtain ⟨a, xs, rfl, h1, h2, h3⟩ := hx
  obtain ⟨b, ys, rfl, k1, k2, k3⟩ := hy
  refine ⟨a, b, xs, ys, rfl, rfl, h1, k1, small_sz (by omega), fun e => q _ H (Same.refl H) ⟨b, ys, rfl, k1, by omega, k3⟩, fun _ e => q _ H (Same.refl H) ⟨a, xs, rfl, h1, by omega, h3⟩, fun _ _ p np => ?_⟩
  have s := same_new (o := .tup (xs ++ ys)) (Same.refl H) np
  refine q _ _ s ⟨p, _, rfl, sqt upd_same, by rw [List.length_append]; omega, fun z hz => ?_⟩
  rcases List.mem_append.mp hz with hz | hz
  · exact (h3 z hz).same s
  · exact (k3 z hz).same s
theorem tup1_tk {K : PySem.W.Frag} {H : Hp} {p : Addr} {x : V} (np : H p = none) (hx : KnI K H x) : TupK K (upd H p (.tup [x])) (.ref p) 1 :=
  ⟨p, _, rfl, sqt upd_same, Nat.le_refl _, fun z hz => by rw [List.mem_singleton.mp hz]; exact hx.same (same_new (Same.refl H) np)⟩
theorem tup2_tk {K : PySem.W.Frag} {H : Hp} {p : Addr} {x y : V} (np : H p = none) (hx : KnI K H x) (hy : KnI K H y) : TupK K (upd H p (.tup [x, y])) (.ref p) 2 :=
  ⟨p, _, rfl, sqt upd_same, Nat.le_refl _, fun z hz => by
    have s := same_new (o := .tup [x, y]) (Same.refl H) np
    rcases List.mem_cons.mp hz with rfl | hz
    · exact hx.same s
    · rw [List.mem_singleton.mp hz]
      exact hy.same s⟩
theorem TupK.kni {K : PySem.W.Frag} {H : Hp} {v : V} {n : Nat} (h : TupK K H v n) : KnI K H v := by
  obtain ⟨a, xs, rfl, h1, _⟩ := h
  exact .inr ⟨a, xs, rfl, h1⟩
/-- all of them may be handed in -/
def Ths (K : PySem.W.Frag) (H : Hp) (vs : List V) : Prop := ∀ v ∈ vs, Thing K H v
theorem Ths.same {K : PySem.W.Frag} {H H' : Hp} {vs : List V} (h : Ths K H vs) (s : Same H H') : Ths K H' vs := fun v hv => (h v hv).same s
theorem Ths.cons {K : PySem.W.Frag} {H : Hp} {v : V} {vs : List V} (h : Thing K H v) (hs : Ths K H vs) : Ths K H (v :: vs) := fun x hx => by
  rcases List.mem_cons.mp hx with rfl | hx
  · exact h
  · exact hs x hx
theorem Ths.snoc {K : PySem.W.Frag} {H : Hp} {v : V} {vs : List V} (hs : Ths K H vs) (h : Thing K H v) : Ths K H (vs ++ [v]) := fun x hx => by
  rcases List.mem_append.mp hx with hx | hx
  · exact hs x hx
  · rw [List.mem_singleton.mp hx]
    exact h
theorem Ths.app {K : PySem.W.Frag} {H : Hp} {vs ws : List V} (h : Ths K H vs) (hs : Ths K H ws) : Ths K H (vs ++ ws) := fun x hx => by
  rcases List.mem_append.mp hx with hx | hx
  · exact h x hx
  · exact hs x hx
theorem ths_nil {K : PySem.W.Frag} {H : Hp} : Ths K H [] := fun _ h => (List.not_mem_nil h).elim
theorem log_small {n : Nat} (h : n < 2 ^ 1000) : n.log2 < 1920 := by
  by_cases h0 : n = 0
  · subst h0
    decide
  · have := (Nat.log2_lt h0).mpr h
    omega

theorem ix_ex {xs : List V} {k : Int} (h0 : 0 ≤ k) (h1 : k < (xs.length : Int)) : ∃ v, atI xs k = some v ∧ v ∈ xs := by
  obtain ⟨j, rfl⟩ : ∃ j : Nat, k = (j : Int) := ⟨k.toNat, by omega⟩
  have hj : j < xs.length := by omega
  exact ⟨xs[j], atI_nat (List.getElem?_eq_getElem hj), List.getElem_mem hj⟩
theorem Kn0.kns {K : PySem.W.Frag} {H : Hp} {v : V} (h : Kn0 K H v) : ∃ s, (s == "tuple") = false ∧ ((∀ b, v ≠ .bl b) → (s == "bool") = false) ∧ ∀ H', Same H H' → Kn K H' v s := by
  cases h with
  | non => exact ⟨"NoneType", by decide, fun _ => by decide, fun H' _ => ⟨.base .non, by simp⟩⟩
  | bl b => exact ⟨"bool", by decide, fun z => absurd rfl (z b), fun H' _ => ⟨.base (.bl b), by simp⟩⟩
  | int i => exact ⟨"int", by decide, fun _ => by decide, fun H' _ => ⟨.base (.int i), by simp⟩⟩
  | str x => exact ⟨"str", by decide, fun _ => by decide, fun H' _ => ⟨.base (.str x), by simp⟩⟩
  | lst e => exact ⟨"list", by decide, fun _ => by decide, fun H' s => ⟨.base (.lst (s _ _ e)), by simp⟩⟩
  | dic e => exact ⟨"dict", by decide, fun _ => by decide, fun H' s => ⟨.base (.dK (s _ _ e)), by simp⟩⟩
theorem KnI.kns {K : PySem.W.Frag} {H : Hp} {v : V} (h : KnI K H v) : ∃ s, ((∀ b, v ≠ .bl b) → (s == "bool") = false) ∧ ∀ H', Same H H' → Kn K H' v s := by
  rcases h with h | ⟨a, xs, rfl, h⟩
  · obtain ⟨s, _, h1, h2⟩ := h.kns
    exact ⟨s, h1, h2⟩
  · exact ⟨"tuple", fun _ => by decide, fun H' s => kn_of_tup (Same.sqt s h)⟩
theorem idx_hi {i m : Int} (h : m ≤ i) : idxV (.int i) m = false := by
  show (decide (0 ≤ i) && decide (i < m)) = false
  rw [decide_eq_false (p := i < m) (by omega), Bool.and_false]
theorem idx_lo {i m : Int} (h : i < 0) : idxV (.int i) m = false := by
  show (decide (0 ≤ i) && decide (i < m)) = false
  rw [decide_eq_false (p := 0 ≤ i) (by omega), Bool.false_and]
theorem idx_in {i m : Int} (h0 : 0 ≤ i) (h1 : i < m) : idxV (.int i) m = true := by
  show (decide (0 ≤ i) && decide (i < m)) = true
  rw [decide_eq_true h0, decide_eq_true h1, Bool.and_true]
theorem upd_of_same {X : Hp} {p : Addr} {o : HO} (_ : Same X (upd X p o)) : upd X p o p = some o := upd_same

/-- how far the head of an arrow is from an unreached goal -/
def HD (es : Es) (gs rs ls : List Nat) (k d : Nat) : Prop := ∃ e, es[k]? = some e ∧ Dst (backE es rs ls) (openG gs rs) e.2 d
theorem HD.inj {es : Es} {gs rs ls : List Nat} {k d d' : Nat} (h : HD es gs rs ls k d) (h' : HD es gs rs ls k d') : d = d' := by
  obtain ⟨e, h1, h2⟩ := h
  obtain ⟨e', h3, h4⟩ := h'
  rw [h1] at h3
  cases h3
  exact h2.inj h4
def WorthS (es : Es) (gs rs ls W : List Nat) : Prop := W.Pairwise (· < ·) ∧ ∀ i, i ∈ W ↔ i ∈ triesL es rs ls ∧ ∃ e, es[i]? = some e ∧ Alive es gs rs ls e.2
inductive Nm
  | first
  | last
  | all
  | near
  | far
def Nm.str : Nm → Str
  | .first => "first"
  | .last => "last"
  | .all => "all"
  | .near => "near"
  | .far => "far"
/-- what a named plan sends, where something is worth a try -/
def SentN (es : Es) (gs rs ls W : List Nat) : Nm → List Nat → Prop
  | .all, ds => ds = W
  | .first, ds => ∃ k, ds = [k] ∧ k ∈ W ∧ ∀ j ∈ W, k ≤ j
  | .last, ds => ∃ k, ds = [k] ∧ k ∈ W ∧ ∀ j ∈ W, j ≤ k
  | .near, ds => ∃ k d, ds = [k] ∧ k ∈ W ∧ HD es gs rs ls k d ∧ ∀ j ∈ W, ∀ dj, HD es gs rs ls j dj → d ≤ dj ∧ (dj = d → k ≤ j)
  | .far, ds => ∃ k d, ds = [k] ∧ k ∈ W ∧ HD es gs rs ls k d ∧ ∀ j ∈ W, ∀ dj, HD es gs rs ls j dj → dj ≤ d ∧ (dj = d → k ≤ j)
def SentR (es : Es) (gs rs ls W : List Nat) (nm : Nm) (ds : List Nat) : Prop := (W = [] ∧ ds = []) ∨ (W ≠ [] ∧ SentN es gs rs ls W nm ds)
theorem SentR.uniq {es : Es} {gs rs ls W ds ds' : List Nat} {nm : Nm} (h : SentR es gs rs ls W nm ds) (h' : SentR es gs rs ls W nm ds') : ds = ds' := by
  rcases h with ⟨e, rfl⟩ | ⟨ne, h⟩
  · rcases h' with ⟨_, rfl⟩ | ⟨ne, _⟩
    · rfl
    · exact absurd e ne
  · rcases h' with ⟨e, rfl⟩ | ⟨_, h'⟩
    · exact absurd e ne
    · cases nm with
      | all => exact h.trans h'.symm
      | first =>
        obtain ⟨k, rfl, h1, h2⟩ := h
        obtain ⟨k', rfl, h3, h4⟩ := h'
        rw [Nat.le_antisymm (h2 _ h3) (h4 _ h1)]
      | last =>
        obtain ⟨k, rfl, h1, h2⟩ := h
        obtain ⟨k', rfl, h3, h4⟩ := h'
        rw [Nat.le_antisymm (h4 _ h1) (h2 _ h3)]
      | near =>
        obtain ⟨k, d, rfl, h1, hd, h2⟩ := h
        obtain ⟨k', d', rfl, h3, hd', h4⟩ := h'
        have a := h2 _ h3 _ hd'
        have b := h4 _ h1 _ hd
        have e : d' = d := Nat.le_antisymm b.1 a.1
        rw [Nat.le_antisymm (a.2 e) (b.2 e.symm)]
      | far =>
        obtain ⟨k, d, rfl, h1, hd, h2⟩ := h
        obtain ⟨k', d', rfl, h3, hd', h4⟩ := h'
        have a := h2 _ h3 _ hd'
        have b := h4 _ h1 _ hd
        have e : d' = d := Nat.le_antisymm a.1 b.1
        rw [Nat.le_antisymm (a.2 e) (b.2 e.symm)]
theorem WorthS.len {es : Es} {gs rs ls W : List Nat} (h : WorthS es gs rs ls W) : W.length ≤ es.length - 0 := pw_len h.1 fun z hz => ⟨Nat.zero_le _, by
  obtain ⟨e, he, _⟩ := mem_tries.mp ((h.2 z).mp hz).1
  exact (List.getElem?_eq_some_iff.mp he).1⟩
/-- the first of the least (greatest) -/
theorem first_edge {es : Es} {gs rs ls W : List Nat} (hW : WorthS es gs rs ls W) {F : List Nat} (hF : ∀ (i k d : Nat), W[i]? = some k → F[i]? = some d → HD es gs rs ls k d) (hl : F.length = W.length) {i : Nat} {d k : Nat} (hi : F[i]? = some d) (hk : W[i]? = some k)
    (hno : ∀ j, j < i → F[j]? ≠ some d) {j : Nat} (hj : j ∈ W) {dj : Nat} (hd : HD es gs rs ls j dj) : dj ∈ F ∧ (dj = d → k ≤ j) := by
  obtain ⟨m, hm⟩ := List.getElem?_of_mem hj
  have hmF : F[m]? = some (F[m]'(by have := (List.getElem?_eq_some_iff.mp hm).1; omega)) := List.getElem?_eq_getElem _
  have e := (hF m j _ hm hmF).inj hd
  refine ⟨by rw [← e]; exact List.getElem_mem _, fun z => ?_⟩
  have him : i ≤ m := Nat.le_of_not_lt fun q => hno m q (by rw [hmF, e, z])
  obtain ⟨hi', e1⟩ := List.getElem?_eq_some_iff.mp hk
  obtain ⟨hm', e2⟩ := List.getElem?_eq_some_iff.mp hm
  rcases Nat.lt_or_eq_of_le him with q | q
  · rw [← e1, ← e2]
    exact Nat.le_of_lt (List.pairwise_iff_getElem.mp hW.1 i m hi' hm' q)
  · subst q
    rw [← e1, ← e2]
    exact Nat.le_refl _
theorem first_at {d : Nat} : ∀ {F : List Nat}, d ∈ F → ∃ i : Nat, F[i]? = some d ∧ ∀ j : Nat, j < i → F[j]? ≠ some d
  | [], h => (List.not_mem_nil h).elim
  | x :: F, h => by
    by_cases e : x = d
    · subst e
      exact ⟨0, rfl, fun j hj => absurd hj (Nat.not_lt_zero j)⟩
    · rcases List.mem_cons.mp h with h | h
      · exact absurd h.symm e
      · obtain ⟨i, h1, h2⟩ := first_at h
        refine ⟨i + 1, h1, fun j hj => ?_⟩
        cases j with
        | zero => exact fun z => e (Option.some.inj z)
        | succ j => exact h2 j (by omega)
theorem nm_eq {nm : Nm} {b : Nm} : decide (V.str nm.str = V.str b.str) = (match nm, b with | .first, .first | .last, .last | .all, .all | .near, .near | .far, .far => true | _, _ => false) := by
  have key : (V.str nm.str = V.str b.str) ↔ nm.str = b.str := ⟨fun h => V.str.inj h, fun h => by rw [h]⟩
  cases nm <;> cases b <;> first
    | exact decide_eq_true rfl
    | exact decide_eq_false fun z => absurd (key.mp z) (by decide +kernel)
/-- the distance, as a number -/
def hdN (es : Es) (st : Nat → Option Nat) (k : Nat) : Nat := match es[k]? with
  | some e => (st e.2).getD 0
  | none => 0
theorem hdN_hd {n : Nat} {es : Es} {gs rs ls W : List Nat} {st : Nat → Option Nat} (hst : ∀ u, u < n → (∀ d, st u = some d ↔ Dst (backE es rs ls) (openG gs rs) u d) ∧ (st u = none ↔ ¬ Rch (backE es rs ls) (openG gs rs) u)) (ok : ∀ e ∈ es, e.1 < n ∧ e.2 < n)
    (hW : WorthS es gs rs ls W) {k : Nat} (hk : k ∈ W) : ∃ e, es[k]? = some e ∧ st e.2 = some (hdN es st k) ∧ HD es gs rs ls k (hdN es st k) := by
  obtain ⟨_, e, he, ha⟩ := (hW.2 k).mp hk
  have hen := (ok e (List.mem_of_getElem? he)).2
  cases e2 : st e.2 with
  | none => exact absurd ha ((hst _ hen).2.mp e2)
  | some d =>
    have e3 : hdN es st k = d := by
      unfold hdN
      rw [he]
      show (st e.2).getD 0 = d
      rw [e2]
      rfl
    rw [e3]
    exact ⟨e, he, e2, e, he, ((hst _ hen).1 d).mp e2⟩
theorem int_map (W : List Nat) (f : Nat → Nat) : W.map (fun k => nV (f k)) = (W.map fun k => ((f k : Nat) : Int)).map V.int := by
  rw [List.map_map]
  rfl

abbrev s_sent_by : Stmt := topS 34
abbrev sl_sent_by : List Str := ["chart", "name", "standing", "worthy", "steps", "numbers", "best", "arrow"]
theorem sc_sent_by : FnScope ["chart", "name", "standing", "worthy", "steps", "numbers", "best", "arrow"] ["chart", "name", "standing"] (defScope s_sent_by) := ⟨rfl, rfl, rfl, by decide +kernel, rfl, by decide +kernel, by decide +kernel⟩
theorem kn_of_str {K : PySem.W.Frag} {H : Hp} {s : Str} : Kn K H (.str s) "str" := ⟨.base (.str s), by simp⟩
def namesV : List V := [.str "first", .str "last", .str "all", .str "near", .str "far"]
def spSent (K : PySem.W.Frag) (C : Addr) : Sp := fun vs H Q _ => ∃ (p : Addr) (n : Nat) (a : Addr) (pvs : List V) (es : Es) (c : Addr) (gs : List Nat) (t x y : Addr) (rs ls : List Nat) (nm : Nm), vs = [.ref p, .str nm.str, .ref t] ∧ At K C H p n a pvs es c gs t x y rs ls ∧
  ∀ (z : Addr) (ds W : List Nat) (H' : Hp), Same H H' → H' z = some (.tup (ds.map nV)) → WorthS es gs rs ls W → SentR es gs rs ls W nm ds → Q (.ref z) H'
theorem ok_sent_by {CMap ANAMES : Addr} (B : Bt mg) (C : MapC K mg CMap) (G_NAMES : GTup K mg "NAMES" ANAMES [.str "first", .str "last", .str "all", .str "near", .str "far"]) (h_check_standing : Has P w K mg base "check_standing" 5 ["chart", "thing"] (spCheck K CMap))
    (h_worth_at : Has P w K mg base "worth_at" 5 ["chart", "standing"] (spOf K CMap RWorth)) (h_steps_to_go : Has P w K mg base "steps_to_go" 4 ["chart", "standing"] (spOf K CMap RGo)) (h_arrows : HasM P w K mg base CMap "arrows" 1 ["self"] (spArrows K CMap))
    (D0 : Df K mg "sent_by" s_sent_by ["chart", "name", "standing"]) : Has P w K mg base "sent_by" 6 ["chart", "name", "standing"] (spSent K CMap) := by
  refine D0.has fun f fd F => F.ok sc_sent_by (fun vs H Q E h => ?_) (fun cdv A outer s H vs Q E hr h => ?_)
  · obtain ⟨p, n, a, pvs, es, c, gs, t, x, y, rs, ls, nm, rfl, _⟩ := h
    rfl
  · obtain ⟨p, n, a, pvs, es, c, gs, t, x, y, rs, ls, nm, rfl, hh, q⟩ := h
    refine ⟨_, (pss_cons (ps_if (PW.pt (pw_or (pt_not (pt_val (pe_callB (k_isi (K := K) rfl) (by rfl) B.isinstance bo_isinstance (pa_cons (pv 1) (pa_cons (pe_bltn (v := .ty "str") (by rfl) B.str bo_str rfl) pa_nil))))) (pw_or1 (pt_cmpR (k_notin (K := K) rfl) (pv 1) (pe_glob (v := .ref ANAMES) (by rfl) G_NAMES.g rfl) (by rfl)))))
    (pss_one ps_never)
    pss_nil)
  (pss_cons (ps_expr (pcall h_check_standing hr (by decide) (by rfl) (pa_cons (pv 0) (pa_cons (pv 2) pa_nil))))
  (pss_cons (ps_set (i := 3) sc_sent_by.nd rfl (.inl rfl) (pcall h_worth_at hr (by decide) (by rfl) (pa_cons (pv 0) (pa_cons (pv 2) pa_nil))))
  (pss_cons (ps_if (PW.pt (pw_or (pt_cmpR op_eq (pe_callB (k_len (K := K) rfl) (by rfl) B.len bo_len (pa_cons (pv 3) pa_nil)) pe_int (nomark _)) (pw_or1 (pt_cmpR op_eq (pv 1) pe_str (nomark _)))))
    (pss_one (ps_ret (pv 3)))
    pss_nil)
  (pss_cons (ps_if (pt_cmpR op_eq (pv 1) pe_str (nomark _))
    (pss_one (ps_ret (pe_tup (pa_cons (pe_ix (k_ixt (K := K) rfl) (pv 3) pe_int (fun _ _ => rfl)) pa_nil))))
    pss_nil)
  (pss_cons (ps_if (pt_cmpR op_eq (pv 1) pe_str (nomark _))
    (pss_one (ps_ret (pe_tup (pa_cons (pe_ix (k_ixt (K := K) rfl) (pv 3) (pe_un un_neg pe_int) (fun _ _ => rfl)) pa_nil))))
    pss_nil)
  (pss_cons (ps_set (i := 4) sc_sent_by.nd rfl (.inr rfl) (pcall h_steps_to_go hr (by decide) (by rfl) (pa_cons (pv 0) (pa_cons (pv 2) pa_nil))))
  (pss_cons (ps_setLc (i := 5) (own := [("arrow", 7)]) (g := gName 7) rfl sc_sent_by.nd rfl rfl (sw_true rfl rfl rfl (by decide +kernel)) (k_pit (K := K) rfl (pv 3)) (blkOk_by (N := sl_sent_by) (sc := defScope s_sent_by) (by decide +kernel)) (fun _ _ _ _ _ => (pg_name (i := 7) sc_sent_by.nd rfl (.inl rfl))) (fun _ _ _ _ _ => pts_nil) (fun _ _ _ _ _ => (pe_ix (k_ixl (K := K) rfl) (pv 4) (pe_ix (k_ixt (K := K) rfl) (pe_ix (k_ixt (K := K) rfl) (pe_meth0 (pv 0) C.cl h_arrows.mt h_arrows.F (hr.mono (by decide)) h_arrows.b .nil pass0) (pv 7) (fun _ _ => rfl)) pe_int (fun _ _ => rfl)) (fun _ _ => rfl))))
  (pss_cons (ps_set (i := 6) sc_sent_by.nd rfl (.inl rfl) (pe_ifExp (pt_cmpR op_eq (pv 1) pe_str (nomark _)) (pe_callB (k_min (K := K) rfl rfl) (by rfl) B.min bo_min (pa_cons (pv 5) pa_nil)) (pe_callB (k_max (K := K) rfl rfl) (by rfl) B.max bo_max (pa_cons (pv 5) pa_nil))))
  (pss_one (ps_ret (pe_tup (pa_cons (pe_ix (k_ixt (K := K) rfl) (pv 3) (pe_bm PySem.F.plainAttrs_list PySem.F.slot_list_index PySem.F.type_list_index mt_index (pv 5) (pa_cons (pv 6) pa_nil)) (fun _ _ => rfl)) pa_nil))))))))))))), ?_⟩
    have hl := hh.m.pr.len
    have hel := hh.m.el
    refine ⟨_, rfl, _, .ty "str", _, _, _, rfl, .ty "str", (kn_of_str (K := K) (H := H) (s := nm.str)).ty, kit_str (kn_of_str (K := K) (H := H) (s := nm.str)).mem, _, rfl, iteF ?_⟩
    refine ⟨_, rfl, ANAMES, _, rfl, .inr (G_NAMES.t _), rfl, rfl, _, rfl, ?_⟩
    have e1 : inV (V.str nm.str) [.str "first", .str "last", .str "all", .str "near", .str "far"] = true := by cases nm <;> decide +kernel
    rw [if_pos rfl, e1]
    refine iteF ?_
    refine ⟨_, rfl, _, rfl, p, n, a, pvs, es, c, gs, t, x, y, rs, ls, rfl, hh.m, hh.S, hh.o, fun H1 s1 => ?_⟩
    have h1 := hh.same s1
    refine ⟨_, rfl, _, rfl, p, n, a, pvs, es, c, gs, t, x, y, rs, ls, rfl, h1, fun v H2 s2 hv => ?_⟩
    obtain ⟨w0, W, rfl, nw, hw, hpw, hmem⟩ := hv
    have hWS : WorthS es gs rs ls W := ⟨hpw, hmem⟩
    have hWl := hWS.len
    have h2 := h1.same s2
    have s12 := s1.trans s2
    refine ⟨_, rfl, w0, _, rfl, .inr (sqt hw), rfl, _, rfl, ?_⟩
    by_cases hW0 : W = []
    · subst hW0
      rw [decide_eq_true (show V.int (((([] : List Nat).map nV).length : Nat) : Int) = V.int 0 from rfl)]
      refine iteT (iteT ?_)
      exact ⟨_, rfl, q w0 [] [] H2 s12 hw hWS (.inl ⟨rfl, rfl⟩)⟩
    have hW1 : ¬ V.int (((W.map nV).length : Nat) : Int) = V.int 0 := fun z => by
      injection z with z
      rw [List.length_map] at z
      exact hW0 (List.eq_nil_of_length_eq_zero (by omega))
    rw [decide_eq_false hW1]
    refine iteF ?_
    refine ⟨_, rfl, rfl, _, rfl, ?_⟩
    have eA : decide (V.str nm.str = V.str ("all" : Str)) = _ := nm_eq (b := .all)
    rw [eA]
    have fin : ∀ {z : Addr} {ds : List Nat} {H' : Hp}, Same H2 H' → H' z = some (.tup (ds.map nV)) → SentN es gs rs ls W nm ds → Q (.ref z) H' := fun s hz h => q _ _ W _ (s12.trans s) hz hWS (.inr ⟨hW0, h⟩)
    cases nm with
    | all => exact iteT ⟨_, rfl, fin (Same.refl _) hw rfl⟩
    | first =>
      refine iteF ?_
      refine ⟨_, rfl, rfl, _, rfl, ?_⟩
      have eF : decide (V.str Nm.first.str = V.str ("first" : Str)) = _ := nm_eq (b := .first)
      rw [eF]
      obtain ⟨k, r, rfl⟩ := List.exists_cons_of_ne_nil hW0
      refine iteT ?_
      refine ⟨_, rfl, w0, _, (0 : Nat), nV k, rfl, rfl, sqt hw, atI_nat rfl, by show 1 ≤ sizeLine; decide, fun z nz => ?_⟩
      refine fin (ds := [k]) (same_new (Same.refl _) nz) upd_same ⟨k, rfl, List.mem_cons_self, fun j hj => ?_⟩
      rcases List.mem_cons.mp hj with rfl | hj
      · exact Nat.le_refl _
      · exact Nat.le_of_lt (List.rel_of_pairwise_cons hpw hj)
    | last =>
      refine iteF ?_
      refine ⟨_, rfl, rfl, _, rfl, ?_⟩
      have eF : decide (V.str Nm.last.str = V.str ("first" : Str)) = _ := nm_eq (b := .first)
      rw [eF]
      refine iteF ?_
      refine ⟨_, rfl, rfl, _, rfl, ?_⟩
      have eL : decide (V.str Nm.last.str = V.str ("last" : Str)) = _ := nm_eq (b := .last)
      rw [eL]
      refine iteT ?_
      obtain ⟨I, k, rfl⟩ : ∃ I k, W = I ++ [k] := ⟨W.dropLast, W.getLast hW0, (List.dropLast_concat_getLast hW0).symm⟩
      have hlast : atI ((I ++ [k]).map nV) (-1) = some (nV k) := by
        rw [List.map_append]
        exact atI_last (I.map nV) (nV k)
      refine ⟨_, rfl, 1, rfl, w0, _, (-1 : Int), nV k, rfl, rfl, sqt hw, hlast, by show 1 ≤ sizeLine; decide, fun z nz => ?_⟩
      refine fin (ds := [k]) (same_new (Same.refl _) nz) upd_same ⟨k, rfl, List.mem_append_right _ List.mem_cons_self, fun j hj => ?_⟩
      rcases List.mem_append.mp hj with hj | hj
      · exact Nat.le_of_lt ((List.pairwise_append.mp hpw).2.2 j hj _ List.mem_cons_self)
      · rw [List.mem_singleton.mp hj]
        exact Nat.le_refl _
    | near =>
      refine iteF ?_
      refine ⟨_, rfl, rfl, _, rfl, ?_⟩
      have eF : decide (V.str Nm.near.str = V.str ("first" : Str)) = _ := nm_eq (b := .first)
      rw [eF]
      refine iteF ?_
      refine ⟨_, rfl, rfl, _, rfl, ?_⟩
      have eL : decide (V.str Nm.near.str = V.str ("last" : Str)) = _ := nm_eq (b := .last)
      rw [eL]
      refine iteF ?_
      refine ⟨_, rfl, _, rfl, p, n, a, pvs, es, c, gs, t, x, y, rs, ls, rfl, h2, fun r H3 s3 hr3 => ?_⟩
      obtain ⟨d, st, rfl, nd, hd, hst⟩ := hr3
      have hk := fun {k : Nat} (h : k ∈ W) => hdN_hd hst h2.m.ok hWS h
      have h3 := h2.same s3
      have hw3 := s3 _ _ hw
      refine ⟨_, rfl, w0, rfl, ⟨_, sqt hw3⟩, fun D nD => ?_⟩
      refine lc_val walk_tup calm_at (fun i => (W[i]?).bind fun k => some (nV (hdN es st k))) (by rw [List.length_map]; omega) nD (fun H4 s4 => sqt (s4 _ _ hw3)) ?_ fun H4 s4 h4 => ?_
      · rintro i v H5 H6 hi s5 ⟨rfl, hv⟩ Kt kt
        obtain ⟨k, hki, rfl⟩ := getmap hv
        obtain ⟨⟨e1, e2⟩, hke, hse, _⟩ := hk (List.mem_of_getElem? hki)
        have h6 := h3.same s5
        obtain ⟨dx, hp⟩ := h6.m.at_.ob
        have hkn := (List.getElem?_eq_some_iff.mp hke).1
        have hkv : pvs[k]? = some (pvs[k]'(by omega)) := List.getElem?_eq_getElem _
        obtain ⟨tt, htt, ht⟩ := h6.m.pr.at_ k _ _ hkv hke
        have k0 := kt _ (Same.refl _)
        rw [hki] at k0
        refine ⟨rfl, tyes ?_⟩
        refine iteT ?_
        refine ⟨_, rfl, _, rfl, p, dx, _, rfl, hp, mapF_arrows _ _ _, p, n, a, pvs, c, gs, rfl, h6.m.at_, _, rfl, a, pvs, (k : Int), _, rfl, rfl, h6.m.at_.ar, atI_nat hkv, tt, _, (1 : Nat), nV e2, htt, rfl, ht, atI_nat rfl, ?_⟩
        refine ⟨d, _, (e2 : Int), nV (hdN es st k), rfl, rfl, sql (s5 _ _ hd), atI_nat (by rw [stV_get (h2.m.ok _ (List.mem_of_getElem? hke)).2, hse]; rfl), ?_⟩
        exact k0
      rw [List.length_map, fm_range, fm_some, int_map] at h4
      have hne : 0 < (W.map fun k => ((hdN es st k : Nat) : Int)).length := by
        rw [List.length_map]
        exact List.length_pos_iff.mpr hW0
      refine ⟨_, rfl, rfl, _, rfl, ?_⟩
      have eN : decide (V.str Nm.near.str = V.str ("near" : Str)) = _ := nm_eq (b := .near)
      rw [eN]
      refine iteT ?_
      refine ⟨_, rfl, D, _, rfl, sql h4, hne, fun m hm hedge => ?_⟩
      obtain ⟨k1, hk1, rfl⟩ := List.mem_map.mp hm
      obtain ⟨i, hi, hno⟩ := first_at (F := W.map fun k => hdN es st k) (List.mem_map.mpr ⟨k1, hk1, rfl⟩)
      obtain ⟨k, hki, hkd⟩ : ∃ k, W[i]? = some k ∧ hdN es st k = hdN es st k1 := by
        rw [List.getElem?_map] at hi
        exact Option.map_eq_some_iff.mp hi
      have hw4 := s4 _ _ hw3
      refine ⟨_, rfl, _, rfl, .inl ⟨rfl, _, sql h4⟩, _, rfl, D, _, nV (hdN es st k1), i, nV (hdN es st k), rfl, rfl, sql h4, rfl, by rw [← int_map]; exact List.all_eq_true.mpr fun v hv => by obtain ⟨_, _, rfl⟩ := List.mem_map.mp hv; rfl, by rw [← int_map, List.getElem?_map, hki]; rfl, by rw [hkd]; exact beq_self_eq_true _, fun m z' hm' hz' => ?_, ?_⟩
      · rw [← int_map, List.getElem?_map] at hz'
        obtain ⟨k', hk', rfl⟩ := Option.map_eq_some_iff.mp hz'
        have h5 := hno m hm'
        rw [List.getElem?_map, hk'] at h5
        refine beq_eq_false_iff_ne.mpr fun z => h5 ?_
        show some (hdN es st k') = some (hdN es st k1)
        have z' : ((hdN es st k' : Nat) : Int) = ((hdN es st k1 : Nat) : Int) := z
        rw [show hdN es st k' = hdN es st k1 by omega]
      refine ⟨w0, _, (i : Int), nV k, rfl, rfl, sqt hw4, atI_nat (by rw [List.getElem?_map, hki]; rfl), by show 1 ≤ sizeLine; decide, fun z nz => ?_⟩
      have hkW := List.mem_of_getElem? hki
      refine fin (ds := [k]) ((s3.trans s4).trans (same_new (Same.refl _) nz)) upd_same ⟨k, hdN es st k, rfl, hkW, (hk hkW).choose_spec.2.2, fun j hj dj hdj => ?_⟩
      have hf := first_edge hWS (F := W.map fun k => hdN es st k) (fun i k d hi hd => by
        rw [List.getElem?_map, hi] at hd
        cases hd
        exact (hk (List.mem_of_getElem? hi)).choose_spec.2.2) (List.length_map ..) hi hki hno hj hdj
      have e5 : dj = hdN es st j := hdj.inj (hk hj).choose_spec.2.2
      have h6 := hedge _ (List.mem_map.mpr ⟨j, hj, rfl⟩)
      rw [hkd]
      exact ⟨by rw [e5]; omega, hf.2⟩
    | far =>
      refine iteF ?_
      refine ⟨_, rfl, rfl, _, rfl, ?_⟩
      have eF : decide (V.str Nm.far.str = V.str ("first" : Str)) = _ := nm_eq (b := .first)
      rw [eF]
      refine iteF ?_
      refine ⟨_, rfl, rfl, _, rfl, ?_⟩
      have eL : decide (V.str Nm.far.str = V.str ("last" : Str)) = _ := nm_eq (b := .last)
      rw [eL]
      refine iteF ?_
      refine ⟨_, rfl, _, rfl, p, n, a, pvs, es, c, gs, t, x, y, rs, ls, rfl, h2, fun r H3 s3 hr3 => ?_⟩
      obtain ⟨d, st, rfl, nd, hd, hst⟩ := hr3
      have hk := fun {k : Nat} (h : k ∈ W) => hdN_hd hst h2.m.ok hWS h
      have h3 := h2.same s3
      have hw3 := s3 _ _ hw
      refine ⟨_, rfl, w0, rfl, ⟨_, sqt hw3⟩, fun D nD => ?_⟩
      refine lc_val walk_tup calm_at (fun i => (W[i]?).bind fun k => some (nV (hdN es st k))) (by rw [List.length_map]; omega) nD (fun H4 s4 => sqt (s4 _ _ hw3)) ?_ fun H4 s4 h4 => ?_
      · rintro i v H5 H6 hi s5 ⟨rfl, hv⟩ Kt kt
        obtain ⟨k, hki, rfl⟩ := getmap hv
        obtain ⟨⟨e1, e2⟩, hke, hse, _⟩ := hk (List.mem_of_getElem? hki)
        have h6 := h3.same s5
        obtain ⟨dx, hp⟩ := h6.m.at_.ob
        have hkn := (List.getElem?_eq_some_iff.mp hke).1
        have hkv : pvs[k]? = some (pvs[k]'(by omega)) := List.getElem?_eq_getElem _
        obtain ⟨tt, htt, ht⟩ := h6.m.pr.at_ k _ _ hkv hke
        have k0 := kt _ (Same.refl _)
        rw [hki] at k0
        refine ⟨rfl, tyes ?_⟩
        refine iteT ?_
        refine ⟨_, rfl, _, rfl, p, dx, _, rfl, hp, mapF_arrows _ _ _, p, n, a, pvs, c, gs, rfl, h6.m.at_, _, rfl, a, pvs, (k : Int), _, rfl, rfl, h6.m.at_.ar, atI_nat hkv, tt, _, (1 : Nat), nV e2, htt, rfl, ht, atI_nat rfl, ?_⟩
        refine ⟨d, _, (e2 : Int), nV (hdN es st k), rfl, rfl, sql (s5 _ _ hd), atI_nat (by rw [stV_get (h2.m.ok _ (List.mem_of_getElem? hke)).2, hse]; rfl), ?_⟩
        exact k0
      rw [List.length_map, fm_range, fm_some, int_map] at h4
      have hne : 0 < (W.map fun k => ((hdN es st k : Nat) : Int)).length := by
        rw [List.length_map]
        exact List.length_pos_iff.mpr hW0
      refine ⟨_, rfl, rfl, _, rfl, ?_⟩
      have eN : decide (V.str Nm.far.str = V.str ("near" : Str)) = _ := nm_eq (b := .near)
      rw [eN]
      refine iteF ?_
      refine ⟨_, rfl, D, _, rfl, sql h4, hne, fun m hm hedge => ?_⟩
      obtain ⟨k1, hk1, rfl⟩ := List.mem_map.mp hm
      obtain ⟨i, hi, hno⟩ := first_at (F := W.map fun k => hdN es st k) (List.mem_map.mpr ⟨k1, hk1, rfl⟩)
      obtain ⟨k, hki, hkd⟩ : ∃ k, W[i]? = some k ∧ hdN es st k = hdN es st k1 := by
        rw [List.getElem?_map] at hi
        exact Option.map_eq_some_iff.mp hi
      have hw4 := s4 _ _ hw3
      refine ⟨_, rfl, _, rfl, .inl ⟨rfl, _, sql h4⟩, _, rfl, D, _, nV (hdN es st k1), i, nV (hdN es st k), rfl, rfl, sql h4, rfl, by rw [← int_map]; exact List.all_eq_true.mpr fun v hv => by obtain ⟨_, _, rfl⟩ := List.mem_map.mp hv; rfl, by rw [← int_map, List.getElem?_map, hki]; rfl, by rw [hkd]; exact beq_self_eq_true _, fun m z' hm' hz' => ?_, ?_⟩
      · rw [← int_map, List.getElem?_map] at hz'
        obtain ⟨k', hk', rfl⟩ := Option.map_eq_some_iff.mp hz'
        have h5 := hno m hm'
        rw [List.getElem?_map, hk'] at h5
        refine beq_eq_false_iff_ne.mpr fun z => h5 ?_
        show some (hdN es st k') = some (hdN es st k1)
        have z' : ((hdN es st k' : Nat) : Int) = ((hdN es st k1 : Nat) : Int) := z
        rw [show hdN es st k' = hdN es st k1 by omega]
      refine ⟨w0, _, (i : Int), nV k, rfl, rfl, sqt hw4, atI_nat (by rw [List.getElem?_map, hki]; rfl), by show 1 ≤ sizeLine; decide, fun z nz => ?_⟩
      have hkW := List.mem_of_getElem? hki
      refine fin (ds := [k]) ((s3.trans s4).trans (same_new (Same.refl _) nz)) upd_same ⟨k, hdN es st k, rfl, hkW, (hk hkW).choose_spec.2.2, fun j hj dj hdj => ?_⟩
      have hf := first_edge hWS (F := W.map fun k => hdN es st k) (fun i k d hi hd => by
        rw [List.getElem?_map, hi] at hd
        cases hd
        exact (hk (List.mem_of_getElem? hi)).choose_spec.2.2) (List.length_map ..) hi hki hno hj hdj
      have e5 : dj = hdN es st j := hdj.inj (hk hj).choose_spec.2.2
      have h6 := hedge _ (List.mem_map.mpr ⟨j, hj, rfl⟩)
      rw [hkd]
      exact ⟨by rw [e5]; omega, hf.2⟩

/-- no name -/
inductive NoNm (K : PySem.W.Frag) (H : Hp) (va : V) : Prop
  | kind {sa : String} (h : ∀ H', Same H H' → Kn K H' va sa) (e : (sa == "str") = false)
  | word {s : Str} (e : va = .str s) (h : inV (V.str s) [.str "first", .str "last", .str "all", .str "near", .str "far"] = false)
def spSentBad (K : PySem.W.Frag) (C CS CN : Addr) : Sp := fun vs H Q E => ∃ (p : Addr) (n : Nat) (a : Addr) (pvs : List V) (es : Es) (c : Addr) (gs : List Nat) (va v : V), vs = [.ref p, va, v] ∧ MapOk K C H p n a pvs es c gs ∧
  ((NoNm K H va ∧ ∀ H', Same H H' → E (.ref CN) none H') ∨ (∃ (nm : Nm) (R : Prop), va = .str nm.str ∧ StdRes K H n es gs v R ∧ ¬ R ∧ ∀ H', Same H H' → E (.ref CS) none H'))
theorem okx_sent_by {CMap CNoStanding CNoName ANAMES : Addr} (B : Bt mg) (C : MapC K mg CMap) (T_NoName : Ex K mg "NoName" CNoName) (G_NAMES : GTup K mg "NAMES" ANAMES [.str "first", .str "last", .str "all", .str "near", .str "far"]) (h_sent_by : Has P w K mg base "sent_by" 6 ["chart", "name", "standing"] (spSent K CMap))
    (hX_check_standing : HasX P w K mg base "check_standing" 5 ["chart", "thing"] (spCheckAny K CMap CNoStanding)) (h_worth_at : Has P w K mg base "worth_at" 5 ["chart", "standing"] (spOf K CMap RWorth)) (h_steps_to_go : Has P w K mg base "steps_to_go" 4 ["chart", "standing"] (spOf K CMap RGo))
    (h_arrows : HasM P w K mg base CMap "arrows" 1 ["self"] (spArrows K CMap)) (D0 : Df K mg "sent_by" s_sent_by ["chart", "name", "standing"]) : HasX P w K mg base "sent_by" 6 ["chart", "name", "standing"] (spOr (spSent K CMap) (spSentBad K CMap CNoStanding CNoName)) := by
  refine h_sent_by.or (D0.hasX fun f fd F => F.okX sc_sent_by (fun vs H Q E h => ?_) (fun cdv A outer s H vs Q E hr h => ?_))
  · obtain ⟨p, n, a, pvs, es, c, gs, va, v, rfl, _⟩ := h
    rfl
  · obtain ⟨p, n, a, pvs, es, c, gs, va, v, rfl, m, hq⟩ := h
    refine ⟨_, (pss_cons (ps_if (PW.pt (pw_or (pt_not (pt_val (pe_callB (k_isi (K := K) rfl) (by rfl) B.isinstance bo_isinstance (pa_cons (pv 1) (pa_cons (pe_bltn (v := .ty "str") (by rfl) B.str bo_str rfl) pa_nil))))) (pw_or1 (pt_cmpR (k_notin (K := K) rfl) (pv 1) (pe_glob (v := .ref ANAMES) (by rfl) G_NAMES.g rfl) (by rfl)))))
    (pss_one (ps_raise0 T_NoName rfl (takes_of rfl rfl rfl rfl) (by rfl)))
    pss_nil)
  (pss_cons (ps_expr (pcallS hX_check_standing hr (by decide) (by rfl) (takes_of rfl rfl rfl rfl) (pa_cons (pv 0) (pa_cons (pv 2) pa_nil))))
  (pss_cons (ps_set (i := 3) sc_sent_by.nd rfl (.inl rfl) (pcall h_worth_at hr (by decide) (by rfl) (pa_cons (pv 0) (pa_cons (pv 2) pa_nil))))
  (pss_cons (ps_if (PW.pt (pw_or (pt_cmpR op_eq (pe_callB (k_len (K := K) rfl) (by rfl) B.len bo_len (pa_cons (pv 3) pa_nil)) pe_int (nomark _)) (pw_or1 (pt_cmpR op_eq (pv 1) pe_str (nomark _)))))
    (pss_one (ps_ret (pv 3)))
    pss_nil)
  (pss_cons (ps_if (pt_cmpR op_eq (pv 1) pe_str (nomark _))
    (pss_one (ps_ret (pe_tup (pa_cons (pe_ix (k_ixt (K := K) rfl) (pv 3) pe_int (fun _ _ => rfl)) pa_nil))))
    pss_nil)
  (pss_cons (ps_if (pt_cmpR op_eq (pv 1) pe_str (nomark _))
    (pss_one (ps_ret (pe_tup (pa_cons (pe_ix (k_ixt (K := K) rfl) (pv 3) (pe_un un_neg pe_int) (fun _ _ => rfl)) pa_nil))))
    pss_nil)
  (pss_cons (ps_set (i := 4) sc_sent_by.nd rfl (.inr rfl) (pcall h_steps_to_go hr (by decide) (by rfl) (pa_cons (pv 0) (pa_cons (pv 2) pa_nil))))
  (pss_cons (ps_setLc (i := 5) (own := [("arrow", 7)]) (g := gName 7) rfl sc_sent_by.nd rfl rfl (sw_true rfl rfl rfl (by decide +kernel)) (k_pit (K := K) rfl (pv 3)) (blkOk_by (N := sl_sent_by) (sc := defScope s_sent_by) (by decide +kernel)) (fun _ _ _ _ _ => (pg_name (i := 7) sc_sent_by.nd rfl (.inl rfl))) (fun _ _ _ _ _ => pts_nil) (fun _ _ _ _ _ => (pe_ix (k_ixl (K := K) rfl) (pv 4) (pe_ix (k_ixt (K := K) rfl) (pe_ix (k_ixt (K := K) rfl) (pe_meth0 (pv 0) C.cl h_arrows.mt h_arrows.F (hr.mono (by decide)) h_arrows.b .nil pass0) (pv 7) (fun _ _ => rfl)) pe_int (fun _ _ => rfl)) (fun _ _ => rfl))))
  (pss_cons (ps_set (i := 6) sc_sent_by.nd rfl (.inl rfl) (pe_ifExp (pt_cmpR op_eq (pv 1) pe_str (nomark _)) (pe_callB (k_min (K := K) rfl rfl) (by rfl) B.min bo_min (pa_cons (pv 5) pa_nil)) (pe_callB (k_max (K := K) rfl rfl) (by rfl) B.max bo_max (pa_cons (pv 5) pa_nil))))
  (pss_one (ps_ret (pe_tup (pa_cons (pe_ix (k_ixt (K := K) rfl) (pv 3) (pe_bm PySem.F.plainAttrs_list PySem.F.slot_list_index PySem.F.type_list_index mt_index (pv 5) (pa_cons (pv 6) pa_nil)) (fun _ _ => rfl)) pa_nil))))))))))))), ?_⟩
    rcases hq with ⟨hno, q⟩ | ⟨nm, R, rfl, hR, nr, q⟩
    · cases hno with
      | @kind sa hk e =>
        have hk0 := hk H (Same.refl _)
        refine ⟨_, rfl, va, .ty "str", _, _, _, rfl, .ty "str", hk0.ty, kit_str hk0.mem, _, rfl, ?_⟩
        rw [e]
        exact iteT (iteT (q H (Same.refl _)))
      | @word s e h =>
        subst e
        refine ⟨_, rfl, _, .ty "str", _, _, _, rfl, .ty "str", (kn_of_str (K := K) (H := H) (s := s)).ty, kit_str (kn_of_str (K := K) (H := H) (s := s)).mem, _, rfl, iteF ?_⟩
        refine ⟨_, rfl, ANAMES, _, rfl, .inr (G_NAMES.t _), rfl, rfl, _, rfl, ?_⟩
        rw [if_pos rfl, h]
        exact iteT (q H (Same.refl _))
    · refine ⟨_, rfl, _, .ty "str", _, _, _, rfl, .ty "str", (kn_of_str (K := K) (H := H) (s := nm.str)).ty, kit_str (kn_of_str (K := K) (H := H) (s := nm.str)).mem, _, rfl, iteF ?_⟩
      refine ⟨_, rfl, ANAMES, _, rfl, .inr (G_NAMES.t _), rfl, rfl, _, rfl, ?_⟩
      have e1 : inV (V.str nm.str) [.str "first", .str "last", .str "all", .str "near", .str "far"] = true := by cases nm <;> decide +kernel
      rw [if_pos rfl, e1]
      refine iteF ?_
      exact ⟨_, rfl, _, rfl, p, n, a, pvs, es, c, gs, v, R, rfl, m, hR, fun H1 s1 => ⟨fun r => absurd r nr, fun _ => q H1 s1⟩⟩

abbrev s__law_steps : Stmt := topS 49
abbrev sl__law_steps : List Str := ["_law_parts_here", "_law_reached", "_law_rotten", "_law_many", "_law_arrows", "_law_goals", "_law_steps_here", "_law_goal", "_law_turn", "_law_k", "_law_tail_here", "_law_head"]
theorem sc__law_steps : FnScope ["_law_parts_here", "_law_reached", "_law_rotten", "_law_many", "_law_arrows", "_law_goals", "_law_steps_here", "_law_goal", "_law_turn", "_law_k", "_law_tail_here", "_law_head"] ["_law_parts_here", "_law_reached", "_law_rotten"] (defScope s__law_steps) := ⟨rfl, rfl, rfl, by decide +kernel, rfl, by decide +kernel, by decide +kernel⟩
/-- what is known of the dict, whatever the turn -/
structure LvA (n : Nat) (es : Es) (gs rs ls : List Nat) (T : Nat) (hs : List (Nat × Nat)) : Prop where
  ok : ∀ x ∈ hs, x.1 < n ∧ Dst (backE es rs ls) (openG gs rs) x.1 x.2 ∧ x.2 ≤ T
  nd : (hs.map (·.1)).Nodup
theorem LvA.len {n : Nat} {es : Es} {gs rs ls : List Nat} {T : Nat} {hs : List (Nat × Nat)} (h : LvA n es gs rs ls T hs) : hs.length ≤ n := by
  rw [← List.length_map (f := fun x : Nat × Nat => x.1)]
  exact nodup_le h.nd fun z hz => by
    obtain ⟨x, hx, rfl⟩ := List.mem_map.mp hz
    exact (h.ok x hx).1
theorem LvA.val {n : Nat} {es : Es} {gs rs ls : List Nat} {T : Nat} {hs : List (Nat × Nat)} (h : LvA n es gs rs ls T hs) {u d : Nat} (hu : (u, d) ∈ hs) : valV (kvN hs) (Sum.inl (u : Int)) = some (nV d) := by
  obtain ⟨b, hb, e⟩ := kvN_get hu
  have e2 : b = d := (h.ok _ hb).2.1.inj (h.ok _ hu).2.1
  rw [e, e2]
theorem kvN_none {hs : List (Nat × Nat)} {u : Nat} (h : ¬ ∃ b, (u, b) ∈ hs) : valV (kvN hs) (Sum.inl (u : Int)) = none := by
  cases e : valV (kvN hs) (Sum.inl (u : Int)) with
  | none => rfl
  | some w =>
    obtain ⟨a, ha⟩ := kvN_has e
    exact absurd ⟨a, ha⟩ h
theorem LvA.put {n : Nat} {es : Es} {gs rs ls : List Nat} {T : Nat} {hs : List (Nat × Nat)} (h : LvA n es gs rs ls T hs) {u d : Nat} (hu : ¬ ∃ b, (u, b) ∈ hs) (hn : u < n) (hd : Dst (backE es rs ls) (openG gs rs) u d) (hT : d ≤ T) : LvA n es gs rs ls T (hs ++ [(u, d)]) where
  ok := fun x hx => by
    rcases List.mem_append.mp hx with hx | hx
    · exact h.ok x hx
    · rw [List.mem_singleton.mp hx]
      exact ⟨hn, hd, hT⟩
  nd := by
    rw [List.map_append, List.nodup_append]
    refine ⟨h.nd, by simp, fun a ha b hb z => ?_⟩
    obtain ⟨x, hx, rfl⟩ := List.mem_map.mp ha
    obtain ⟨y, hy, rfl⟩ := List.mem_map.mp hb
    rw [List.mem_singleton.mp hy] at z
    have z' : x.1 = u := z
    exact hu ⟨x.2, by rw [← z']; exact hx⟩
def LvO (es : Es) (gs rs ls : List Nat) (T : Nat) (hs : List (Nat × Nat)) : Prop := ∀ v d, Dst (backE es rs ls) (openG gs rs) v d → d ≤ T → (v, d) ∈ hs
def LvI (es : Es) (gs rs ls : List Nat) (T i : Nat) (hs : List (Nat × Nat)) : Prop := ∀ (k : Nat) (e : Nat × Nat), k < i → es[k]? = some e → k ∉ ls → e.1 ∉ rs → Dst (backE es rs ls) (openG gs rs) e.2 T → ∃ b, (e.1, b) ∈ hs
def spSteps21 (K : PySem.W.Frag) : Sp := fun vs H Q _ => ∃ (t : Addr) (n : Nat) (a : Addr) (pvs : List V) (es : Es) (c : Addr) (gs : List Nat) (x y : Addr) (rs ls : List Nat), vs = [.ref t, .ref x, .ref y] ∧ PtsAt K H t n a pvs es c gs ∧ SqT K H x (rs.map nV) ∧ SqT K H y (ls.map nV) ∧
  ∀ (D : Addr) (hs : List (Nat × Nat)) (H' : Hp), Same H H' → H' D = some (.dK (kvN hs)) → (∀ v d, (v, d) ∈ hs → Dst (backE es rs ls) (openG gs rs) v d) → (∀ v d, Dst (backE es rs ls) (openG gs rs) v d → (v, d) ∈ hs) → Q (.ref D) H'
theorem dst_lt {n : Nat} {es : Es} {S : List Nat} (hS : ∀ s ∈ S, s < n) (he : ∀ e ∈ es, e.1 < n ∧ e.2 < n) : ∀ {d v : Nat}, Dst es S v d → ∃ ps : List Nat, ps.length = d + 1 ∧ (∀ p ∈ ps, p < n) ∧ ps.Nodup ∧ (∀ p ∈ ps, ∃ d', d' ≤ d ∧ Dst es S p d')
  | 0, v, h => ⟨[v], rfl, fun p hp => by rw [List.mem_singleton.mp hp]; exact hS v h.1, by simp, fun p hp => by rw [List.mem_singleton.mp hp]; exact ⟨0, Nat.le_refl _, h⟩⟩
  | d + 1, v, h => by
    obtain ⟨u, hu, e⟩ := h.pred
    obtain ⟨ps, h1, h2, h3, h4⟩ := dst_lt hS he hu
    refine ⟨v :: ps, by rw [List.length_cons, h1], fun p hp => ?_, List.nodup_cons.mpr ⟨fun z => ?_, h3⟩, fun p hp => ?_⟩
    · rcases List.mem_cons.mp hp with rfl | hp
      · exact (he _ e).2
      · exact h2 p hp
    · obtain ⟨d', a, b⟩ := h4 v z
      have := b.inj h
      omega
    · rcases List.mem_cons.mp hp with rfl | hp
      · exact ⟨d + 1, Nat.le_refl _, h⟩
      · obtain ⟨d', a, b⟩ := h4 p hp
        exact ⟨d', by omega, b⟩
theorem unr_of_dst {es : Es} {gs rs ls : List Nat} {v d : Nat} (h : Dst (backE es rs ls) (openG gs rs) v d) : v ∉ rs := alive_out ⟨d, h.1⟩
theorem dst_back {es : Es} {gs rs ls : List Nat} {v d : Nat} (h : Dst (backE es rs ls) (openG gs rs) v (d + 1)) : ∃ (k : Nat) (u : Nat), es[k]? = some (v, u) ∧ k ∉ ls ∧ v ∉ rs ∧ Dst (backE es rs ls) (openG gs rs) u d := by
  obtain ⟨u, hu, e⟩ := h.pred
  obtain ⟨k, h1, h2, h3, h4⟩ := mem_backE.mp e
  exact ⟨k, u, h1, h2, h4, hu⟩
theorem ok__law_steps (B : Bt mg) (D0 : Df K mg "_law_steps" s__law_steps ["_law_parts_here", "_law_reached", "_law_rotten"]) : Has P w K mg base "_law_steps" 1 ["_law_parts_here", "_law_reached", "_law_rotten"] (spSteps21 K) := by
  refine D0.has fun f fd F => F.ok sc__law_steps (fun vs H Q E h => ?_) (fun cdv A outer s H vs Q E hr h => ?_)
  · obtain ⟨t, n, a, pvs, es, c, gs, x, y, rs, ls, rfl, _⟩ := h
    rfl
  · obtain ⟨t, n, a, pvs, es, c, gs, x, y, rs, ls, rfl, hP, hx, hy, q⟩ := h
    refine ⟨_, (pss_cons (ps_asg (pv 0) (pg_tup rfl (pgs_cons (pg_name (i := 3) sc__law_steps.nd rfl (.inl rfl)) (pgs_cons (pg_name (i := 4) sc__law_steps.nd rfl (.inl rfl)) (pgs_cons (pg_name (i := 5) sc__law_steps.nd rfl (.inl rfl)) pgs_nil)))))
  (pss_cons (ps_set (i := 6) sc__law_steps.nd rfl (.inl rfl) pe_dnewK)
  (pss_cons (ps_for PassesOwn.never rfl (k_pit (K := K) rfl (pv 5)) (pg_name (i := 7) sc__law_steps.nd rfl (.inl rfl))
    (pss_one (ps_if (pt_cmpR (k_notin (K := K) rfl) (pv 7) (pv 1) (by rfl))
    (pss_one (ps_dput (hu_of hr) (pv 6) (pv 7) pe_int rfl))
    pss_nil)))
  (pss_cons (ps_for PassesOwn.never rfl (pi_range1 (by rfl) B.range (pa_cons (pv 3) pa_nil)) (pg_name (i := 8) sc__law_steps.nd rfl (.inl rfl))
    (pss_one (ps_for PassesOwn.never rfl (pi_range1 (by rfl) B.range (pa_cons (pe_callB (k_len (K := K) rfl) (by rfl) B.len bo_len (pa_cons (pv 4) pa_nil)) pa_nil)) (pg_name (i := 9) sc__law_steps.nd rfl (.inl rfl))
    (pss_cons (ps_asg (pe_ix (k_ixt (K := K) rfl) (pv 4) (pv 9) (fun _ _ => rfl)) (pg_tup rfl (pgs_cons (pg_name (i := 10) sc__law_steps.nd rfl (.inl rfl)) (pgs_cons (pg_name (i := 11) sc__law_steps.nd rfl (.inl rfl)) pgs_nil))))
  (pss_one (ps_if (PW.pt (pw_and (pt_cmp (pc_din (hu_of hr) (pv 11) (pv 6))) (pw_and (pt_cmpR op_eq (pe_dget (hu_of hr) (pv 6) (pv 11) (fun _ _ => rfl)) (pv 8) (nomark _)) (pw_and (pt_cmp (pc_dnotin (hu_of hr) (pv 10) (pv 6))) (pw_and (pt_cmpR (k_notin (K := K) rfl) (pv 10) (pv 1) (by rfl)) (pw_and1 (pt_cmpR (k_notin (K := K) rfl) (pv 9) (pv 2) (by rfl))))))))
    (pss_one (ps_dput (hu_of hr) (pv 6) (pv 10) (pe_op op_add (pv 8) pe_int) rfl))
    pss_nil))))))
  (pss_one (ps_ret (pv 6))))))), ?_⟩
    have hl := hP.pr.len
    have gn := hP.gm.n40
    have g60 := hP.gm.l60
    refine ⟨_, rfl, t, _, rfl, hP.tp, rfl, _, _, rfl, _, _, rfl, _, _, rfl, rfl, ?_⟩
    refine fun D nD => ?_
    have s1 := same_new (o := .dK []) (Same.refl H) nD
    have hD1 : upd H D (.dK []) D = some (.dK (kvN [])) := upd_same
    generalize upd H D (.dK []) = H1 at s1 hD1
    have keepS : ∀ {H' : Hp} {o : HO}, Same H H' → Same H (upd H' D o) := fun s => same_mut s nD
    -- the goals
    refine ⟨_, rfl, c, rfl, ⟨_, Same.sqt s1 hP.go⟩, ?_⟩
    refine for_tup (xs := gs.map nV) (fun i σ H' => ∃ (x7 : Option V) (hs : List (Nat × Nat)), σ = [some (.ref t), some (.ref x), some (.ref y), some (nV n), some (.ref a), some (.ref c), some (.ref D), x7, none, none, none, none] ∧ Same H H' ∧ H' D = some (.dK (kvN hs)) ∧ LvA n es gs rs ls 0 hs ∧
        (∀ z ∈ hs, ∃ j, j < i ∧ gs[j]? = some z.1) ∧ ∀ j g, j < i → gs[j]? = some g → g ∉ rs → (g, 0) ∈ hs)
      ⟨none, [], rfl, s1, hD1, ⟨fun _ h => (List.not_mem_nil h).elim, List.nodup_nil⟩, fun _ h => (List.not_mem_nil h).elim, fun _ _ h => absurd h (Nat.not_lt_zero _)⟩ ?_ ?_ ?_
    · rintro i σ H' _ ⟨_, _, rfl, s, _⟩
      exact Same.sqt s hP.go
    · rintro i v σ H2 hv ⟨x7, hs, rfl, s2, hD2, hA, hat, hall⟩
      obtain ⟨g, hgi, rfl⟩ := getmap hv
      have hgn := (hP.gm.gl g (List.mem_of_getElem? hgi)).2
      refine ⟨_, rfl, _, rfl, x, _, rfl, .inr (Same.sqt s2 hx), rfl, flat_nats _, _, rfl, ?_⟩
      rw [if_pos rfl, inV_nats]
      by_cases hr : g ∈ rs
      · rw [decide_eq_true hr]
        refine iteF ?_
        exact ⟨_, hs, rfl, s2, hD2, hA, fun z hz => by
          obtain ⟨j, h1, h2⟩ := hat z hz
          exact ⟨j, by omega, h2⟩, fun j g' hj hg' hr' => by
          by_cases e : j = i
          · subst e
            rw [hgi] at hg'
            cases hg'
            exact absurd hr hr'
          · exact hall j g' (by omega) hg' hr'⟩
      · rw [decide_eq_false hr]
        refine iteT ?_
        have hnew : ¬ ∃ b, (g, b) ∈ hs := fun ⟨b, hb⟩ => by
          obtain ⟨j, h1, h2⟩ := hat _ hb
          obtain ⟨hj, e1⟩ := List.getElem?_eq_some_iff.mp h2
          obtain ⟨hi', e2⟩ := List.getElem?_eq_some_iff.mp hgi
          have := List.pairwise_iff_getElem.mp hP.gm.pw j i hj hi' h1
          rw [e1, e2] at this
          exact Nat.lt_irrefl _ this
        have hd0 : Dst (backE es rs ls) (openG gs rs) g 0 := ⟨mem_openG.mpr ⟨List.mem_of_getElem? hgi, hr⟩, fun k hk => absurd hk (Nat.not_lt_zero k)⟩
        have hlen := hA.len
        refine ⟨_, rfl, _, rfl, D, _, rfl, DPut.k (k := Sum.inl (g : Int)) hD2 (by unfold kvN; rw [List.length_map]; exact small_lt (by omega)), ?_⟩
        refine ⟨_, hs ++ [(g, 0)], rfl, keepS s2, ?_, hA.put hnew hgn hd0 (Nat.le_refl _), fun z hz => ?_, fun j g' hj hg' hr' => ?_⟩
        · rw [upd_same, putK_no (kvN_none hnew)]
          unfold kvN
          rw [List.map_append]
          rfl
        · rcases List.mem_append.mp hz with hz | hz
          · obtain ⟨j, h1, h2⟩ := hat z hz
            exact ⟨j, by omega, h2⟩
          · rw [List.mem_singleton.mp hz]
            exact ⟨i, by omega, hgi⟩
        · by_cases e : j = i
          · subst e
            rw [hgi] at hg'
            cases hg'
            exact List.mem_append_right _ List.mem_cons_self
          · exact List.mem_append_left _ (hall j g' (by omega) hg' hr')
    rintro σ H2 ⟨x7, hs0, rfl, s2, hD2, hA0, hat0, hall0⟩
    rw [List.length_map] at hall0
    have hO0 : LvO es gs rs ls 0 hs0 := fun v d hd hle => by
      obtain rfl : d = 0 := Nat.le_zero.mp hle
      obtain ⟨hg, hr⟩ := mem_openG.mp hd.1
      obtain ⟨j, hj⟩ := List.getElem?_of_mem hg
      exact hall0 j v (List.getElem?_eq_some_iff.mp hj).1 hj hr
    -- the turns
    refine ⟨_, rfl, n, rfl, by omega, by omega, ?_⟩
    refine for_range (lo := 0) (n := ((n : Nat) : Int).toNat) (fun T σ H' => ∃ (x8 x9 x10 x11 : Option V) (hs : List (Nat × Nat)), σ = [some (.ref t), some (.ref x), some (.ref y), some (nV n), some (.ref a), some (.ref c), some (.ref D), x7, x8, x9, x10, x11] ∧ Same H H' ∧ H' D = some (.dK (kvN hs)) ∧ LvA n es gs rs ls T hs ∧ LvO es gs rs ls T hs)
      ⟨none, none, none, none, hs0, rfl, s2, hD2, hA0, hO0⟩ ?_ ?_
    · rintro T σ H3 hT ⟨_, x9, x10, x11, hs1, rfl, s3, hD3, hA3, hO3⟩
      have eT : (0 : Int) + (T : Int) = (T : Int) := Int.zero_add _
      rw [eT]
      refine ⟨_, rfl, a, pvs, rfl, .inr (Same.sqt s3 hP.ar), pvs.length, rfl, by omega, by omega, ?_⟩
      refine for_range (lo := 0) (n := ((pvs.length : Nat) : Int).toNat) (fun i σ H' => ∃ (x9 x10 x11 : Option V) (hs : List (Nat × Nat)), σ = [some (.ref t), some (.ref x), some (.ref y), some (nV n), some (.ref a), some (.ref c), some (.ref D), x7, some (.int (T : Int)), x9, x10, x11] ∧ Same H H' ∧ H' D = some (.dK (kvN hs)) ∧
          LvA n es gs rs ls (T + 1) hs ∧ LvO es gs rs ls T hs ∧ LvI es gs rs ls T i hs)
        ⟨_, _, _, hs1, rfl, s3, hD3, ⟨fun z hz => ⟨(hA3.ok z hz).1, (hA3.ok z hz).2.1, Nat.le_succ_of_le (hA3.ok z hz).2.2⟩, hA3.nd⟩, hO3, fun _ _ h => absurd h (Nat.not_lt_zero _)⟩ ?_ ?_
      · rintro i σ H4 hi ⟨_, _, _, hs, rfl, s4, hD4, hA, hO, hI⟩
        have hin : i < pvs.length := by have : i < ((pvs.length : Nat) : Int).toNat := hi; omega
        have e0 : (0 : Int) + (i : Int) = (i : Int) := Int.zero_add _
        rw [e0]
        have hP4 := hP.same s4
        have hiv : pvs[i]? = some pvs[i] := List.getElem?_eq_getElem hin
        obtain ⟨⟨e1, e2⟩, hei, tt, htt, ht⟩ := hP4.pr.get hiv
        have hok := hP.gm.ok _ (List.mem_of_getElem? hei)
        have hlen := hA.len
        -- what stays
        have keep : (i ∉ ls → e1 ∉ rs → Dst (backE es rs ls) (openG gs rs) e2 T → ∃ b, (e1, b) ∈ hs) → LvI es gs rs ls T (i + 1) hs := fun h k e hk he h1 h2 h3 => by
          by_cases ek : k = i
          · subst ek
            rw [hei] at he
            cases he
            exact h h1 h2 h3
          · exact hI k e (by omega) he h1 h2 h3
        refine ⟨_, rfl, _, rfl, a, pvs, (i : Int), _, rfl, rfl, hP4.ar, atI_nat hiv, tt, _, htt, ht, rfl, _, _, rfl, _, _, rfl, rfl, ?_⟩
        refine ⟨_, rfl, _, rfl, D, _, rfl, DGet.k (k := Sum.inl (e2 : Int)) hD4, _, rfl, ?_⟩
        by_cases hm2 : ∃ b, (e2, b) ∈ hs
        rotate_left
        · rw [kvN_none hm2]
          refine iteF ?_
          refine iteF ?_
          exact ⟨_, _, _, hs, rfl, s4, hD4, hA, hO, keep fun _ _ hd => absurd ⟨T, hO _ _ hd (Nat.le_refl _)⟩ hm2⟩
        obtain ⟨d2, hd2⟩ := hm2
        have hD2' := (hA.ok _ hd2).2.1
        rw [hA.val hd2]
        refine iteT ?_
        have g2 := DGet.k (k := Sum.inl (e2 : Int)) hD4
        rw [hA.val hd2] at g2
        refine ⟨_, rfl, _, rfl, D, nV d2, rfl, g2, _, rfl, rfl, _, rfl, ?_⟩
        by_cases hdT : d2 = T
        rotate_left
        · rw [decide_eq_false (show ¬ nV d2 = V.int (T : Int) from fun z => hdT (by
            have z' : V.int (d2 : Int) = V.int (T : Int) := z
            injection z' with z'
            omega))]
          refine iteF ?_
          refine iteF ?_
          exact ⟨_, _, _, hs, rfl, s4, hD4, hA, hO, keep fun _ _ hd => absurd (hD2'.inj hd) hdT⟩
        subst hdT
        rw [decide_eq_true (show nV d2 = V.int (d2 : Int) from rfl)]
        refine iteT ?_
        refine ⟨_, rfl, _, rfl, D, _, rfl, DGet.k (k := Sum.inl (e1 : Int)) hD4, _, rfl, ?_⟩
        by_cases hm1 : ∃ b, (e1, b) ∈ hs
        · obtain ⟨d1, hd1⟩ := hm1
          rw [hA.val hd1]
          refine iteF ?_
          refine iteF ?_
          exact ⟨_, _, _, hs, rfl, s4, hD4, hA, hO, keep fun _ _ _ => ⟨d1, hd1⟩⟩
        rw [kvN_none hm1]
        refine iteT ?_
        refine ⟨_, rfl, _, rfl, x, _, rfl, .inr (Same.sqt s4 hx), rfl, flat_nats _, _, rfl, ?_⟩
        rw [if_pos rfl, inV_nats]
        by_cases hr : e1 ∈ rs
        · rw [decide_eq_true hr]
          refine iteF ?_
          refine iteF ?_
          exact ⟨_, _, _, hs, rfl, s4, hD4, hA, hO, keep fun _ h _ => absurd hr h⟩
        rw [decide_eq_false hr]
        refine iteT ?_
        refine ⟨_, rfl, _, rfl, y, _, rfl, .inr (Same.sqt s4 hy), rfl, flat_nats _, _, rfl, ?_⟩
        rw [if_pos rfl, show V.int (i : Int) = nV i from rfl, inV_nats]
        by_cases hk : i ∈ ls
        · rw [decide_eq_true hk]
          refine iteF ?_
          exact ⟨_, _, _, hs, rfl, s4, hD4, hA, hO, keep fun h _ _ => absurd hk h⟩
        rw [decide_eq_false hk]
        refine iteT ?_
        have hrg : e2 ∉ rs := unr_of_dst hD2'
        have hb : (e2, e1) ∈ backE es rs ls := mem_backE.mpr ⟨i, hei, hk, hrg, hr⟩
        have hd1 : Dst (backE es rs ls) (openG gs rs) e1 (d2 + 1) := by
          obtain ⟨d, hdle, hd⟩ := Dst.ex (hD2'.1.edge hb)
          by_cases e : d ≤ d2
          · exact absurd ⟨d, hO _ _ hd e⟩ hm1
          · rw [show d2 + 1 = d by omega]
            exact hd
        refine ⟨_, rfl, (d2 : Int), 1, rfl, rfl, _, rfl, _, rfl, D, _, rfl, DPut.k (k := Sum.inl (e1 : Int)) hD4 (by unfold kvN; rw [List.length_map]; exact small_lt (by omega)), ?_⟩
        refine ⟨_, _, _, hs ++ [(e1, d2 + 1)], rfl, keepS s4, ?_, hA.put hm1 hok.1 hd1 (Nat.le_refl _), fun v d h1 h2 => List.mem_append_left _ (hO v d h1 h2), fun k e hk' he h1 h2 h3 => ?_⟩
        · rw [upd_same, putK_no (kvN_none hm1)]
          unfold kvN
          rw [List.map_append]
          rfl
        · by_cases ek : k = i
          · subst ek
            rw [hei] at he
            cases he
            exact ⟨_, List.mem_append_right _ List.mem_cons_self⟩
          · obtain ⟨b, hb⟩ := hI k e (by omega) he h1 h2 h3
            exact ⟨b, List.mem_append_left _ hb⟩
      · rintro σ H4 ⟨x9, x10, x11, hs, rfl, s4, hD4, hA, hO, hI⟩
        refine ⟨_, _, _, _, hs, rfl, s4, hD4, hA, fun v d hd hle => ?_⟩
        rcases Nat.lt_or_eq_of_le hle with h | rfl
        · exact hO v d hd (by omega)
        · obtain ⟨k, u, h1, h2, h3, h4⟩ := dst_back hd
          obtain ⟨b, hb⟩ := hI k _ (by have := (List.getElem?_eq_some_iff.mp h1).1; show k < pvs.length; omega) h1 h2 h3 h4
          have e : b = T + 1 := (hA.ok _ hb).2.1.inj hd
          rw [← e]
          exact hb
    rintro σ H3 ⟨x8, x9, x10, x11, hs, rfl, s3, hD3, hA3, hO3⟩
    refine ⟨_, rfl, q D hs H3 s3 hD3 (fun v d h => (hA3.ok _ h).2.1) fun v d h => hO3 v d h ?_⟩
    obtain ⟨ps, h5, h6, h7, _⟩ := dst_lt (n := n) (S := openG gs rs) (fun g hg => (hP.gm.gl g (mem_openG.mp hg).1).2) (fun e he => by
      obtain ⟨k, h8, _⟩ := mem_backE.mp he
      have := hP.gm.ok _ (List.mem_of_getElem? h8)
      exact ⟨this.2.1, this.1⟩) h
    have := nodup_le h7 h6
    show d ≤ n
    omega

abbrev s__law_due : Stmt := topS 50
abbrev sl__law_due : List Str := ["_law_parts_here", "_law_name", "_law_reached", "_law_rotten", "_law_good", "_law_steps_here", "_law_far", "_law_edge", "_law_k"]
theorem sc__law_due : FnScope ["_law_parts_here", "_law_name", "_law_reached", "_law_rotten", "_law_good", "_law_steps_here", "_law_far", "_law_edge", "_law_k"] ["_law_parts_here", "_law_name", "_law_reached", "_law_rotten"] (defScope s__law_due) := ⟨rfl, rfl, rfl, by decide +kernel, rfl, by decide +kernel, by decide +kernel⟩
def spDue21 (K : PySem.W.Frag) : Sp := fun vs H Q _ => ∃ (t : Addr) (n : Nat) (a : Addr) (pvs : List V) (es : Es) (c : Addr) (gs : List Nat) (x y : Addr) (rs ls : List Nat) (nm : Nm), vs = [.ref t, .str nm.str, .ref x, .ref y] ∧ PtsAt K H t n a pvs es c gs ∧ SqT K H x (rs.map nV) ∧ SqT K H y (ls.map nV) ∧ StdOk n es gs rs ls ∧
  ∀ (z : Addr) (ds W : List Nat) (H' : Hp), Same H H' → H' z = some (.tup (ds.map nV)) → WorthS es gs rs ls W → SentR es gs rs ls W nm ds → Q (.ref z) H'
theorem ok__law_due (B : Bt mg) (h_law_worth : Has P w K mg base "_law_worth" 3 ["_law_parts_here", "_law_reached", "_law_rotten"] (spLT K LWorth)) (h_law_steps : Has P w K mg base "_law_steps" 1 ["_law_parts_here", "_law_reached", "_law_rotten"] (spSteps21 K))
    (D0 : Df K mg "_law_due" s__law_due ["_law_parts_here", "_law_name", "_law_reached", "_law_rotten"]) : Has P w K mg base "_law_due" 4 ["_law_parts_here", "_law_name", "_law_reached", "_law_rotten"] (spDue21 K) := by
  refine D0.has fun f fd F => F.ok sc__law_due (fun vs H Q E h => ?_) (fun cdv A outer s H vs Q E hr h => ?_)
  · obtain ⟨t, n, a, pvs, es, c, gs, x, y, rs, ls, nm, rfl, _⟩ := h
    rfl
  · obtain ⟨t, n, a, pvs, es, c, gs, x, y, rs, ls, nm, rfl, hP, hx, hy, o, q⟩ := h
    refine ⟨_, (pss_cons (ps_set (i := 4) sc__law_due.nd rfl (.inr rfl) (pcall h_law_worth hr (by decide) (by rfl) (pa_cons (pv 0) (pa_cons (pv 2) (pa_cons (pv 3) pa_nil)))))
  (pss_cons (ps_if (PW.pt (pw_or (pt_cmpR op_eq (pv 1) pe_str (nomark _)) (pw_or1 (pt_cmpR op_eq (pe_callB (k_len (K := K) rfl) (by rfl) B.len bo_len (pa_cons (pv 4) pa_nil)) pe_int (nomark _)))))
    (pss_one (ps_ret (pe_callTy (k_tuple (K := K) rfl) (by rfl) B.tuple bo_tuple (pa_cons (pv 4) pa_nil))))
    pss_nil)
  (pss_cons (ps_if (pt_cmpR op_eq (pv 1) pe_str (nomark _))
    (pss_one (ps_ret (pe_tup (pa_cons (pe_callB (k_min (K := K) rfl rfl) (by rfl) B.min bo_min (pa_cons (pv 4) pa_nil)) pa_nil))))
    pss_nil)
  (pss_cons (ps_if (pt_cmpR op_eq (pv 1) pe_str (nomark _))
    (pss_one (ps_ret (pe_tup (pa_cons (pe_callB (k_max (K := K) rfl rfl) (by rfl) B.max bo_max (pa_cons (pv 4) pa_nil)) pa_nil))))
    pss_nil)
  (pss_cons (ps_set (i := 5) sc__law_due.nd rfl (.inr rfl) (pcall h_law_steps hr (by decide) (by rfl) (pa_cons (pv 0) (pa_cons (pv 2) (pa_cons (pv 3) pa_nil)))))
  (pss_cons (ps_set (i := 6) sc__law_due.nd rfl (.inr rfl) (pe_lc (own := [("_law_k", 8)]) (g := gName 8) rfl sc__law_due.nd (k_pil (K := K) rfl (pv 4)) (blkOk_by (N := sl__law_due) (sc := defScope s__law_due) (by decide +kernel)) (fun _ _ _ _ _ => (pg_name (i := 8) sc__law_due.nd rfl (.inl rfl))) (fun _ _ _ _ _ => pts_nil) (fun _ _ _ _ _ => (pe_dget (hu_of hr) (pv 5) (pe_ix (k_ixt (K := K) rfl) (pe_ix (k_ixt (K := K) rfl) (pe_ix (k_ixt (K := K) rfl) (pv 0) pe_int (fun _ _ => rfl)) (pv 8) (fun _ _ => rfl)) pe_int (fun _ _ => rfl)) (fun _ _ => rfl)))))
  (pss_cons (ps_set (i := 7) sc__law_due.nd rfl (.inr rfl) (pe_callB (k_min (K := K) rfl rfl) (by rfl) B.min bo_min (pa_cons (pv 6) pa_nil)))
  (pss_cons (ps_if (pt_cmpR op_eq (pv 1) pe_str (nomark _))
    (pss_one (ps_set (i := 7) sc__law_due.nd rfl (.inr rfl) (pe_callB (k_max (K := K) rfl rfl) (by rfl) B.max bo_max (pa_cons (pv 6) pa_nil))))
    pss_nil)
  (pss_one (ps_ret (pe_tup (pa_cons (pe_callB (k_min (K := K) rfl rfl) (by rfl) B.min bo_min (pa_cons (pe_lc (own := [("_law_k", 8)]) (g := gName 8) rfl sc__law_due.nd (pi_range1 (by rfl) B.range (pa_cons (pe_callB (k_len (K := K) rfl) (by rfl) B.len bo_len (pa_cons (pv 4) pa_nil)) pa_nil)) (blkOk_by (N := sl__law_due) (sc := defScope s__law_due) (by decide +kernel)) (fun _ _ _ _ _ => (pg_name (i := 8) sc__law_due.nd rfl (.inl rfl))) (fun _ _ _ _ _ => pts_one (pt_cmpR op_eq (pe_ix (k_ixl (K := K) rfl) (pv 6) (pv 8) (fun _ _ => rfl)) (pv 7) (nomark _))) (fun _ _ _ _ _ => (pe_ix (k_ixl (K := K) rfl) (pv 4) (pv 8) (fun _ _ => rfl)))) pa_nil)) pa_nil)))))))))))), ?_⟩
    have hl := hP.pr.len
    have g60 := hP.gm.l60
    refine ⟨_, rfl, _, rfl, _, rfl, t, n, a, pvs, es, c, gs, x, y, rs, ls, rfl, hP, hx, hy, o, fun G W H1 s1 nG hG hR => ?_⟩
    have hWS : WorthS es gs rs ls W := hR
    have hWl := hWS.len
    have hP1 := hP.same s1
    have hx1 := Same.sqt s1 hx
    have hy1 := Same.sqt s1 hy
    refine ⟨_, rfl, rfl, _, rfl, ?_⟩
    have eA : decide (V.str nm.str = V.str ("all" : Str)) = _ := nm_eq (b := .all)
    rw [eA]
    by_cases hW0 : W = []
    · subst hW0
      have don : ∀ {z : Addr}, H1 z = none → Q (.ref z) (upd H1 z (.tup (([] : List Nat).map nV))) := fun nz => q _ [] [] _ (s1.trans (same_new (Same.refl _) nz)) upd_same hWS (.inl ⟨rfl, rfl⟩)
      cases nm with
      | all => exact iteT (iteT ⟨_, rfl, G, _, rfl, .inl ⟨sql hG, fun z nz => don nz⟩⟩)
      | _ =>
        refine iteF ?_
        refine ⟨_, rfl, G, _, rfl, .inl (sql hG), rfl, _, rfl, ?_⟩
        rw [decide_eq_true (show V.int (((([] : List Nat).map nV).length : Nat) : Int) = V.int 0 from rfl)]
        exact iteT ⟨_, rfl, G, _, rfl, .inl ⟨sql hG, fun z nz => don nz⟩⟩
    have hW1 : ¬ V.int (((W.map nV).length : Nat) : Int) = V.int 0 := fun z => by
      injection z with z
      rw [List.length_map] at z
      exact hW0 (List.eq_nil_of_length_eq_zero (by omega))
    have fin : ∀ {z : Addr} {ds : List Nat} {H' : Hp}, Same H1 H' → H' z = some (.tup (ds.map nV)) → SentN es gs rs ls W nm ds → Q (.ref z) H' := fun s hz h => q _ _ W _ (s1.trans s) hz hWS (.inr ⟨hW0, h⟩)
    have hWne : 0 < (W.map fun k => ((k : Nat) : Int)).length := by
      rw [List.length_map]
      exact List.length_pos_iff.mpr hW0
    have hGi : H1 G = some (.lst ((W.map fun k => ((k : Nat) : Int)).map V.int)) := by
      rw [hG, List.map_map]
      rfl
    obtain ⟨dd, hdd⟩ : ∃ dd : Nat → Nat, ∀ {k}, k ∈ W → HD es gs rs ls k (dd k) := ⟨fun k => Classical.epsilon fun d => HD es gs rs ls k d, fun {k} hk => by
      obtain ⟨_, e, he, ha⟩ := (hWS.2 k).mp hk
      obtain ⟨m, hm⟩ := ha
      obtain ⟨d, _, hd⟩ := Dst.ex hm
      exact Classical.epsilon_spec (p := fun d => HD es gs rs ls k d) ⟨d, e, he, hd⟩⟩
    cases nm with
    | all => exact iteT (iteT ⟨_, rfl, G, _, rfl, .inl ⟨sql hG, fun z nz => fin (ds := W) (same_new (Same.refl _) nz) upd_same rfl⟩⟩)
    | first =>
      refine iteF ?_
      refine ⟨_, rfl, G, _, rfl, .inl (sql hG), rfl, _, rfl, ?_⟩
      rw [decide_eq_false hW1]
      refine iteF ?_
      refine ⟨_, rfl, rfl, _, rfl, ?_⟩
      have eF : decide (V.str Nm.first.str = V.str ("first" : Str)) = _ := nm_eq (b := .first)
      rw [eF]
      refine iteT ?_
      refine ⟨_, rfl, G, _, rfl, sql hGi, hWne, fun m hm hmin => ⟨by show 1 ≤ sizeLine; decide, fun z nz => ?_⟩⟩
      obtain ⟨k, hk, rfl⟩ := List.mem_map.mp hm
      refine fin (ds := [k]) (same_new (Same.refl _) nz) upd_same ⟨k, rfl, hk, fun j hj => ?_⟩
      have := hmin _ (List.mem_map.mpr ⟨j, hj, rfl⟩)
      omega
    | last =>
      refine iteF ?_
      refine ⟨_, rfl, G, _, rfl, .inl (sql hG), rfl, _, rfl, ?_⟩
      rw [decide_eq_false hW1]
      refine iteF ?_
      refine ⟨_, rfl, rfl, _, rfl, ?_⟩
      have eF : decide (V.str Nm.last.str = V.str ("first" : Str)) = _ := nm_eq (b := .first)
      rw [eF]
      refine iteF ?_
      refine ⟨_, rfl, rfl, _, rfl, ?_⟩
      have eL : decide (V.str Nm.last.str = V.str ("last" : Str)) = _ := nm_eq (b := .last)
      rw [eL]
      refine iteT ?_
      refine ⟨_, rfl, G, _, rfl, sql hGi, hWne, fun m hm hmax => ⟨by show 1 ≤ sizeLine; decide, fun z nz => ?_⟩⟩
      obtain ⟨k, hk, rfl⟩ := List.mem_map.mp hm
      refine fin (ds := [k]) (same_new (Same.refl _) nz) upd_same ⟨k, rfl, hk, fun j hj => ?_⟩
      have := hmax _ (List.mem_map.mpr ⟨j, hj, rfl⟩)
      omega
    | near =>
      refine iteF ?_
      refine ⟨_, rfl, G, _, rfl, .inl (sql hG), rfl, _, rfl, ?_⟩
      rw [decide_eq_false hW1]
      refine iteF ?_
      refine ⟨_, rfl, rfl, _, rfl, ?_⟩
      have eF : decide (V.str Nm.near.str = V.str ("first" : Str)) = _ := nm_eq (b := .first)
      rw [eF]
      refine iteF ?_
      refine ⟨_, rfl, rfl, _, rfl, ?_⟩
      have eL : decide (V.str Nm.near.str = V.str ("last" : Str)) = _ := nm_eq (b := .last)
      rw [eL]
      refine iteF ?_
      refine ⟨_, rfl, _, rfl, _, rfl, t, n, a, pvs, es, c, gs, x, y, rs, ls, rfl, hP1, hx1, hy1, fun SD hs H2 s2 hSD hsok hsall => ?_⟩
      have hP2 := hP1.same s2
      have hG2 := s2 _ _ hG
      refine ⟨_, rfl, G, rfl, ⟨_, sql hG2⟩, fun D nD => ?_⟩
      refine lc_val (walk_list (xs := W.map nV)) calm_at (fun i => (W[i]?).bind fun k => some (nV (dd k))) (by rw [List.length_map]; omega) nD (fun H4 s4 => sql (s4 _ _ hG2)) ?_ fun H3 s3 h3 => ?_
      · rintro i v H5 H6 hi s5 ⟨rfl, hv⟩ Kt kt
        obtain ⟨k, hki, rfl⟩ := getmap hv
        obtain ⟨⟨e1, e2⟩, hke, hde⟩ := hdd (List.mem_of_getElem? hki)
        have hP6 := hP2.same s5
        have hkn := (List.getElem?_eq_some_iff.mp hke).1
        have hkv : pvs[k]? = some (pvs[k]'(by omega)) := List.getElem?_eq_getElem _
        obtain ⟨tt, htt, ht⟩ := hP6.pr.at_ k _ _ hkv hke
        have k0 := kt _ (Same.refl _)
        rw [hki] at k0
        have g2 := DGet.k (k := Sum.inl (e2 : Int)) (s5 _ _ hSD)
        obtain ⟨b, hb, eb⟩ := kvN_get (hsall _ _ hde)
        have ebd : b = dd k := (hsok _ _ hb).inj hde
        rw [eb, ebd] at g2
        refine ⟨rfl, tyes ?_⟩
        refine iteT ?_
        exact ⟨_, rfl, _, rfl, t, _, (1 : Nat), .ref a, rfl, rfl, hP6.tp, atI_nat rfl, _, rfl, a, pvs, (k : Int), _, rfl, rfl, hP6.ar, atI_nat hkv, tt, _, (1 : Nat), nV e2, htt, rfl, ht, atI_nat rfl, SD, nV (dd k), rfl, g2, k0⟩
      rw [List.length_map, fm_range, fm_some, int_map] at h3
      have hne : 0 < (W.map fun k => ((dd k : Nat) : Int)).length := by
        rw [List.length_map]
        exact List.length_pos_iff.mpr hW0
      refine ⟨_, rfl, D, _, rfl, sql h3, hne, fun m hm hedge => ?_⟩
      obtain ⟨k1, hk1, rfl⟩ := List.mem_map.mp hm
      refine ⟨_, rfl, rfl, _, rfl, ?_⟩
      have eR : decide (V.str Nm.near.str = V.str ("far" : Str)) = _ := nm_eq (b := .far)
      rw [eR]
      refine iteF ?_
      have hG3 := s3 _ _ hG2
      refine ⟨_, rfl, G, _, rfl, .inl (sql hG3), (W.map nV).length, rfl, by omega, by rw [List.length_map]; omega, fun D2 nD2 => ?_⟩
      refine lc_val walk_range calm_fn (fun i => (W[i]?).bind fun k => if dd k = dd k1 then some (nV k) else none) (by show (((W.map nV).length : Nat) : Int).toNat ≤ 100000; rw [List.length_map]; omega) nD2 (fun _ _ => trivial) ?_ fun H4 s4 h4 => ?_
      · rintro i v H5 H6 hi s5 ⟨rfl, rfl⟩ Kt kt
        have hin : i < W.length := by
          have h1 : i < (((W.map nV).length : Nat) : Int).toNat := hi
          rw [List.length_map] at h1
          omega
        have e0 : (0 : Int) + (i : Int) = (i : Int) := Int.zero_add _
        have hki : W[i]? = some W[i] := List.getElem?_eq_getElem hin
        generalize W[i] = k at hki
        have k0 := kt _ (Same.refl _)
        rw [hki] at k0
        simp only [Option.bind_some] at k0
        refine ⟨rfl, ?_⟩
        refine ⟨_, rfl, _, rfl, D, _, _, nV (dd k), rfl, rfl, sql (s5 _ _ h3), by rw [e0]; exact atI_nat (by rw [← int_map, List.getElem?_map, hki]; rfl), _, rfl, rfl, _, rfl, ?_⟩
        by_cases hd : dd k = dd k1
        · rw [if_pos hd] at k0
          rw [decide_eq_true (show nV (dd k) = V.int ((dd k1 : Nat) : Int) by rw [hd]; rfl)]
          refine iteT ?_
          exact ⟨_, rfl, _, rfl, G, _, _, nV k, rfl, rfl, sql (s5 _ _ hG3), by rw [e0]; exact atI_nat (by rw [List.getElem?_map, hki]; rfl), k0⟩
        · rw [if_neg hd] at k0
          rw [decide_eq_false (show ¬ nV (dd k) = V.int ((dd k1 : Nat) : Int) from fun z => hd (by
            have z' : V.int ((dd k : Nat) : Int) = V.int ((dd k1 : Nat) : Int) := z
            injection z' with z'
            omega))]
          exact iteF k0
      obtain ⟨Z, hZd⟩ : ∃ Z : List Nat, Z = W.filterMap fun k => if dd k = dd k1 then some k else none := ⟨_, rfl⟩
      have eZ : ((List.range (((W.map nV).length : Nat) : Int).toNat).filterMap fun i => (W[i]?).bind fun k => if dd k = dd k1 then some (nV k) else none) = (Z.map fun k => ((k : Nat) : Int)).map V.int := by
        have e1 : (((W.map nV).length : Nat) : Int).toNat = W.length := by rw [List.length_map]; omega
        rw [e1, fm_range, hZd, List.map_filterMap, List.map_filterMap]
        congr 1
        funext k
        split <;> rfl
      rw [eZ] at h4
      have hZ : ∀ k, k ∈ Z ↔ k ∈ W ∧ dd k = dd k1 := fun k => by
        rw [hZd, List.mem_filterMap]
        constructor
        · rintro ⟨j, hj, h⟩
          split at h
          · rename_i hc
            cases h
            exact ⟨hj, hc⟩
          · cases h
        · rintro ⟨h1, h2⟩
          exact ⟨k, h1, if_pos h2⟩
      have hZne : 0 < (Z.map fun k => ((k : Nat) : Int)).length := by
        rw [List.length_map]
        exact List.length_pos_of_mem ((hZ k1).mpr ⟨hk1, rfl⟩)
      refine ⟨D2, _, rfl, sql h4, hZne, fun m3 hm3 hmin3 => ?_⟩
      obtain ⟨k, hkZ, rfl⟩ := List.mem_map.mp hm3
      obtain ⟨hkW, hkd⟩ := (hZ k).mp hkZ
      refine ⟨by show 1 ≤ sizeLine; decide, fun z nz => ?_⟩
      refine fin (ds := [k]) ((s2.trans s3).trans (s4.trans (same_new (Same.refl _) nz))) upd_same ⟨k, dd k, rfl, hkW, hdd hkW, fun j hj dj hdj => ?_⟩
      have e5 : dj = dd j := hdj.inj (hdd hj)
      have h6 := hedge _ (List.mem_map.mpr ⟨j, hj, rfl⟩)
      refine ⟨by rw [e5, hkd]; omega, fun e6 => ?_⟩
      have h7 := hmin3 _ (List.mem_map.mpr ⟨j, (hZ j).mpr ⟨hj, by rw [← e5, e6, hkd]⟩, rfl⟩)
      omega
    | far =>
      refine iteF ?_
      refine ⟨_, rfl, G, _, rfl, .inl (sql hG), rfl, _, rfl, ?_⟩
      rw [decide_eq_false hW1]
      refine iteF ?_
      refine ⟨_, rfl, rfl, _, rfl, ?_⟩
      have eF : decide (V.str Nm.far.str = V.str ("first" : Str)) = _ := nm_eq (b := .first)
      rw [eF]
      refine iteF ?_
      refine ⟨_, rfl, rfl, _, rfl, ?_⟩
      have eL : decide (V.str Nm.far.str = V.str ("last" : Str)) = _ := nm_eq (b := .last)
      rw [eL]
      refine iteF ?_
      refine ⟨_, rfl, _, rfl, _, rfl, t, n, a, pvs, es, c, gs, x, y, rs, ls, rfl, hP1, hx1, hy1, fun SD hs H2 s2 hSD hsok hsall => ?_⟩
      have hP2 := hP1.same s2
      have hG2 := s2 _ _ hG
      refine ⟨_, rfl, G, rfl, ⟨_, sql hG2⟩, fun D nD => ?_⟩
      refine lc_val (walk_list (xs := W.map nV)) calm_at (fun i => (W[i]?).bind fun k => some (nV (dd k))) (by rw [List.length_map]; omega) nD (fun H4 s4 => sql (s4 _ _ hG2)) ?_ fun H3 s3 h3 => ?_
      · rintro i v H5 H6 hi s5 ⟨rfl, hv⟩ Kt kt
        obtain ⟨k, hki, rfl⟩ := getmap hv
        obtain ⟨⟨e1, e2⟩, hke, hde⟩ := hdd (List.mem_of_getElem? hki)
        have hP6 := hP2.same s5
        have hkn := (List.getElem?_eq_some_iff.mp hke).1
        have hkv : pvs[k]? = some (pvs[k]'(by omega)) := List.getElem?_eq_getElem _
        obtain ⟨tt, htt, ht⟩ := hP6.pr.at_ k _ _ hkv hke
        have k0 := kt _ (Same.refl _)
        rw [hki] at k0
        have g2 := DGet.k (k := Sum.inl (e2 : Int)) (s5 _ _ hSD)
        obtain ⟨b, hb, eb⟩ := kvN_get (hsall _ _ hde)
        have ebd : b = dd k := (hsok _ _ hb).inj hde
        rw [eb, ebd] at g2
        refine ⟨rfl, tyes ?_⟩
        refine iteT ?_
        exact ⟨_, rfl, _, rfl, t, _, (1 : Nat), .ref a, rfl, rfl, hP6.tp, atI_nat rfl, _, rfl, a, pvs, (k : Int), _, rfl, rfl, hP6.ar, atI_nat hkv, tt, _, (1 : Nat), nV e2, htt, rfl, ht, atI_nat rfl, SD, nV (dd k), rfl, g2, k0⟩
      rw [List.length_map, fm_range, fm_some, int_map] at h3
      have hne : 0 < (W.map fun k => ((dd k : Nat) : Int)).length := by
        rw [List.length_map]
        exact List.length_pos_iff.mpr hW0
      refine ⟨_, rfl, D, _, rfl, sql h3, hne, fun m hm hedge => ?_⟩
      refine ⟨_, rfl, rfl, _, rfl, ?_⟩
      have eR : decide (V.str Nm.far.str = V.str ("far" : Str)) = _ := nm_eq (b := .far)
      rw [eR]
      refine iteT ?_
      refine ⟨_, rfl, D, _, rfl, sql h3, hne, fun m2 hm2 hedge => ?_⟩
      obtain ⟨k1, hk1, rfl⟩ := List.mem_map.mp hm2
      have hG3 := s3 _ _ hG2
      refine ⟨_, rfl, G, _, rfl, .inl (sql hG3), (W.map nV).length, rfl, by omega, by rw [List.length_map]; omega, fun D2 nD2 => ?_⟩
      refine lc_val walk_range calm_fn (fun i => (W[i]?).bind fun k => if dd k = dd k1 then some (nV k) else none) (by show (((W.map nV).length : Nat) : Int).toNat ≤ 100000; rw [List.length_map]; omega) nD2 (fun _ _ => trivial) ?_ fun H4 s4 h4 => ?_
      · rintro i v H5 H6 hi s5 ⟨rfl, rfl⟩ Kt kt
        have hin : i < W.length := by
          have h1 : i < (((W.map nV).length : Nat) : Int).toNat := hi
          rw [List.length_map] at h1
          omega
        have e0 : (0 : Int) + (i : Int) = (i : Int) := Int.zero_add _
        have hki : W[i]? = some W[i] := List.getElem?_eq_getElem hin
        generalize W[i] = k at hki
        have k0 := kt _ (Same.refl _)
        rw [hki] at k0
        simp only [Option.bind_some] at k0
        refine ⟨rfl, ?_⟩
        refine ⟨_, rfl, _, rfl, D, _, _, nV (dd k), rfl, rfl, sql (s5 _ _ h3), by rw [e0]; exact atI_nat (by rw [← int_map, List.getElem?_map, hki]; rfl), _, rfl, rfl, _, rfl, ?_⟩
        by_cases hd : dd k = dd k1
        · rw [if_pos hd] at k0
          rw [decide_eq_true (show nV (dd k) = V.int ((dd k1 : Nat) : Int) by rw [hd]; rfl)]
          refine iteT ?_
          exact ⟨_, rfl, _, rfl, G, _, _, nV k, rfl, rfl, sql (s5 _ _ hG3), by rw [e0]; exact atI_nat (by rw [List.getElem?_map, hki]; rfl), k0⟩
        · rw [if_neg hd] at k0
          rw [decide_eq_false (show ¬ nV (dd k) = V.int ((dd k1 : Nat) : Int) from fun z => hd (by
            have z' : V.int ((dd k : Nat) : Int) = V.int ((dd k1 : Nat) : Int) := z
            injection z' with z'
            omega))]
          exact iteF k0
      obtain ⟨Z, hZd⟩ : ∃ Z : List Nat, Z = W.filterMap fun k => if dd k = dd k1 then some k else none := ⟨_, rfl⟩
      have eZ : ((List.range (((W.map nV).length : Nat) : Int).toNat).filterMap fun i => (W[i]?).bind fun k => if dd k = dd k1 then some (nV k) else none) = (Z.map fun k => ((k : Nat) : Int)).map V.int := by
        have e1 : (((W.map nV).length : Nat) : Int).toNat = W.length := by rw [List.length_map]; omega
        rw [e1, fm_range, hZd, List.map_filterMap, List.map_filterMap]
        congr 1
        funext k
        split <;> rfl
      rw [eZ] at h4
      have hZ : ∀ k, k ∈ Z ↔ k ∈ W ∧ dd k = dd k1 := fun k => by
        rw [hZd, List.mem_filterMap]
        constructor
        · rintro ⟨j, hj, h⟩
          split at h
          · rename_i hc
            cases h
            exact ⟨hj, hc⟩
          · cases h
        · rintro ⟨h1, h2⟩
          exact ⟨k, h1, if_pos h2⟩
      have hZne : 0 < (Z.map fun k => ((k : Nat) : Int)).length := by
        rw [List.length_map]
        exact List.length_pos_of_mem ((hZ k1).mpr ⟨hk1, rfl⟩)
      refine ⟨D2, _, rfl, sql h4, hZne, fun m3 hm3 hmin3 => ?_⟩
      obtain ⟨k, hkZ, rfl⟩ := List.mem_map.mp hm3
      obtain ⟨hkW, hkd⟩ := (hZ k).mp hkZ
      refine ⟨by show 1 ≤ sizeLine; decide, fun z nz => ?_⟩
      refine fin (ds := [k]) ((s2.trans s3).trans (s4.trans (same_new (Same.refl _) nz))) upd_same ⟨k, dd k, rfl, hkW, hdd hkW, fun j hj dj hdj => ?_⟩
      have e5 : dj = dd j := hdj.inj (hdd hj)
      have h6 := hedge _ (List.mem_map.mpr ⟨j, hj, rfl⟩)
      refine ⟨by rw [e5, hkd]; omega, fun e6 => ?_⟩
      have h7 := hmin3 _ (List.mem_map.mpr ⟨j, (hZ j).mpr ⟨hj, by rw [← e5, e6, hkd]⟩, rfl⟩)
      omega

abbrev s__law_told : Stmt := topS 51
abbrev sl__law_told : List Str := ["_law_chart", "_law_name", "_law_standing_here", "_law_told_here"]
theorem sc__law_told : FnScope ["_law_chart", "_law_name", "_law_standing_here", "_law_told_here"] ["_law_chart", "_law_name", "_law_standing_here"] (defScope s__law_told) := ⟨rfl, rfl, rfl, by decide +kernel, rfl, by decide +kernel, by decide +kernel⟩
theorem NoNm.same {K : PySem.W.Frag} {H H' : Hp} {va : V} (s : Same H H') (h : NoNm K H va) : NoNm K H' va := by
  cases h with
  | kind h e => exact .kind (fun H2 s2 => h H2 (s.trans s2)) e
  | word e h => exact .word e h
def spTold21 (K : PySem.W.Frag) (C : Addr) : Sp := fun vs H Q _ => ∃ (p : Addr) (n : Nat) (a : Addr) (pvs : List V) (es : Es) (c : Addr) (gs : List Nat) (va v : V), vs = [.ref p, va, v] ∧ MapOk K C H p n a pvs es c gs ∧
  ((NoNm K H va ∧ ∀ z H', Same H H' → SqT K H' z [.str "refused", .str "name"] → Q (.ref z) H') ∨ (∃ (nm : Nm) (R : Prop), va = .str nm.str ∧ (∀ H', Same H H' → StdRes K H' n es gs v R) ∧ ¬ R ∧ ∀ z H', Same H H' → SqT K H' z [.str "refused", .str "standing"] → Q (.ref z) H') ∨
   (∃ (nm : Nm) (t x y : Addr) (rs ls : List Nat), va = .str nm.str ∧ v = .ref t ∧ At K C H p n a pvs es c gs t x y rs ls ∧ ∀ (z u : Addr) (ds W : List Nat) (H' : Hp), Same H H' → SqT K H' z [.str "told", .ref u] → SqT K H' u (ds.map nV) → WorthS es gs rs ls W → SentR es gs rs ls W nm ds → Q (.ref z) H'))
theorem ok__law_told {CMap CNoStanding CNoName : Addr} (T_NoStanding : Ex K mg "NoStanding" CNoStanding) (T_NoName : Ex K mg "NoName" CNoName)
    (m_NoName_NoName : PySem.W.exmOne K (.ref CNoName) (.ref CNoName) = some true) (m_NoStanding_NoName : PySem.W.exmOne K (.ref CNoStanding) (.ref CNoName) = some false) (m_NoStanding_NoStanding : PySem.W.exmOne K (.ref CNoStanding) (.ref CNoStanding) = some true)
    (hX_sent_by : HasX P w K mg base "sent_by" 6 ["chart", "name", "standing"] (spOr (spSent K CMap) (spSentBad K CMap CNoStanding CNoName))) (D0 : Df K mg "_law_told" s__law_told ["_law_chart", "_law_name", "_law_standing_here"]) : Has P w K mg base "_law_told" 7 ["_law_chart", "_law_name", "_law_standing_here"] (spTold21 K CMap) := by
  refine D0.has fun f fd F => F.ok sc__law_told (fun vs H Q E h => ?_) (fun cdv A outer s H vs Q E hr h => ?_)
  · obtain ⟨p, n, a, pvs, es, c, gs, va, v, rfl, _⟩ := h
    rfl
  · obtain ⟨p, n, a, pvs, es, c, gs, va, v, rfl, m, hq⟩ := h
    refine ⟨_, (pss_cons (ps_set (i := 3) sc__law_told.nd rfl (.inl rfl) (pe_tup (pa_cons pe_str (pa_cons pe_str pa_nil))))
  (pss_cons (ps_try_many rfl rfl takes0 (fun W pn xe tk po =>
    (pss_one (ps_set (i := 3) sc__law_told.nd rfl (.inl rfl) (pe_tup (pa_cons pe_str (pa_cons (pcallS hX_sent_by hr (by decide) (by rfl) tk (pa_cons (pv 0) (pa_cons (pv 1) (pa_cons (pv 2) pa_nil)))) pa_nil)))))) (.cons ⟨rfl, by decide, .inl T_NoName.g⟩ (fun a oe cls d pn _ _ =>
    (pss_one (ps_set (i := 3) sc__law_told.nd rfl (.inl rfl) (pe_tup (pa_cons pe_str (pa_cons pe_str pa_nil)))))) (.cons ⟨rfl, by decide, .inl T_NoStanding.g⟩ (fun a oe cls d pn _ _ =>
    (pss_one (ps_set (i := 3) sc__law_told.nd rfl (.inl rfl) (pe_tup (pa_cons pe_str (pa_cons pe_str pa_nil)))))) .nil)))
  (pss_one (ps_ret (pv 3))))), ?_⟩
    refine ⟨by show 2 ≤ sizeLine; decide, fun z nz => ?_⟩
    have s0 := same_new (o := .tup [.str "refused", .str "none"]) (Same.refl H) nz
    generalize upd H z (.tup [.str "refused", .str "none"]) = H0 at s0
    rcases hq with ⟨hno, q⟩ | ⟨nm, R, rfl, hR, nr, q⟩ | ⟨nm, t, x, y, rs, ls, rfl, rfl, hA, q⟩
    · refine ⟨_, rfl, _, rfl, _, rfl, .inr ⟨p, n, a, pvs, es, c, gs, va, v, rfl, m.same s0, .inl ⟨hno.same s0, fun H1 s1 => ?_⟩⟩⟩
      refine ⟨true, m_NoName_NoName, fun _ a ha => ⟨by show 2 ≤ sizeLine; decide, fun u nu => ⟨_, rfl, ?_⟩⟩, fun z => Bool.noConfusion z⟩
      exact q _ _ ((s0.trans s1).trans (same_new (Same.refl _) nu)) (sqt upd_same)
    · refine ⟨_, rfl, _, rfl, _, rfl, .inr ⟨p, n, a, pvs, es, c, gs, _, v, rfl, m.same s0, .inr ⟨nm, R, rfl, hR _ s0, nr, fun H1 s1 => ?_⟩⟩⟩
      refine ⟨false, m_NoStanding_NoName, fun z => Bool.noConfusion z, fun _ => ⟨true, m_NoStanding_NoStanding, fun _ a ha => ⟨by show 2 ≤ sizeLine; decide, fun u nu => ⟨_, rfl, ?_⟩⟩, fun z => Bool.noConfusion z⟩⟩
      exact q _ _ ((s0.trans s1).trans (same_new (Same.refl _) nu)) (sqt upd_same)
    · refine ⟨_, rfl, _, rfl, _, rfl, .inl ⟨p, n, a, pvs, es, c, gs, t, x, y, rs, ls, nm, rfl, hA.same s0, fun w0 ds W H1 s1 hw hWS hR => ?_⟩⟩
      refine ⟨by show 2 ≤ sizeLine; decide, fun u nu => ⟨_, rfl, ?_⟩⟩
      have s2 := same_new (o := .tup [.str "told", .ref w0]) (Same.refl H1) nu
      exact q u w0 ds W _ ((s0.trans s1).trans s2) (sqt upd_same) (sqt (s2 _ _ hw)) hWS hR

abbrev s_law : Stmt := topS 52
abbrev sl_law : List Str := ["_law_script", "_law_hand_here", "_law_places", "_law_many", "_law_parts_here", "_law_chart", "_law_names", "_law_standing_here", "_law_name", "_law_due_here", "_law_bad", "_law_odd", "_law_thing", "_law_turn"]
theorem sc_law : FnScope ["_law_script", "_law_hand_here", "_law_places", "_law_many", "_law_parts_here", "_law_chart", "_law_names", "_law_standing_here", "_law_name", "_law_due_here", "_law_bad", "_law_odd", "_law_thing", "_law_turn"] ["_law_script"] (defScope s_law) := ⟨rfl, rfl, rfl, by decide +kernel, rfl, by decide +kernel, by decide +kernel⟩
/-- what repr asks of data -/
structure Shw (d : PyData) : Prop where
  s : d.showable = true
  n : d.hasDict = false
  d8 : d.depth ≤ 8
  z : d.shown.length ≤ sizeLine
theorem int64 : ∀ k : Fin 64, (PyData.shown (.int ((k : Nat) : Int))).length ≤ 8 ∧ PyData.showable (.int ((k : Nat) : Int)) = true ∧ PyData.weight (.int ((k : Nat) : Int)) ≤ 7 := by decide +kernel
theorem shw_nats : ∀ {ls : List Nat}, (∀ k ∈ ls, k < 64) → PyData.showableAll (ls.map dN) = true ∧ PyData.hasDictAll (ls.map dN) = false ∧ PyData.leavesShortAll 8 (ls.map dN) = true ∧ PyData.weightAll (ls.map dN) ≤ 8 * ls.length
  | [], _ => ⟨rfl, rfl, rfl, Nat.le_refl _⟩
  | k :: r, h => by
    obtain ⟨h1, h2, h3⟩ := int64 ⟨k, h k List.mem_cons_self⟩
    obtain ⟨i1, i2, i3, i4⟩ := shw_nats (ls := r) fun j hj => h j (List.mem_cons_of_mem _ hj)
    rw [List.map_cons]
    refine ⟨?_, ?_, ?_, ?_⟩
    · rw [PyData.showableAll, i1, Bool.and_true]
      exact h2
    · rw [PyData.hasDictAll, i2, Bool.or_false]
      unfold dN
      rw [PyData.hasDict]
    · rw [PyData.leavesShortAll, i3, Bool.and_true]
      unfold dN
      rw [PyData.leavesShort]
      exact decide_eq_true h1
    · rw [PyData.weightAll, List.length_cons]
      have : PyData.weight (dN k) ≤ 7 := h3
      omega
def lotD (ds : List Nat) : PyData := .tuple [.str "told", .tuple (ds.map dN)]
theorem shw_lot {ds : List Nat} (h : ∀ k ∈ ds, k < 64) (h1 : ds.length ≤ 1000) : Shw (lotD ds) := by
  obtain ⟨a1, a2, a3, a4⟩ := shw_nats h
  have hs : (100000000 : Nat) ≤ 10 * sizeLine := by decide
  refine ⟨?_, ?_, ?_, ?_⟩
  · simp only [lotD, PyData.showable, PyData.showableAll, a1, Bool.and_true]
  · simp only [lotD, PyData.hasDict, PyData.hasDictAll, a2, Bool.or_false]
  · simp only [lotD, PyData.depth, PyData.depthAll, dep_nats]
    decide
  · have e3 : (lotD ds).leavesShort 8 = true := by
      have : PyData.leavesShort 8 (.str ("told" : Str)) = true := by decide +kernel
      simp only [lotD, PyData.leavesShort, PyData.leavesShortAll, a3, Bool.and_true] at this ⊢
      exact this
    have e4 : (lotD ds).weight ≤ 9000 := by
      have : PyData.weight (.str ("told" : Str)) ≤ 10 := by decide +kernel
      simp only [lotD, PyData.weightAll, PyData.weight] at this ⊢
      omega
    have := PyData.shown_le 8 (Nat.le_refl _) _ e3
    omega
def refD (s : Str) : PyData := .tuple [.str "refused", .str s]
theorem shp_rs : SeqAt.shaped (refD "standing") = true := by decide +kernel
theorem shp_rn : SeqAt.shaped (refD "name") = true := by decide +kernel
theorem law_sizes21 {t1 t2 t3 : Addr} {H : Hp} (h1 : H t1 = some (.tup [.int 30, .int 45])) (h2 : H t2 = some (.tup [.int 9, .int 16])) (h3 : H t3 = some (.tup [.int 6, .int 9])) {k : Int} (k0 : 0 ≤ k) (k3 : k < 3) :
    ∃ (t : Addr) (pl ar : Nat), atI [V.ref t1, .ref t2, .ref t3] k = some (.ref t) ∧ H t = some (.tup [.int (pl : Int), .int (ar : Int)]) ∧ 2 ≤ pl ∧ pl ≤ 40 ∧ ar ≤ 60 := by
  obtain ⟨j, rfl⟩ : ∃ j : Nat, k = (j : Int) := ⟨k.toNat, by omega⟩
  have hj : j = 0 ∨ j = 1 ∨ j = 2 := by omega
  rcases hj with rfl | rfl | rfl
  · exact ⟨t1, 30, 45, atI_nat rfl, h1, by decide, by decide, by decide⟩
  · exact ⟨t2, 9, 16, atI_nat rfl, h2, by decide, by decide, by decide⟩
  · exact ⟨t3, 6, 9, atI_nat rfl, h3, by decide, by decide, by decide⟩
theorem no_std {n : Nat} {es : Es} {gs : List Nat} {r0 : Nat} (h : r0 ≠ 0) : ¬ ∃ rs ls : List Nat, some [V.int (r0 : Int)] = some (rs.map nV) ∧ some ([] : List V) = some (ls.map nV) ∧ StdOk n es gs rs ls := by
  rintro ⟨rs, ls, e, _, o⟩
  have e2 : rs = [r0] := nV_inj (Option.some.inj e.symm)
  have := o.r0
  rw [e2, List.mem_singleton] at this
  exact h this.symm
theorem no_std3 {n : Nat} {es : Es} {gs : List Nat} {xs : List V} : ¬ ∃ rs ls : List Nat, some xs = some (rs.map nV) ∧ some [V.int (es.length : Int)] = some (ls.map nV) ∧ StdOk n es gs rs ls := by
  rintro ⟨rs, ls, _, e, o⟩
  have e2 : ls = [es.length] := nV_inj (Option.some.inj e.symm)
  have := o.ln es.length (by rw [e2]; exact List.mem_cons_self)
  omega
def nmsV : List V := [.str "first", .str "last", .str "all", .str "near", .str "far"]
theorem nm_of {v : V} (h : v ∈ nmsV) : ∃ nm : Nm, v = .str nm.str := by
  simp only [nmsV, List.mem_cons, List.not_mem_nil, or_false] at h
  rcases h with rfl | rfl | rfl | rfl | rfl
  · exact ⟨.first, rfl⟩
  · exact ⟨.last, rfl⟩
  · exact ⟨.all, rfl⟩
  · exact ⟨.near, rfl⟩
  · exact ⟨.far, rfl⟩
/-- a value that is no name -/
def BadN (K : PySem.W.Frag) (H : Hp) (v : V) : Prop := (∃ s, v = .str s ∧ inV (V.str s) [.str "first", .str "last", .str "all", .str "near", .str "far"] = false) ∨ (KnI K H v ∧ ∀ s, v ≠ .str s)
theorem BadN.dr {K : PySem.W.Frag} {F H H' : Hp} {h : Addr} {v : V} (b : BadN K H v) (d : Dr F H H' h) (hA : HandAt F H h) : BadN K H' v := b.imp id fun z => ⟨z.1.dr d hA, z.2⟩
theorem BadN.same {K : PySem.W.Frag} {H H' : Hp} {v : V} (b : BadN K H v) (s : Same H H') : BadN K H' v := b.imp id fun z => ⟨z.1.same s, z.2⟩
theorem BadN.no {K : PySem.W.Frag} {H : Hp} {v : V} (b : BadN K H v) : NoNm K H v := by
  rcases b with ⟨s, rfl, h⟩ | ⟨h, hs⟩
  · exact .word rfl h
  · rcases h with h | ⟨a, xs, rfl, h⟩
    · cases h with
      | non => exact .kind (sa := "NoneType") (fun _ _ => ⟨.base .non, by simp⟩) (by decide)
      | bl b => exact .kind (sa := "bool") (fun _ _ => kn_of_bl) (by decide)
      | int i => exact .kind (sa := "int") (fun _ _ => kn_of_int) (by decide)
      | str x => exact absurd rfl (hs x)
      | lst e => exact .kind (sa := "list") (fun _ s => ⟨.base (.lst (s _ _ e)), by simp⟩) (by decide)
      | dic e => exact .kind (sa := "dict") (fun _ s => ⟨.base (.dK (s _ _ e)), by simp⟩) (by decide)
    · exact .kind (sa := "tuple") (fun _ s => kn_of_tup (Same.sqt s h)) (by decide)
def spLaw (K : PySem.W.Frag) : Sp := fun vs H Q _ => ∃ (a : Addr) (ns : List Int), vs = [.ref a] ∧ SqL K H a (ns.map V.int) ∧ ns.length ≤ 63 ∧ ∀ H', Q (.bl true) H'
theorem ok_law {CMap : Addr} (B : Bt mg) (C : MapC K mg CMap) (h_init : HasI P w K mg base CMap 5 ["self", "many", "arrows", "goals"] (spMapInit K CMap)) (h_law_hand : Has P w K mg base "_law_hand" 1 ["_law_script"] (spHand K))
    (h_law_draw : Has P w K mg base "_law_draw" 1 ["_law_hand_here", "_law_many"] spDraw) (h_law_parts : Has P w K mg base "_law_parts" 4 ["_law_hand_here", "_law_places", "_law_arrows"] (spParts K))
    (h_law_standing : Has P w K mg base "_law_standing" 4 ["_law_hand_here", "_law_parts_here"] (spStanding K)) (h_law_shuffled : Has P w K mg base "_law_shuffled" 2 ["_law_hand_here", "_law_things"] (spShuffled K))
    (h_law_due : Has P w K mg base "_law_due" 4 ["_law_parts_here", "_law_name", "_law_reached", "_law_rotten"] (spDue21 K)) (h_law_told : Has P w K mg base "_law_told" 7 ["_law_chart", "_law_name", "_law_standing_here"] (spTold21 K CMap))
    {f : Addr} {fd : FuncData} (F : Fun K "law" "law" s_law f fd) : FnG P w K mg base 8 f fd ["_law_script"] (spLaw K) := by
  refine Fun.okG F sc_law (fun vs H Q E h => ?_) (fun cdv A outer s H vs Q E hgd hr h => ?_)
  · obtain ⟨a, ns, rfl, _⟩ := h
    rfl
  · obtain ⟨sc, ns, rfl, hS, hns, q⟩ := h
    refine ⟨_, (pss_cons (ps_set (i := 1) sc_law.nd rfl (.inr rfl) (pcall h_law_hand hr (by decide) (by rfl) (pa_cons (pv 0) pa_nil)))
  (pss_cons (ps_asg (pe_ix (k_ixl (K := K) rfl) (pe_lst (pa_cons (pe_tup (pa_cons pe_int (pa_cons pe_int pa_nil))) (pa_cons (pe_tup (pa_cons pe_int (pa_cons pe_int pa_nil))) (pa_cons (pe_tup (pa_cons pe_int (pa_cons pe_int pa_nil))) pa_nil)))) (pcall h_law_draw hr (by decide) (by rfl) (pa_cons (pv 1) (pa_cons pe_int pa_nil))) (fun _ _ => rfl)) (pg_tup rfl (pgs_cons (pg_name (i := 2) sc_law.nd rfl (.inl rfl)) (pgs_cons (pg_name (i := 3) sc_law.nd rfl (.inl rfl)) pgs_nil))))
  (pss_cons (ps_set (i := 4) sc_law.nd rfl (.inr rfl) (pcall h_law_parts hr (by decide) (by rfl) (pa_cons (pv 1) (pa_cons (pv 2) (pa_cons (pv 3) pa_nil)))))
  (pss_cons (ps_set (i := 5) sc_law.nd rfl (.inl rfl) (pe_make h_init.m h_init.F (hr.mono (by decide)) (by rfl) C.mgMap h_init.b .nil pass0 (pa_cons (pe_ix (k_ixt (K := K) rfl) (pv 4) pe_int (fun _ _ => rfl)) (pa_cons (pe_ix (k_ixt (K := K) rfl) (pv 4) pe_int (fun _ _ => rfl)) (pa_cons (pe_ix (k_ixt (K := K) rfl) (pv 4) pe_int (fun _ _ => rfl)) pa_nil)))))
  (pss_cons (ps_set (i := 6) sc_law.nd rfl (.inl rfl) (pe_lst (pa_cons pe_str (pa_cons pe_str (pa_cons pe_str (pa_cons pe_str (pa_cons pe_str pa_nil)))))))
  (pss_cons (ps_for PassesOwn.never rfl (k_pil (K := K) rfl (pe_op op_cat (pe_lst (pa_cons (pe_tup (pa_cons (pe_tup (pa_cons pe_int pa_nil)) (pa_cons (pe_tup pa_nil) pa_nil))) pa_nil)) (pe_lc (own := [("_law_turn", 13)]) (g := gName 13) rfl sc_law.nd (pi_range1 (by rfl) B.range (pa_cons pe_int pa_nil)) (blkOk_by (N := sl_law) (sc := defScope s_law) (by decide +kernel)) (fun _ _ _ _ _ => (pg_name (i := 13) sc_law.nd rfl (.inl rfl))) (fun _ _ _ _ _ => pts_nil) (fun _ _ _ _ _ => (pcall h_law_standing hr (by decide) (by rfl) (pa_cons (pv 1) (pa_cons (pv 4) pa_nil))))))) (pg_name (i := 7) sc_law.nd rfl (.inl rfl))
    (pss_cons (ps_for PassesOwn.never rfl (k_pil (K := K) rfl (pcall h_law_shuffled hr (by decide) (by rfl) (pa_cons (pv 1) (pa_cons (pe_op op_cat (pv 6) (pv 6)) pa_nil)))) (pg_name (i := 8) sc_law.nd rfl (.inl rfl))
    (pss_cons (ps_set (i := 9) sc_law.nd rfl (.inl rfl) (pe_tup (pa_cons pe_str (pa_cons (pcall h_law_due hr (by decide) (by rfl) (pa_cons (pv 4) (pa_cons (pv 8) (pa_cons (pe_ix (k_ixt (K := K) rfl) (pv 7) pe_int (fun _ _ => rfl)) (pa_cons (pe_ix (k_ixt (K := K) rfl) (pv 7) pe_int (fun _ _ => rfl)) pa_nil))))) pa_nil))))
  (pss_one (ps_if (pt_cmpR op_ne (pe_callB (k_repr (K := K) rfl hgd hr.units) (by rfl) B.repr bo_repr (pa_cons (pcall h_law_told hr (by decide) (by rfl) (pa_cons (pv 5) (pa_cons (pv 8) (pa_cons (pv 7) pa_nil)))) pa_nil)) (pe_callB (k_repr (K := K) rfl hgd hr.units) (by rfl) B.repr bo_repr (pa_cons (pv 9) pa_nil)) (nomark _))
    (pss_one (ps_ret pe_bl))
    pss_nil))))
  (pss_cons (ps_set (i := 10) sc_law.nd rfl (.inl rfl) (pe_ix (k_ixl (K := K) rfl) (pe_lst (pa_cons pe_non (pa_cons (pe_callTy (k_list (K := K) rfl) (by rfl) B.list bo_list (pa_cons (pv 7) pa_nil)) (pa_cons (pe_tup (pa_cons (pe_ix (k_ixt (K := K) rfl) (pv 7) pe_int (fun _ _ => rfl)) pa_nil)) (pa_cons (pe_tup (pa_cons (pe_tup (pa_cons pe_int pa_nil)) (pa_cons (pe_tup pa_nil) pa_nil))) (pa_cons (pe_tup (pa_cons (pe_ix (k_ixt (K := K) rfl) (pv 7) pe_int (fun _ _ => rfl)) (pa_cons (pe_tup (pa_cons (pe_callB (k_len (K := K) rfl) (by rfl) B.len bo_len (pa_cons (pe_ix (k_ixt (K := K) rfl) (pv 4) pe_int (fun _ _ => rfl)) pa_nil)) pa_nil)) pa_nil))) pa_nil)))))) (pcall h_law_draw hr (by decide) (by rfl) (pa_cons (pv 1) (pa_cons pe_int pa_nil))) (fun _ _ => rfl)))
  (pss_cons (ps_for PassesOwn.never rfl (k_pil (K := K) rfl (pv 6)) (pg_name (i := 8) sc_law.nd rfl (.inl rfl))
    (pss_one (ps_if (pt_cmpR (k_neD (K := K) rfl hr.units) (pcall h_law_told hr (by decide) (by rfl) (pa_cons (pv 5) (pa_cons (pv 8) (pa_cons (pv 10) pa_nil)))) (pe_tup (pa_cons pe_str (pa_cons pe_str pa_nil))) (nomark _))
    (pss_one (ps_ret pe_bl))
    pss_nil)))
  (pss_cons (ps_set (i := 11) sc_law.nd rfl (.inl rfl) (pe_lst (pa_cons pe_str (pa_cons pe_str (pa_cons pe_str (pa_cons pe_str (pa_cons pe_str (pa_cons pe_str (pa_cons pe_str (pa_cons pe_str (pa_cons pe_non (pa_cons pe_int (pa_cons pe_bl (pa_cons (pe_tup (pa_cons pe_str pa_nil)) (pa_cons (pe_lst (pa_cons pe_str pa_nil)) (pa_cons pe_dnewK pa_nil))))))))))))))))
  (pss_cons (ps_set (i := 8) sc_law.nd rfl (.inl rfl) (pe_ix (k_ixl (K := K) rfl) (pv 11) (pcall h_law_draw hr (by decide) (by rfl) (pa_cons (pv 1) (pa_cons (pe_callB (k_len (K := K) rfl) (by rfl) B.len bo_len (pa_cons (pv 11) pa_nil)) pa_nil))) (fun _ _ => rfl)))
  (pss_one (ps_for PassesOwn.never rfl (k_pil (K := K) rfl (pe_lst (pa_cons (pv 7) (pa_cons (pv 10) pa_nil)))) (pg_name (i := 12) sc_law.nd rfl (.inl rfl))
    (pss_one (ps_if (pt_cmpR (k_neD (K := K) rfl hr.units) (pcall h_law_told hr (by decide) (by rfl) (pa_cons (pv 5) (pa_cons (pv 8) (pa_cons (pv 12) pa_nil)))) (pe_tup (pa_cons pe_str (pa_cons pe_str pa_nil))) (nomark _))
    (pss_one (ps_ret pe_bl))
    pss_nil))))))))))
  (pss_one (ps_ret pe_bl)))))))), ?_⟩
    refine ⟨_, rfl, sc, ns, fun _ => none, rfl, hS, by omega, fun b o e => (by cases e), fun h F0 H1 g1 hA => ?_⟩
    have hF := g1.sub'
    -- the sizes
    refine ⟨by show 2 ≤ sizeLine; decide, fun t1 n1 => ⟨by show 2 ≤ sizeLine; decide, fun t2 n2 => ⟨by show 2 ≤ sizeLine; decide, fun t3 n3 => ⟨by show 3 ≤ sizeLine; decide, fun tl nl => ?_⟩⟩⟩⟩
    have s1 := same_new (o := .tup [.int 30, .int 45]) (Same.refl H1) n1
    have s2 := same_new (o := .tup [.int 9, .int 16]) (Same.refl _) n2
    have s3 := same_new (o := .tup [.int 6, .int 9]) (Same.refl _) n3
    have s4 := same_new (o := .lst [.ref t1, .ref t2, .ref t3]) (Same.refl _) nl
    have s14 := ((s1.trans s2).trans s3).trans s4
    have d1 := Dr.of_same hA hF s14
    have ntl : tl ≠ h := hA.ne (Same.free ((s1.trans s2).trans s3) nl)
    have nt1 : t1 ≠ h := hA.ne n1
    have nt2 : t2 ≠ h := hA.ne (Same.free s1 n2)
    have nt3 : t3 ≠ h := hA.ne (Same.free (s1.trans s2) n3)
    refine ⟨_, rfl, h, 3, F0, rfl, by decide, small_log (by decide) (by omega), d1.sub, d1.hand, fun k0 H2 hk0 hk1 dd2 => ?_⟩
    obtain ⟨t, pl, ar, hat, ht, hp2, hp40, ha60⟩ := law_sizes21 (t1 := t1) (t2 := t2) (t3 := t3) (H := H2) (by rw [dd2.rest t1 nt1]; exact s4 _ _ (s3 _ _ (s2 _ _ upd_same))) (by rw [dd2.rest t2 nt2]; exact s4 _ _ (s3 _ _ upd_same)) (by rw [dd2.rest t3 nt3]; exact s4 _ _ upd_same) hk0 hk1
    refine ⟨tl, _, k0, .ref t, rfl, rfl, sql (by rw [dd2.rest tl ntl]; exact upd_same), hat, t, _, rfl, sqt ht, rfl, _, _, rfl, _, _, rfl, rfl, ?_⟩
    -- the parts
    refine ⟨_, rfl, _, rfl, _, rfl, h, pl, ar, F0, rfl, hp2, hp40, ha60, dd2.sub, dd2.hand, fun pt n a c pvs es gs H3 _ _ d3 hpt0 => ?_⟩
    have hpt : PtsAt K H3 pt n a pvs es c gs := hpt0.same d3.hvG.sub'
    have hl := hpt.pr.len
    have gn := hpt.gm.n40
    have g60 := hpt.gm.l60
    have hok : ∀ e ∈ es, e.1 < n ∧ e.2 < n := fun e he => ⟨(hpt.gm.ok e he).1, (hpt.gm.ok e he).2.1⟩
    -- the map
    refine ⟨_, rfl, pt, _, (0 : Nat), nV n, rfl, rfl, hpt.tp, atI_nat rfl, _, rfl, pt, _, (1 : Nat), .ref a, rfl, rfl, hpt.tp, atI_nat rfl, _, rfl, pt, _, (2 : Nat), .ref c, rfl, rfl, hpt.tp, atI_nat rfl, ?_⟩
    intro p dx np ndx nedx
    have s5 : Same H3 (upd (upd H3 dx (.own p)) p (.ins CMap dx [])) := fun b o e => by
      rw [upd_ne (ne_of_none e np), upd_ne (ne_of_none e ndx)]
      exact e
    refine ⟨p, dx, n, a, pvs, es, c, gs, rfl, upd_same, Same.sqt s5 hpt.ar, hpt.pr.same s5, Same.sqt s5 hpt.go, hpt.gm, fun H4 mp keep => ⟨rfl, ?_⟩⟩
    have s34 : Same H3 H4 := fun b o e => keep b o (ne_of_none e np) (s5 b o e)
    have hpt4 := hpt.same s34
    have m4 := MapOk.of mp (hpt.pr.same s34) hpt.gm
    have d4 := Dr.of_same d3.hand d3.sub s34
    -- the names
    refine ⟨by show 5 ≤ sizeLine; decide, fun nl nnl => ?_⟩
    have snl := same_new (o := .lst [V.str "first", .str "last", .str "all", .str "near", .str "far"]) (Same.refl H4) nnl
    have hnl0 := upd_same (H := H4) (a := nl) (o := .lst [V.str "first", .str "last", .str "all", .str "near", .str "far"])
    have d4n := Dr.of_same d4.hand d4.sub snl
    have nlh : nl ≠ h := d4.hand.ne nnl
    have hpt4n := hpt4.same snl
    have m4n := m4.same snl
    generalize upd H4 nl (.lst [V.str "first", .str "last", .str "all", .str "near", .str "far"]) = H5 at snl hnl0 d4n hpt4n m4n
    -- the standings
    refine ⟨by show 1 ≤ sizeLine; decide, fun x0 nx0 => ⟨Nat.zero_le _, fun y0 ny0 => ⟨by show 2 ≤ sizeLine; decide, fun u0 nu0 => ⟨by show 1 ≤ sizeLine; decide, fun l0 nl0 => ?_⟩⟩⟩⟩
    have s6 := same_new (o := .tup [.int 0]) (Same.refl H5) nx0
    have s7 := same_new (o := .tup []) (Same.refl _) ny0
    have s8 := same_new (o := .tup [.ref x0, .ref y0]) (Same.refl _) nu0
    have s9 := same_new (o := .lst [.ref u0]) (Same.refl _) nl0
    have s69 := ((s6.trans s7).trans s8).trans s9
    have st0 : StdAt K _ u0 x0 y0 [0] [] := ⟨sqt (s9 _ _ upd_same), sqt (s9 _ _ (s8 _ _ (s7 _ _ upd_same))), sqt (s9 _ _ (s8 _ _ upd_same))⟩
    generalize hH6 : upd _ l0 _ = H6 at s69 st0
    have hl06 : H6 l0 = some (.lst [.ref u0]) := by rw [← hH6]; exact upd_same
    have nl0h : l0 ≠ h := d4n.hand.ne (Same.free ((s6.trans s7).trans s8) nl0)
    have d6 := Dr.of_same d4n.hand d4n.sub s69
    have hpt6 := hpt4n.same s69
    have m6 := m4n.same s69
    have hnl6 := s69 _ _ hnl0
    refine ⟨3, rfl, by decide, by decide, fun D nD => ?_⟩
    have nDh : D ≠ h := d6.hand.ne nD
    refine lc_it walk_range (fun i H' => ∃ svs : List V, Dr F0 H6 H' h ∧ H' D = some (.lst svs) ∧ svs.length = i ∧ ∀ v ∈ svs, IsSt K H' n es gs v)
      ⟨[], Dr.of_same d6.hand d6.sub (same_new (Same.refl H6) nD), upd_same, rfl, fun v hv => (List.not_mem_nil hv).elim⟩ (fun _ _ _ _ => trivial) ?_ ?_
    · rintro i v H7 H8 hi ⟨svs, d7, hD7, hsl, hall⟩ ⟨rfl, rfl⟩
      refine ⟨rfl, tyes ?_⟩
      refine iteT ?_
      refine ⟨_, rfl, _, rfl, h, pt, n, a, pvs, es, c, gs, F0, rfl, hpt6.dr d7 d6.hand, d7.sub, d7.hand, fun v x y rs ls H9 d89 S o => ?_⟩
      have hD9 := d89.same D _ nDh hD7
      have hi3 : i < 3 := hi
      refine ⟨svs, hD9, small_lt (by omega), svs ++ [.ref v], (d7.trans d89).upd nD nDh (Same.free d6.sub nD), upd_same, by rw [List.length_append, hsl]; rfl, fun z hz => ?_⟩
      rcases List.mem_append.mp hz with hz | hz
      · obtain ⟨u', x', y', rs', ls', e', S', o'⟩ := hall z hz
        exact ⟨u', x', y', rs', ls', e', (S'.dr d89 d7.hand).upd hD9, o'⟩
      · rw [List.mem_singleton.mp hz]
        exact ⟨v, x, y, rs, ls, rfl, (S.same d89.hvG.sub').upd hD9, o⟩
    rintro H7 ⟨svs, d7, hD7, hsl, hall⟩
    have hsl3 : svs.length = 3 := hsl
    have hl07 := d7.same l0 _ nl0h hl06
    refine ⟨l0, D, _, _, rfl, rfl, hl07, hD7, small_sz (by rw [List.length_singleton]; omega), fun r nr => ⟨r, rfl, ⟨_, sql upd_same⟩, ?_⟩⟩
    have s10 := same_new (o := .lst ([V.ref u0] ++ svs)) (Same.refl H7) nr
    have nrh : r ≠ h := d7.hand.ne nr
    have d8 := d7.trans (Dr.of_same d7.hand d7.sub s10)
    have hr8 : upd H7 r (.lst ([V.ref u0] ++ svs)) r = some (.lst ([V.ref u0] ++ svs)) := upd_same
    have hall8 : ∀ v ∈ [V.ref u0] ++ svs, IsSt K (upd H7 r (.lst ([V.ref u0] ++ svs))) n es gs v := fun v hv => by
      rcases List.mem_append.mp hv with hv | hv
      · rw [List.mem_singleton.mp hv]
        exact ⟨u0, x0, y0, [0], [], rfl, (st0.dr d7 d6.hand).same s10, begin_ok hpt.gm⟩
      · exact (hall v hv).same s10
    generalize ([V.ref u0] ++ svs) = sts at d8 hr8 hall8 s10
    generalize upd H7 r (.lst sts) = H8 at d8 hr8 hall8
    have hpt8 := hpt6.dr d8 d6.hand
    have m8 := m6.dr d8 d6.hand
    have hnl8 := d8.same nl _ nlh hnl6
    have hl := hpt.pr.len
    refine for_list (xs := sts) (fun i σ H' => ∃ x7 x8 x9 x10 x11 x12 : Option V, σ = [some (.ref sc), some (.ref h), some (.int (pl : Int)), some (.int (ar : Int)), some (.ref pt), some (.ref p), some (.ref nl), x7, x8, x9, x10, x11, x12, none] ∧ Dr F0 H8 H' h)
      ⟨none, none, none, none, none, none, rfl, Dr.refl d8.hand d8.sub⟩ ?_ ?_ ?_
    · rintro i σ H' _ ⟨_, _, _, _, _, _, rfl, d⟩
      exact sql (d.same r _ nrh hr8)
    · rintro i v σ H9 hv ⟨_, x8, x9, x10, x11, x12, rfl, d9⟩
      obtain ⟨u, x, y, rs, ls, rfl, S0, o⟩ := hall8 v (List.mem_of_getElem? hv)
      have S9 := S0.dr d9 d8.hand
      have hnl9 := d9.same nl _ nlh hnl8
      -- the names in some order, twice each
      refine ⟨_, rfl, _, rfl, _, rfl, nl, nl, _, _, rfl, rfl, hnl9, hnl9, small_sz (by decide), fun l2 nl2 => ?_⟩
      have s10' := same_new (o := .lst ([V.str "first", .str "last", .str "all", .str "near", .str "far"] ++ [V.str "first", .str "last", .str "all", .str "near", .str "far"])) (Same.refl H9) nl2
      have hl2 : upd H9 l2 (.lst ([V.str "first", .str "last", .str "all", .str "near", .str "far"] ++ [V.str "first", .str "last", .str "all", .str "near", .str "far"])) l2 = some (.lst ([V.str "first", .str "last", .str "all", .str "near", .str "far"] ++ [V.str "first", .str "last", .str "all", .str "near", .str "far"])) := upd_same
      generalize upd H9 l2 (.lst ([V.str "first", .str "last", .str "all", .str "near", .str "far"] ++ [V.str "first", .str "last", .str "all", .str "near", .str "far"])) = H10 at s10' hl2
      have d10 := d9.trans (Dr.of_same d9.hand d9.sub s10')
      refine ⟨h, l2, [V.str "first", .str "last", .str "all", .str "near", .str "far"] ++ [V.str "first", .str "last", .str "all", .str "near", .str "far"], F0, rfl, .inl (sql hl2), by decide, d10.sub, d10.hand, fun l3 H11 ys hperm d1011 nl3 hl3 => ⟨l3, rfl, ⟨_, sql hl3⟩, ?_⟩⟩
      have d11 := d10.trans d1011
      have S11 := S0.dr d11 d8.hand
      have hA11 : At K CMap H11 p n a pvs es c gs u x y rs ls := ⟨m8.dr d11 d8.hand, S11, o⟩
      have hP11 := hpt8.dr d11 d8.hand
      refine for_list (xs := ys) (fun j σ H' => ∃ x8 x9 : Option V, σ = [some (.ref sc), some (.ref h), some (.int (pl : Int)), some (.int (ar : Int)), some (.ref pt), some (.ref p), some (.ref nl), some (.ref u), x8, x9, x10, x11, x12, none] ∧ Same H11 H')
        ⟨_, _, rfl, Same.refl H11⟩ ?_ ?_ ?_
      · rintro j σ H' _ ⟨_, _, rfl, s⟩
        exact sql (s _ _ hl3)
      · rintro j w σ H12 hw ⟨_, _, rfl, s12⟩
        obtain ⟨nm, rfl⟩ := nm_of (v := w) (by
          have h1 := hperm.mem_iff.mp (List.mem_of_getElem? hw)
          rcases List.mem_append.mp h1 with h1 | h1 <;> exact h1)
        have hA12 := hA11.same s12
        have hP12 := hP11.same s12
        refine ⟨_, rfl, _, rfl, _, rfl, u, _, (0 : Nat), .ref x, rfl, rfl, hA12.S.t, atI_nat rfl, _, rfl, u, _, (1 : Nat), .ref y, rfl, rfl, hA12.S.t, atI_nat rfl, pt, n, a, pvs, es, c, gs, x, y, rs, ls, nm, rfl, hP12, hA12.S.x, hA12.S.y, o, fun z ds W H13 s13 hz hWS hR => ?_⟩
        refine ⟨by show 2 ≤ sizeLine; decide, fun zd nzd => ?_⟩
        have s14' := same_new (o := .tup [.str "told", .ref z]) (Same.refl H13) nzd
        have hzd : upd H13 zd (.tup [.str "told", .ref z]) zd = some (.tup [.str "told", .ref z]) := upd_same
        generalize upd H13 zd (.tup [.str "told", .ref z]) = H14 at s14' hzd
        have hz14 := s14' _ _ hz
        have hA14 := hA12.same (s13.trans s14')
        refine ⟨_, rfl, _, rfl, _, rfl, p, n, a, pvs, es, c, gs, _, _, rfl, hA14.m, .inr (.inr ⟨nm, u, x, y, rs, ls, rfl, rfl, hA14, fun zt w0 ds' W' H15 s15 hzt hw0 hWS' hR' => ?_⟩)⟩
        have eW : W' = W := lot_eq hWS'.1 hWS.1 fun i => (hWS'.2 i).trans (hWS.2 i).symm
        subst eW
        have eds := hR'.uniq hR
        subst eds
        have hds : ∀ k ∈ ds', k ∈ W' := by
          rcases hR with ⟨rfl, rfl⟩ | ⟨_, hN⟩
          · exact fun k hk => hk
          · cases nm with
            | all => rw [show ds' = W' from hN]; exact fun k hk => hk
            | first => obtain ⟨k, rfl, hk, _⟩ := hN; exact fun j hj => by rw [List.mem_singleton.mp hj]; exact hk
            | last => obtain ⟨k, rfl, hk, _⟩ := hN; exact fun j hj => by rw [List.mem_singleton.mp hj]; exact hk
            | near => obtain ⟨k, _, rfl, hk, _⟩ := hN; exact fun j hj => by rw [List.mem_singleton.mp hj]; exact hk
            | far => obtain ⟨k, _, rfl, hk, _⟩ := hN; exact fun j hj => by rw [List.mem_singleton.mp hj]; exact hk
        have g60 := hpt.gm.l60
        have hWn : ∀ k ∈ W', k < es.length := fun k hk => by
          obtain ⟨e, he, _⟩ := mem_tries.mp ((hWS.2 k).mp hk).1
          exact (List.getElem?_eq_some_iff.mp he).1
        have hdl : ds'.length ≤ 1000 := by
          have hWl := hWS.len
          rcases hR with ⟨rfl, rfl⟩ | ⟨_, hN⟩
          · exact Nat.zero_le _
          · cases nm with
            | all => rw [show ds' = W' from hN]; omega
            | first => obtain ⟨k, rfl, _⟩ := hN; exact (by decide : 1 ≤ 1000)
            | last => obtain ⟨k, rfl, _⟩ := hN; exact (by decide : 1 ≤ 1000)
            | near => obtain ⟨k, _, rfl, _⟩ := hN; exact (by decide : 1 ≤ 1000)
            | far => obtain ⟨k, _, rfl, _⟩ := hN; exact (by decide : 1 ≤ 1000)
        have Wd := shw_lot (ds := ds') (fun k hk => by have := hWn k (hds k hk); omega) hdl
        refine ⟨zt, lotD ds', rfl, .tup hzt (.cons (.str _) (.cons (.tup hw0 dp_nats) .nil)), Wd.s, Wd.n, Wd.d8, Wd.z, ?_⟩
        refine ⟨_, rfl, zd, lotD ds', rfl, .tup (sqt (s15 _ _ hzd)) (.cons (.str _) (.cons (.tup (sqt (s15 _ _ hz14)) dp_nats) .nil)), Wd.s, Wd.n, Wd.d8, Wd.z, rfl, _, rfl, ?_⟩
        rw [decide_eq_true (rfl : V.str (lotD ds').shown = V.str (lotD ds').shown)]
        refine iteF ?_
        exact ⟨_, _, rfl, s12.trans ((s13.trans s14').trans s15)⟩
      rintro σ H12 ⟨x8', x9', rfl, s12⟩
      have hA12 := hA11.same s12
      have hP12 := hP11.same s12
      have hS22 := hA12.S
      have d12 := d11.trans (Dr.of_same d11.hand d11.sub s12)
      -- a bad standing
      refine ⟨_, rfl, u, _, rfl, .inr hS22.t, fun l5 nl5 => ?_⟩
      have r1 := same_new (o := .lst [.ref x, .ref y]) (Same.refl H12) nl5
      refine ⟨_, rfl, u, _, (0 : Nat), .ref x, rfl, rfl, Same.sqt r1 hS22.t, atI_nat rfl, by show 1 ≤ sizeLine; decide, fun t7 nt7 => ?_⟩
      have r2 := same_new (o := .tup [.ref x]) (Same.refl _) nt7
      refine ⟨by show 1 ≤ sizeLine; decide, fun t8 nt8 => ⟨Nat.zero_le _, fun t9 nt9 => ⟨by show 2 ≤ sizeLine; decide, fun t10 nt10 => ?_⟩⟩⟩
      have r3 := same_new (o := .tup [.int 1]) (Same.refl _) nt8
      have r4 := same_new (o := .tup []) (Same.refl _) nt9
      have r5 := same_new (o := .tup [.ref t8, .ref t9]) (Same.refl _) nt10
      have r15 := (((r1.trans r2).trans r3).trans r4).trans r5
      refine ⟨_, rfl, u, _, (0 : Nat), .ref x, rfl, rfl, Same.sqt r15 hS22.t, atI_nat rfl, _, rfl, pt, _, (1 : Nat), .ref a, rfl, rfl, Same.sqt r15 hP12.tp, atI_nat rfl, a, pvs, rfl, .inr (Same.sqt r15 hP12.ar), ?_⟩
      rw [hl]
      refine ⟨by show 1 ≤ sizeLine; decide, fun t12 nt12 => ⟨by show 2 ≤ sizeLine; decide, fun t13 nt13 => ⟨by show 5 ≤ sizeLine; decide, fun lb nlb => ?_⟩⟩⟩
      have r6 := same_new (o := .tup [.int (es.length : Int)]) (Same.refl _) nt12
      have r7 := same_new (o := .tup [.ref x, .ref t12]) (Same.refl _) nt13
      generalize hxb : [V.non, V.ref l5, V.ref t7, V.ref t10, V.ref t13] = xb at nlb
      have r8 := same_new (o := .lst xb) (Same.refl _) nlb
      have q7 := r7.trans r8
      have q6 := r6.trans q7
      have q5 := r5.trans q6
      have q4 := r4.trans q5
      have q3 := r3.trans q4
      have q2 := r2.trans q3
      have hl5 := q2 _ _ (upd_same (a := l5) (o := .lst [.ref x, .ref y]))
      have ht7 := q3 _ _ (upd_same (a := t7) (o := .tup [.ref x]))
      have ht8 := q4 _ _ (upd_same (a := t8) (o := .tup [.int 1]))
      have ht9 := q5 _ _ (upd_same (a := t9) (o := .tup []))
      have ht10 := q6 _ _ (upd_same (a := t10) (o := .tup [.ref t8, .ref t9]))
      have ht12 := q7 _ _ (upd_same (a := t12) (o := .tup [.int (es.length : Int)]))
      have ht13 := r8 _ _ (upd_same (a := t13) (o := .tup [.ref x, .ref t12]))
      have hlb := upd_of_same r8
      have r18 := r1.trans q2
      have nlbh : lb ≠ h := fun e => by
        obtain ⟨c', cells, i', r', s', k', hh, _⟩ := d12.hand.ob
        have hh2 := r18 _ _ (e ▸ hh : H12 lb = _)
        have hh3 := hlb.symm.trans hh2
        rw [← hxb] at hh3
        unfold handO at hh3
        injection hh3 with hh3
        injection hh3 with hh3
        injection hh3 with hh3 _
        cases hh3
      have hbl : xb.length = 5 := by rw [← hxb]; rfl
      have d13 := Dr.of_same d12.hand d12.sub r18
      refine ⟨_, rfl, h, 5, F0, rfl, by decide, small_log (by decide) (by omega), d13.sub, d13.hand, fun k4 H14 hk4 hk5 dd14 => ?_⟩
      obtain ⟨vb, hbt, hvb⟩ := ix_ex (xs := xb) hk4 (by rw [hbl]; exact hk5)
      have hlb14 : H14 lb = some (.lst xb) := by rw [dd14.rest lb nlbh]; exact hlb
      have dT : ∀ {q : Addr} {xs : List V}, _ → SqT K H14 q xs := fun {q xs} (e : _ = some (HO.tup xs)) => dd14.dr.sqt d13.hand (sqt e)
      have g7 := dT ht7
      have g8 := dT ht8
      have g9 := dT ht9
      have g10 := dT ht10
      have g12 := dT ht12
      have g13 := dT ht13
      have d1214 := d13.trans dd14.dr
      have d14 := d12.trans d1214
      have hA14 : At K CMap H14 p n a pvs es c gs u x y rs ls := ⟨m8.dr d14 d8.hand, S0.dr d14 d8.hand, o⟩
      have g3 := (Kn0.lst (K := K) hl5).dr dd14.dr d13.hand
      have hrl : rs.length ≤ n - 0 := pw_len o.rp fun z hz => ⟨Nat.zero_le _, o.rn z hz⟩
      have gn40 := hpt.gm.n40
      have hbad : ∀ H', Same H14 H' → StdRes K H' n es gs vb False := fun H' s => by
        rw [← hxb] at hvb
        simp only [List.mem_cons, List.not_mem_nil, or_false] at hvb
        rcases hvb with rfl | rfl | rfl | rfl | rfl
        · exact .inl ⟨⟨"NoneType", ⟨.base .non, by simp⟩, by decide⟩, id⟩
        · obtain ⟨s1, e1, _, e2⟩ := g3.kns
          exact .inl ⟨⟨s1, e2 H' s, e1⟩, id⟩
        · exact .inr (.inl ⟨⟨_, _, rfl, Same.sqt s g7, by show 1 ≠ 2; decide⟩, id⟩)
        · refine .inr (.inr ⟨_, _, _, some [.int 1], some [], rfl, Same.sqt s g10, ⟨_, rfl, Same.sqt s g8, by decide, fun z hz => ?_⟩, ⟨_, rfl, Same.sqt s g9, by decide, fun z hz => absurd hz List.not_mem_nil⟩, ⟨False.elim, fun z => no_std (r0 := 1) (by decide) z⟩⟩)
          rw [List.mem_singleton.mp hz]
          exact ⟨"int", kn_of_int⟩
        · refine .inr (.inr ⟨_, _, _, some (rs.map nV), some [.int (es.length : Int)], rfl, Same.sqt s g13, ⟨_, rfl, Same.sqt s hA14.S.x, by rw [List.length_map]; omega, kn_nats⟩, ⟨_, rfl, Same.sqt s g12, by show 1 ≤ 1000; decide, fun z hz => ?_⟩, ⟨False.elim, no_std3⟩⟩)
          rw [List.mem_singleton.mp hz]
          exact ⟨"int", kn_of_int⟩
      refine ⟨lb, _, k4, vb, rfl, rfl, sql hlb14, hbt, ?_⟩
      have hnl14 := d14.same nl _ nlh hnl8
      -- the names
      refine ⟨_, rfl, nl, rfl, ⟨_, sql hnl14⟩, ?_⟩
      refine for_list (xs := [V.str "first", .str "last", .str "all", .str "near", .str "far"]) (fun j σ H' => ∃ x8 : Option V, σ = [some (.ref sc), some (.ref h), some (.int (pl : Int)), some (.int (ar : Int)), some (.ref pt), some (.ref p), some (.ref nl), some (.ref u), x8, x9', some vb, x11, x12, none] ∧ Same H14 H')
        ⟨_, rfl, Same.refl H14⟩ ?_ ?_ ?_
      · rintro j σ H' _ ⟨_, rfl, s⟩
        exact sql (s _ _ hnl14)
      · rintro j w σ H15 hw ⟨_, rfl, s15⟩
        obtain ⟨nm, rfl⟩ := nm_of (v := w) (List.mem_of_getElem? hw)
        refine ⟨_, rfl, _, rfl, _, rfl, p, n, a, pvs, es, c, gs, _, vb, rfl, (hA14.same s15).m, .inr (.inl ⟨nm, False, rfl, fun H' s => hbad H' (s15.trans s), id, fun zt H16 s16 hzt => ?_⟩)⟩
        refine ⟨by show 2 ≤ sizeLine; decide, fun t14 nt14 => ?_⟩
        have s17 := same_new (o := .tup [.str "refused", .str "standing"]) (Same.refl H16) nt14
        refine ⟨refD "standing", refD "standing", .tup (Same.sqt s17 hzt) (.cons (.str _) (.cons (.str _) .nil)), .tup (sqt upd_same) (.cons (.str _) (.cons (.str _) .nil)), shp_rs, shp_rs, _, rfl, ?_⟩
        rw [eqv_same shp_rs]
        refine iteF ?_
        exact ⟨_, rfl, (s15.trans s16).trans s17⟩
      rintro σ H15 ⟨x8'', rfl, s15⟩
      have d15 := d14.trans (Dr.of_same d14.hand d14.sub s15)
      -- an odd name
      refine ⟨by show 1 ≤ sizeLine; decide, fun t15 nt15 => ⟨by show 1 ≤ sizeLine; decide, fun l15 nl15 => fun dd15 ndd => ⟨by show 14 ≤ sizeLine; decide, fun lo nlo => ?_⟩⟩⟩
      have w1 := same_new (o := .tup [.str "first"]) (Same.refl H15) nt15
      have w2 := same_new (o := .lst [.str "all"]) (Same.refl _) nl15
      have w3 := same_new (o := .dK []) (Same.refl _) ndd
      generalize hxo : [V.str ("" : Str), V.str ("First" : Str), V.str ("first " : Str), V.str (" near" : Str), V.str ("nearest" : Str), V.str ("ALL" : Str), V.str ("fa" : Str), V.str ("none" : Str), V.non, V.int 0, V.bl true, V.ref t15, V.ref l15, V.ref dd15] = xo at nlo
      have w4 := same_new (o := .lst xo) (Same.refl _) nlo
      have h1t := w4 _ _ (w3 _ _ (w2 _ _ (upd_same (H := H15) (a := t15) (o := .tup [.str "first"]))))
      have h1l := w4 _ _ (w3 _ _ (upd_same (a := l15) (o := .lst [.str "all"])))
      have h1d := w4 _ _ (upd_same (a := dd15) (o := .dK []))
      have w14 := ((w1.trans w2).trans w3).trans w4
      have h16 := upd_same (H := upd (upd (upd H15 t15 (.tup [.str "first"])) l15 (.lst [.str "all"])) dd15 (.dK [])) (a := lo) (o := .lst xo)
      have nloh : lo ≠ h := d15.hand.ne (Same.free ((w1.trans w2).trans w3) nlo)
      generalize upd (upd (upd (upd H15 t15 (.tup [.str "first"])) l15 (.lst [.str "all"])) dd15 (.dK [])) lo (.lst xo) = H16 at w14 h1t h1l h1d h16
      have hodd : ∀ v ∈ xo, BadN K H16 v := fun v hv => by
        rw [← hxo] at hv
        simp only [List.mem_cons, List.not_mem_nil, or_false] at hv
        rcases hv with rfl | rfl | rfl | rfl | rfl | rfl | rfl | rfl | rfl | rfl | rfl | rfl | rfl | rfl
        · exact .inl ⟨_, rfl, by decide +kernel⟩
        · exact .inl ⟨_, rfl, by decide +kernel⟩
        · exact .inl ⟨_, rfl, by decide +kernel⟩
        · exact .inl ⟨_, rfl, by decide +kernel⟩
        · exact .inl ⟨_, rfl, by decide +kernel⟩
        · exact .inl ⟨_, rfl, by decide +kernel⟩
        · exact .inl ⟨_, rfl, by decide +kernel⟩
        · exact .inl ⟨_, rfl, by decide +kernel⟩
        · exact .inr ⟨.inl .non, fun s e => by cases e⟩
        · exact .inr ⟨.inl (.int _), fun s e => by cases e⟩
        · exact .inr ⟨.inl (.bl _), fun s e => by cases e⟩
        · exact .inr ⟨.inr ⟨_, _, rfl, sqt h1t⟩, fun s e => by cases e⟩
        · exact .inr ⟨.inl (.lst h1l), fun s e => by cases e⟩
        · exact .inr ⟨.inl (.dic h1d), fun s e => by cases e⟩
      have hxl : xo.length = 14 := by rw [← hxo]; rfl
      clear hxo
      have d16 := d15.trans (Dr.of_same d15.hand d15.sub w14)
      refine ⟨_, rfl, _, rfl, _, rfl, lo, _, rfl, .inl (sql h16), h, _, F0, rfl, by rw [hxl]; decide, by rw [hxl]; exact small_log (by decide) (by omega), d16.sub, d16.hand, fun k6 H17 hk6 hk7 dd17 => ?_⟩
      obtain ⟨vn, hnt, hvn⟩ := ix_ex hk6 hk7
      refine ⟨lo, _, k6, vn, rfl, rfl, sql (dd17.dr.same lo _ nloh h16), hnt, ?_⟩
      have hb17 := (hodd vn hvn).dr dd17.dr d16.hand
      have d17 := d16.trans dd17.dr
      have m17 := m8.dr d17 d8.hand
      -- a standing and none
      refine ⟨_, rfl, _, rfl, by show 2 ≤ sizeLine; decide, fun l18 nl18 => ⟨l18, rfl, ⟨_, sql upd_same⟩, ?_⟩⟩
      have s18 := same_new (o := .lst [.ref u, vb]) (Same.refl H17) nl18
      have h18 : upd H17 l18 (.lst [.ref u, vb]) l18 = some (.lst [.ref u, vb]) := upd_same
      generalize upd H17 l18 (.lst [.ref u, vb]) = H18 at s18 h18
      have hb18 := hb17.same s18
      have m18 := m17.same s18
      have d18 := d17.trans (Dr.of_same d17.hand d17.sub s18)
      refine for_list (xs := [V.ref u, vb]) (fun j σ H' => ∃ x12 : Option V, σ = [some (.ref sc), some (.ref h), some (.int (pl : Int)), some (.int (ar : Int)), some (.ref pt), some (.ref p), some (.ref nl), some (.ref u), some vn, x9', some vb, some (.ref lo), x12, none] ∧ Same H18 H')
        ⟨_, rfl, Same.refl H18⟩ ?_ ?_ ?_
      · rintro j σ H' _ ⟨_, rfl, s⟩
        exact sql (s _ _ h18)
      · rintro j w σ H19 hw ⟨_, rfl, s19⟩
        refine ⟨_, rfl, _, rfl, _, rfl, p, n, a, pvs, es, c, gs, vn, w, rfl, m18.same s19, .inl ⟨(hb18.same s19).no, fun zt H20 s20 hzt => ?_⟩⟩
        refine ⟨by show 2 ≤ sizeLine; decide, fun t20 nt20 => ?_⟩
        have s21 := same_new (o := .tup [.str "refused", .str "name"]) (Same.refl H20) nt20
        refine ⟨refD "name", refD "name", .tup (Same.sqt s21 hzt) (.cons (.str _) (.cons (.str _) .nil)), .tup (sqt upd_same) (.cons (.str _) (.cons (.str _) .nil)), shp_rn, shp_rn, _, rfl, ?_⟩
        rw [eqv_same shp_rn]
        refine iteF ?_
        exact ⟨_, rfl, (s19.trans s20).trans s21⟩
      rintro σ H19 ⟨x12', rfl, s19⟩
      exact ⟨_, _, _, _, _, _, rfl, d18.trans (Dr.of_same d18.hand d18.sub s19)⟩
    rintro σ H9 ⟨_, _, _, _, _, _, rfl, d9⟩
    exact q _

end
end U
namespace U
open PySem PySem.Spec PyProof.Rows L2
section
variable {P : Program} {w : World} {K : PySem.W.Frag} {mg : Str → Option Value} {base : Heap}
theorem bd_is_integer : ∀ (kV doc pm : Value) (an : Option Addr) (cdv ct : Value) (us : List Value), us.length = (["thing"] : List Str).length → bindArgs (PySem.W.fnOf "is_integer" "is_integer" (defArgs s_is_integer) (defBody s_is_integer) (defScope s_is_integer) .none kV doc pm an cdv ct) ⟨us, []⟩ = pure ((["thing"] : List Str).zip us) := fun _ _ _ _ _ _ us hl => match us, hl with | [_], _ => rfl
theorem bd_is_index : ∀ (kV doc pm : Value) (an : Option Addr) (cdv ct : Value) (us : List Value), us.length = (["thing", "many"] : List Str).length → bindArgs (PySem.W.fnOf "is_index" "is_index" (defArgs s_is_index) (defBody s_is_index) (defScope s_is_index) .none kV doc pm an cdv ct) ⟨us, []⟩ = pure ((["thing", "many"] : List Str).zip us) := fun _ _ _ _ _ _ us hl => match us, hl with | [_, _], _ => rfl
theorem bd_is_any_lot : ∀ (kV doc pm : Value) (an : Option Addr) (cdv ct : Value) (us : List Value), us.length = (["thing"] : List Str).length → bindArgs (PySem.W.fnOf "is_any_lot" "is_any_lot" (defArgs s_is_any_lot) (defBody s_is_any_lot) (defScope s_is_any_lot) .none kV doc pm an cdv ct) ⟨us, []⟩ = pure ((["thing"] : List Str).zip us) := fun _ _ _ _ _ _ us hl => match us, hl with | [_], _ => rfl
theorem bd_is_lot : ∀ (kV doc pm : Value) (an : Option Addr) (cdv ct : Value) (us : List Value), us.length = (["thing", "many"] : List Str).length → bindArgs (PySem.W.fnOf "is_lot" "is_lot" (defArgs s_is_lot) (defBody s_is_lot) (defScope s_is_lot) .none kV doc pm an cdv ct) ⟨us, []⟩ = pure ((["thing", "many"] : List Str).zip us) := fun _ _ _ _ _ _ us hl => match us, hl with | [_, _], _ => rfl
theorem bd_marks : ∀ (kV doc pm : Value) (an : Option Addr) (cdv ct : Value) (us : List Value), us.length = (["many", "lot"] : List Str).length → bindArgs (PySem.W.fnOf "marks" "marks" (defArgs s_marks) (defBody s_marks) (defScope s_marks) .none kV doc pm an cdv ct) ⟨us, []⟩ = pure ((["many", "lot"] : List Str).zip us) := fun _ _ _ _ _ _ us hl => match us, hl with | [_, _], _ => rfl
theorem bd_pairs_left : ∀ (kV doc pm : Value) (an : Option Addr) (cdv ct : Value) (us : List Value), us.length = (["arrows", "rotten"] : List Str).length → bindArgs (PySem.W.fnOf "pairs_left" "pairs_left" (defArgs s_pairs_left) (defBody s_pairs_left) (defScope s_pairs_left) .none kV doc pm an cdv ct) ⟨us, []⟩ = pure ((["arrows", "rotten"] : List Str).zip us) := fun _ _ _ _ _ _ us hl => match us, hl with | [_, _], _ => rfl
theorem bd_steps_from : ∀ (kV doc pm : Value) (an : Option Addr) (cdv ct : Value) (us : List Value), us.length = (["many", "pairs", "sources"] : List Str).length → bindArgs (PySem.W.fnOf "steps_from" "steps_from" (defArgs s_steps_from) (defBody s_steps_from) (defScope s_steps_from) .none kV doc pm an cdv ct) ⟨us, []⟩ = pure ((["many", "pairs", "sources"] : List Str).zip us) := fun _ _ _ _ _ _ us hl => match us, hl with | [_, _, _], _ => rfl
theorem bd_leads_to_all : ∀ (kV doc pm : Value) (an : Option Addr) (cdv ct : Value) (us : List Value), us.length = (["many", "pairs", "places"] : List Str).length → bindArgs (PySem.W.fnOf "leads_to_all" "leads_to_all" (defArgs s_leads_to_all) (defBody s_leads_to_all) (defScope s_leads_to_all) .none kV doc pm an cdv ct) ⟨us, []⟩ = pure ((["many", "pairs", "places"] : List Str).zip us) := fun _ _ _ _ _ _ us hl => match us, hl with | [_, _, _], _ => rfl
theorem bd_Map_many : ∀ (kV doc pm : Value) (an : Option Addr) (cdv ct : Value) (us : List Value), us.length = (["self"] : List Str).length → bindArgs (PySem.W.fnOf "many" "Map.many" (defArgs s_Map_many) (defBody s_Map_many) (defScope s_Map_many) .none kV doc pm an cdv ct) ⟨us, []⟩ = pure ((["self"] : List Str).zip us) := fun _ _ _ _ _ _ us hl => match us, hl with | [_], _ => rfl
theorem bd_Map_arrows : ∀ (kV doc pm : Value) (an : Option Addr) (cdv ct : Value) (us : List Value), us.length = (["self"] : List Str).length → bindArgs (PySem.W.fnOf "arrows" "Map.arrows" (defArgs s_Map_arrows) (defBody s_Map_arrows) (defScope s_Map_arrows) .none kV doc pm an cdv ct) ⟨us, []⟩ = pure ((["self"] : List Str).zip us) := fun _ _ _ _ _ _ us hl => match us, hl with | [_], _ => rfl
theorem bd_Map_goals : ∀ (kV doc pm : Value) (an : Option Addr) (cdv ct : Value) (us : List Value), us.length = (["self"] : List Str).length → bindArgs (PySem.W.fnOf "goals" "Map.goals" (defArgs s_Map_goals) (defBody s_Map_goals) (defScope s_Map_goals) .none kV doc pm an cdv ct) ⟨us, []⟩ = pure ((["self"] : List Str).zip us) := fun _ _ _ _ _ _ us hl => match us, hl with | [_], _ => rfl
theorem bd_is_pair : ∀ (kV doc pm : Value) (an : Option Addr) (cdv ct : Value) (us : List Value), us.length = (["thing", "many"] : List Str).length → bindArgs (PySem.W.fnOf "is_pair" "is_pair" (defArgs s_is_pair) (defBody s_is_pair) (defScope s_is_pair) .none kV doc pm an cdv ct) ⟨us, []⟩ = pure ((["thing", "many"] : List Str).zip us) := fun _ _ _ _ _ _ us hl => match us, hl with | [_, _], _ => rfl
theorem bd_check_pairs : ∀ (kV doc pm : Value) (an : Option Addr) (cdv ct : Value) (us : List Value), us.length = (["many", "pairs", "most"] : List Str).length → bindArgs (PySem.W.fnOf "check_pairs" "check_pairs" (defArgs s_check_pairs) (defBody s_check_pairs) (defScope s_check_pairs) .none kV doc pm an cdv ct) ⟨us, []⟩ = pure ((["many", "pairs", "most"] : List Str).zip us) := fun _ _ _ _ _ _ us hl => match us, hl with | [_, _, _], _ => rfl
theorem bd_are_goals : ∀ (kV doc pm : Value) (an : Option Addr) (cdv ct : Value) (us : List Value), us.length = (["thing", "many", "arrows"] : List Str).length → bindArgs (PySem.W.fnOf "are_goals" "are_goals" (defArgs s_are_goals) (defBody s_are_goals) (defScope s_are_goals) .none kV doc pm an cdv ct) ⟨us, []⟩ = pure ((["thing", "many", "arrows"] : List Str).zip us) := fun _ _ _ _ _ _ us hl => match us, hl with | [_, _, _], _ => rfl
theorem bd_Map___init__ : ∀ (kV doc pm : Value) (an : Option Addr) (cdv ct : Value) (us : List Value), us.length = (["self", "many", "arrows", "goals"] : List Str).length → bindArgs (PySem.W.fnOf "__init__" "Map.__init__" (defArgs s_Map___init__) (defBody s_Map___init__) (defScope s_Map___init__) .none kV doc pm an cdv ct) ⟨us, []⟩ = pure ((["self", "many", "arrows", "goals"] : List Str).zip us) := fun _ _ _ _ _ _ us hl => match us, hl with | [_, _, _, _], _ => rfl
theorem bd_goals_are_open : ∀ (kV doc pm : Value) (an : Option Addr) (cdv ct : Value) (us : List Value), us.length = (["chart", "rotten"] : List Str).length → bindArgs (PySem.W.fnOf "goals_are_open" "goals_are_open" (defArgs s_goals_are_open) (defBody s_goals_are_open) (defScope s_goals_are_open) .none kV doc pm an cdv ct) ⟨us, []⟩ = pure ((["chart", "rotten"] : List Str).zip us) := fun _ _ _ _ _ _ us hl => match us, hl with | [_, _], _ => rfl
theorem bd_holds_together : ∀ (kV doc pm : Value) (an : Option Addr) (cdv ct : Value) (us : List Value), us.length = (["chart", "reached", "rotten"] : List Str).length → bindArgs (PySem.W.fnOf "holds_together" "holds_together" (defArgs s_holds_together) (defBody s_holds_together) (defScope s_holds_together) .none kV doc pm an cdv ct) ⟨us, []⟩ = pure ((["chart", "reached", "rotten"] : List Str).zip us) := fun _ _ _ _ _ _ us hl => match us, hl with | [_, _, _], _ => rfl
theorem bd__unreached_pairs : ∀ (kV doc pm : Value) (an : Option Addr) (cdv ct : Value) (us : List Value), us.length = (["chart", "standing"] : List Str).length → bindArgs (PySem.W.fnOf "_unreached_pairs" "_unreached_pairs" (defArgs s__unreached_pairs) (defBody s__unreached_pairs) (defScope s__unreached_pairs) .none kV doc pm an cdv ct) ⟨us, []⟩ = pure ((["chart", "standing"] : List Str).zip us) := fun _ _ _ _ _ _ us hl => match us, hl with | [_, _], _ => rfl
theorem bd_is_standing : ∀ (kV doc pm : Value) (an : Option Addr) (cdv ct : Value) (us : List Value), us.length = (["chart", "thing"] : List Str).length → bindArgs (PySem.W.fnOf "is_standing" "is_standing" (defArgs s_is_standing) (defBody s_is_standing) (defScope s_is_standing) .none kV doc pm an cdv ct) ⟨us, []⟩ = pure ((["chart", "thing"] : List Str).zip us) := fun _ _ _ _ _ _ us hl => match us, hl with | [_, _], _ => rfl
theorem bd_check_standing : ∀ (kV doc pm : Value) (an : Option Addr) (cdv ct : Value) (us : List Value), us.length = (["chart", "thing"] : List Str).length → bindArgs (PySem.W.fnOf "check_standing" "check_standing" (defArgs s_check_standing) (defBody s_check_standing) (defScope s_check_standing) .none kV doc pm an cdv ct) ⟨us, []⟩ = pure ((["chart", "thing"] : List Str).zip us) := fun _ _ _ _ _ _ us hl => match us, hl with | [_, _], _ => rfl
theorem bd_steps_to_go : ∀ (kV doc pm : Value) (an : Option Addr) (cdv ct : Value) (us : List Value), us.length = (["chart", "standing"] : List Str).length → bindArgs (PySem.W.fnOf "steps_to_go" "steps_to_go" (defArgs s_steps_to_go) (defBody s_steps_to_go) (defScope s_steps_to_go) .none kV doc pm an cdv ct) ⟨us, []⟩ = pure ((["chart", "standing"] : List Str).zip us) := fun _ _ _ _ _ _ us hl => match us, hl with | [_, _], _ => rfl
theorem bd_tries_at : ∀ (kV doc pm : Value) (an : Option Addr) (cdv ct : Value) (us : List Value), us.length = (["chart", "standing"] : List Str).length → bindArgs (PySem.W.fnOf "tries_at" "tries_at" (defArgs s_tries_at) (defBody s_tries_at) (defScope s_tries_at) .none kV doc pm an cdv ct) ⟨us, []⟩ = pure ((["chart", "standing"] : List Str).zip us) := fun _ _ _ _ _ _ us hl => match us, hl with | [_, _], _ => rfl
theorem bd_worth_at : ∀ (kV doc pm : Value) (an : Option Addr) (cdv ct : Value) (us : List Value), us.length = (["chart", "standing"] : List Str).length → bindArgs (PySem.W.fnOf "worth_at" "worth_at" (defArgs s_worth_at) (defBody s_worth_at) (defScope s_worth_at) .none kV doc pm an cdv ct) ⟨us, []⟩ = pure ((["chart", "standing"] : List Str).zip us) := fun _ _ _ _ _ _ us hl => match us, hl with | [_, _], _ => rfl
theorem bd__law_led : ∀ (kV doc pm : Value) (an : Option Addr) (cdv ct : Value) (us : List Value), us.length = (["_law_arrows", "_law_begun", "_law_let", "_law_barred"] : List Str).length → bindArgs (PySem.W.fnOf "_law_led" "_law_led" (defArgs s__law_led) (defBody s__law_led) (defScope s__law_led) .none kV doc pm an cdv ct) ⟨us, []⟩ = pure ((["_law_arrows", "_law_begun", "_law_let", "_law_barred"] : List Str).zip us) := fun _ _ _ _ _ _ us hl => match us, hl with | [_, _, _, _], _ => rfl
theorem bd__law_is_world : ∀ (kV doc pm : Value) (an : Option Addr) (cdv ct : Value) (us : List Value), us.length = (["_law_parts_here", "_law_rotten"] : List Str).length → bindArgs (PySem.W.fnOf "_law_is_world" "_law_is_world" (defArgs s__law_is_world) (defBody s__law_is_world) (defScope s__law_is_world) .none kV doc pm an cdv ct) ⟨us, []⟩ = pure ((["_law_parts_here", "_law_rotten"] : List Str).zip us) := fun _ _ _ _ _ _ us hl => match us, hl with | [_, _], _ => rfl
theorem bd__law_is_standing : ∀ (kV doc pm : Value) (an : Option Addr) (cdv ct : Value) (us : List Value), us.length = (["_law_parts_here", "_law_reached", "_law_rotten"] : List Str).length → bindArgs (PySem.W.fnOf "_law_is_standing" "_law_is_standing" (defArgs s__law_is_standing) (defBody s__law_is_standing) (defScope s__law_is_standing) .none kV doc pm an cdv ct) ⟨us, []⟩ = pure ((["_law_parts_here", "_law_reached", "_law_rotten"] : List Str).zip us) := fun _ _ _ _ _ _ us hl => match us, hl with | [_, _, _], _ => rfl
theorem bd__law_hand : ∀ (kV doc pm : Value) (an : Option Addr) (cdv ct : Value) (us : List Value), us.length = (["_law_script"] : List Str).length → bindArgs (PySem.W.fnOf "_law_hand" "_law_hand" (defArgs s__law_hand) (defBody s__law_hand) (defScope s__law_hand) .none kV doc pm an cdv ct) ⟨us, []⟩ = pure ((["_law_script"] : List Str).zip us) := fun _ _ _ _ _ _ us hl => match us, hl with | [_], _ => rfl
theorem bd__law_draw : ∀ (kV doc pm : Value) (an : Option Addr) (cdv ct : Value) (us : List Value), us.length = (["_law_hand_here", "_law_many"] : List Str).length → bindArgs (PySem.W.fnOf "_law_draw" "_law_draw" (defArgs s__law_draw) (defBody s__law_draw) (defScope s__law_draw) .none kV doc pm an cdv ct) ⟨us, []⟩ = pure ((["_law_hand_here", "_law_many"] : List Str).zip us) := fun _ _ _ _ _ _ us hl => match us, hl with | [_, _], _ => rfl
theorem bd__law_shuffled : ∀ (kV doc pm : Value) (an : Option Addr) (cdv ct : Value) (us : List Value), us.length = (["_law_hand_here", "_law_things"] : List Str).length → bindArgs (PySem.W.fnOf "_law_shuffled" "_law_shuffled" (defArgs s__law_shuffled) (defBody s__law_shuffled) (defScope s__law_shuffled) .none kV doc pm an cdv ct) ⟨us, []⟩ = pure ((["_law_hand_here", "_law_things"] : List Str).zip us) := fun _ _ _ _ _ _ us hl => match us, hl with | [_, _], _ => rfl
theorem bd__law_tail : ∀ (kV doc pm : Value) (an : Option Addr) (cdv ct : Value) (us : List Value), us.length = (["_law_hand_here", "_law_pairs", "_law_goals", "_law_place"] : List Str).length → bindArgs (PySem.W.fnOf "_law_tail" "_law_tail" (defArgs s__law_tail) (defBody s__law_tail) (defScope s__law_tail) .none kV doc pm an cdv ct) ⟨us, []⟩ = pure ((["_law_hand_here", "_law_pairs", "_law_goals", "_law_place"] : List Str).zip us) := fun _ _ _ _ _ _ us hl => match us, hl with | [_, _, _, _], _ => rfl
theorem bd__law_renamed : ∀ (kV doc pm : Value) (an : Option Addr) (cdv ct : Value) (us : List Value), us.length = (["_law_hand_here", "_law_many", "_law_pairs", "_law_goals"] : List Str).length → bindArgs (PySem.W.fnOf "_law_renamed" "_law_renamed" (defArgs s__law_renamed) (defBody s__law_renamed) (defScope s__law_renamed) .none kV doc pm an cdv ct) ⟨us, []⟩ = pure ((["_law_hand_here", "_law_many", "_law_pairs", "_law_goals"] : List Str).zip us) := fun _ _ _ _ _ _ us hl => match us, hl with | [_, _, _, _], _ => rfl
theorem bd__law_parts : ∀ (kV doc pm : Value) (an : Option Addr) (cdv ct : Value) (us : List Value), us.length = (["_law_hand_here", "_law_places", "_law_arrows"] : List Str).length → bindArgs (PySem.W.fnOf "_law_parts" "_law_parts" (defArgs s__law_parts) (defBody s__law_parts) (defScope s__law_parts) .none kV doc pm an cdv ct) ⟨us, []⟩ = pure ((["_law_hand_here", "_law_places", "_law_arrows"] : List Str).zip us) := fun _ _ _ _ _ _ us hl => match us, hl with | [_, _, _], _ => rfl
theorem bd__law_standing : ∀ (kV doc pm : Value) (an : Option Addr) (cdv ct : Value) (us : List Value), us.length = (["_law_hand_here", "_law_parts_here"] : List Str).length → bindArgs (PySem.W.fnOf "_law_standing" "_law_standing" (defArgs s__law_standing) (defBody s__law_standing) (defScope s__law_standing) .none kV doc pm an cdv ct) ⟨us, []⟩ = pure ((["_law_hand_here", "_law_parts_here"] : List Str).zip us) := fun _ _ _ _ _ _ us hl => match us, hl with | [_, _], _ => rfl
theorem bd__law_tries : ∀ (kV doc pm : Value) (an : Option Addr) (cdv ct : Value) (us : List Value), us.length = (["_law_parts_here", "_law_reached", "_law_rotten"] : List Str).length → bindArgs (PySem.W.fnOf "_law_tries" "_law_tries" (defArgs s__law_tries) (defBody s__law_tries) (defScope s__law_tries) .none kV doc pm an cdv ct) ⟨us, []⟩ = pure ((["_law_parts_here", "_law_reached", "_law_rotten"] : List Str).zip us) := fun _ _ _ _ _ _ us hl => match us, hl with | [_, _, _], _ => rfl
theorem bd__law_alive : ∀ (kV doc pm : Value) (an : Option Addr) (cdv ct : Value) (us : List Value), us.length = (["_law_parts_here", "_law_reached", "_law_rotten"] : List Str).length → bindArgs (PySem.W.fnOf "_law_alive" "_law_alive" (defArgs s__law_alive) (defBody s__law_alive) (defScope s__law_alive) .none kV doc pm an cdv ct) ⟨us, []⟩ = pure ((["_law_parts_here", "_law_reached", "_law_rotten"] : List Str).zip us) := fun _ _ _ _ _ _ us hl => match us, hl with | [_, _, _], _ => rfl
theorem bd__law_worth : ∀ (kV doc pm : Value) (an : Option Addr) (cdv ct : Value) (us : List Value), us.length = (["_law_parts_here", "_law_reached", "_law_rotten"] : List Str).length → bindArgs (PySem.W.fnOf "_law_worth" "_law_worth" (defArgs s__law_worth) (defBody s__law_worth) (defScope s__law_worth) .none kV doc pm an cdv ct) ⟨us, []⟩ = pure ((["_law_parts_here", "_law_reached", "_law_rotten"] : List Str).zip us) := fun _ _ _ _ _ _ us hl => match us, hl with | [_, _, _], _ => rfl
theorem bd_sent_by : ∀ (kV doc pm : Value) (an : Option Addr) (cdv ct : Value) (us : List Value), us.length = (["chart", "name", "standing"] : List Str).length → bindArgs (PySem.W.fnOf "sent_by" "sent_by" (defArgs s_sent_by) (defBody s_sent_by) (defScope s_sent_by) .none kV doc pm an cdv ct) ⟨us, []⟩ = pure ((["chart", "name", "standing"] : List Str).zip us) := fun _ _ _ _ _ _ us hl => match us, hl with | [_, _, _], _ => rfl
theorem bd__law_steps : ∀ (kV doc pm : Value) (an : Option Addr) (cdv ct : Value) (us : List Value), us.length = (["_law_parts_here", "_law_reached", "_law_rotten"] : List Str).length → bindArgs (PySem.W.fnOf "_law_steps" "_law_steps" (defArgs s__law_steps) (defBody s__law_steps) (defScope s__law_steps) .none kV doc pm an cdv ct) ⟨us, []⟩ = pure ((["_law_parts_here", "_law_reached", "_law_rotten"] : List Str).zip us) := fun _ _ _ _ _ _ us hl => match us, hl with | [_, _, _], _ => rfl
theorem bd__law_due : ∀ (kV doc pm : Value) (an : Option Addr) (cdv ct : Value) (us : List Value), us.length = (["_law_parts_here", "_law_name", "_law_reached", "_law_rotten"] : List Str).length → bindArgs (PySem.W.fnOf "_law_due" "_law_due" (defArgs s__law_due) (defBody s__law_due) (defScope s__law_due) .none kV doc pm an cdv ct) ⟨us, []⟩ = pure ((["_law_parts_here", "_law_name", "_law_reached", "_law_rotten"] : List Str).zip us) := fun _ _ _ _ _ _ us hl => match us, hl with | [_, _, _, _], _ => rfl
theorem bd__law_told : ∀ (kV doc pm : Value) (an : Option Addr) (cdv ct : Value) (us : List Value), us.length = (["_law_chart", "_law_name", "_law_standing_here"] : List Str).length → bindArgs (PySem.W.fnOf "_law_told" "_law_told" (defArgs s__law_told) (defBody s__law_told) (defScope s__law_told) .none kV doc pm an cdv ct) ⟨us, []⟩ = pure ((["_law_chart", "_law_name", "_law_standing_here"] : List Str).zip us) := fun _ _ _ _ _ _ us hl => match us, hl with | [_, _, _], _ => rfl
theorem bd_law : ∀ (kV doc pm : Value) (an : Option Addr) (cdv ct : Value) (us : List Value), us.length = (["_law_script"] : List Str).length → bindArgs (PySem.W.fnOf "law" "law" (defArgs s_law) (defBody s_law) (defScope s_law) .none kV doc pm an cdv ct) ⟨us, []⟩ = pure ((["_law_script"] : List Str).zip us) := fun _ _ _ _ _ _ us hl => match us, hl with | [_], _ => rfl
theorem all_mk {l : PySem.W.OpenLaw} {h : Heap} {fa : Addr} {CMap : Addr} {t_FEWEST_PLACES : Nat} {t_MOST_PLACES : Nat} {t_MOST_ARROWS : Nat} {CNoName : Addr} {CNoStanding : Addr} {ANAMES : Addr} {dNAMES : Option Addr} {nNAMES : Nat} {sNAMES : Array (Option Value)} {tNAMES0 : Tok} {tNAMES1 : Tok} {tNAMES2 : Tok} {tNAMES3 : Tok} {tNAMES4 : Tok} {f0 : Addr} {od0 an0 : Option Addr} {sl0 : Array (Option Value)} {oc0 kV0 dc0 pm0 cd0 ct0 : Value} {f1 : Addr} {od1 an1 : Option Addr} {sl1 : Array (Option Value)} {oc1 kV1 dc1 pm1 cd1 ct1 : Value} {f2 : Addr} {od2 an2 : Option Addr} {sl2 : Array (Option Value)} {oc2 kV2 dc2 pm2 cd2 ct2 : Value} {f3 : Addr} {od3 an3 : Option Addr} {sl3 : Array (Option Value)} {oc3 kV3 dc3 pm3 cd3 ct3 : Value} {f4 : Addr} {od4 an4 : Option Addr} {sl4 : Array (Option Value)} {oc4 kV4 dc4 pm4 cd4 ct4 : Value} {f5 : Addr} {od5 an5 : Option Addr} {sl5 : Array (Option Value)} {oc5 kV5 dc5 pm5 cd5 ct5 : Value} {f6 : Addr} {od6 an6 : Option Addr} {sl6 : Array (Option Value)} {oc6 kV6 dc6 pm6 cd6 ct6 : Value} {f7 : Addr} {od7 an7 : Option Addr} {sl7 : Array (Option Value)} {oc7 kV7 dc7 pm7 cd7 ct7 : Value} {f8 : Addr} {od8 an8 : Option Addr} {sl8 : Array (Option Value)} {oc8 kV8 dc8 pm8 cd8 ct8 : Value} {f9 : Addr} {od9 an9 : Option Addr} {sl9 : Array (Option Value)} {oc9 kV9 dc9 pm9 cd9 ct9 : Value} {f10 : Addr} {od10 an10 : Option Addr} {sl10 : Array (Option Value)} {oc10 kV10 dc10 pm10 cd10 ct10 : Value} {f11 : Addr} {od11 an11 : Option Addr} {sl11 : Array (Option Value)} {oc11 kV11 dc11 pm11 cd11 ct11 : Value} {f12 : Addr} {od12 an12 : Option Addr} {sl12 : Array (Option Value)} {oc12 kV12 dc12 pm12 cd12 ct12 : Value} {f13 : Addr} {od13 an13 : Option Addr} {sl13 : Array (Option Value)} {oc13 kV13 dc13 pm13 cd13 ct13 : Value} {f14 : Addr} {od14 an14 : Option Addr} {sl14 : Array (Option Value)} {oc14 kV14 dc14 pm14 cd14 ct14 : Value} {f15 : Addr} {od15 an15 : Option Addr} {sl15 : Array (Option Value)} {oc15 kV15 dc15 pm15 cd15 ct15 : Value} {f16 : Addr} {od16 an16 : Option Addr} {sl16 : Array (Option Value)} {oc16 kV16 dc16 pm16 cd16 ct16 : Value} {f17 : Addr} {od17 an17 : Option Addr} {sl17 : Array (Option Value)} {oc17 kV17 dc17 pm17 cd17 ct17 : Value} {f18 : Addr} {od18 an18 : Option Addr} {sl18 : Array (Option Value)} {oc18 kV18 dc18 pm18 cd18 ct18 : Value} {f19 : Addr} {od19 an19 : Option Addr} {sl19 : Array (Option Value)} {oc19 kV19 dc19 pm19 cd19 ct19 : Value} {f21 : Addr} {od21 an21 : Option Addr} {sl21 : Array (Option Value)} {oc21 kV21 dc21 pm21 cd21 ct21 : Value} {f22 : Addr} {od22 an22 : Option Addr} {sl22 : Array (Option Value)} {oc22 kV22 dc22 pm22 cd22 ct22 : Value} {f23 : Addr} {od23 an23 : Option Addr} {sl23 : Array (Option Value)} {oc23 kV23 dc23 pm23 cd23 ct23 : Value} {f24 : Addr} {od24 an24 : Option Addr} {sl24 : Array (Option Value)} {oc24 kV24 dc24 pm24 cd24 ct24 : Value} {f25 : Addr} {od25 an25 : Option Addr} {sl25 : Array (Option Value)} {oc25 kV25 dc25 pm25 cd25 ct25 : Value} {f26 : Addr} {od26 an26 : Option Addr} {sl26 : Array (Option Value)} {oc26 kV26 dc26 pm26 cd26 ct26 : Value} {f27 : Addr} {od27 an27 : Option Addr} {sl27 : Array (Option Value)} {oc27 kV27 dc27 pm27 cd27 ct27 : Value} {f28 : Addr} {od28 an28 : Option Addr} {sl28 : Array (Option Value)} {oc28 kV28 dc28 pm28 cd28 ct28 : Value} {f29 : Addr} {od29 an29 : Option Addr} {sl29 : Array (Option Value)} {oc29 kV29 dc29 pm29 cd29 ct29 : Value} {f30 : Addr} {od30 an30 : Option Addr} {sl30 : Array (Option Value)} {oc30 kV30 dc30 pm30 cd30 ct30 : Value} {f31 : Addr} {od31 an31 : Option Addr} {sl31 : Array (Option Value)} {oc31 kV31 dc31 pm31 cd31 ct31 : Value} {f32 : Addr} {od32 an32 : Option Addr} {sl32 : Array (Option Value)} {oc32 kV32 dc32 pm32 cd32 ct32 : Value} {f33 : Addr} {od33 an33 : Option Addr} {sl33 : Array (Option Value)} {oc33 kV33 dc33 pm33 cd33 ct33 : Value} {f34 : Addr} {od34 an34 : Option Addr} {sl34 : Array (Option Value)} {oc34 kV34 dc34 pm34 cd34 ct34 : Value} {f35 : Addr} {od35 an35 : Option Addr} {sl35 : Array (Option Value)} {oc35 kV35 dc35 pm35 cd35 ct35 : Value} {f36 : Addr} {od36 an36 : Option Addr} {sl36 : Array (Option Value)} {oc36 kV36 dc36 pm36 cd36 ct36 : Value} {f38 : Addr} {od38 an38 : Option Addr} {sl38 : Array (Option Value)} {oc38 kV38 dc38 pm38 cd38 ct38 : Value} {f40 : Addr} {od40 an40 : Option Addr} {sl40 : Array (Option Value)} {oc40 kV40 dc40 pm40 cd40 ct40 : Value} {f41 : Addr} {od41 an41 : Option Addr} {sl41 : Array (Option Value)} {oc41 kV41 dc41 pm41 cd41 ct41 : Value} {f42 : Addr} {od42 an42 : Option Addr} {sl42 : Array (Option Value)} {oc42 kV42 dc42 pm42 cd42 ct42 : Value} {f43 : Addr} {od43 an43 : Option Addr} {sl43 : Array (Option Value)} {oc43 kV43 dc43 pm43 cd43 ct43 : Value} (X : K.In h) (G : h.Ns mainGlobals mg) (hfa : mg "law" = some (.ref fa))
    (z_len : PySem.W.nsIn K mainGlobals "len" = some none)
    (z_all : PySem.W.nsIn K mainGlobals "all" = some none)
    (z_any : PySem.W.nsIn K mainGlobals "any" = some none)
    (z_sorted : PySem.W.nsIn K mainGlobals "sorted" = some none)
    (z_isinstance : PySem.W.nsIn K mainGlobals "isinstance" = some none)
    (z_abs : PySem.W.nsIn K mainGlobals "abs" = some none)
    (z_min : PySem.W.nsIn K mainGlobals "min" = some none)
    (z_max : PySem.W.nsIn K mainGlobals "max" = some none)
    (z_range : PySem.W.nsIn K mainGlobals "range" = some none)
    (z_enumerate : PySem.W.nsIn K mainGlobals "enumerate" = some none)
    (z_int : PySem.W.nsIn K mainGlobals "int" = some none)
    (z_list : PySem.W.nsIn K mainGlobals "list" = some none)
    (z_tuple : PySem.W.nsIn K mainGlobals "tuple" = some none)
    (z_str : PySem.W.nsIn K mainGlobals "str" = some none)
    (z_bool : PySem.W.nsIn K mainGlobals "bool" = some none)
    (z_repr : PySem.W.nsIn K mainGlobals "repr" = some none)
    (aC : PySem.W.nsIn K mainGlobals "Map" = some (some (.ref CMap)))
    (pg : PySem.W.plainGet K CMap Str.empty = true)
    (hd : PySem.W.hasDictIn K CMap = true)
    (po : PySem.W.plainOver K CMap = true)
    (sa : PySem.W.findIn K (.ref CMap) "__setattr__" = some (some (.builtin "object.__setattr__")))
    (mk : PySem.W.makesIn K CMap = true)
    (kc : PySem.W.keepIn K (.ref CMap) = true)
    (n1 : PySem.W.findIn K (.ref CMap) "_many" = some none)
    (n2 : PySem.W.findIn K (.ref CMap) "_arrows" = some none)
    (n3 : PySem.W.findIn K (.ref CMap) "_goals" = some none)
    (c_FEWEST_PLACES : PySem.W.nsIn K mainGlobals "FEWEST_PLACES" = some (some (.int 2 t_FEWEST_PLACES)))
    (c_MOST_PLACES : PySem.W.nsIn K mainGlobals "MOST_PLACES" = some (some (.int 40 t_MOST_PLACES)))
    (c_MOST_ARROWS : PySem.W.nsIn K mainGlobals "MOST_ARROWS" = some (some (.int 60 t_MOST_ARROWS)))
    (g_NoName : PySem.W.nsIn K mainGlobals "NoName" = some (some (.ref CNoName)))
    (e_NoName : PySem.W.excIn K CNoName [.type "ValueError", .type "Exception", .type "BaseException", .type "object"] "ValueError.__new__" = true)
    (k_NoName : PySem.W.keepIn K (.ref CNoName) = true)
    (i_NoName : PySem.W.isClsIn K CNoName = true)
    (b_NoName : PySem.W.subIn K (.ref CNoName) (.type "BaseException") = some true)
    (t_NoName : PySem.W.typeIn K (.ref CNoName) = some (.type "type"))
    (g_NoStanding : PySem.W.nsIn K mainGlobals "NoStanding" = some (some (.ref CNoStanding)))
    (e_NoStanding : PySem.W.excIn K CNoStanding [.type "ValueError", .type "Exception", .type "BaseException", .type "object"] "ValueError.__new__" = true)
    (k_NoStanding : PySem.W.keepIn K (.ref CNoStanding) = true)
    (i_NoStanding : PySem.W.isClsIn K CNoStanding = true)
    (b_NoStanding : PySem.W.subIn K (.ref CNoStanding) (.type "BaseException") = some true)
    (t_NoStanding : PySem.W.typeIn K (.ref CNoStanding) = some (.type "type"))
    (s_NoName_NoName : PySem.W.subIn K (.ref CNoName) (.ref CNoName) = some true)
    (s_NoStanding_NoName : PySem.W.subIn K (.ref CNoStanding) (.ref CNoName) = some false)
    (s_NoStanding_NoStanding : PySem.W.subIn K (.ref CNoStanding) (.ref CNoStanding) = some true)
    (gG_NAMES : PySem.W.nsIn K mainGlobals "NAMES" = some (some (.ref ANAMES)))
    (lG_NAMES : K.lookup ANAMES = some ⟨.type "tuple", dNAMES, .seq #[.str "first" tNAMES0, .str "last" tNAMES1, .str "all" tNAMES2, .str "near" tNAMES3, .str "far" tNAMES4] nNAMES, sNAMES⟩)
    (a0 : PySem.W.nsIn K mainGlobals "is_integer" = some (some (.ref f0)))
    (l0 : K.lookup f0 = some ⟨oc0, od0, .func (PySem.W.fnOf "is_integer" "is_integer" (defArgs s_is_integer) (defBody s_is_integer) (defScope s_is_integer) .none kV0 dc0 pm0 an0 cd0 ct0), sl0⟩)
    (c0 : PySem.W.codeIn K cd0 "is_integer" = true)
    (k0 : PySem.W.keepIn K (.ref f0) = true)
    (a1 : PySem.W.nsIn K mainGlobals "is_index" = some (some (.ref f1)))
    (l1 : K.lookup f1 = some ⟨oc1, od1, .func (PySem.W.fnOf "is_index" "is_index" (defArgs s_is_index) (defBody s_is_index) (defScope s_is_index) .none kV1 dc1 pm1 an1 cd1 ct1), sl1⟩)
    (c1 : PySem.W.codeIn K cd1 "is_index" = true)
    (k1 : PySem.W.keepIn K (.ref f1) = true)
    (a2 : PySem.W.nsIn K mainGlobals "is_any_lot" = some (some (.ref f2)))
    (l2 : K.lookup f2 = some ⟨oc2, od2, .func (PySem.W.fnOf "is_any_lot" "is_any_lot" (defArgs s_is_any_lot) (defBody s_is_any_lot) (defScope s_is_any_lot) .none kV2 dc2 pm2 an2 cd2 ct2), sl2⟩)
    (c2 : PySem.W.codeIn K cd2 "is_any_lot" = true)
    (k2 : PySem.W.keepIn K (.ref f2) = true)
    (a3 : PySem.W.nsIn K mainGlobals "is_lot" = some (some (.ref f3)))
    (l3 : K.lookup f3 = some ⟨oc3, od3, .func (PySem.W.fnOf "is_lot" "is_lot" (defArgs s_is_lot) (defBody s_is_lot) (defScope s_is_lot) .none kV3 dc3 pm3 an3 cd3 ct3), sl3⟩)
    (c3 : PySem.W.codeIn K cd3 "is_lot" = true)
    (k3 : PySem.W.keepIn K (.ref f3) = true)
    (a4 : PySem.W.nsIn K mainGlobals "marks" = some (some (.ref f4)))
    (l4 : K.lookup f4 = some ⟨oc4, od4, .func (PySem.W.fnOf "marks" "marks" (defArgs s_marks) (defBody s_marks) (defScope s_marks) .none kV4 dc4 pm4 an4 cd4 ct4), sl4⟩)
    (c4 : PySem.W.codeIn K cd4 "marks" = true)
    (k4 : PySem.W.keepIn K (.ref f4) = true)
    (a5 : PySem.W.nsIn K mainGlobals "pairs_left" = some (some (.ref f5)))
    (l5 : K.lookup f5 = some ⟨oc5, od5, .func (PySem.W.fnOf "pairs_left" "pairs_left" (defArgs s_pairs_left) (defBody s_pairs_left) (defScope s_pairs_left) .none kV5 dc5 pm5 an5 cd5 ct5), sl5⟩)
    (c5 : PySem.W.codeIn K cd5 "pairs_left" = true)
    (k5 : PySem.W.keepIn K (.ref f5) = true)
    (a6 : PySem.W.nsIn K mainGlobals "steps_from" = some (some (.ref f6)))
    (l6 : K.lookup f6 = some ⟨oc6, od6, .func (PySem.W.fnOf "steps_from" "steps_from" (defArgs s_steps_from) (defBody s_steps_from) (defScope s_steps_from) .none kV6 dc6 pm6 an6 cd6 ct6), sl6⟩)
    (c6 : PySem.W.codeIn K cd6 "steps_from" = true)
    (k6 : PySem.W.keepIn K (.ref f6) = true)
    (a7 : PySem.W.nsIn K mainGlobals "leads_to_all" = some (some (.ref f7)))
    (l7 : K.lookup f7 = some ⟨oc7, od7, .func (PySem.W.fnOf "leads_to_all" "leads_to_all" (defArgs s_leads_to_all) (defBody s_leads_to_all) (defScope s_leads_to_all) .none kV7 dc7 pm7 an7 cd7 ct7), sl7⟩)
    (c7 : PySem.W.codeIn K cd7 "leads_to_all" = true)
    (k7 : PySem.W.keepIn K (.ref f7) = true)
    (a8 : PySem.W.findIn K (.ref CMap) "many" = some (some (.ref f8)))
    (i8 : PySem.W.isFn K (.ref f8) = true)
    (l8 : K.lookup f8 = some ⟨oc8, od8, .func (PySem.W.fnOf "many" "Map.many" (defArgs s_Map_many) (defBody s_Map_many) (defScope s_Map_many) .none kV8 dc8 pm8 an8 cd8 ct8), sl8⟩)
    (c8 : PySem.W.codeIn K cd8 "Map.many" = true)
    (k8 : PySem.W.keepIn K (.ref f8) = true)
    (a9 : PySem.W.findIn K (.ref CMap) "arrows" = some (some (.ref f9)))
    (i9 : PySem.W.isFn K (.ref f9) = true)
    (l9 : K.lookup f9 = some ⟨oc9, od9, .func (PySem.W.fnOf "arrows" "Map.arrows" (defArgs s_Map_arrows) (defBody s_Map_arrows) (defScope s_Map_arrows) .none kV9 dc9 pm9 an9 cd9 ct9), sl9⟩)
    (c9 : PySem.W.codeIn K cd9 "Map.arrows" = true)
    (k9 : PySem.W.keepIn K (.ref f9) = true)
    (a10 : PySem.W.findIn K (.ref CMap) "goals" = some (some (.ref f10)))
    (i10 : PySem.W.isFn K (.ref f10) = true)
    (l10 : K.lookup f10 = some ⟨oc10, od10, .func (PySem.W.fnOf "goals" "Map.goals" (defArgs s_Map_goals) (defBody s_Map_goals) (defScope s_Map_goals) .none kV10 dc10 pm10 an10 cd10 ct10), sl10⟩)
    (c10 : PySem.W.codeIn K cd10 "Map.goals" = true)
    (k10 : PySem.W.keepIn K (.ref f10) = true)
    (a11 : PySem.W.nsIn K mainGlobals "is_pair" = some (some (.ref f11)))
    (l11 : K.lookup f11 = some ⟨oc11, od11, .func (PySem.W.fnOf "is_pair" "is_pair" (defArgs s_is_pair) (defBody s_is_pair) (defScope s_is_pair) .none kV11 dc11 pm11 an11 cd11 ct11), sl11⟩)
    (c11 : PySem.W.codeIn K cd11 "is_pair" = true)
    (k11 : PySem.W.keepIn K (.ref f11) = true)
    (a12 : PySem.W.nsIn K mainGlobals "check_pairs" = some (some (.ref f12)))
    (l12 : K.lookup f12 = some ⟨oc12, od12, .func (PySem.W.fnOf "check_pairs" "check_pairs" (defArgs s_check_pairs) (defBody s_check_pairs) (defScope s_check_pairs) .none kV12 dc12 pm12 an12 cd12 ct12), sl12⟩)
    (c12 : PySem.W.codeIn K cd12 "check_pairs" = true)
    (k12 : PySem.W.keepIn K (.ref f12) = true)
    (a13 : PySem.W.nsIn K mainGlobals "are_goals" = some (some (.ref f13)))
    (l13 : K.lookup f13 = some ⟨oc13, od13, .func (PySem.W.fnOf "are_goals" "are_goals" (defArgs s_are_goals) (defBody s_are_goals) (defScope s_are_goals) .none kV13 dc13 pm13 an13 cd13 ct13), sl13⟩)
    (c13 : PySem.W.codeIn K cd13 "are_goals" = true)
    (k13 : PySem.W.keepIn K (.ref f13) = true)
    (a14 : PySem.W.findIn K (.ref CMap) "__init__" = some (some (.ref f14)))
    (i14 : PySem.W.isFn K (.ref f14) = true)
    (l14 : K.lookup f14 = some ⟨oc14, od14, .func (PySem.W.fnOf "__init__" "Map.__init__" (defArgs s_Map___init__) (defBody s_Map___init__) (defScope s_Map___init__) .none kV14 dc14 pm14 an14 cd14 ct14), sl14⟩)
    (c14 : PySem.W.codeIn K cd14 "Map.__init__" = true)
    (k14 : PySem.W.keepIn K (.ref f14) = true)
    (a15 : PySem.W.nsIn K mainGlobals "goals_are_open" = some (some (.ref f15)))
    (l15 : K.lookup f15 = some ⟨oc15, od15, .func (PySem.W.fnOf "goals_are_open" "goals_are_open" (defArgs s_goals_are_open) (defBody s_goals_are_open) (defScope s_goals_are_open) .none kV15 dc15 pm15 an15 cd15 ct15), sl15⟩)
    (c15 : PySem.W.codeIn K cd15 "goals_are_open" = true)
    (k15 : PySem.W.keepIn K (.ref f15) = true)
    (a16 : PySem.W.nsIn K mainGlobals "holds_together" = some (some (.ref f16)))
    (l16 : K.lookup f16 = some ⟨oc16, od16, .func (PySem.W.fnOf "holds_together" "holds_together" (defArgs s_holds_together) (defBody s_holds_together) (defScope s_holds_together) .none kV16 dc16 pm16 an16 cd16 ct16), sl16⟩)
    (c16 : PySem.W.codeIn K cd16 "holds_together" = true)
    (k16 : PySem.W.keepIn K (.ref f16) = true)
    (a17 : PySem.W.nsIn K mainGlobals "_unreached_pairs" = some (some (.ref f17)))
    (l17 : K.lookup f17 = some ⟨oc17, od17, .func (PySem.W.fnOf "_unreached_pairs" "_unreached_pairs" (defArgs s__unreached_pairs) (defBody s__unreached_pairs) (defScope s__unreached_pairs) .none kV17 dc17 pm17 an17 cd17 ct17), sl17⟩)
    (c17 : PySem.W.codeIn K cd17 "_unreached_pairs" = true)
    (k17 : PySem.W.keepIn K (.ref f17) = true)
    (a18 : PySem.W.nsIn K mainGlobals "is_standing" = some (some (.ref f18)))
    (l18 : K.lookup f18 = some ⟨oc18, od18, .func (PySem.W.fnOf "is_standing" "is_standing" (defArgs s_is_standing) (defBody s_is_standing) (defScope s_is_standing) .none kV18 dc18 pm18 an18 cd18 ct18), sl18⟩)
    (c18 : PySem.W.codeIn K cd18 "is_standing" = true)
    (k18 : PySem.W.keepIn K (.ref f18) = true)
    (a19 : PySem.W.nsIn K mainGlobals "check_standing" = some (some (.ref f19)))
    (l19 : K.lookup f19 = some ⟨oc19, od19, .func (PySem.W.fnOf "check_standing" "check_standing" (defArgs s_check_standing) (defBody s_check_standing) (defScope s_check_standing) .none kV19 dc19 pm19 an19 cd19 ct19), sl19⟩)
    (c19 : PySem.W.codeIn K cd19 "check_standing" = true)
    (k19 : PySem.W.keepIn K (.ref f19) = true)
    (a21 : PySem.W.nsIn K mainGlobals "steps_to_go" = some (some (.ref f21)))
    (l21 : K.lookup f21 = some ⟨oc21, od21, .func (PySem.W.fnOf "steps_to_go" "steps_to_go" (defArgs s_steps_to_go) (defBody s_steps_to_go) (defScope s_steps_to_go) .none kV21 dc21 pm21 an21 cd21 ct21), sl21⟩)
    (c21 : PySem.W.codeIn K cd21 "steps_to_go" = true)
    (k21 : PySem.W.keepIn K (.ref f21) = true)
    (a22 : PySem.W.nsIn K mainGlobals "tries_at" = some (some (.ref f22)))
    (l22 : K.lookup f22 = some ⟨oc22, od22, .func (PySem.W.fnOf "tries_at" "tries_at" (defArgs s_tries_at) (defBody s_tries_at) (defScope s_tries_at) .none kV22 dc22 pm22 an22 cd22 ct22), sl22⟩)
    (c22 : PySem.W.codeIn K cd22 "tries_at" = true)
    (k22 : PySem.W.keepIn K (.ref f22) = true)
    (a23 : PySem.W.nsIn K mainGlobals "worth_at" = some (some (.ref f23)))
    (l23 : K.lookup f23 = some ⟨oc23, od23, .func (PySem.W.fnOf "worth_at" "worth_at" (defArgs s_worth_at) (defBody s_worth_at) (defScope s_worth_at) .none kV23 dc23 pm23 an23 cd23 ct23), sl23⟩)
    (c23 : PySem.W.codeIn K cd23 "worth_at" = true)
    (k23 : PySem.W.keepIn K (.ref f23) = true)
    (a24 : PySem.W.nsIn K mainGlobals "_law_led" = some (some (.ref f24)))
    (l24 : K.lookup f24 = some ⟨oc24, od24, .func (PySem.W.fnOf "_law_led" "_law_led" (defArgs s__law_led) (defBody s__law_led) (defScope s__law_led) .none kV24 dc24 pm24 an24 cd24 ct24), sl24⟩)
    (c24 : PySem.W.codeIn K cd24 "_law_led" = true)
    (k24 : PySem.W.keepIn K (.ref f24) = true)
    (a25 : PySem.W.nsIn K mainGlobals "_law_is_world" = some (some (.ref f25)))
    (l25 : K.lookup f25 = some ⟨oc25, od25, .func (PySem.W.fnOf "_law_is_world" "_law_is_world" (defArgs s__law_is_world) (defBody s__law_is_world) (defScope s__law_is_world) .none kV25 dc25 pm25 an25 cd25 ct25), sl25⟩)
    (c25 : PySem.W.codeIn K cd25 "_law_is_world" = true)
    (k25 : PySem.W.keepIn K (.ref f25) = true)
    (a26 : PySem.W.nsIn K mainGlobals "_law_is_standing" = some (some (.ref f26)))
    (l26 : K.lookup f26 = some ⟨oc26, od26, .func (PySem.W.fnOf "_law_is_standing" "_law_is_standing" (defArgs s__law_is_standing) (defBody s__law_is_standing) (defScope s__law_is_standing) .none kV26 dc26 pm26 an26 cd26 ct26), sl26⟩)
    (c26 : PySem.W.codeIn K cd26 "_law_is_standing" = true)
    (k26 : PySem.W.keepIn K (.ref f26) = true)
    (a27 : PySem.W.nsIn K mainGlobals "_law_hand" = some (some (.ref f27)))
    (l27 : K.lookup f27 = some ⟨oc27, od27, .func (PySem.W.fnOf "_law_hand" "_law_hand" (defArgs s__law_hand) (defBody s__law_hand) (defScope s__law_hand) .none kV27 dc27 pm27 an27 cd27 ct27), sl27⟩)
    (c27 : PySem.W.codeIn K cd27 "_law_hand" = true)
    (k27 : PySem.W.keepIn K (.ref f27) = true)
    (a28 : PySem.W.nsIn K mainGlobals "_law_draw" = some (some (.ref f28)))
    (l28 : K.lookup f28 = some ⟨oc28, od28, .func (PySem.W.fnOf "_law_draw" "_law_draw" (defArgs s__law_draw) (defBody s__law_draw) (defScope s__law_draw) .none kV28 dc28 pm28 an28 cd28 ct28), sl28⟩)
    (c28 : PySem.W.codeIn K cd28 "_law_draw" = true)
    (k28 : PySem.W.keepIn K (.ref f28) = true)
    (a29 : PySem.W.nsIn K mainGlobals "_law_shuffled" = some (some (.ref f29)))
    (l29 : K.lookup f29 = some ⟨oc29, od29, .func (PySem.W.fnOf "_law_shuffled" "_law_shuffled" (defArgs s__law_shuffled) (defBody s__law_shuffled) (defScope s__law_shuffled) .none kV29 dc29 pm29 an29 cd29 ct29), sl29⟩)
    (c29 : PySem.W.codeIn K cd29 "_law_shuffled" = true)
    (k29 : PySem.W.keepIn K (.ref f29) = true)
    (a30 : PySem.W.nsIn K mainGlobals "_law_tail" = some (some (.ref f30)))
    (l30 : K.lookup f30 = some ⟨oc30, od30, .func (PySem.W.fnOf "_law_tail" "_law_tail" (defArgs s__law_tail) (defBody s__law_tail) (defScope s__law_tail) .none kV30 dc30 pm30 an30 cd30 ct30), sl30⟩)
    (c30 : PySem.W.codeIn K cd30 "_law_tail" = true)
    (k30 : PySem.W.keepIn K (.ref f30) = true)
    (a31 : PySem.W.nsIn K mainGlobals "_law_renamed" = some (some (.ref f31)))
    (l31 : K.lookup f31 = some ⟨oc31, od31, .func (PySem.W.fnOf "_law_renamed" "_law_renamed" (defArgs s__law_renamed) (defBody s__law_renamed) (defScope s__law_renamed) .none kV31 dc31 pm31 an31 cd31 ct31), sl31⟩)
    (c31 : PySem.W.codeIn K cd31 "_law_renamed" = true)
    (k31 : PySem.W.keepIn K (.ref f31) = true)
    (a32 : PySem.W.nsIn K mainGlobals "_law_parts" = some (some (.ref f32)))
    (l32 : K.lookup f32 = some ⟨oc32, od32, .func (PySem.W.fnOf "_law_parts" "_law_parts" (defArgs s__law_parts) (defBody s__law_parts) (defScope s__law_parts) .none kV32 dc32 pm32 an32 cd32 ct32), sl32⟩)
    (c32 : PySem.W.codeIn K cd32 "_law_parts" = true)
    (k32 : PySem.W.keepIn K (.ref f32) = true)
    (a33 : PySem.W.nsIn K mainGlobals "_law_standing" = some (some (.ref f33)))
    (l33 : K.lookup f33 = some ⟨oc33, od33, .func (PySem.W.fnOf "_law_standing" "_law_standing" (defArgs s__law_standing) (defBody s__law_standing) (defScope s__law_standing) .none kV33 dc33 pm33 an33 cd33 ct33), sl33⟩)
    (c33 : PySem.W.codeIn K cd33 "_law_standing" = true)
    (k33 : PySem.W.keepIn K (.ref f33) = true)
    (a34 : PySem.W.nsIn K mainGlobals "_law_tries" = some (some (.ref f34)))
    (l34 : K.lookup f34 = some ⟨oc34, od34, .func (PySem.W.fnOf "_law_tries" "_law_tries" (defArgs s__law_tries) (defBody s__law_tries) (defScope s__law_tries) .none kV34 dc34 pm34 an34 cd34 ct34), sl34⟩)
    (c34 : PySem.W.codeIn K cd34 "_law_tries" = true)
    (k34 : PySem.W.keepIn K (.ref f34) = true)
    (a35 : PySem.W.nsIn K mainGlobals "_law_alive" = some (some (.ref f35)))
    (l35 : K.lookup f35 = some ⟨oc35, od35, .func (PySem.W.fnOf "_law_alive" "_law_alive" (defArgs s__law_alive) (defBody s__law_alive) (defScope s__law_alive) .none kV35 dc35 pm35 an35 cd35 ct35), sl35⟩)
    (c35 : PySem.W.codeIn K cd35 "_law_alive" = true)
    (k35 : PySem.W.keepIn K (.ref f35) = true)
    (a36 : PySem.W.nsIn K mainGlobals "_law_worth" = some (some (.ref f36)))
    (l36 : K.lookup f36 = some ⟨oc36, od36, .func (PySem.W.fnOf "_law_worth" "_law_worth" (defArgs s__law_worth) (defBody s__law_worth) (defScope s__law_worth) .none kV36 dc36 pm36 an36 cd36 ct36), sl36⟩)
    (c36 : PySem.W.codeIn K cd36 "_law_worth" = true)
    (k36 : PySem.W.keepIn K (.ref f36) = true)
    (a38 : PySem.W.nsIn K mainGlobals "sent_by" = some (some (.ref f38)))
    (l38 : K.lookup f38 = some ⟨oc38, od38, .func (PySem.W.fnOf "sent_by" "sent_by" (defArgs s_sent_by) (defBody s_sent_by) (defScope s_sent_by) .none kV38 dc38 pm38 an38 cd38 ct38), sl38⟩)
    (c38 : PySem.W.codeIn K cd38 "sent_by" = true)
    (k38 : PySem.W.keepIn K (.ref f38) = true)
    (a40 : PySem.W.nsIn K mainGlobals "_law_steps" = some (some (.ref f40)))
    (l40 : K.lookup f40 = some ⟨oc40, od40, .func (PySem.W.fnOf "_law_steps" "_law_steps" (defArgs s__law_steps) (defBody s__law_steps) (defScope s__law_steps) .none kV40 dc40 pm40 an40 cd40 ct40), sl40⟩)
    (c40 : PySem.W.codeIn K cd40 "_law_steps" = true)
    (k40 : PySem.W.keepIn K (.ref f40) = true)
    (a41 : PySem.W.nsIn K mainGlobals "_law_due" = some (some (.ref f41)))
    (l41 : K.lookup f41 = some ⟨oc41, od41, .func (PySem.W.fnOf "_law_due" "_law_due" (defArgs s__law_due) (defBody s__law_due) (defScope s__law_due) .none kV41 dc41 pm41 an41 cd41 ct41), sl41⟩)
    (c41 : PySem.W.codeIn K cd41 "_law_due" = true)
    (k41 : PySem.W.keepIn K (.ref f41) = true)
    (a42 : PySem.W.nsIn K mainGlobals "_law_told" = some (some (.ref f42)))
    (l42 : K.lookup f42 = some ⟨oc42, od42, .func (PySem.W.fnOf "_law_told" "_law_told" (defArgs s__law_told) (defBody s__law_told) (defScope s__law_told) .none kV42 dc42 pm42 an42 cd42 ct42), sl42⟩)
    (c42 : PySem.W.codeIn K cd42 "_law_told" = true)
    (k42 : PySem.W.keepIn K (.ref f42) = true)
    (a43 : PySem.W.nsIn K mainGlobals "law" = some (some (.ref f43)))
    (l43 : K.lookup f43 = some ⟨oc43, od43, .func (PySem.W.fnOf "law" "law" (defArgs s_law) (defBody s_law) (defScope s_law) .none kV43 dc43 pm43 an43 cd43 ct43), sl43⟩)
    (c43 : PySem.W.codeIn K cd43 "law" = true)
    (k43 : PySem.W.keepIn K (.ref f43) = true) :
    ∃ fd : FuncData, (∀ (s : Shared) (v : Value), BindsTo s fd ⟨[v], []⟩ [("_law_script", v)]) ∧ ∀ base : Heap, K.In base → base.Ns mainGlobals mg → FnG l.prog w K mg base 8 fa fd ["_law_script"] (spLaw K) := by
  have e := hfa.symm.trans (PySem.W.mg_of X G a43)
  cases e
  have B : Bt mg := ⟨PySem.W.mg_none_of X G z_len, PySem.W.mg_none_of X G z_all, PySem.W.mg_none_of X G z_any, PySem.W.mg_none_of X G z_sorted, PySem.W.mg_none_of X G z_isinstance, PySem.W.mg_none_of X G z_abs, PySem.W.mg_none_of X G z_min, PySem.W.mg_none_of X G z_max, PySem.W.mg_none_of X G z_range, PySem.W.mg_none_of X G z_enumerate, PySem.W.mg_none_of X G z_int, PySem.W.mg_none_of X G z_list, PySem.W.mg_none_of X G z_tuple, PySem.W.mg_none_of X G z_str, PySem.W.mg_none_of X G z_bool, PySem.W.mg_none_of X G z_repr⟩
  have C : MapC K mg CMap := ⟨⟨pg, hd, po, sa⟩, n1, n2, n3, PySem.W.mg_of X G aC, ⟨_, PySem.W.mg_of X G c_FEWEST_PLACES⟩, ⟨_, PySem.W.mg_of X G c_MOST_PLACES⟩, ⟨_, PySem.W.mg_of X G c_MOST_ARROWS⟩⟩
  have T_NoName : Ex K mg "NoName" CNoName := ⟨PySem.W.mg_of X G g_NoName, e_NoName, k_NoName, b_NoName, t_NoName⟩
  have T_NoStanding : Ex K mg "NoStanding" CNoStanding := ⟨PySem.W.mg_of X G g_NoStanding, e_NoStanding, k_NoStanding, b_NoStanding, t_NoStanding⟩
  have m_NoName_NoName := exm_pair b_NoName i_NoName t_NoName s_NoName_NoName
  have m_NoStanding_NoName := exm_pair b_NoName i_NoName t_NoName s_NoStanding_NoName
  have m_NoStanding_NoStanding := exm_pair b_NoStanding i_NoStanding t_NoStanding s_NoStanding_NoStanding
  have G_NAMES : GTup K mg "NAMES" ANAMES [.str "first", .str "last", .str "all", .str "near", .str "far"] := ⟨PySem.W.mg_of X G gG_NAMES, fun _ => .inr ⟨_, _, _, lG_NAMES, rfl, rfl, (by show 5 ≤ sizeLine; decide), .cons ⟨_, rfl⟩ (.cons ⟨_, rfl⟩ (.cons ⟨_, rfl⟩ (.cons ⟨_, rfl⟩ (.cons ⟨_, rfl⟩ (.nil)))))⟩⟩
  have D_is_integer : Df K mg "is_integer" s_is_integer ["thing"] := ⟨f0, _, PySem.W.mg_of X G a0, (fun_mk (st := s_is_integer) l0 c0 k0), (fun_mk (st := s_is_integer) l0 c0 k0).binds bd_is_integer⟩
  have D_is_index : Df K mg "is_index" s_is_index ["thing", "many"] := ⟨f1, _, PySem.W.mg_of X G a1, (fun_mk (st := s_is_index) l1 c1 k1), (fun_mk (st := s_is_index) l1 c1 k1).binds bd_is_index⟩
  have D_is_any_lot : Df K mg "is_any_lot" s_is_any_lot ["thing"] := ⟨f2, _, PySem.W.mg_of X G a2, (fun_mk (st := s_is_any_lot) l2 c2 k2), (fun_mk (st := s_is_any_lot) l2 c2 k2).binds bd_is_any_lot⟩
  have D_is_lot : Df K mg "is_lot" s_is_lot ["thing", "many"] := ⟨f3, _, PySem.W.mg_of X G a3, (fun_mk (st := s_is_lot) l3 c3 k3), (fun_mk (st := s_is_lot) l3 c3 k3).binds bd_is_lot⟩
  have D_marks : Df K mg "marks" s_marks ["many", "lot"] := ⟨f4, _, PySem.W.mg_of X G a4, (fun_mk (st := s_marks) l4 c4 k4), (fun_mk (st := s_marks) l4 c4 k4).binds bd_marks⟩
  have D_pairs_left : Df K mg "pairs_left" s_pairs_left ["arrows", "rotten"] := ⟨f5, _, PySem.W.mg_of X G a5, (fun_mk (st := s_pairs_left) l5 c5 k5), (fun_mk (st := s_pairs_left) l5 c5 k5).binds bd_pairs_left⟩
  have D_steps_from : Df K mg "steps_from" s_steps_from ["many", "pairs", "sources"] := ⟨f6, _, PySem.W.mg_of X G a6, (fun_mk (st := s_steps_from) l6 c6 k6), (fun_mk (st := s_steps_from) l6 c6 k6).binds bd_steps_from⟩
  have D_leads_to_all : Df K mg "leads_to_all" s_leads_to_all ["many", "pairs", "places"] := ⟨f7, _, PySem.W.mg_of X G a7, (fun_mk (st := s_leads_to_all) l7 c7 k7), (fun_mk (st := s_leads_to_all) l7 c7 k7).binds bd_leads_to_all⟩
  have D_Map_many : DfM K CMap "many" "Map.many" s_Map_many ["self"] := ⟨f8, _, ⟨a8, i8, k8⟩, (fun_mk (st := s_Map_many) l8 c8 k8), (fun_mk (st := s_Map_many) l8 c8 k8).binds bd_Map_many⟩
  have D_Map_arrows : DfM K CMap "arrows" "Map.arrows" s_Map_arrows ["self"] := ⟨f9, _, ⟨a9, i9, k9⟩, (fun_mk (st := s_Map_arrows) l9 c9 k9), (fun_mk (st := s_Map_arrows) l9 c9 k9).binds bd_Map_arrows⟩
  have D_Map_goals : DfM K CMap "goals" "Map.goals" s_Map_goals ["self"] := ⟨f10, _, ⟨a10, i10, k10⟩, (fun_mk (st := s_Map_goals) l10 c10 k10), (fun_mk (st := s_Map_goals) l10 c10 k10).binds bd_Map_goals⟩
  have D_is_pair : Df K mg "is_pair" s_is_pair ["thing", "many"] := ⟨f11, _, PySem.W.mg_of X G a11, (fun_mk (st := s_is_pair) l11 c11 k11), (fun_mk (st := s_is_pair) l11 c11 k11).binds bd_is_pair⟩
  have D_check_pairs : Df K mg "check_pairs" s_check_pairs ["many", "pairs", "most"] := ⟨f12, _, PySem.W.mg_of X G a12, (fun_mk (st := s_check_pairs) l12 c12 k12), (fun_mk (st := s_check_pairs) l12 c12 k12).binds bd_check_pairs⟩
  have D_are_goals : Df K mg "are_goals" s_are_goals ["thing", "many", "arrows"] := ⟨f13, _, PySem.W.mg_of X G a13, (fun_mk (st := s_are_goals) l13 c13 k13), (fun_mk (st := s_are_goals) l13 c13 k13).binds bd_are_goals⟩
  have D_Map___init__ : DfI K CMap "Map.__init__" s_Map___init__ ["self", "many", "arrows", "goals"] := ⟨f14, _, ⟨mk, a14, i14, kc⟩, (fun_mk (st := s_Map___init__) l14 c14 k14), (fun_mk (st := s_Map___init__) l14 c14 k14).binds bd_Map___init__⟩
  have D_goals_are_open : Df K mg "goals_are_open" s_goals_are_open ["chart", "rotten"] := ⟨f15, _, PySem.W.mg_of X G a15, (fun_mk (st := s_goals_are_open) l15 c15 k15), (fun_mk (st := s_goals_are_open) l15 c15 k15).binds bd_goals_are_open⟩
  have D_holds_together : Df K mg "holds_together" s_holds_together ["chart", "reached", "rotten"] := ⟨f16, _, PySem.W.mg_of X G a16, (fun_mk (st := s_holds_together) l16 c16 k16), (fun_mk (st := s_holds_together) l16 c16 k16).binds bd_holds_together⟩
  have D__unreached_pairs : Df K mg "_unreached_pairs" s__unreached_pairs ["chart", "standing"] := ⟨f17, _, PySem.W.mg_of X G a17, (fun_mk (st := s__unreached_pairs) l17 c17 k17), (fun_mk (st := s__unreached_pairs) l17 c17 k17).binds bd__unreached_pairs⟩
  have D_is_standing : Df K mg "is_standing" s_is_standing ["chart", "thing"] := ⟨f18, _, PySem.W.mg_of X G a18, (fun_mk (st := s_is_standing) l18 c18 k18), (fun_mk (st := s_is_standing) l18 c18 k18).binds bd_is_standing⟩
  have D_check_standing : Df K mg "check_standing" s_check_standing ["chart", "thing"] := ⟨f19, _, PySem.W.mg_of X G a19, (fun_mk (st := s_check_standing) l19 c19 k19), (fun_mk (st := s_check_standing) l19 c19 k19).binds bd_check_standing⟩
  have D_steps_to_go : Df K mg "steps_to_go" s_steps_to_go ["chart", "standing"] := ⟨f21, _, PySem.W.mg_of X G a21, (fun_mk (st := s_steps_to_go) l21 c21 k21), (fun_mk (st := s_steps_to_go) l21 c21 k21).binds bd_steps_to_go⟩
  have D_tries_at : Df K mg "tries_at" s_tries_at ["chart", "standing"] := ⟨f22, _, PySem.W.mg_of X G a22, (fun_mk (st := s_tries_at) l22 c22 k22), (fun_mk (st := s_tries_at) l22 c22 k22).binds bd_tries_at⟩
  have D_worth_at : Df K mg "worth_at" s_worth_at ["chart", "standing"] := ⟨f23, _, PySem.W.mg_of X G a23, (fun_mk (st := s_worth_at) l23 c23 k23), (fun_mk (st := s_worth_at) l23 c23 k23).binds bd_worth_at⟩
  have D__law_led : Df K mg "_law_led" s__law_led ["_law_arrows", "_law_begun", "_law_let", "_law_barred"] := ⟨f24, _, PySem.W.mg_of X G a24, (fun_mk (st := s__law_led) l24 c24 k24), (fun_mk (st := s__law_led) l24 c24 k24).binds bd__law_led⟩
  have D__law_is_world : Df K mg "_law_is_world" s__law_is_world ["_law_parts_here", "_law_rotten"] := ⟨f25, _, PySem.W.mg_of X G a25, (fun_mk (st := s__law_is_world) l25 c25 k25), (fun_mk (st := s__law_is_world) l25 c25 k25).binds bd__law_is_world⟩
  have D__law_is_standing : Df K mg "_law_is_standing" s__law_is_standing ["_law_parts_here", "_law_reached", "_law_rotten"] := ⟨f26, _, PySem.W.mg_of X G a26, (fun_mk (st := s__law_is_standing) l26 c26 k26), (fun_mk (st := s__law_is_standing) l26 c26 k26).binds bd__law_is_standing⟩
  have D__law_hand : Df K mg "_law_hand" s__law_hand ["_law_script"] := ⟨f27, _, PySem.W.mg_of X G a27, (fun_mk (st := s__law_hand) l27 c27 k27), (fun_mk (st := s__law_hand) l27 c27 k27).binds bd__law_hand⟩
  have D__law_draw : Df K mg "_law_draw" s__law_draw ["_law_hand_here", "_law_many"] := ⟨f28, _, PySem.W.mg_of X G a28, (fun_mk (st := s__law_draw) l28 c28 k28), (fun_mk (st := s__law_draw) l28 c28 k28).binds bd__law_draw⟩
  have D__law_shuffled : Df K mg "_law_shuffled" s__law_shuffled ["_law_hand_here", "_law_things"] := ⟨f29, _, PySem.W.mg_of X G a29, (fun_mk (st := s__law_shuffled) l29 c29 k29), (fun_mk (st := s__law_shuffled) l29 c29 k29).binds bd__law_shuffled⟩
  have D__law_tail : Df K mg "_law_tail" s__law_tail ["_law_hand_here", "_law_pairs", "_law_goals", "_law_place"] := ⟨f30, _, PySem.W.mg_of X G a30, (fun_mk (st := s__law_tail) l30 c30 k30), (fun_mk (st := s__law_tail) l30 c30 k30).binds bd__law_tail⟩
  have D__law_renamed : Df K mg "_law_renamed" s__law_renamed ["_law_hand_here", "_law_many", "_law_pairs", "_law_goals"] := ⟨f31, _, PySem.W.mg_of X G a31, (fun_mk (st := s__law_renamed) l31 c31 k31), (fun_mk (st := s__law_renamed) l31 c31 k31).binds bd__law_renamed⟩
  have D__law_parts : Df K mg "_law_parts" s__law_parts ["_law_hand_here", "_law_places", "_law_arrows"] := ⟨f32, _, PySem.W.mg_of X G a32, (fun_mk (st := s__law_parts) l32 c32 k32), (fun_mk (st := s__law_parts) l32 c32 k32).binds bd__law_parts⟩
  have D__law_standing : Df K mg "_law_standing" s__law_standing ["_law_hand_here", "_law_parts_here"] := ⟨f33, _, PySem.W.mg_of X G a33, (fun_mk (st := s__law_standing) l33 c33 k33), (fun_mk (st := s__law_standing) l33 c33 k33).binds bd__law_standing⟩
  have D__law_tries : Df K mg "_law_tries" s__law_tries ["_law_parts_here", "_law_reached", "_law_rotten"] := ⟨f34, _, PySem.W.mg_of X G a34, (fun_mk (st := s__law_tries) l34 c34 k34), (fun_mk (st := s__law_tries) l34 c34 k34).binds bd__law_tries⟩
  have D__law_alive : Df K mg "_law_alive" s__law_alive ["_law_parts_here", "_law_reached", "_law_rotten"] := ⟨f35, _, PySem.W.mg_of X G a35, (fun_mk (st := s__law_alive) l35 c35 k35), (fun_mk (st := s__law_alive) l35 c35 k35).binds bd__law_alive⟩
  have D__law_worth : Df K mg "_law_worth" s__law_worth ["_law_parts_here", "_law_reached", "_law_rotten"] := ⟨f36, _, PySem.W.mg_of X G a36, (fun_mk (st := s__law_worth) l36 c36 k36), (fun_mk (st := s__law_worth) l36 c36 k36).binds bd__law_worth⟩
  have D_sent_by : Df K mg "sent_by" s_sent_by ["chart", "name", "standing"] := ⟨f38, _, PySem.W.mg_of X G a38, (fun_mk (st := s_sent_by) l38 c38 k38), (fun_mk (st := s_sent_by) l38 c38 k38).binds bd_sent_by⟩
  have D__law_steps : Df K mg "_law_steps" s__law_steps ["_law_parts_here", "_law_reached", "_law_rotten"] := ⟨f40, _, PySem.W.mg_of X G a40, (fun_mk (st := s__law_steps) l40 c40 k40), (fun_mk (st := s__law_steps) l40 c40 k40).binds bd__law_steps⟩
  have D__law_due : Df K mg "_law_due" s__law_due ["_law_parts_here", "_law_name", "_law_reached", "_law_rotten"] := ⟨f41, _, PySem.W.mg_of X G a41, (fun_mk (st := s__law_due) l41 c41 k41), (fun_mk (st := s__law_due) l41 c41 k41).binds bd__law_due⟩
  have D__law_told : Df K mg "_law_told" s__law_told ["_law_chart", "_law_name", "_law_standing_here"] := ⟨f42, _, PySem.W.mg_of X G a42, (fun_mk (st := s__law_told) l42 c42 k42), (fun_mk (st := s__law_told) l42 c42 k42).binds bd__law_told⟩
  have F_law := fun_mk (st := s_law) l43 c43 k43
  refine ⟨PySem.W.fnOf "law" "law" (defArgs s_law) (defBody s_law) (defScope s_law) .none kV43 dc43 pm43 an43 cd43 ct43, fun s v => .of_eq rfl, fun base _ _ => ?_⟩
  have h_is_integer := ok_is_integer (P := l.prog) (w := w) (base := base) B D_is_integer
  have h_is_index := ok_is_index (P := l.prog) (w := w) (base := base) h_is_integer D_is_index
  have h_is_any_lot := ok_is_any_lot (P := l.prog) (w := w) (base := base) B h_is_integer D_is_any_lot
  have h_is_lot := ok_is_lot (P := l.prog) (w := w) (base := base) B h_is_any_lot D_is_lot
  have h_marks := ok_marks (P := l.prog) (w := w) (base := base) D_marks
  have h_pairs_left := ok_pairs_left (P := l.prog) (w := w) (base := base) B h_marks D_pairs_left
  have h_steps_from := ok_steps_from (P := l.prog) (w := w) (base := base) B D_steps_from
  have h_leads_to_all := ok_leads_to_all (P := l.prog) (w := w) (base := base) B h_steps_from D_leads_to_all
  have h_many := ok_many (P := l.prog) (w := w) (base := base) C D_Map_many
  have h_arrows := ok_arrows (P := l.prog) (w := w) (base := base) C D_Map_arrows
  have h_goals := ok_goals (P := l.prog) (w := w) (base := base) C D_Map_goals
  have h_is_pair := ok_is_pair (P := l.prog) (w := w) (base := base) B h_is_index D_is_pair
  have h_check_pairs := ok_check_pairs (P := l.prog) (w := w) (base := base) B C h_is_integer h_is_pair D_check_pairs
  have h_are_goals := ok_are_goals (P := l.prog) (w := w) (base := base) B h_is_lot h_leads_to_all D_are_goals
  have h_init := ok_Map_init (P := l.prog) (w := w) (base := base) C h_check_pairs h_are_goals D_Map___init__
  have h_goals_are_open := ok_goals_are_open (P := l.prog) (w := w) (base := base) C h_leads_to_all h_pairs_left h_many h_arrows h_goals D_goals_are_open
  have h_holds_together := ok_holds_together (P := l.prog) (w := w) (base := base) C h_marks h_leads_to_all h_pairs_left h_many h_arrows D_holds_together
  have h_unreached_pairs := ok__unreached_pairs (P := l.prog) (w := w) (base := base) C h_marks h_pairs_left h_many h_arrows D__unreached_pairs
  have h_is_standing := ok_is_standing (P := l.prog) (w := w) (base := base) B C h_is_lot h_marks h_holds_together h_goals_are_open h_many h_arrows D_is_standing
  have h_check_standing := ok_check_standing (P := l.prog) (w := w) (base := base) h_is_standing D_check_standing
  have hg_is_standing := okg_is_standing (P := l.prog) (w := w) (base := base) B C h_is_lot h_marks h_holds_together h_goals_are_open h_many h_arrows D_is_standing
  have h_steps_to_go := ok_steps_to_go (P := l.prog) (w := w) (base := base) C h_marks h_steps_from h_unreached_pairs h_many h_goals D_steps_to_go
  have h_tries_at := ok_tries_at (P := l.prog) (w := w) (base := base) B C h_marks h_many h_arrows D_tries_at
  have h_worth_at := ok_worth_at (P := l.prog) (w := w) (base := base) B C h_tries_at h_steps_to_go h_arrows D_worth_at
  have h_law_led := ok__law_led (P := l.prog) (w := w) (base := base) B D__law_led
  have h_law_is_world := ok__law_is_world (P := l.prog) (w := w) (base := base) B h_law_led D__law_is_world
  have h_law_is_standing := ok__law_is_standing (P := l.prog) (w := w) (base := base) B h_law_led h_law_is_world D__law_is_standing
  have h_law_hand := ok__law_hand (P := l.prog) (w := w) (base := base) B D__law_hand
  have h_law_draw := ok__law_draw (P := l.prog) (w := w) (base := base) B D__law_draw
  have h_law_shuffled := ok__law_shuffled (P := l.prog) (w := w) (base := base) B h_law_draw D__law_shuffled
  have h_law_tail := ok__law_tail (P := l.prog) (w := w) (base := base) B h_law_draw D__law_tail
  have h_law_renamed := ok__law_renamed (P := l.prog) (w := w) (base := base) B h_law_shuffled D__law_renamed
  have h_law_parts := ok__law_parts (P := l.prog) (w := w) (base := base) B h_law_draw h_law_tail h_law_shuffled h_law_renamed D__law_parts
  have h_law_standing := ok__law_standing (P := l.prog) (w := w) (base := base) B h_law_draw h_law_shuffled h_law_is_standing D__law_standing
  have h_law_tries := ok__law_tries (P := l.prog) (w := w) (base := base) B D__law_tries
  have h_law_alive := ok__law_alive (P := l.prog) (w := w) (base := base) B h_law_led D__law_alive
  have h_law_worth := ok__law_worth (P := l.prog) (w := w) (base := base) B h_law_alive h_law_tries D__law_worth
  have hX_check_standing := okx_check_standing (P := l.prog) (w := w) (base := base) T_NoStanding hg_is_standing D_check_standing
  have h_sent_by := ok_sent_by (P := l.prog) (w := w) (base := base) B C G_NAMES h_check_standing h_worth_at h_steps_to_go h_arrows D_sent_by
  have hX_sent_by := okx_sent_by (P := l.prog) (w := w) (base := base) B C T_NoName G_NAMES h_sent_by hX_check_standing h_worth_at h_steps_to_go h_arrows D_sent_by
  have h_law_steps := ok__law_steps (P := l.prog) (w := w) (base := base) B D__law_steps
  have h_law_due := ok__law_due (P := l.prog) (w := w) (base := base) B h_law_worth h_law_steps D__law_due
  have h_law_told := ok__law_told (P := l.prog) (w := w) (base := base) T_NoStanding T_NoName m_NoName_NoName m_NoStanding_NoName m_NoStanding_NoStanding hX_sent_by D__law_told
  exact ok_law (P := l.prog) (w := w) (base := base) B C h_init h_law_hand h_law_draw h_law_parts h_law_standing h_law_shuffled h_law_due h_law_told F_law
end
theorem walk {l : PySem.W.OpenLaw} {q : Program} {loose : List Str} {XP : (Str → Option Value) → Heap → Prop} {YP : World → Heap → Prop} {d : DefRec} {K : Params → PySem.W.Frag} (hn : l.most = some 63) (hdf : d.params.defaults = [])
    (hY : ∀ (w : World) (h : Heap), YP w h → (K w.params).In h)
    (F : ∀ (w : World) (mg : Str → Option Value) (fa : Addr) (h : Heap), (K w.params).In h → h.Ns mainGlobals mg → mg d.name = some (.ref fa) →
      ∃ fd : FuncData, (∀ (s : Shared) (u : Value), BindsTo s fd ⟨[u], []⟩ [("_law_script", u)]) ∧ ∀ base : Heap, (K w.params).In base → base.Ns mainGlobals mg → FnG l.prog w (K w.params) mg base 8 fa fd ["_law_script"] (spLaw (K w.params))) :
    PySem.W.WalkO q loose XP YP l.row.toRowW d [] (fun f vs => PySem.call f vs) :=
  walk_ofG (n := 63) (k := 8) (x := "_law_script") (sp := fun w => spLaw (K w.params)) hn (by decide) hdf ⟨rfl, by decide, by decide⟩ hY F fun _ _ a ns hl hS => ⟨a, ns, rfl, hS, hl, fun _ => rfl⟩
end U
open PySem PySem.W PyProof.Rows
set_option maxRecDepth 100000 in
set_option maxHeartbeats 0 in
theorem PySem.Challenge.cw_untriedways_k21_named_plans_holds : PySem.Challenge.rw_untriedways_k21_named_plans.Holds := by
  w_on; o_law; k_head; (case hw => w_witness2)
  k_fill
  refine U.walk (l := PySem.Challenge.rw_untriedways_k21_named_plans) rfl rfl (fun w h Y => PySem.W.kIn_of Y) ?F
  case F =>
    intro w mg fa h KX G hmg
    refine' U.all_mk KX G hmg ?z_len ?z_all ?z_any ?z_sorted ?z_isinstance ?z_abs ?z_min ?z_max ?z_range ?z_enumerate ?z_int ?z_list ?z_tuple ?z_str ?z_bool ?z_repr ?aC ?pg ?hd ?po ?sa ?mk ?kc ?n1 ?n2 ?n3 ?c_FEWEST_PLACES ?c_MOST_PLACES ?c_MOST_ARROWS ?g_NoName ?e_NoName ?k_NoName ?i_NoName ?b_NoName ?t_NoName ?g_NoStanding ?e_NoStanding ?k_NoStanding ?i_NoStanding ?b_NoStanding ?t_NoStanding ?s_NoName_NoName ?s_NoStanding_NoName ?s_NoStanding_NoStanding ?gG_NAMES ?lG_NAMES ?a0 ?l0 ?c0 ?k0 ?a1 ?l1 ?c1 ?k1 ?a2 ?l2 ?c2 ?k2 ?a3 ?l3 ?c3 ?k3 ?a4 ?l4 ?c4 ?k4 ?a5 ?l5 ?c5 ?k5 ?a6 ?l6 ?c6 ?k6 ?a7 ?l7 ?c7 ?k7 ?a8 ?i8 ?l8 ?c8 ?k8 ?a9 ?i9 ?l9 ?c9 ?k9 ?a10 ?i10 ?l10 ?c10 ?k10 ?a11 ?l11 ?c11 ?k11 ?a12 ?l12 ?c12 ?k12 ?a13 ?l13 ?c13 ?k13 ?a14 ?i14 ?l14 ?c14 ?k14 ?a15 ?l15 ?c15 ?k15 ?a16 ?l16 ?c16 ?k16 ?a17 ?l17 ?c17 ?k17 ?a18 ?l18 ?c18 ?k18 ?a19 ?l19 ?c19 ?k19 ?a21 ?l21 ?c21 ?k21 ?a22 ?l22 ?c22 ?k22 ?a23 ?l23 ?c23 ?k23 ?a24 ?l24 ?c24 ?k24 ?a25 ?l25 ?c25 ?k25 ?a26 ?l26 ?c26 ?k26 ?a27 ?l27 ?c27 ?k27 ?a28 ?l28 ?c28 ?k28 ?a29 ?l29 ?c29 ?k29 ?a30 ?l30 ?c30 ?k30 ?a31 ?l31 ?c31 ?k31 ?a32 ?l32 ?c32 ?k32 ?a33 ?l33 ?c33 ?k33 ?a34 ?l34 ?c34 ?k34 ?a35 ?l35 ?c35 ?k35 ?a36 ?l36 ?c36 ?k36 ?a38 ?l38 ?c38 ?k38 ?a40 ?l40 ?c40 ?k40 ?a41 ?l41 ?c41 ?k41 ?a42 ?l42 ?c42 ?k42 ?a43 ?l43 ?c43 ?k43
    (case z_len => k_is)
    (case z_all => k_is)
    (case z_any => k_is)
    (case z_sorted => k_is)
    (case z_isinstance => k_is)
    (case z_abs => k_is)
    (case z_min => k_is)
    (case z_max => k_is)
    (case z_range => k_is)
    (case z_enumerate => k_is)
    (case z_int => k_is)
    (case z_list => k_is)
    (case z_tuple => k_is)
    (case z_str => k_is)
    (case z_bool => k_is)
    (case z_repr => k_is)
    (case aC => k_is)
    (case pg => k_is)
    (case hd => k_is)
    (case po => k_is)
    (case sa => k_is)
    (case mk => k_is)
    (case kc => k_is)
    (case n1 => k_is)
    (case n2 => k_is)
    (case n3 => k_is)
    (case c_FEWEST_PLACES => k_is)
    (case c_MOST_PLACES => k_is)
    (case c_MOST_ARROWS => k_is)
    (case g_NoName => k_is)
    (case e_NoName => k_exc)
    (case k_NoName => k_is)
    (case i_NoName => k_is)
    (case b_NoName => k_is)
    (case t_NoName => k_is)
    (case g_NoStanding => k_is)
    (case e_NoStanding => k_exc)
    (case k_NoStanding => k_is)
    (case i_NoStanding => k_is)
    (case b_NoStanding => k_is)
    (case t_NoStanding => k_is)
    (case s_NoName_NoName => first | rfl | k_is)
    (case s_NoStanding_NoName => first | rfl | k_is)
    (case s_NoStanding_NoStanding => first | rfl | k_is)
    (case gG_NAMES => k_is)
    (case lG_NAMES => k_is)
    (case a0 => k_is)
    (case l0 => k_is)
    (case c0 => k_is)
    (case k0 => k_is)
    (case a1 => k_is)
    (case l1 => k_is)
    (case c1 => k_is)
    (case k1 => k_is)
    (case a2 => k_is)
    (case l2 => k_is)
    (case c2 => k_is)
    (case k2 => k_is)
    (case a3 => k_is)
    (case l3 => k_is)
    (case c3 => k_is)
    (case k3 => k_is)
    (case a4 => k_is)
    (case l4 => k_is)
    (case c4 => k_is)
    (case k4 => k_is)
    (case a5 => k_is)
    (case l5 => k_is)
    (case c5 => k_is)
    (case k5 => k_is)
    (case a6 => k_is)
    (case l6 => k_is)
    (case c6 => k_is)
    (case k6 => k_is)
    (case a7 => k_is)
    (case l7 => k_is)
    (case c7 => k_is)
    (case k7 => k_is)
    (case a8 => k_is)
    (case i8 => k_is)
    (case l8 => k_is)
    (case c8 => k_is)
    (case k8 => k_is)
    (case a9 => k_is)
    (case i9 => k_is)
    (case l9 => k_is)
    (case c9 => k_is)
    (case k9 => k_is)
    (case a10 => k_is)
    (case i10 => k_is)
    (case l10 => k_is)
    (case c10 => k_is)
    (case k10 => k_is)
    (case a11 => k_is)
    (case l11 => k_is)
    (case c11 => k_is)
    (case k11 => k_is)
    (case a12 => k_is)
    (case l12 => k_is)
    (case c12 => k_is)
    (case k12 => k_is)
    (case a13 => k_is)
    (case l13 => k_is)
    (case c13 => k_is)
    (case k13 => k_is)
    (case a14 => k_is)
    (case i14 => k_is)
    (case l14 => k_is)
    (case c14 => k_is)
    (case k14 => k_is)
    (case a15 => k_is)
    (case l15 => k_is)
    (case c15 => k_is)
    (case k15 => k_is)
    (case a16 => k_is)
    (case l16 => k_is)
    (case c16 => k_is)
    (case k16 => k_is)
    (case a17 => k_is)
    (case l17 => k_is)
    (case c17 => k_is)
    (case k17 => k_is)
    (case a18 => k_is)
    (case l18 => k_is)
    (case c18 => k_is)
    (case k18 => k_is)
    (case a19 => k_is)
    (case l19 => k_is)
    (case c19 => k_is)
    (case k19 => k_is)
    (case a21 => k_is)
    (case l21 => k_is)
    (case c21 => k_is)
    (case k21 => k_is)
    (case a22 => k_is)
    (case l22 => k_is)
    (case c22 => k_is)
    (case k22 => k_is)
    (case a23 => k_is)
    (case l23 => k_is)
    (case c23 => k_is)
    (case k23 => k_is)
    (case a24 => k_is)
    (case l24 => k_is)
    (case c24 => k_is)
    (case k24 => k_is)
    (case a25 => k_is)
    (case l25 => k_is)
    (case c25 => k_is)
    (case k25 => k_is)
    (case a26 => k_is)
    (case l26 => k_is)
    (case c26 => k_is)
    (case k26 => k_is)
    (case a27 => k_is)
    (case l27 => k_is)
    (case c27 => k_is)
    (case k27 => k_is)
    (case a28 => k_is)
    (case l28 => k_is)
    (case c28 => k_is)
    (case k28 => k_is)
    (case a29 => k_is)
    (case l29 => k_is)
    (case c29 => k_is)
    (case k29 => k_is)
    (case a30 => k_is)
    (case l30 => k_is)
    (case c30 => k_is)
    (case k30 => k_is)
    (case a31 => k_is)
    (case l31 => k_is)
    (case c31 => k_is)
    (case k31 => k_is)
    (case a32 => k_is)
    (case l32 => k_is)
    (case c32 => k_is)
    (case k32 => k_is)
    (case a33 => k_is)
    (case l33 => k_is)
    (case c33 => k_is)
    (case k33 => k_is)
    (case a34 => k_is)
    (case l34 => k_is)
    (case c34 => k_is)
    (case k34 => k_is)
    (case a35 => k_is)
    (case l35 => k_is)
    (case c35 => k_is)
    (case k35 => k_is)
    (case a36 => k_is)
    (case l36 => k_is)
    (case c36 => k_is)
    (case k36 => k_is)
    (case a38 => k_is)
    (case l38 => k_is)
    (case c38 => k_is)
    (case k38 => k_is)
    (case a40 => k_is)
    (case l40 => k_is)
    (case c40 => k_is)
    (case k40 => k_is)
    (case a41 => k_is)
    (case l41 => k_is)
    (case c41 => k_is)
    (case k41 => k_is)
    (case a42 => k_is)
    (case l42 => k_is)
    (case c42 => k_is)
    (case k42 => k_is)
    (case a43 => k_is)
    (case l43 => k_is)
    (case c43 => k_is)
    (case k43 => k_is)
