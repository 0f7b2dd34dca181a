import PyProof.Rows.All
import Wide.All
import OpenK.AllK
import Wide.FinOn
import HandS.ForMost
import HandS.IsInst
import HandS.Conv
import HandS.Wide
import HandS.SortInts
import HandS.TupAny
import HandS.Evl
import KE.GoesEnum
import HandS.Walk
import HandS.Codes
import HandS.Style
import HandS.Star
import HandS.Small
import HandS.TryMany
import HandS.TryOnly
import HandS.WordsExc
import HandS.SetKeys
import HandS.More
import HandS.Zip
import KE.KDictZip
import HandS.SetFor
import HandS.Deep
import KE.DataFind
import HandS.WideBits
import HandS.DictComp
import PySem.Challenge.RW_untriedways_k03_standings_told_apart
set_option Elab.async false
set_option maxRecDepth 100000
set_option maxHeartbeats 4000000
set_option linter.all false
/-! what all texts of mine share: calls by name, builtins, regions of the heap, kinds of values -/
namespace U
open PySem PySem.Spec PyProof.Rows L2

/-! ### a def of the text that keeps a promise, by its name -/
/-- the def fd stands at f -/
def Lk (K : PySem.W.Frag) (f : Addr) (fd : FuncData) : Prop := ∃ (oc : Value) (od : Option Addr) (sl : Array (Option Value)), K.lookup f = some ⟨oc, od, .func fd, sl⟩
structure Has (P : Program) (w : World) (K : PySem.W.Frag) (mg : Str → Option Value) (base : Heap) (x : Str) (k : Nat) (ps : List Str) (sp : Sp) : Prop where
  ex : ∃ f fd, mg x = some (.ref f) ∧ PySem.W.keepIn K (.ref f) = true ∧ Binds K fd ps [] ∧ FnOk P w K mg base CX0 k f fd ps sp ∧ Lk K f fd
/-- a def as the top leaves it -/
structure Df (K : PySem.W.Frag) (mg : Str → Option Value) (x : Str) (st : Stmt) (ps : List Str) : Prop where
  ex : ∃ f fd, mg x = some (.ref f) ∧ Fun K x x st f fd ∧ Binds K fd ps []
section
variable {X : Cx} {k j : Nat} {ps : List Str} {sp : Sp} {x : Str} {p pos : Pos} {e : Expr} {es : List Expr} {t : TA}
theorem pcall (h : Has X.prog X.w X.K X.mg X.base x k ps sp) (hr : Room j X.A) (hk : k ≤ j) (hg : Gl X x) (ha : PA X (e :: es) t) (hdb : (x == ("__debug__" : Str)) = false := by decide)
    (he : starEach (e :: es) X.env = (false, eval e X.env) :: starEach es X.env := by rfl) (hpl : (backTo pos (starEach es X.env)).any (·.1) = false := by rfl) :
    PE X (.Call (.Name x p) (e :: es) [] pos) (tCall sp [] E0 t) := by
  obtain ⟨f, fd, hm, kp, b, F, _⟩ := h.ex
  exact pe_call F (hr.mono hk) hg hm kp b .nil pass0 ha hdb he hpl
end
theorem Fun.lk {K : PySem.W.Frag} {x qual : Str} {st : Stmt} {f : Addr} {fd : FuncData} (F : Fun K x qual st f fd) : Lk K f fd := by
  obtain ⟨oc, od, kV, doc, pm, an, cdv, ct, osl, rfl, lk, hcd⟩ := F.ex
  exact ⟨_, _, _, lk⟩
theorem Df.has {P : Program} {w : World} {K : PySem.W.Frag} {mg : Str → Option Value} {base : Heap} {x : Str} {st : Stmt} {ps : List Str} {k : Nat} {sp : Sp} (d : Df K mg x st ps)
    (h : ∀ f fd, Fun K x x st f fd → FnOk P w K mg base CX0 k f fd ps sp) : Has P w K mg base x k ps sp := by
  obtain ⟨f, fd, hm, F, b⟩ := d.ex
  exact ⟨f, fd, hm, F.kp, b, h f fd F, Fun.lk F⟩

/-! ### a method, an __init__ that keeps a promise -/
structure HasM (P : Program) (w : World) (K : PySem.W.Frag) (mg : Str → Option Value) (base : Heap) (C : Addr) (m : Str) (k : Nat) (ps : List Str) (sp : Sp) : Prop where
  ex : ∃ f, ∃ fd, Meth K C m f ∧ Binds K fd ps [] ∧ FnOk P w K mg base CX0 k f fd ps sp ∧ Lk K f fd
section
variable {P : Program} {w : World} {K : PySem.W.Frag} {mg : Str → Option Value} {base : Heap} {C : Addr} {m : Str} {k : Nat} {ps : List Str} {sp : Sp}
theorem HasM.mt (h : HasM P w K mg base C m k ps sp) : Meth K C m h.ex.choose := h.ex.choose_spec.choose_spec.1
theorem HasM.b (h : HasM P w K mg base C m k ps sp) : Binds K h.ex.choose_spec.choose ps [] := h.ex.choose_spec.choose_spec.2.1
theorem HasM.F (h : HasM P w K mg base C m k ps sp) : FnOk P w K mg base CX0 k h.ex.choose h.ex.choose_spec.choose ps sp := h.ex.choose_spec.choose_spec.2.2.1
end
structure HasI (P : Program) (w : World) (K : PySem.W.Frag) (mg : Str → Option Value) (base : Heap) (C : Addr) (k : Nat) (ps : List Str) (sp : Sp) : Prop where
  ex : ∃ f, ∃ fd, Mk K C f ∧ Binds K fd ps [] ∧ FnOk P w K mg base CX0 k f fd ps sp ∧ Lk K f fd
section
variable {P : Program} {w : World} {K : PySem.W.Frag} {mg : Str → Option Value} {base : Heap} {C : Addr} {k : Nat} {ps : List Str} {sp : Sp}
theorem HasI.m (h : HasI P w K mg base C k ps sp) : Mk K C h.ex.choose := h.ex.choose_spec.choose_spec.1
theorem HasI.b (h : HasI P w K mg base C k ps sp) : Binds K h.ex.choose_spec.choose ps [] := h.ex.choose_spec.choose_spec.2.1
theorem HasI.F (h : HasI P w K mg base C k ps sp) : FnOk P w K mg base CX0 k h.ex.choose h.ex.choose_spec.choose ps sp := h.ex.choose_spec.choose_spec.2.2.1
end
/-- methods as the top leaves them -/
structure DfM (K : PySem.W.Frag) (C : Addr) (m : Str) (qual : Str) (st : Stmt) (ps : List Str) : Prop where
  ex : ∃ f fd, Meth K C m f ∧ Fun K m qual st f fd ∧ Binds K fd ps []
structure DfI (K : PySem.W.Frag) (C : Addr) (qual : Str) (st : Stmt) (ps : List Str) : Prop where
  ex : ∃ f fd, Mk K C f ∧ Fun K "__init__" qual st f fd ∧ Binds K fd ps []
theorem DfM.has {P : Program} {w : World} {K : PySem.W.Frag} {mg : Str → Option Value} {base : Heap} {C : Addr} {m qual : Str} {st : Stmt} {ps : List Str} {k : Nat} {sp : Sp} (d : DfM K C m qual st ps)
    (h : ∀ f fd, Fun K m qual st f fd → FnOk P w K mg base CX0 k f fd ps sp) : HasM P w K mg base C m k ps sp := by
  obtain ⟨f, fd, hm, F, b⟩ := d.ex
  exact ⟨f, fd, hm, b, h f fd F, Fun.lk F⟩
theorem DfI.has {P : Program} {w : World} {K : PySem.W.Frag} {mg : Str → Option Value} {base : Heap} {C : Addr} {qual : Str} {st : Stmt} {ps : List Str} {k : Nat} {sp : Sp} (d : DfI K C qual st ps)
    (h : ∀ f fd, Fun K "__init__" qual st f fd → FnOk P w K mg base CX0 k f fd ps sp) : HasI P w K mg base C k ps sp := by
  obtain ⟨f, fd, hm, F, b⟩ := d.ex
  exact ⟨f, fd, hm, b, h f fd F, Fun.lk F⟩
/-! ### the rules whose readings speak of the written part, K named -/
section
variable {X : Cx} {K : PySem.W.Frag}
def rLen (K : PySem.W.Frag) : List V → Hp → VK → Prop := fun xs H Q => ∃ p ys, xs = [.ref p] ∧ (SqL K H p ys ∨ SqT K H p ys) ∧ Q (.int ys.length) H
def rListOf (K : PySem.W.Frag) : List V → Hp → VK → Prop := fun xs H Q => ∃ p ys, xs = [.ref p] ∧ (SqL K H p ys ∨ SqT K H p ys) ∧ ∀ l, H l = none → Q (.ref l) (upd H l (.lst ys))
def rTupleOf (K : PySem.W.Frag) : List V → Hp → VK → Prop := fun xs H Q => ∃ p ys, xs = [.ref p] ∧ ((SqL K H p ys ∧ ∀ l, H l = none → Q (.ref l) (upd H l (.tup ys))) ∨ (SqT K H p ys ∧ Q (.ref p) H))
theorem k_ixl (h : X.K = K) : IxR X (rIxL K) := by subst h; exact ix_list
theorem k_ixt (h : X.K = K) : IxR X (rIxT K) := by subst h; exact ix_tup
theorem k_ixx (h : X.K = K) : IxR X (rIx K) := by subst h; exact ix_seq
theorem k_in (h : X.K = K) : OpR X (compareOp .In) (rIn K false) := by subst h; exact op_in_seq
theorem k_notin (h : X.K = K) : OpR X (compareOp .NotIn) (rIn K true) := by subst h; exact op_notIn_seq
theorem k_cat (h : X.K = K) : OpR X (binaryOp .Add) (rCatA K) := by subst h; exact op_catA
theorem k_eqD (h : X.K = K) (hu : X.A.units + 64 < cLine) : OpR X (compareOp .Eq) (rEqD K) := by subst h; exact op_eqD hu
theorem k_neD (h : X.K = K) (hu : X.A.units + 64 < cLine) : OpR X (compareOp .NotEq) (rNeD K) := by subst h; exact op_neD hu
theorem k_len (h : X.K = K) : CallR X (.builtin "len") (rLen K) := by subst h; exact call_len_seq
theorem k_list (h : X.K = K) : CallR X (.type "list") (rListOf K) := by subst h; exact call_list_of
theorem k_tuple (h : X.K = K) : CallR X (.type "tuple") (rTupleOf K) := by subst h; exact call_tuple_of
theorem k_all (h : X.K = K) (hc : X.calm = true) : CallR X (.builtin "all") (rAll K) := by subst h; exact cr_all hc
theorem k_any (h : X.K = K) (hc : X.calm = true) : CallR X (.builtin "any") (rAny K) := by subst h; exact cr_any hc
theorem k_sorted (h : X.K = K) : CallR X (.builtin "sorted") (rSortedI K) := by subst h; exact cr_sortedI
theorem k_isi (h : X.K = K) : CallR X (.builtin "isinstance") (rIsi K) := by subst h; exact call_isi
theorem k_sll (h : X.K = K) : SlR X (rSlL K) := by subst h; exact sl_list
theorem k_slt (h : X.K = K) : SlR X (rSlA K) := by subst h; exact sl_tupA
theorem k_fld {e : Expr} {ta : TE} {f : Str} {pos : Pos} (h : X.K = K) (he : PE X e ta) (hb : attributeBase e f X.env (eval e X.env) = eval e X.env) : PE X (.Attribute e f pos) (tFld K ta f) := by subst h; exact pe_fld he hb
theorem k_pil {tg l : Expr} {tl : TE} (h : X.K = K) (hl : PE X l tl) : PI X tg l (iList K tl) := by subst h; exact pi_list hl
theorem k_pit {tg l : Expr} {tl : TE} (h : X.K = K) (hl : PE X l tl) : PI X tg l (iTup K tl) := by subst h; exact pi_tup hl
theorem k_tru {a : Expr} {ta : TE} (h : X.K = K) (ha : PE X a ta) (he : ∀ whole, isTrue a X.env whole = (do let v ← whole; standAt a.pos; holding [v] (truthy v))) :
    PT X a (fun σ H Q => ta σ H fun x H1 => ∃ k, TruV K x H1 k ∧ Q k H1) := by subst h; exact pt_truth ha he
end
/-! ### builtins -/
structure Bt (mg : Str → Option Value) : Prop where
  len : mg "len" = none
  all : mg "all" = none
  any : mg "any" = none
  sorted : mg "sorted" = none
  isinstance : mg "isinstance" = none
  abs : mg "abs" = none
  min : mg "min" = none
  max : mg "max" = none
  range : mg "range" = none
  enumerate : mg "enumerate" = none
  int : mg "int" = none
  list : mg "list" = none
  tuple : mg "tuple" = none
  str : mg "str" = none
  bool : mg "bool" = none
  repr : mg "repr" = none
  zip : mg "zip" = none
  set : mg "set" = none
  sum : mg "sum" = none
theorem bo_len : bootBuiltins "len" = some (.builtin "len") := by decide +kernel
theorem bo_all : bootBuiltins "all" = some (.builtin "all") := by decide +kernel
theorem bo_any : bootBuiltins "any" = some (.builtin "any") := by decide +kernel
theorem bo_sorted : bootBuiltins "sorted" = some (.builtin "sorted") := by decide +kernel
theorem bo_isinstance : bootBuiltins "isinstance" = some (.builtin "isinstance") := by decide +kernel
theorem bo_abs : bootBuiltins "abs" = some (.builtin "abs") := by decide +kernel
theorem bo_min : bootBuiltins "min" = some (.builtin "min") := by decide +kernel
theorem bo_max : bootBuiltins "max" = some (.builtin "max") := by decide +kernel
theorem bo_sum : bootBuiltins "sum" = some (.builtin "sum") := by decide +kernel
theorem bo_int : bootBuiltins "int" = some (.type "int") := by decide +kernel
theorem bo_list : bootBuiltins "list" = some (.type "list") := by decide +kernel
theorem bo_tuple : bootBuiltins "tuple" = some (.type "tuple") := by decide +kernel
theorem bo_str : bootBuiltins "str" = some (.type "str") := by decide +kernel
theorem bo_bool : bootBuiltins "bool" = some (.type "bool") := by decide +kernel

/-! ### kinds of values -/
/-- the type of the value is one of those built-in types -/
structure Kn (K : PySem.W.Frag) (H : Hp) (v : V) (s : String) : Prop where
  ty : TyX K H v (.type s)
  mem : s ∈ ["NoneType", "bool", "int", "str", "list", "tuple", "dict"]
/-- whether a value is an int (no bool) -/
def isI : V → Bool
  | .int _ => true
  | _ => false
def idxV (v : V) (m : Int) : Bool := match v with
  | .int i => decide (0 ≤ i) && decide (i < m)
  | _ => false
def lotFrom (m : Int) : Int → List V → Bool
  | _, [] => true
  | l, .int i :: r => decide (0 ≤ i) && decide (i < m) && decide (l < i) && lotFrom m i r
  | _, _ :: _ => false
theorem kn_int {K : PySem.W.Frag} {H : Hp} {v : V} {s : String} (h : Kn K H v s) : isI v = (s == "int") := by
  obtain ⟨t, m⟩ := h
  cases t with
  | base b => cases b <;> rfl
  | byt b => simp at m
  | set e => simp at m
  | _ => rfl
theorem kit_int {K : PySem.W.Frag} {s : String} (m : s ∈ ["NoneType", "bool", "int", "str", "list", "tuple", "dict"]) : PySem.W.kitOne K (.type s) (.type "int") = some (s == "int" || s == "bool") := by
  simp only [List.mem_cons, List.not_mem_nil, or_false] at m
  rcases m with rfl | rfl | rfl | rfl | rfl | rfl | rfl <;> exact kit_ty (by decide +kernel)
theorem kit_bool {K : PySem.W.Frag} {s : String} (m : s ∈ ["NoneType", "bool", "int", "str", "list", "tuple", "dict"]) : PySem.W.kitOne K (.type s) (.type "bool") = some (s == "bool") := by
  simp only [List.mem_cons, List.not_mem_nil, or_false] at m
  rcases m with rfl | rfl | rfl | rfl | rfl | rfl | rfl <;> exact kit_ty (by decide +kernel)
theorem kit_tuple {K : PySem.W.Frag} {s : String} (m : s ∈ ["NoneType", "bool", "int", "str", "list", "tuple", "dict"]) : PySem.W.kitOne K (.type s) (.type "tuple") = some (s == "tuple") := by
  simp only [List.mem_cons, List.not_mem_nil, or_false] at m
  rcases m with rfl | rfl | rfl | rfl | rfl | rfl | rfl <;> exact kit_ty (by decide +kernel)
theorem kn_of_int {K : PySem.W.Frag} {H : Hp} {i : Int} : Kn K H (.int i) "int" := ⟨.base (.int i), by simp⟩
theorem kn_of_tup {K : PySem.W.Frag} {H : Hp} {a : Addr} {xs : List V} (h : SqT K H a xs) : Kn K H (.ref a) "tuple" := by
  rcases h with (h | ⟨o, h⟩) | ⟨o, its, n, h1, h2, _⟩
  · exact ⟨.base (.tup h), by simp⟩
  · exact ⟨.fTuple h, by simp⟩
  · exact ⟨.kTuple h1 h2, by simp⟩

def nV (n : Nat) : V := .int (n : Int)
theorem lot_nat {m : Int} : ∀ {xs : List V} {l : Int}, -1 ≤ l → lotFrom m l xs = true → ∃ gs : List Nat, xs = gs.map nV ∧ (∀ g ∈ gs, (g : Int) < m ∧ l < (g : Int)) ∧ gs.Pairwise (· < ·)
  | [], _, _, _ => ⟨[], rfl, fun _ h => (List.not_mem_nil h).elim, List.Pairwise.nil⟩
  | .int i :: r, l, hl, h => by
    have h' : (decide (0 ≤ i) && decide (i < m) && decide (l < i) && lotFrom m i r) = true := h
    simp only [Bool.and_eq_true, decide_eq_true_eq] at h'
    obtain ⟨⟨⟨h0, h1⟩, h2⟩, h3⟩ := h'
    obtain ⟨gs, e, hg, hp⟩ := lot_nat (l := i) (by omega) h3
    refine ⟨i.toNat :: gs, ?_, fun g hm => ?_, List.Pairwise.cons (fun g hm => ?_) hp⟩
    · rw [List.map_cons, ← e]
      congr 2
      omega
    · rcases List.mem_cons.mp hm with rfl | hm
      · exact ⟨by omega, by omega⟩
      · obtain ⟨a, b⟩ := hg g hm
        exact ⟨a, by omega⟩
    · have := (hg g hm).2
      omega
  | .non :: _, _, _, h => by cases h
  | .bl _ :: _, _, _, h => by cases h
  | .str _ :: _, _, _, h => by cases h
  | .byt _ :: _, _, _, h => by cases h
  | .flt _ :: _, _, _, h => by cases h
  | .ref _ :: _, _, _, h => by cases h
  | .ty _ :: _, _, _, h => by cases h
theorem lot_of {m : Int} : ∀ {gs : List Nat} {l : Int}, (∀ g ∈ gs, (g : Int) < m ∧ l < (g : Int)) → gs.Pairwise (· < ·) → lotFrom m l (gs.map nV) = true
  | [], _, _, _ => rfl
  | g :: r, l, h, hp => by
    obtain ⟨h1, h2⟩ := h g List.mem_cons_self
    have h3 : lotFrom m (g : Int) (r.map nV) = true := lot_of (fun x hx => ⟨(h x (List.mem_cons_of_mem _ hx)).1, by have := List.rel_of_pairwise_cons hp hx; omega⟩) hp.of_cons
    show (decide (0 ≤ (g : Int)) && decide ((g : Int) < m) && decide (l < (g : Int)) && lotFrom m (g : Int) (r.map nV)) = true
    rw [h3]
    simp only [Bool.and_eq_true, decide_eq_true_eq]
    exact ⟨⟨⟨by omega, h1⟩, h2⟩, trivial⟩
/-! ### regions -/
/-- M: what may be changed; F: what was written once for ever -/
structure Grow (M : Addr → Prop) (F H F' H' : Hp) : Prop where
  same : ∀ a o, ¬ M a → H a = some o → H' a = some o
  live : ∀ a, H a ≠ none → H' a ≠ none
  sub : Same F F'
  sub' : Same F' H'
  fresh : ∀ a, F' a ≠ none → F a = none → H a = none
theorem Grow.refl {M : Addr → Prop} {F H : Hp} (h : Same F H) : Grow M F H F H := ⟨fun _ _ _ h => h, fun _ h => h, Same.refl F, h, fun _ a b => absurd b a⟩
theorem Grow.trans {M M' : Addr → Prop} {F H F1 H1 F2 H2 : Hp} (g : Grow M F H F1 H1) (g' : Grow M' F1 H1 F2 H2) (hm : ∀ a, M' a → M a ∨ H a = none) : Grow M F H F2 H2 where
  same := fun a o m h => g'.same a o (fun z => (hm a z).elim m fun e => by rw [e] at h; cases h) (g.same a o m h)
  live := fun a h => g'.live a (g.live a h)
  sub := g.sub.trans g'.sub
  sub' := g'.sub'
  fresh := fun a h2 h0 => by
    by_cases h1 : F1 a = none
    · have e := g'.fresh a h2 h1
      exact Classical.byContradiction fun z => g.live a z e
    · exact g.fresh a h1 h0
theorem same_new {H H1 : Hp} {p : Addr} {o : HO} (e : Same H H1) (h : H1 p = none) : Same H (upd H1 p o) := fun b u q => by
  have q1 := e b u q
  rw [upd_ne (ne_of_none q1 h)]
  exact q1
theorem same_mut {H H1 : Hp} {p : Addr} {o : HO} (e : Same H H1) (h : H p = none) : Same H (upd H1 p o) := fun b u q => by
  rw [upd_ne (ne_of_none q h)]
  exact e b u q
theorem Same.sqt {K : PySem.W.Frag} {H H' : Hp} {a : Addr} {xs : List V} (e : Same H H') (h : SqT K H a xs) : SqT K H' a xs := by
  rcases h with (h | ⟨o, h⟩) | h
  · exact .inl (.inl (e _ _ h))
  · exact .inl (.inr ⟨o, e _ _ h⟩)
  · exact .inr h
theorem sql {K : PySem.W.Frag} {H : Hp} {a : Addr} {xs : List V} (h : H a = some (.lst xs)) : SqL K H a xs := .inl (.inl h)
theorem sqt {K : PySem.W.Frag} {H : Hp} {a : Addr} {xs : List V} (h : H a = some (.tup xs)) : SqT K H a xs := .inl (.inl h)

theorem tyes {σ : L2.St} {H : Hp} {Q : Bool → Hp → Prop} (h : Q true H) : tYes σ H Q := h
/-! ### lists and places -/
theorem drop_cons_of {α : Type} {xs : List α} {i : Nat} {x : α} (hx : xs[i]? = some x) : xs.drop i = x :: xs.drop (i + 1) := by
  have hi := (List.getElem?_eq_some_iff.mp hx).1
  rw [List.drop_eq_getElem_cons hi, (List.getElem?_eq_some_iff.mp hx).2]
theorem take_snoc_of {α : Type} {xs : List α} {i : Nat} {x : α} (hx : xs[i]? = some x) : xs.take (i + 1) = xs.take i ++ [x] := by
  rw [List.take_add_one, hx]
  rfl
theorem ixN_nat {n j : Nat} (h : j < n) : ixN n (j : Int) = some j := by
  unfold ixN
  rw [if_pos (by omega), if_pos (by omega)]
  rfl
theorem small_sz {n : Nat} (h : n ≤ 100000) : n ≤ sizeLine := Nat.le_trans h (by decide)
theorem small_lt {n : Nat} (h : n ≤ 100000) : n < sizeLine := Nat.lt_of_le_of_lt h (by decide)
theorem getmap {α β : Type} {f : α → β} {xs : List α} {i : Nat} {y : β} (h : (xs.map f)[i]? = some y) : ∃ x, xs[i]? = some x ∧ f x = y := by
  rw [List.getElem?_map] at h
  cases e : xs[i]? with
  | none => rw [e] at h; cases h
  | some x => rw [e] at h; exact ⟨x, rfl, Option.some.inj h⟩
theorem set_map_range {β : Type} {n z : Nat} {f : Nat → β} {b : β} : ((List.range n).map f).set z b = (List.range n).map (fun i => if i = z then b else f i) := by
  apply List.ext_getElem?
  intro i
  rw [List.getElem?_set, List.getElem?_map, List.getElem?_map, List.length_map, List.length_range]
  by_cases h : z = i
  · subst h
    by_cases hz : z < n
    · rw [if_pos rfl, if_pos hz, List.getElem?_range hz]
      simp
    · rw [if_pos rfl, if_neg hz, List.getElem?_eq_none (by simpa using hz)]
      rfl
  · rw [if_neg h]
    by_cases hi : i < n
    · rw [List.getElem?_range hi]
      simp [Ne.symm h]
    · rw [List.getElem?_eq_none (by simpa using hi)]
      rfl
theorem get_map_range {β : Type} {n j : Nat} {f : Nat → β} (h : j < n) : ((List.range n).map f)[j]? = some (f j) := by
  rw [List.getElem?_map, List.getElem?_range h]
  rfl
theorem Grow.same0 {F H F' H' : Hp} (g : Grow (fun _ => False) F H F' H') : Same H H' := fun a o h => g.same a o (fun z => z) h
end U

/-! enumerate over a tuple -/
namespace U
open PySem PySem.Spec PyProof.Rows L2

abbrev enumO (a : Addr) : Obj := { cls := .type "enumerate", data := .fields #[.none, .bool false, .ref a, rawInt 0, .none, .none] }
theorem new_enum_tuple (l : Addr) (items : Array Value) (n : Nat) (dct : Option Addr) (sl : Array (Option Value)) :
    Meets (Builtin.«enumerate.__new__» ⟨[.type "enumerate", .ref l], []⟩) (fun _ R s =>
      s.heap.get? l = some { cls := .type "tuple", dict := dct, data := .seq items n, slots := sl } ∧
      R (.ok (.ret (.ref (s.heap.push { cls := .type "tuple_iterator", data := .fields #[.ref l, .int 0 0] }).objs.size)))
        { s with heap := ((s.heap.push { cls := .type "tuple_iterator", data := .fields #[.ref l, .int 0 0] }).push (enumO s.heap.objs.size)) }) :=
  .of_wp fun prog w A R s h => by
    obtain ⟨hp, g, d, tk, os⟩ := s
    obtain ⟨hl, h⟩ := h
    have hsub := sub_enumerate
    have hT : Heap.IsTuple (Shared.heap ⟨hp, g, d, tk, os⟩) l items := ⟨_, hl, rfl, n, rfl⟩
    wp_walk using AutoSeq1.wpAny_loadPart' hl
    refine wpAny_stack_any fun st => wpAny_pure ?_
    split
    · rename_i c _ _ _ _ _
      cases (c == Value.type "enumerate") <;>
      · wp_walk using AutoSeq1.wpAny_loadPart' hl, wpAny_pyIter_tuple hT
        exact ⟨_, rfl, h⟩
    · wp_walk using AutoSeq1.wpAny_loadPart' hl, wpAny_pyIter_tuple hT
      exact ⟨_, rfl, h⟩

theorem call_enum_tuple {prog : Program} {w : World} {A : Around} {E : Value → Shared → Prop} {s : Shared} {l : Addr} {items : Array Value} {Q : Value → Shared → Prop} (hT : s.heap.IsTuple l items)
    (h : ∀ h', IsEnum h' (s.heap.objs.size + 1) s.heap.objs.size 0 .none → h'.IsTupleIter s.heap.objs.size l 0 →
      (∀ b o, s.heap.get? b = some o → h'.get? b = some o) → Q (.ref (s.heap.objs.size + 1)) { s with heap := h' }) :
    wpAny (model prog w) A (call (.type "enumerate") [.ref l]) Q E s := by
  obtain ⟨⟨c, dct, dt, sl⟩, hl, rfl, n, rfl⟩ := hT
  refine callType_new F.called_enumerate (by decide) (F.typeCall_enumerate_1 _) (F.newCall_enumerate_1 _)
    (fun obj => F.args_object_init_2 obj _) F.entry_enumerate_new (new_enum_tuple l items n dct sl) ⟨hl, ?_⟩
  have hz : (s.heap.push { cls := .type "tuple_iterator", data := .fields #[.ref l, .int 0 0] }).objs.size = s.heap.objs.size + 1 := Heap.size_push ..
  show _ ∧ _
  rw [hz]
  have he := Heap.get?_push_size (s.heap.push { cls := .type "tuple_iterator", data := .fields #[.ref l, .int 0 0] })
    (o := enumO s.heap.objs.size) rfl
  rw [hz] at he
  exact ⟨⟨_, he, rfl⟩, h _ he ⟨_, Heap.get?_push_of_some _ (Heap.get?_push_size _ rfl), rfl, rfl⟩
    fun b o x => Heap.get?_push_of_some _ (Heap.get?_push_of_some _ x)⟩

/-- the tuple at a, each item in a new pair with its place -/
def ItT (K : PySem.W.Frag) (a : Addr) : It :=
  ⟨fun i H => ∃ (xs : List V) (x : V), SqT K H a xs ∧ xs[i]? = some x,
   fun i H v H' => ∃ T x, v = .ref T ∧ H T = none ∧ H' = upd H T (.tup [.int (i : Nat), x]) ∧ ∀ xs, SqT K H a xs → xs[i]? = some x,
   fun i H => ∃ xs : List V, SqT K H a xs ∧ xs.length = i⟩
theorem apart_tuple {h : Heap} {a b : Addr} {items : Array Value} {o : Obj} {c : String} (ht : h.IsTuple a items) (hb : h.get? b = some o) (hc : o.cls = .type c) (hd : (c == "tuple") = false) : b ≠ a := by
  rintro rfl
  obtain ⟨o', h1, h2, _⟩ := ht
  rw [h1] at hb
  cases hb
  rw [h2] at hc
  cases hc
  exact absurd hd (by decide)
theorem turnT {P : Program} {w : World} {K : PySem.W.Frag} {elts : List Expr} {kk : Nat} {tpos : Pos} (a e it : Addr) :
    Turn P w K (.Tuple elts kk tpos) (ItT K a) [e, it] e (fun i h => (∃ old, IsEnum h e it ((i : Nat) : Int) old) ∧ h.IsTupleIter it a i ∧ e ≠ it) where
  mem := List.mem_cons_self
  obj := fun i h st b hb => by
    obtain ⟨⟨old, he⟩, ⟨o, ho, hc, hd⟩, _⟩ := st
    rcases List.mem_cons.mp hb with z | z
    · subst z
      exact ⟨_, he, fun v q => nomatch q⟩
    · have z := List.mem_singleton.mp z
      subst z
      exact ⟨o, ho, fun v q => by rw [hd] at q; cases q⟩
  keep := fun i h h' ⟨⟨old, he⟩, hi, hne⟩ k => ⟨⟨old, k e List.mem_cons_self _ he⟩, hi.at fun o q => k it (List.mem_cons_of_mem _ List.mem_cons_self) o q, hne⟩
  item := by
    intro X hP hw hK hc i pins s σ H E I hf st hg
    subst hP; subst hw; subst hK
    obtain ⟨⟨old, he⟩, hit, hne⟩ := st
    obtain ⟨xs, x, hq, hx⟩ := hg
    obtain ⟨its, rv, p0, hz⟩ := I.tuple hq
    have p : s.heap.IsTuple a its.toArray := p0
    obtain ⟨u, hu, ru⟩ := rv.get hx
    have hui : its.toArray[i]? = some u := by rw [List.getElem?_toArray]; exact hu
    have hilt : i < its.toArray.size := (Array.getElem?_eq_some_iff.mp hui).1
    have hea : e ≠ a := apart_tuple p he rfl (by decide)
    have hia : it ≠ a := by
      obtain ⟨o, h1, h2, _⟩ := id hit
      exact apart_tuple p h1 h2 (by decide)
    have hel : e < s.heap.objs.size := Heap.lt_size he
    have hil : it < s.heap.objs.size := by obtain ⟨_, q, _⟩ := id hit; exact Heap.lt_size q
    refine wpAny_pyNext_enum_itemD (Draws.tuple (A := X.A.in1) (show X.A.in1.handled = none from I.ok.hd hc) it a hia.symm its.toArray) he ⟨hit, p⟩ hilt hne (by simp [hne, hea])
      fun x' h' tk hx' ho hit' hT hsz hk => ?_
    rw [hui] at hx'
    cases hx'
    refine ⟨_, rfl, wpAny_letOwnedTupleGo_enum (s := { s with heap := h', toks := tk + 1 }) ho fun h'' he' sb => ?_⟩
    have hT2 : h''.get? s.heap.objs.size = some { cls := .type "tuple", data := .seq #[.int i tk, u] } :=
      Eq.trans (sb.2 _ (Nat.ne_of_gt hel)) hT
    have new : ObjOk X.prog X.w (upd H s.heap.objs.size (.tup [.int (i : Nat), x])) h'' s.heap.objs.size (.tup [.int (i : Nat), x]) :=
      ⟨by show 2 ≤ sizeLine; decide, [.int i tk, u], .cons ⟨_, rfl⟩ (.cons ru .nil), ⟨_, hT2, rfl, _, rfl⟩⟩
    have keeps : ∀ b ob, b ∉ [e, it] → s.heap.get? b = some ob → h''.get? b = some ob := fun b ob hb q => by
      have b1 : b ≠ e := fun z => hb (by simp [z])
      have b2 : b ≠ it := fun z => hb (by simp [z])
      exact Eq.trans (sb.2 b b1) (hk b ob b1 b2 q)
    have I1 : Inv X pins σ (upd H s.heap.objs.size (.tup [.int (i : Nat), x])) { s with heap := h'', toks := tk + 1 } :=
      I.turnedNew (ch := [e, it]) keeps hf (Nat.le_refl _) new
    have fr := I.hok.fresh (Nat.le_refl s.heap.objs.size)
    refine ⟨.ref s.heap.objs.size, _, I1, rfl, ⟨_, x, rfl, fr, rfl, fun ys hy => by rw [I.tuple_inj hy hq]; exact hx⟩,
      ⟨⟨u, ?_⟩, hit'.1.at fun o q => Eq.trans (sb.2 it hne.symm) q, hne⟩, fun b hb => ?_⟩
    · rw [show ((i + 1 : Nat) : Int) = (i : Int) + 1 by omega]
      exact he'
    · have hb' : b < s.heap.objs.size := by
        rcases List.mem_cons.mp hb with z | z
        · rw [z]; exact hel
        · rw [List.mem_singleton.mp z]; exact hil
      rw [upd_ne (Nat.ne_of_lt hb')]
      exact (hf b hb).1
  done := by
    intro X hP hw hK hc i pins s σ H E I hf st hg
    subst hP; subst hw; subst hK
    obtain ⟨⟨old, he⟩, hit, hne⟩ := st
    obtain ⟨xs, hq, hx⟩ := hg
    obtain ⟨its, rv, p0, hz⟩ := I.tuple hq
    have p : s.heap.IsTuple a its.toArray := p0
    have hia : it ≠ a := by
      obtain ⟨o, h1, h2, _⟩ := id hit
      exact apart_tuple p h1 h2 (by decide)
    obtain ⟨f0, f1, f2, f3, f4, f5⟩ := hf it (List.mem_cons_of_mem _ List.mem_cons_self)
    have hl : its.toArray.size = i := by rw [List.size_toArray, ← rv.length]; exact hx
    · subst hl
      exact wpAny_pyNext_enum_endD (Draws.tuple (A := X.A.in1) (show X.A.in1.handled = none from I.ok.hd hc) it a hia.symm its.toArray) he ⟨hit, p⟩
        fun h' eb => ⟨rfl, I.turned (t' := s.toks) (fun b o hb q => eb b o hb q) f0 f1 f3 f4 f5⟩
  self := fun A i s Q E ⟨⟨_, he⟩, _⟩ h => wpAny_pyIter_enum he h
def iEnT (K : PySem.W.Frag) (ta : TA) : TI := fun σ H R => ta σ H fun vs H1 => ∃ a xs, vs = [.ref a] ∧ SqT K H1 a xs ∧ R (ItT K a) H1
theorem pi_enumT {X : Cx} {e : Expr} {ta : TA} {p pos tpos : Pos} {elts : List Expr} {kk : Nat} (hg : Gl X "enumerate") (hm : X.mg "enumerate" = none) (ha : PA X [e] ta)
    (hs : starEach [e] X.env = [(false, eval e X.env)] := by rfl) : PI X (.Tuple elts kk tpos) (.Call (.Name "enumerate" p) [e] [] pos) (iEnT X.K ta) := by
  refine ⟨fun pins s σ H R I h => Call_ (ld_blt I hg hm boot_enumerate (PyProof.Rows.callWith_type1 (thn (ha.run pos pins s σ H _ I h) fun us s1 hh => ?_) hs rfl))⟩
  obtain ⟨vs, H1, I1, r1, a, xs, rfl, hq, q⟩ := hh
  cases r1 with
  | cons r rr =>
    cases rr
    cases r
    obtain ⟨its, rv, p', hz⟩ := I1.tuple hq
    refine call_enum_tuple (show s1.heap.IsTuple a its.toArray from p') fun h' he hit hk => wpAny_pyIter_enum he ?_
    refine ⟨s1.heap.objs.size + 1, [s1.heap.objs.size + 1, s1.heap.objs.size], _, _, H1, rfl, I1.kept (t' := s1.toks) hk, turnT a (s1.heap.objs.size + 1) s1.heap.objs.size,
      ⟨⟨.none, he⟩, hit, Nat.succ_ne_self _⟩, fun b hb => ?_, q⟩
    have hle : s1.heap.objs.size ≤ b := by
      rcases List.mem_cons.mp hb with z | z
      · rw [z]; exact Nat.le_add_right _ _
      · rw [List.mem_singleton.mp z]; exact Nat.le_refl _
    exact I1.fpOk hle (I1.hok.fresh hle)
end U

/-! comprehensions and loops in the forms that are wanted most -/
namespace U
open PySem PySem.Spec PyProof.Rows L2
variable {K : PySem.W.Frag} {a : Addr} {xs : List V}
theorem walkT : Walk (ItT K a) xs.length (fun H => SqT K H a xs) (YPair (fun i => some (.int (i : Nat))) (fun i => xs[i]?)) := by
  refine ⟨fun i _ hi q => ⟨xs, xs[i], q, by simp [hi]⟩, fun _ q => ⟨xs, q, rfl⟩, fun i H v H' _ q y => ?_⟩
  obtain ⟨T, x, h1, h2, h3, h4⟩ := y
  exact ⟨T, .int (i : Nat), x, h1, h2, h3, rfl, h4 xs q⟩
theorem fm_range {α β : Type} {F : α → Option β} : ∀ {xs : List α}, (List.range xs.length).filterMap (fun i => (xs[i]?).bind F) = xs.filterMap F
  | [] => rfl
  | x :: r => by
    rw [List.length_cons, List.range_succ_eq_map, List.filterMap_cons, List.filterMap_map, List.filterMap_cons]
    have e : ((fun i => ((x :: r)[i]?).bind F) ∘ Nat.succ) = fun i => (r[i]?).bind F := by
      funext i
      simp
    rw [e, fm_range]
    rfl
theorem fm_some {α β : Type} {f : α → β} {xs : List α} : xs.filterMap (fun x => some (f x)) = xs.map f := by
  rw [← List.filterMap_eq_map]
  rfl
theorem flat_nats (ns : List Nat) : (ns.map nV).all flatV = true := by
  rw [List.all_map]
  exact List.all_eq_true.mpr fun _ _ => rfl
theorem inV_nats (z : Nat) (ns : List Nat) : inV (nV z) (ns.map nV) = decide (z ∈ ns) := by
  unfold inV
  rw [List.any_map, Bool.eq_iff_iff, List.any_eq_true, decide_eq_true_eq]
  constructor
  · rintro ⟨y, hy, e⟩
    have e' : ((y : Int) == (z : Int)) = true := e
    have e2 : (y : Int) = (z : Int) := eq_of_beq e'
    have e3 : y = z := by omega
    rw [← e3]
    exact hy
  · intro h
    refine ⟨z, h, ?_⟩
    show ((z : Int) == (z : Int)) = true
    exact beq_self_eq_true _
theorem nodup_le {ns : List Nat} {n : Nat} (h : ns.Nodup) (hn : ∀ z ∈ ns, z < n) : ns.length ≤ n := by
  have := h.length_le_of_subset (l₂ := List.range n) fun z hz => List.mem_range.mpr (hn z hz)
  rw [List.length_range] at this
  exact this
/-! ### a walked thing that is a list or a tuple -/
def SqX (K : PySem.W.Frag) (H : Hp) (a : Addr) (xs : List V) : Prop := SqL K H a xs ∨ SqT K H a xs
theorem Same.sqx {H H' : Hp} (e : Same H H') (h : SqX K H a xs) : SqX K H' a xs := h.elim (fun z => .inl (Same.seq e z)) fun z => .inr (Same.sqt e z)
def iSeq (K : PySem.W.Frag) (tl : TE) : TI := fun σ H R => tl σ H fun x H1 => ∃ a, x = .ref a ∧ (((∃ xs, SqL K H1 a xs) ∧ R (Itl K a) H1) ∨ ((∃ xs, SqT K H1 a xs) ∧ R (Itt K a) H1))
theorem k_pis {X : Cx} {tg l : Expr} {tl : TE} (h : X.K = K) (hl : PE X l tl) : PI X tg l (iSeq K tl) := by
  subst h
  refine ⟨fun pins s σ H R I h => thn (hl.run pins s σ H _ I h) fun v s1 ⟨x, H1, I1, r1, a, e, q⟩ => ?_⟩
  subst e
  cases r1
  have new : ∀ b ∈ [s1.heap.objs.size], FpOk X pins H1 b := fun b hb => by
    rw [List.mem_singleton.mp hb]
    exact I1.fpOk (Nat.le_refl _) (I1.hok.fresh (Nat.le_refl _))
  rcases q with ⟨⟨xs, hq⟩, q⟩ | ⟨⟨xs, hq⟩, q⟩
  · obtain ⟨its, rv, p, hz⟩ := I1.list hq
    exact wpAny_pyIter_list p.isList ⟨s1.heap.objs.size, [s1.heap.objs.size], _, _, H1, rfl, I1.kept (t' := s1.toks) fun b o e => Heap.get?_push_of_some _ e,
      turn_list a _, ⟨_, Heap.get?_push_size _ rfl, rfl, rfl⟩, new, q⟩
  · obtain ⟨its, rv, p, hz⟩ := I1.tuple hq
    exact wpAny_pyIter_tuple (show s1.heap.IsTuple a its.toArray from p) ⟨s1.heap.objs.size, [s1.heap.objs.size], _, _, H1, rfl, I1.kept (t' := s1.toks) fun b o e => Heap.get?_push_of_some _ e,
      turn_tuple a _, ⟨_, Heap.get?_push_size _ rfl, rfl, rfl⟩, new, q⟩
theorem for_seq {g : TG} {tb : TS} {D : Ends} {σ : L2.St} {H0 H : Hp} (hS : SqX K H0 a xs) (Pv : Nat → L2.St → Hp → Prop) (h0 : Pv 0 σ H) (hl : ∀ i σ H', i ≤ xs.length → Pv i σ H' → Same H0 H')
    (hs : ∀ i x σ H, xs[i]? = some x → Pv i σ H → g x σ H fun σ2 H2 => tb { D with nx := Pv (i + 1), ct := Pv (i + 1), bk := D.nx } σ2 H2) (hd : ∀ σ H, Pv xs.length σ H → D.nx σ H) :
    ((∃ xs, SqL K H a xs) ∧ ∃ W : Nat → Nat → L2.St → Hp → Prop, (∃ m, W 0 m σ H) ∧ ∀ i m σ H, W i m σ H →
      ((Itl K a).stop i H ∧ D.nx σ H) ∨ ((Itl K a).go i H ∧ ∃ N : L2.St → Hp → Prop, (∀ σ' H', N σ' H' → ∃ m', m' < m ∧ W (i + 1) m' σ' H') ∧ ∀ x H', (Itl K a).yld i H x H' → g x σ H' fun σ2 H2 => tb { D with nx := N, ct := N, bk := D.nx } σ2 H2)) ∨
    ((∃ xs, SqT K H a xs) ∧ ∃ W : Nat → Nat → L2.St → Hp → Prop, (∃ m, W 0 m σ H) ∧ ∀ i m σ H, W i m σ H →
      ((Itt K a).stop i H ∧ D.nx σ H) ∨ ((Itt K a).go i H ∧ ∃ N : L2.St → Hp → Prop, (∀ σ' H', N σ' H' → ∃ m', m' < m ∧ W (i + 1) m' σ' H') ∧ ∀ x H', (Itt K a).yld i H x H' → g x σ H' fun σ2 H2 => tb { D with nx := N, ct := N, bk := D.nx } σ2 H2)) := by
  rcases hS with hS | hS
  · exact .inl ⟨⟨xs, Same.seq (hl 0 σ H (Nat.zero_le _) h0) hS⟩, for_list Pv h0 (fun i σ H' hi p => Same.seq (hl i σ H' hi p) hS) hs hd⟩
  · exact .inr ⟨⟨xs, Same.sqt (hl 0 σ H (Nat.zero_le _) h0) hS⟩, for_tup Pv h0 (fun i σ H' hi p => Same.sqt (hl i σ H' hi p) hS) hs hd⟩
/-- nothing that stood is changed by a turn's drawing -/
def Calm (n : Nat) (Y : Nat → Hp → V → Hp → Prop) : Prop := ∀ i H x H', i < n → Y i H x H' → Same H H'
theorem calm_at {n : Nat} : Calm n (YAt xs) := fun _ H _ _ _ y => by rw [y.1]; exact Same.refl H
theorem calm_fn {n : Nat} {f : Nat → V} : Calm n (YFn f) := fun _ H _ _ _ y => by rw [y.1]; exact Same.refl H
theorem calm_pair {n : Nat} {f g : Nat → Option V} : Calm n (YPair f g) := fun _ H _ _ _ ⟨_, _, _, _, h2, h3, _⟩ => by
  rw [h3]
  exact same_new (Same.refl H) h2
/-- a comprehension that changes nothing that stood; at place i it gives an o of which R i o stands -/
theorem lc_rel {J : It} {n : Nat} {G : Hp → Prop} {Y : Nat → Hp → V → Hp → Prop} (w : Walk J n G Y) (hy : Calm n Y) {g : TG} {tt : TT} {te : TE} {vs : List Nat} {σ : L2.St} {H0 : Hp} {D : Addr} {Qd : Hp → Prop}
    (R : Nat → Hp → Option V → Prop) (hR : ∀ i o H H' acc, H D = some (.lst acc) → R i H o → (∀ b u, b ≠ D → H b = some u → H' b = some u) → R i H' o) (hn : n ≤ 100000) (hD : H0 D = none) (hG : ∀ H, Same H0 H → G H)
    (hs : ∀ i x H H', i < n → Same H0 H → Y i H x H' → ∀ Kt : Option V → Hp → Prop, (∀ o H4, Same H' H4 → R i H4 o → Kt o H4) →
      g x (wipe σ vs) H' fun σ2 H2 => wipe σ2 vs = wipe σ vs ∧ tt σ2 H2 fun b H3 => if b = true then te σ2 H3 fun y H4 => Kt (some y) H4 else Kt none H3)
    (hd : ∀ H (os : List (Option V)), Same H0 H → os.length = n → (∀ i o, os[i]? = some o → R i H o) → H D = some (.lst (os.filterMap id)) → Qd H) :
    ∃ W : Nat → Nat → Hp → Prop, (∃ m, W 0 m (upd H0 D (.lst []))) ∧ ∀ i m H, W i m H →
      (J.stop i H ∧ Qd H) ∨ (J.go i H ∧ ∃ Nx : Hp → Prop, (∀ H', Nx H' → ∃ m', m' < m ∧ W (i + 1) m' H') ∧ ∀ x H', J.yld i H x H' → g x (wipe σ vs) H' fun σ2 H2 => wipe σ2 vs = wipe σ vs ∧ tt σ2 H2 fun b H3 =>
        if b = true then te σ2 H3 fun y H4 => ∃ acc, H4 D = some (.lst acc) ∧ acc.length < sizeLine ∧ Nx (upd H4 D (.lst (acc ++ [y]))) else Nx H3) := by
  refine lc_it w (fun i H => ∃ os : List (Option V), Same H0 H ∧ os.length = i ∧ (∀ j o, os[j]? = some o → R j H o) ∧ H D = some (.lst (os.filterMap id)))
    ⟨[], same_new (Same.refl H0) hD, rfl, fun j o h => by simp at h, upd_same⟩ (fun i H hi ⟨os, sm, _⟩ => hG H sm) (fun i x H H' hi p y => ?_) fun H ⟨os, sm, hl, hr, hd'⟩ => hd H os sm hl hr hd'
  obtain ⟨os, sm, hl, hr, hH⟩ := p
  have smY := hy i H x H' hi y
  refine hs i x H H' hi sm y (fun o H4 => match o with
    | some y => ∃ acc, H4 D = some (.lst acc) ∧ acc.length < sizeLine ∧ (∃ os : List (Option V), Same H0 (upd H4 D (.lst (acc ++ [y]))) ∧ os.length = i + 1 ∧ (∀ j o, os[j]? = some o → R j (upd H4 D (.lst (acc ++ [y]))) o) ∧ upd H4 D (.lst (acc ++ [y])) D = some (.lst (os.filterMap id)))
    | none => ∃ os : List (Option V), Same H0 H4 ∧ os.length = i + 1 ∧ (∀ j o, os[j]? = some o → R j H4 o) ∧ H4 D = some (.lst (os.filterMap id))) fun o H4 s4 r4 => ?_
  have hD4 : H4 D = some (.lst (os.filterMap id)) := s4 _ _ (smY _ _ hH)
  have keep : ∀ (H5 : Hp), (∀ b u, b ≠ D → H4 b = some u → H5 b = some u) → Same H0 H5 ∧ (os ++ [o]).length = i + 1 ∧ ∀ j o', (os ++ [o])[j]? = some o' → R j H5 o' := fun H5 k => by
    refine ⟨fun b u q => ?_, by simp [hl], fun j o' hj => ?_⟩
    · have nb : b ≠ D := ne_of_none q hD
      exact k b u nb (s4 _ _ (smY _ _ (sm b u q)))
    · by_cases hj1 : j < os.length
      · rw [List.getElem?_append_left hj1] at hj
        refine hR j o' H H5 _ hH (hr j o' hj) fun b u nb q => k b u nb (s4 _ _ (smY _ _ q))
      · rw [List.getElem?_append_right (by omega)] at hj
        have e1 : j - os.length = 0 := by
          have := (List.getElem?_eq_some_iff.mp hj).1
          simp at this
          omega
        rw [e1] at hj
        have e2 : o = o' := Option.some.inj hj
        have e3 : j = i := by omega
        rw [← e2, e3]
        exact hR i o H4 H5 _ hD4 r4 k
  cases o with
  | none =>
    obtain ⟨k1, k2, k3⟩ := keep H4 fun b u _ q => q
    exact ⟨os ++ [none], k1, k2, k3, by rw [hD4, List.filterMap_append]; simp⟩
  | some y =>
    obtain ⟨k1, k2, k3⟩ := keep (upd H4 D (.lst (os.filterMap id ++ [y]))) fun b u nb q => by rw [upd_ne nb]; exact q
    refine ⟨_, hD4, ?_, os ++ [some y], k1, k2, k3, ?_⟩
    · have h1 : (os.filterMap id).length ≤ os.length := List.length_filterMap_le _ _
      exact small_lt (by omega)
    · rw [upd_same, List.filterMap_append]
      rfl
/-- the same, what comes being known -/
theorem lc_val {J : It} {n : Nat} {G : Hp → Prop} {Y : Nat → Hp → V → Hp → Prop} (w : Walk J n G Y) (hy : Calm n Y) {g : TG} {tt : TT} {te : TE} {vs : List Nat} {σ : L2.St} {H0 : Hp} {D : Addr} {Qd : Hp → Prop}
    (r : Nat → Option V) (hn : n ≤ 100000) (hD : H0 D = none) (hG : ∀ H, Same H0 H → G H)
    (hs : ∀ i x H H', i < n → Same H0 H → Y i H x H' → ∀ Kt : Option V → Hp → Prop, (∀ H4, Same H' H4 → Kt (r i) H4) →
      g x (wipe σ vs) H' fun σ2 H2 => wipe σ2 vs = wipe σ vs ∧ tt σ2 H2 fun b H3 => if b = true then te σ2 H3 fun y H4 => Kt (some y) H4 else Kt none H3)
    (hd : ∀ H, Same H0 H → H D = some (.lst ((List.range n).filterMap r)) → Qd H) :
    ∃ W : Nat → Nat → Hp → Prop, (∃ m, W 0 m (upd H0 D (.lst []))) ∧ ∀ i m H, W i m H →
      (J.stop i H ∧ Qd H) ∨ (J.go i H ∧ ∃ Nx : Hp → Prop, (∀ H', Nx H' → ∃ m', m' < m ∧ W (i + 1) m' H') ∧ ∀ x H', J.yld i H x H' → g x (wipe σ vs) H' fun σ2 H2 => wipe σ2 vs = wipe σ vs ∧ tt σ2 H2 fun b H3 =>
        if b = true then te σ2 H3 fun y H4 => ∃ acc, H4 D = some (.lst acc) ∧ acc.length < sizeLine ∧ Nx (upd H4 D (.lst (acc ++ [y]))) else Nx H3) := by
  refine lc_rel w hy (fun i _ o => o = r i) (fun i o H H' acc _ h _ => h) hn hD hG (fun i x H H' hi sm y Kt k => hs i x H H' hi sm y Kt fun H4 s4 => k (r i) H4 s4 rfl) fun H os sm hl hr hD' => hd H sm ?_
  rw [hD']
  congr 2
  have e : os = (List.range n).map r := by
    apply List.ext_getElem?
    intro j
    by_cases hj : j < n
    · have h1 : os[j]? = some os[j] := List.getElem?_eq_getElem (by omega)
      rw [h1, hr j _ h1, List.getElem?_map, List.getElem?_range hj]
      rfl
    · rw [List.getElem?_eq_none (by omega), List.getElem?_eq_none (by simp; omega)]
  rw [e, List.filterMap_map]
  rfl
/-- over a list or a tuple -/
theorem lc_seq {g : TG} {tt : TT} {te : TE} {vs : List Nat} {σ : L2.St} {Hs H0 : Hp} {Qd : Addr → Hp → Prop} (hS : SqX K Hs a xs) (sm : Same Hs H0) (r : Nat → Option V) (hn : xs.length ≤ 100000)
    (hs : ∀ i x H H', i < xs.length → Same H0 H → YAt xs i H x H' → ∀ Kt : Option V → Hp → Prop, (∀ H4, Same H' H4 → Kt (r i) H4) →
      g x (wipe σ vs) H' fun σ2 H2 => wipe σ2 vs = wipe σ vs ∧ tt σ2 H2 fun b H3 => if b = true then te σ2 H3 fun y H4 => Kt (some y) H4 else Kt none H3)
    (hd : ∀ H D, Same H0 H → H0 D = none → H D = some (.lst ((List.range xs.length).filterMap r)) → Qd D H) :
    (((∃ xs, SqL K H0 a xs) ∧ ∀ D, H0 D = none → ∃ W : Nat → Nat → Hp → Prop, (∃ m, W 0 m (upd H0 D (.lst []))) ∧ ∀ i m H, W i m H →
      ((Itl K a).stop i H ∧ Qd D H) ∨ ((Itl K a).go i H ∧ ∃ Nx : Hp → Prop, (∀ H', Nx H' → ∃ m', m' < m ∧ W (i + 1) m' H') ∧ ∀ x H', (Itl K a).yld i H x H' → g x (wipe σ vs) H' fun σ2 H2 => wipe σ2 vs = wipe σ vs ∧ tt σ2 H2 fun b H3 =>
        if b = true then te σ2 H3 fun y H4 => ∃ acc, H4 D = some (.lst acc) ∧ acc.length < sizeLine ∧ Nx (upd H4 D (.lst (acc ++ [y]))) else Nx H3)) ∨
     ((∃ xs, SqT K H0 a xs) ∧ ∀ D, H0 D = none → ∃ W : Nat → Nat → Hp → Prop, (∃ m, W 0 m (upd H0 D (.lst []))) ∧ ∀ i m H, W i m H →
      ((Itt K a).stop i H ∧ Qd D H) ∨ ((Itt K a).go i H ∧ ∃ Nx : Hp → Prop, (∀ H', Nx H' → ∃ m', m' < m ∧ W (i + 1) m' H') ∧ ∀ x H', (Itt K a).yld i H x H' → g x (wipe σ vs) H' fun σ2 H2 => wipe σ2 vs = wipe σ vs ∧ tt σ2 H2 fun b H3 =>
        if b = true then te σ2 H3 fun y H4 => ∃ acc, H4 D = some (.lst acc) ∧ acc.length < sizeLine ∧ Nx (upd H4 D (.lst (acc ++ [y]))) else Nx H3))) := by
  rcases hS with hS | hS
  · exact .inl ⟨⟨xs, Same.seq sm hS⟩, fun D nD => lc_val walk_list calm_at r hn nD (fun H3 s3 => Same.seq (sm.trans s3) hS) hs fun H s h => hd H D s nD h⟩
  · exact .inr ⟨⟨xs, Same.sqt sm hS⟩, fun D nD => lc_val walk_tup calm_at r hn nD (fun H3 s3 => Same.sqt (sm.trans s3) hS) hs fun H s h => hd H D s nD h⟩
theorem rgV0 (n : Nat) : rgV 0 (n : Int) = (List.range n).map nV := by
  unfold rgV
  rw [show ((n : Int) - 0).toNat = n by omega]
  refine List.map_congr_left fun i _ => ?_
  show V.int ((0 : Int) + (i : Int)) = V.int (i : Int)
  rw [Int.zero_add]
theorem rgV1 (n : Nat) : rgV 1 (n : Int) = ((List.range (n - 1)).map (· + 1)).map nV := by
  unfold rgV
  rw [show ((n : Int) - 1).toNat = n - 1 by omega, List.map_map]
  refine List.map_congr_left fun i _ => ?_
  show V.int ((1 : Int) + (i : Int)) = V.int ((i + 1 : Nat) : Int)
  congr 1
  omega
end U

/-! walks along edges: levels, reach, the search layer by layer -/
namespace U
abbrev Es := List (Nat × Nat)
/-- to come to v by at most k edges from S -/
def Lev (es : Es) (S : List Nat) : Nat → Nat → Prop
  | 0, v => v ∈ S
  | k + 1, v => Lev es S k v ∨ ∃ u, Lev es S k u ∧ (u, v) ∈ es
def Rch (es : Es) (S : List Nat) (v : Nat) : Prop := ∃ k, Lev es S k v
/-- the least number of edges to v is d -/
def Dst (es : Es) (S : List Nat) (v d : Nat) : Prop := Lev es S d v ∧ ∀ k, k < d → ¬ Lev es S k v
theorem Lev.succ {es : Es} {S : List Nat} {k v : Nat} (h : Lev es S k v) : Lev es S (k + 1) v := .inl h
theorem Lev.mono {es : Es} {S : List Nat} {k j v : Nat} (h : Lev es S k v) (hk : k ≤ j) : Lev es S j v := by
  induction hk with
  | refl => exact h
  | step _ ih => exact ih.succ
theorem Lev.edge {es : Es} {S : List Nat} {k u v : Nat} (h : Lev es S k u) (e : (u, v) ∈ es) : Lev es S (k + 1) v := .inr ⟨u, h, e⟩
theorem Rch.edge {es : Es} {S : List Nat} {u v : Nat} (h : Rch es S u) (e : (u, v) ∈ es) : Rch es S v := h.elim fun k hk => ⟨k + 1, hk.edge e⟩
theorem Rch.base {es : Es} {S : List Nat} {v : Nat} (h : v ∈ S) : Rch es S v := ⟨0, h⟩
theorem Rch.ind {es : Es} {S : List Nat} {P : Nat → Prop} (h0 : ∀ v ∈ S, P v) (h1 : ∀ u v, P u → (u, v) ∈ es → P v) {v : Nat} (h : Rch es S v) : P v := by
  obtain ⟨k, hk⟩ := h
  induction k generalizing v with
  | zero => exact h0 v hk
  | succ k ih =>
    rcases hk with hk | ⟨u, hu, e⟩
    · exact ih hk
    · exact h1 u v (ih hu) e
theorem Rch.mono {es es' : Es} {S S' : List Nat} (he : ∀ e ∈ es, e ∈ es') (hS : ∀ v ∈ S, v ∈ S') {v : Nat} (h : Rch es S v) : Rch es' S' v :=
  h.ind (fun v hv => .base (hS v hv)) fun u v hu e => hu.edge (he _ e)
theorem Rch.lt {es : Es} {S : List Nat} {n v : Nat} (hS : ∀ s ∈ S, s < n) (he : ∀ e ∈ es, e.2 < n) (h : Rch es S v) : v < n :=
  h.ind hS fun _ v _ e => he _ e
theorem Dst.inj {es : Es} {S : List Nat} {v d d' : Nat} (h : Dst es S v d) (h' : Dst es S v d') : d = d' := by
  rcases Nat.lt_trichotomy d d' with z | z | z
  · exact absurd h.1 (h'.2 d z)
  · exact z
  · exact absurd h'.1 (h.2 d' z)
theorem Dst.ex {es : Es} {S : List Nat} {v k : Nat} (h : Lev es S k v) : ∃ d, d ≤ k ∧ Dst es S v d := by
  induction k with
  | zero => exact ⟨0, Nat.le_refl _, h, fun k hk => absurd hk (Nat.not_lt_zero k)⟩
  | succ k ih =>
    by_cases hk : Lev es S k v
    · obtain ⟨d, hd, h'⟩ := ih hk
      exact ⟨d, Nat.le_succ_of_le hd, h'⟩
    · exact ⟨k + 1, Nat.le_refl _, h, fun j hj hl => hk (hl.mono (Nat.le_of_lt_succ hj))⟩
theorem rch_iff {es : Es} {S : List Nat} {v : Nat} : Rch es S v ↔ ∃ d, Dst es S v d :=
  ⟨fun ⟨_, h⟩ => (Dst.ex h).elim fun d h => ⟨d, h.2⟩, fun ⟨d, h⟩ => ⟨d, h.1⟩⟩
/-- no edge leads farther by more than one -/
theorem Dst.step {es : Es} {S : List Nat} {u v d d' : Nat} (h : Dst es S u d) (e : (u, v) ∈ es) (h' : Dst es S v d') : d' ≤ d + 1 := by
  by_cases hd : d' ≤ d + 1
  · exact hd
  · exact absurd (h.1.edge e) (h'.2 (d + 1) (by omega))
/-- whoever is farther off than 0 has a nearer one ahead -/
theorem Dst.pred {es : Es} {S : List Nat} {v d : Nat} (h : Dst es S v (d + 1)) : ∃ u, Dst es S u d ∧ (u, v) ∈ es := by
  rcases h.1 with hk | ⟨u, hu, e⟩
  · exact absurd hk (h.2 d (Nat.lt_succ_self d))
  · refine ⟨u, ⟨hu, fun k hk hl => ?_⟩, e⟩
    exact h.2 (k + 1) (Nat.succ_lt_succ hk) (hl.edge e)

/-! ### the search -/
/-- st tells what is known when c layers are done; lay is the layer c -/
structure Bfs (n : Nat) (es : Es) (S : List Nat) (c : Nat) (st : Nat → Option Nat) (lay : List Nat) : Prop where
  tell : ∀ v d, v < n → st v = some d → d ≤ c ∧ Dst es S v d
  full : ∀ v, v < n → Lev es S c v → st v ≠ none
  lay : ∀ v, v ∈ lay ↔ v < n ∧ st v = some c
theorem Bfs.start {n : Nat} {es : Es} {S : List Nat} (hS : ∀ s ∈ S, s < n) : Bfs n es S 0 (fun v => if v ∈ S then some 0 else none) S where
  tell := fun v d _ h => by
    by_cases hv : v ∈ S
    · rw [if_pos hv] at h
      cases h
      exact ⟨Nat.le_refl _, hv, fun k hk => absurd hk (Nat.not_lt_zero k)⟩
    · rw [if_neg hv] at h
      cases h
  full := fun v _ h => by
    have h : v ∈ S := h
    rw [if_pos h]
    exact fun z => by cases z
  lay := fun v => by
    by_cases hv : v ∈ S
    · simp [hv, hS v hv]
    · simp [hv]
/-- behind one more layer; T: all heads of edges out of the layer -/
theorem Bfs.next {n : Nat} {es : Es} {S : List Nat} {c : Nat} {st : Nat → Option Nat} {lay T : List Nat} (b : Bfs n es S c st lay) (he : ∀ e ∈ es, e.1 < n ∧ e.2 < n) (hS : ∀ s ∈ S, s < n)
    (hT : ∀ v, v ∈ T ↔ ∃ u, u ∈ lay ∧ (u, v) ∈ es) {lay' : List Nat} (hl : ∀ v, v ∈ lay' ↔ v < n ∧ st v = none ∧ v ∈ T) :
    Bfs n es S (c + 1) (fun v => match st v with
      | some d => some d
      | none => if v ∈ T then some (c + 1) else none) lay' where
  tell := fun v d hv h => by
    cases e : st v with
    | some d0 =>
      simp only [e] at h
      cases h
      obtain ⟨h1, h2⟩ := b.tell v _ hv e
      exact ⟨Nat.le_succ_of_le h1, h2⟩
    | none =>
      simp only [e] at h
      by_cases hm : v ∈ T
      · rw [if_pos hm] at h
        cases h
        obtain ⟨u, hu, ed⟩ := (hT v).mp hm
        obtain ⟨hun, hus⟩ := (b.lay u).mp hu
        refine ⟨Nat.le_refl _, (b.tell u c hun hus).2.1.edge ed, fun k hk hlk => ?_⟩
        exact b.full v hv (hlk.mono (Nat.le_of_lt_succ hk)) e
      · rw [if_neg hm] at h
        cases h
  full := fun v hv h => by
    cases e : st v with
    | some d0 =>
      simp only
      exact fun z => by cases z
    | none =>
      have hm : v ∈ T := by
        rcases h with h | ⟨u, hu, ed⟩
        · exact absurd e (b.full v hv h)
        · have hun : u < n := (he _ ed).1
          have hus := b.full u hun hu
          cases eu : st u with
          | none => exact absurd eu hus
          | some d =>
            obtain ⟨h1, h2⟩ := b.tell u d hun eu
            by_cases hd : d = c
            · subst hd
              exact (hT v).mpr ⟨u, (b.lay u).mpr ⟨hun, eu⟩, ed⟩
            · exact absurd e (b.full v hv ((h2.1.edge ed).mono (by omega)))
      simp only
      rw [if_pos hm]
      exact fun z => by cases z
  lay := fun v => by
    rw [hl v]
    constructor
    · rintro ⟨hv, h0, hm⟩
      refine ⟨hv, ?_⟩
      simp only [h0]
      rw [if_pos hm]
    · rintro ⟨hv, h⟩
      refine ⟨hv, ?_⟩
      cases e : st v with
      | some d =>
        simp only [e] at h
        cases h
        exact absurd (b.tell v (c + 1) hv e).1 (by omega)
      | none =>
        simp only [e] at h
        by_cases hm : v ∈ T
        · exact ⟨rfl, hm⟩
        · rw [if_neg hm] at h
          cases h
/-- when the layer is empty all is told -/
theorem Bfs.done {n : Nat} {es : Es} {S : List Nat} {c : Nat} {st : Nat → Option Nat} (b : Bfs n es S c st []) (he : ∀ e ∈ es, e.1 < n ∧ e.2 < n) {v : Nat} (hv : v < n) :
    (∀ d, st v = some d ↔ Dst es S v d) ∧ (st v = none ↔ ¬ Rch es S v) := by
  have cl : ∀ k w, w < n → Lev es S k w → Lev es S c w := by
    intro k
    induction k with
    | zero => exact fun w _ h => Lev.mono (k := 0) h (Nat.zero_le _)
    | succ k ih =>
      intro w hw h
      rcases h with h | ⟨u, hu, ed⟩
      · exact ih w hw h
      · have hun : u < n := (he _ ed).1
        have hu' := ih u hun hu
        obtain ⟨d, hd, h2⟩ := Dst.ex hu'
        have hdc : d ≠ c := by
          intro z
          subst z
          cases eu : st u with
          | none => exact b.full u hun hu' eu
          | some d' =>
            have e2 := (b.tell u d' hun eu).2.inj h2
            subst e2
            have := (b.lay u).mpr ⟨hun, eu⟩
            cases this
        exact (h2.1.edge ed).mono (by omega)
  have two : st v = none ↔ ¬ Rch es S v := by
    constructor
    · rintro h ⟨k, hk⟩
      exact b.full v hv (cl k v hv hk) h
    · intro h
      cases e : st v with
      | none => rfl
      | some d => exact absurd ⟨d, (b.tell v d hv e).2.1⟩ h
  refine ⟨fun d => ⟨fun h => (b.tell v d hv h).2, fun h => ?_⟩, two⟩
  cases e : st v with
  | none => exact absurd (rch_iff.mpr ⟨d, h⟩) (two.mp e)
  | some d' => rw [(b.tell v d' hv e).2.inj h]
/-- the edges from a place -/
def adj (es : Es) (v : Nat) : List Nat := es.filterMap fun e => if e.1 = v then some e.2 else none
theorem mem_adj {es : Es} {u v : Nat} : v ∈ adj es u ↔ (u, v) ∈ es := by
  unfold adj
  rw [List.mem_filterMap]
  constructor
  · rintro ⟨⟨a, b⟩, h, e⟩
    simp only at e
    by_cases hu : a = u
    · rw [if_pos hu] at e
      cases e
      rw [← hu]
      exact h
    · rw [if_neg hu] at e
      cases e
  · intro h
    exact ⟨(u, v), h, by simp⟩
theorem adj_snoc {es : Es} {e : Nat × Nat} {v : Nat} : adj (es ++ [e]) v = if e.1 = v then adj es v ++ [e.2] else adj es v := by
  unfold adj
  rw [List.filterMap_append]
  by_cases h : e.1 = v
  · simp [h]
  · simp [h]
/-- how many places are not told yet -/
def openN (n : Nat) (st : Nat → Option Nat) : Nat := (List.range n).countP fun v => (st v).isNone
theorem openN_le {n : Nat} {st st' : Nat → Option Nat} (h : ∀ v, st' v = none → st v = none) : openN n st' ≤ openN n st := by
  unfold openN
  refine List.countP_mono_left fun v _ hv => ?_
  simp only [Option.isNone_iff_eq_none] at hv ⊢
  exact h v hv
theorem openN_lt {n : Nat} {st st' : Nat → Option Nat} (h : ∀ v, st' v = none → st v = none) {z : Nat} (hz : z < n) (h1 : st z = none) (h2 : st' z ≠ none) : openN n st' < openN n st := by
  unfold openN
  have hm : z ∈ List.range n := List.mem_range.mpr hz
  obtain ⟨l1, l2, e⟩ := List.append_of_mem hm
  rw [e, List.countP_append, List.countP_append, List.countP_cons, List.countP_cons]
  have a1 : List.countP (fun v => (st' v).isNone) l1 ≤ List.countP (fun v => (st v).isNone) l1 := List.countP_mono_left fun v _ hv => by
    simp only [Option.isNone_iff_eq_none] at hv ⊢
    exact h v hv
  have a2 : List.countP (fun v => (st' v).isNone) l2 ≤ List.countP (fun v => (st v).isNone) l2 := List.countP_mono_left fun v _ hv => by
    simp only [Option.isNone_iff_eq_none] at hv ⊢
    exact h v hv
  have b1 : (if (st z).isNone = true then 1 else 0) = 1 := by rw [h1]; rfl
  have b2 : (if (st' z).isNone = true then 1 else 0) = 0 := by
    cases q : st' z with
    | none => exact absurd q h2
    | some d => rfl
  rw [b1, b2]
  omega
end U

/-! the hand that draws -/
namespace U
open PySem PySem.Spec PyProof.Rows L2
def handO (c : Addr) (i r s k : Int) : HO := .lst [.ref c, .int i, .int r, .int s, .int k]
/-- the hand stands at h, its cells in the region F -/
structure HandAt (F H : Hp) (h : Addr) : Prop where
  ob : ∃ (c : Addr) (cells : List Int) (i r s k : Int), H h = some (handO c i r s k) ∧ F c = some (.lst (cells.map V.int)) ∧ 0 ≤ i
  nF : F h = none
theorem HandAt.grow {M : Addr → Prop} {F H F' H' : Hp} {h : Addr} (a : HandAt F H h) (g : Grow M F H F' H') (hm : ¬ M h) : HandAt F' H' h where
  ob := by
    obtain ⟨c, cells, i, r, s, k, h1, h2, h3⟩ := a.ob
    exact ⟨c, cells, i, r, s, k, g.same _ _ hm h1, g.sub _ _ h2, h3⟩
  nF := by
    refine Classical.byContradiction fun z => ?_
    obtain ⟨c, cells, i, r, s, k, h1, _⟩ := a.ob
    rw [g.fresh h z a.nF] at h1
    cases h1
/-- what a draw leaves -/
structure Drew (F H H' : Hp) (h : Addr) : Prop where
  hand : HandAt F H' h
  rest : ∀ b, b ≠ h → H' b = H b
  sub : Same F H'
theorem Drew.trans {F H H1 H2 : Hp} {h : Addr} (a : Drew F H H1 h) (b : Drew F H1 H2 h) : Drew F H H2 h := ⟨b.hand, fun x hx => (b.rest x hx).trans (a.rest x hx), b.sub⟩
theorem Drew.grow {F H H' : Hp} {h : Addr} (a : HandAt F H h) (d : Drew F H H' h) : Grow (fun b => b = h) F H F H' where
  same := fun b o m e => by rw [d.rest b m]; exact e
  live := fun b e => by
    by_cases hb : b = h
    · subst hb
      obtain ⟨c, cells, i, r, s, k, h1, _⟩ := d.hand.ob
      rw [h1]
      exact fun z => by cases z
    · rw [d.rest b hb]
      exact e
  sub := Same.refl F
  sub' := d.sub
  fresh := fun b x y => absurd y x
def spDraw : Sp := fun vs H Q _ => ∃ (h : Addr) (m : Int) (F : Hp), vs = [.ref h, .int m] ∧ 0 < m ∧ m.natAbs.log2 < 9000 ∧ Same F H ∧ HandAt F H h ∧ ∀ n H', 0 ≤ n → n < m → Drew F H H' h → Q (.int n) H'
/-- a store to the hand -/
theorem drew_upd {F H : Hp} {h c : Addr} {cells : List Int} {i' r' s' k' : Int} (hs : Same F H) (nF : F h = none) (hc : F c = some (.lst (cells.map V.int))) (h0 : 0 ≤ i') : Drew F H (upd H h (handO c i' r' s' k')) h where
  hand := ⟨⟨c, cells, i', r', s', k', upd_same, hc, h0⟩, nF⟩
  rest := fun b hb => upd_ne hb
  sub := same_mut hs nF
/-- what a def with draws leaves: the hand, all else that stood -/
structure Dr (F H H' : Hp) (h : Addr) : Prop where
  hand : HandAt F H' h
  same : ∀ b o, b ≠ h → H b = some o → H' b = some o
  sub : Same F H'
theorem Drew.dr {F H H' : Hp} {h : Addr} (d : Drew F H H' h) : Dr F H H' h := ⟨d.hand, fun b o hb e => by rw [d.rest b hb]; exact e, d.sub⟩
theorem Dr.trans {F H H1 H2 : Hp} {h : Addr} (a : Dr F H H1 h) (b : Dr F H1 H2 h) : Dr F H H2 h := ⟨b.hand, fun x o hx e => b.same x o hx (a.same x o hx e), b.sub⟩
theorem HandAt.ne {F H : Hp} {h b : Addr} (a : HandAt F H h) (hb : H b = none) : b ≠ h := fun e => by
  obtain ⟨c, cells, i, r, s, k, h1, _⟩ := a.ob
  rw [← e, hb] at h1
  cases h1
theorem Dr.refl {F H : Hp} {h : Addr} (a : HandAt F H h) (s : Same F H) : Dr F H H h := ⟨a, fun _ _ _ e => e, s⟩
/-- behind what leaves all that stood -/
theorem Dr.of_same {F H H' : Hp} {h : Addr} (a : HandAt F H h) (sF : Same F H) (s : Same H H') : Dr F H H' h where
  hand := by
    obtain ⟨c, cells, i, r, s', k, h1, h2, h3⟩ := a.ob
    exact ⟨⟨c, cells, i, r, s', k, s _ _ h1, h2, h3⟩, a.nF⟩
  same := fun b o _ e => s b o e
  sub := sF.trans s
/-- a local object is stored to -/
theorem Dr.upd {F H H' : Hp} {h x : Addr} {o : HO} (d : Dr F H H' h) (hx : H x = none) (nx : x ≠ h) (nF : F x = none) : Dr F H (upd H' x o) h where
  hand := by
    obtain ⟨c, cells, i, r, s', k, h1, h2, h3⟩ := d.hand.ob
    exact ⟨⟨c, cells, i, r, s', k, by rw [upd_ne nx.symm]; exact h1, h2, h3⟩, d.hand.nF⟩
  same := fun b u hb e => by
    rw [upd_ne (ne_of_none e hx)]
    exact d.same b u hb e
  sub := same_mut d.sub nF
theorem Dr.live {F H H' : Hp} {h : Addr} (d : Dr F H H' h) {b : Addr} (hb : H b ≠ none) : H' b ≠ none := by
  by_cases e : b = h
  · subst e
    obtain ⟨c, cells, i, r, s', k, h1, _⟩ := d.hand.ob
    rw [h1]
    exact fun z => by cases z
  · cases q : H b with
    | none => exact absurd q hb
    | some o =>
      rw [d.same b o e q]
      exact fun z => by cases z
theorem Dr.free {F H H' : Hp} {h : Addr} (d : Dr F H H' h) {b : Addr} (hb : H' b = none) : H b = none := Classical.byContradiction fun z => d.live z hb
theorem Dr.sqt {K : PySem.W.Frag} {F H H' : Hp} {h a : Addr} {xs : List V} (d : Dr F H H' h) (hA : HandAt F H h) (s : SqT K H a xs) : SqT K H' a xs := by
  obtain ⟨c, cells, i, r, s', k, h1, _⟩ := hA.ob
  rcases s with (s | ⟨o, s⟩) | s
  · exact .inl (.inl (d.same _ _ (ne_of s h1 (by intro z; cases z)) s))
  · exact .inl (.inr ⟨o, d.same _ _ (ne_of s h1 (by intro z; cases z)) s⟩)
  · exact .inr s
/-- an if whose ways meet again: what stands where it is true, where it is not -/
theorem ifs_split {c : TT} {t u : TS} {D : Ends} {σ : L2.St} {H : Hp} (P Pn : Hp → Prop) (hc : ∀ Kt : Bool → Hp → Prop, (∀ H', P H' → Kt true H') → (∀ H', Pn H' → Kt false H') → c σ H Kt)
    (h1 : ∀ H', P H' → t D σ H') (h2 : ∀ H', Pn H' → u D σ H') : tIfS c t u D σ H :=
  hc _ (fun H' p => iteT (h1 H' p)) fun H' p => iteF (h2 H' p)
theorem small_log {m : Int} (h0 : 0 < m) (h : m < 2 ^ 8999) : m.natAbs.log2 < 9000 := by
  have h1 : m.natAbs ≠ 0 := by omega
  have h2 := Nat.log2_self_le h1
  refine Classical.byContradiction fun z => ?_
  have h3 : 2 ^ 9000 ≤ 2 ^ m.natAbs.log2 := Nat.pow_le_pow_right (by decide) (by omega)
  have h4 : (2 : Nat) ^ 9000 ≤ m.natAbs := Nat.le_trans h3 h2
  have h5 : (m.natAbs : Int) < 2 ^ 8999 := by omega
  have h6 : m.natAbs < 2 ^ 8999 := by exact_mod_cast h5
  have h7 : (2 : Nat) ^ 8999 ≤ 2 ^ 9000 := Nat.pow_le_pow_right (by decide) (by decide)
  omega
/-! ### the region behind a def that makes tuples -/
/-- F and all tuples that are new between H and H' -/
def hv (F H H' : Hp) : Hp := fun b => match F b with
  | some o => some o
  | none => match H b with
    | some _ => none
    | none => match H' b with
      | some (.tup xs) => some (.tup xs)
      | _ => none
theorem hv_old {F H H' : Hp} {b : Addr} {o : HO} (e : F b = some o) : hv F H H' b = some o := by
  unfold hv
  rw [e]
theorem hv_new {F H H' : Hp} {b : Addr} {xs : List V} (hF : Same F H) (h0 : H b = none) (h1 : H' b = some (.tup xs)) : hv F H H' b = some (.tup xs) := by
  have e : F b = none := Same.free hF h0
  unfold hv
  rw [e, h0, h1]
theorem hv_inv {F H H' : Hp} {b : Addr} {o : HO} (h : hv F H H' b = some o) : F b = some o ∨ (F b = none ∧ H b = none ∧ H' b = some o) := by
  unfold hv at h
  cases e : F b with
  | some u => rw [e] at h; exact .inl h
  | none =>
    rw [e] at h
    cases e2 : H b with
    | some u => rw [e2] at h; cases h
    | none =>
      rw [e2] at h
      cases e3 : H' b with
      | none => rw [e3] at h; cases h
      | some u =>
        rw [e3] at h
        cases u with
        | tup xs => exact .inr ⟨rfl, rfl, h⟩
        | _ => cases h
theorem hv_none {F H H' : Hp} {b : Addr} (h0 : F b = none) (h1 : H b ≠ none) : hv F H H' b = none := by
  cases e : hv F H H' b with
  | none => rfl
  | some o =>
    rcases hv_inv e with z | ⟨_, z, _⟩
    · rw [h0] at z; cases z
    · exact absurd z h1
theorem hv_sub {F H0 H H' : Hp} (fr : ∀ b, H b = none → H0 b = none) : Same (hv F H H') (hv F H0 H') := fun b o e => by
  unfold hv at e ⊢
  cases e1 : F b with
  | some u => rw [e1] at e; exact e
  | none =>
    rw [e1] at e
    cases e2 : H b with
    | some u => rw [e2] at e; cases e
    | none =>
      rw [e2] at e
      rw [fr b e2]
      exact e
theorem hv_grow {M : Addr → Prop} {F H H' : Hp} (hF : Same F H') (same : ∀ a o, ¬ M a → H a = some o → H' a = some o) (live : ∀ a, H a ≠ none → H' a ≠ none) : Grow M F H (hv F H H') H' where
  same := same
  live := live
  sub := fun b o e => hv_old e
  sub' := fun b o e => by
    rcases hv_inv e with z | ⟨_, _, z⟩
    · exact hF b o z
    · exact z
  fresh := fun b h1 h0 => by
    cases e : hv F H H' b with
    | none => exact absurd e h1
    | some o =>
      rcases hv_inv e with z | ⟨_, z, _⟩
      · rw [h0] at z; cases z
      · exact z
theorem Dr.hvG {F H H' : Hp} {h : Addr} (d : Dr F H H' h) : Grow (fun b => b = h) F H (hv F H H') H' :=
  hv_grow d.sub (fun b o m e => d.same b o m e) fun b e => d.live e
theorem Dr.hvH {F H H' : Hp} {h : Addr} (d : Dr F H H' h) (hA : HandAt F H h) : HandAt (hv F H H') H' h where
  ob := by
    obtain ⟨c, cells, i, r, s', k, h1, h2, h3⟩ := d.hand.ob
    exact ⟨c, cells, i, r, s', k, h1, hv_old h2, h3⟩
  nF := hv_none hA.nF fun z => by
    obtain ⟨c, cells, i, r, s', k, h1, _⟩ := hA.ob
    rw [h1] at z
    cases z
/-! ### numbers out of lists that were shuffled or sorted -/
def unV : V → Nat
  | .int i => i.toNat
  | _ => 0
theorem perm_nats {ys : List V} {l : List Nat} (h : ys.Perm (l.map nV)) : ∃ ns : List Nat, ys = ns.map nV ∧ ns.Perm l := by
  refine ⟨ys.map unV, ?_, ?_⟩
  · rw [List.map_map]
    symm
    rw [show ys = ys.map id by rw [List.map_id]]
    rw [List.map_map]
    refine List.map_congr_left fun v hv => ?_
    obtain ⟨n, _, rfl⟩ := List.mem_map.mp (h.mem_iff.mp hv)
    show V.int ((Int.toNat (n : Int) : Nat) : Int) = V.int (n : Int)
    rfl
  · have h2 := h.map unV
    rw [List.map_map] at h2
    have e : l.map (unV ∘ nV) = l := by
      rw [show l.map (unV ∘ nV) = l.map id from List.map_congr_left fun n _ => rfl, List.map_id]
    rw [e] at h2
    exact h2
theorem sort_nats {ns : List Int} {l : List Nat} (h : ns.Perm (l.map fun (n : Nat) => (n : Int))) (hp : ns.Pairwise (· ≤ ·)) : ∃ gs : List Nat, ns.map V.int = gs.map nV ∧ gs.Perm l ∧ gs.Pairwise (· ≤ ·) := by
  have h1 : (ns.map V.int).Perm (l.map nV) := by
    have := h.map V.int
    rw [List.map_map] at this
    exact this
  obtain ⟨gs, e, hg⟩ := perm_nats h1
  refine ⟨gs, e, hg, ?_⟩
  have e2 : ns = gs.map fun (n : Nat) => (n : Int) := by
    have e3 : ns.map V.int = (gs.map fun (n : Nat) => (n : Int)).map V.int := by rw [e, List.map_map]; rfl
    exact (List.map_inj_right fun x y z => by injection z).mp e3
  rw [e2, List.pairwise_map] at hp
  exact hp.imp fun h => by omega
theorem pw_lt {gs : List Nat} (h : gs.Pairwise (· ≤ ·)) (nd : gs.Nodup) : gs.Pairwise (· < ·) := by
  induction gs with
  | nil => exact List.Pairwise.nil
  | cons g r ih =>
    have h1 := List.pairwise_cons.mp h
    have h2 := List.nodup_cons.mp nd
    refine List.pairwise_cons.mpr ⟨fun x hx => ?_, ih h1.2 h2.2⟩
    have := h1.1 x hx
    have : g ≠ x := fun e => h2.1 (by rw [e]; exact hx)
    omega
/-- two lots with the same numbers are one -/
theorem lot_eq {gs gs' : List Nat} (h : gs.Pairwise (· < ·)) (h' : gs'.Pairwise (· < ·)) (e : ∀ x, x ∈ gs ↔ x ∈ gs') : gs = gs' := by
  induction gs generalizing gs' with
  | nil =>
    cases gs' with
    | nil => rfl
    | cons g r => exact absurd ((e g).mpr List.mem_cons_self) List.not_mem_nil
  | cons g r ih =>
    cases gs' with
    | nil => exact absurd ((e g).mp List.mem_cons_self) List.not_mem_nil
    | cons g' r' =>
      have h1 := List.pairwise_cons.mp h
      have h2 := List.pairwise_cons.mp h'
      have e0 : g = g' := by
        rcases List.mem_cons.mp ((e g).mp List.mem_cons_self) with z | z
        · exact z
        · rcases List.mem_cons.mp ((e g').mpr List.mem_cons_self) with z' | z'
          · exact z'.symm
          · have := h2.1 g z
            have := h1.1 g' z'
            omega
      subst e0
      congr 1
      refine ih h1.2 h2.2 fun x => ?_
      constructor
      · intro hx
        rcases List.mem_cons.mp ((e x).mp (List.mem_cons_of_mem _ hx)) with z | z
        · subst z
          exact absurd (h1.1 x hx) (Nat.lt_irrefl _)
        · exact z
      · intro hx
        rcases List.mem_cons.mp ((e x).mpr (List.mem_cons_of_mem _ hx)) with z | z
        · subst z
          exact absurd (h2.1 x hx) (Nat.lt_irrefl _)
        · exact z
end U

/-! data that is compared -/
namespace U
open PySem PySem.Spec PyProof.Rows L2
variable {K : PySem.W.Frag} {H : Hp}
def dN (n : Nat) : PyData := .int (n : Int)
theorem dp_nats : ∀ {ns : List Nat}, DpAll K H (ns.map nV) (ns.map dN)
  | [] => .nil
  | n :: r => .cons (.int (n : Int)) (dp_nats (ns := r))
theorem lay_nats : ∀ {ns : List Nat}, PyData.canLayAll0 (ns.map dN) = true
  | [] => rfl
  | n :: r => by
    rw [List.map_cons, PyData.canLayAll0, lay_nats (ns := r)]
    rfl
theorem dep_nats : ∀ {ns : List Nat}, PyData.depthAll (ns.map dN) = 0
  | [] => rfl
  | n :: r => by
    rw [List.map_cons, PyData.depthAll, dep_nats (ns := r)]
    rfl
theorem shp_lst {ns : List Nat} : SeqAt.shaped (.list (ns.map dN)) = true := by
  unfold SeqAt.shaped
  rw [PyData.canLay0, PyData.depth, lay_nats, dep_nats]
  rfl
theorem shp_tup {ns : List Nat} : SeqAt.shaped (.tuple (ns.map dN)) = true := by
  unfold SeqAt.shaped
  rw [PyData.canLay0, PyData.depth, lay_nats, dep_nats]
  rfl
theorem eqv_same {d : PyData} (h : SeqAt.shaped d = true) : PyData.eqv d d = true := SeqAt.eqv_refl d (SeqAt.canLay_of_shaped h)
def dE (e : Nat × Nat) : PyData := .tuple [dN e.1, dN e.2]
theorem lay_prs : ∀ {es : List (Nat × Nat)}, PyData.canLayAll0 (es.map dE) = true
  | [] => rfl
  | n :: r => by
    rw [List.map_cons, PyData.canLayAll0, lay_prs (es := r)]
    rfl
theorem dep_prs : ∀ {es : List (Nat × Nat)}, PyData.depthAll (es.map dE) ≤ 1
  | [] => Nat.zero_le _
  | n :: r => by
    rw [List.map_cons, PyData.depthAll]
    exact Nat.max_le.mpr ⟨Nat.le_refl 1, dep_prs (es := r)⟩
theorem shp_prs {es : List (Nat × Nat)} : SeqAt.shaped (.tuple (es.map dE)) = true := by
  unfold SeqAt.shaped
  rw [PyData.canLay0, PyData.depth, lay_prs, Bool.true_and, decide_eq_true_eq]
  have := dep_prs (es := es)
  omega
theorem kn_of_bl {b : Bool} : Kn K H (.bl b) "bool" := ⟨.base (.bl b), by simp⟩
theorem cutV_nat (ns : List Nat) (lo hi : Option Int) : ∃ ms : List Nat, cutV (ns.map nV) lo hi = ms.map nV ∧ ∀ m ∈ ms, m ∈ ns := by
  unfold cutV
  rw [← List.map_drop, ← List.map_take]
  exact ⟨_, rfl, fun m hm => List.mem_of_mem_drop (List.mem_of_mem_take hm)⟩
end U

/-! a tuple backward: t[::-1] -/
namespace U
open PySem PySem.Spec PyProof.Rows L2 HT
section
variable {prog : Program} {w : World} {A : Around} {E : Value → Shared → Prop} {s : Shared}
theorem back_adjust (n : Nat) : Builtin.Slice.sliceAdjust none none (-1) (n : Int) = ((n : Int) - 1, -1) := rfl
theorem back_places (n : Nat) : Builtin.Slice.slicePlaces ((n : Int) - 1) (-1) (-1) = n := by
  unfold Builtin.Slice.slicePlaces
  have h1 : ¬ ((-1 : Int) > 0) := by omega
  have h2 : -(-1 : Int) = 1 := by omega
  simp only [h1, if_false, h2, Int.ediv_one]
  split <;> omega
theorem back_applied {sl : Addr} {vl vu vs : Value} {n : Nat} {Q : Int × Int × Nat → Shared → Prop} (hs : s.heap.IsSliceOf sl vl vu vs) (pl : IsPart vl none) (pu : IsPart vu none) (ps : IsPart vs (some (-1)))
    (h : Q ((n : Int) - 1, -1, n) s) : wpAny (model prog w) A (Builtin.Slice.sliceApplied (.ref sl) (pure (n : Int))) Q E s := by
  obtain ⟨os, hos, hcs, hds⟩ := id hs
  unfold Builtin.Slice.sliceApplied Builtin.Slice.sliceFields
  refine wpAny_bind (wpAny_bind (wpAny_field hos hds (x := vl) rfl (wpAny_bind (wpAny_field hos hds (x := vu) rfl (wpAny_bind (wpAny_field hos hds (x := vs) rfl (wpAny_pure ?_)))))))
  refine wpAny_bind (slicePart_ ps ?_)
  show wpAny _ _ (if ((-1 : Int) == 0) = true then _ else _) _ _ s
  rw [if_neg (by decide)]
  refine wpAny_bind (slicePart_ pl (wpAny_bind (slicePart_ pu (wpAny_bind (wpAny_pure ?_)))))
  show wpAny _ _ (match Builtin.Slice.sliceAdjust none none (-1) (n : Int) with | (lo, hi) => pure (lo, (-1 : Int), Builtin.Slice.slicePlaces lo hi (-1))) _ _ s
  rw [back_adjust n]
  show wpAny _ _ (pure ((n : Int) - 1, (-1 : Int), Builtin.Slice.slicePlaces ((n : Int) - 1) (-1) (-1))) _ _ s
  rw [back_places]
  exact wpAny_pure h
theorem fm_congr {α β : Type} {f g : α → Option β} : ∀ {l : List α}, (∀ k ∈ l, f k = g k) → l.filterMap f = l.filterMap g
  | [], _ => rfl
  | k :: l, h => by rw [List.filterMap_cons, List.filterMap_cons, h k List.mem_cons_self, fm_congr fun j hj => h j (List.mem_cons_of_mem _ hj)]
theorem back_pick (xs : Array Value) : ((List.range xs.size).filterMap fun (k : Nat) => xs[(((xs.size : Nat) : Int) - 1 + (k : Int) * (-1)).toNat]?).toArray = xs.toList.reverse.toArray := by
  have e : (List.range xs.size).filterMap (fun (k : Nat) => xs[(((xs.size : Nat) : Int) - 1 + (k : Int) * (-1)).toNat]?) = ((List.range xs.size).map fun k => xs.size - 1 - k).filterMap (xs[·]?) := by
    rw [List.filterMap_map]
    refine fm_congr fun k hk => ?_
    have : k < xs.size := List.mem_range.mp hk
    show xs[(((xs.size : Nat) : Int) - 1 + (k : Int) * (-1)).toNat]? = xs[xs.size - 1 - k]?
    congr 1
    omega
  rw [e, PySem.W.krv_range, List.filterMap_reverse, PySem.W.krv_all]
theorem back_item {t sl : Addr} {items : Array Value} {vl vu vs : Value} {Q : Value → Shared → Prop} (ht : IsTup s.heap t items) (hs : s.heap.IsSliceOf sl vl vu vs) (pl : IsPart vl none) (pu : IsPart vu none) (ps : IsPart vs (some (-1)))
    (h : Q (.ref s.heap.objs.size) { s with heap := s.heap.push { cls := .type "tuple", data := .seq items.toList.reverse.toArray } })
    (hsz : items.size ≤ sizeLine) : wpAny (model prog w) A (getItem (.ref t) (.ref sl)) Q E s := by
  have htake : sizeOk (.seq items.toList.reverse.toArray) := by
    show items.toList.reverse.toArray.size ≤ sizeLine
    rw [List.size_toArray, List.length_reverse, Array.length_toList]
    exact hsz
  obtain ⟨os, hos, hcs, hds⟩ := id hs
  have hTs : s.TypeIs (.ref sl) "slice" := ⟨os, hos, hcs⟩
  unfold getItem
  try with_reducible refine wpAny_holding ?_
  first | refine wpAny_bind (wpAny_pure ?_) | skip
  refine wpAny_bind (wpAny_sequenceKey ht.typeIs (by decide) ?_)
  refine wpAny_bind (wpAny_callSpecial?_slot (name := Str.ofString "__getitem__") ht.typeIs PyProof.Rows.slot_tuple_getitem
    (wpAny_call_entry PyProof.Rows.slot_tuple_getitem ht.typeIs entry_tuple_getitem ?_ (args_tuple_getitem _ _)))
  show wpAny _ _ (Builtin.Tuple.tupleItemsOf (.ref t) >>= _) _ _ s
  refine wpAny_bind (tupleItemsOf_ ht ?_)
  refine wpAny_bind (wpAny_typeOf hTs ?_)
  rw [if_pos (by decide)]
  refine wpAny_bind (back_applied hs pl pu ps ?_)
  show wpAny _ _ (if (((items.size : Nat) : Int) - 1 == 0 && (-1 : Int) == 1 && items.size == items.size) = true then _ else _) _ _ s
  rw [if_neg (by rw [show ((-1 : Int) == 1) = false from rfl, Bool.and_false, Bool.false_and]; exact Bool.false_ne_true), back_pick]
  first
    | exact wpAny_bind (m := Builtin.Tuple.tupleExact _) (wpAny_newObj_type (wpAny_pure ⟨_, rfl, wpAny_pure h⟩) htake)
    | exact wpAny_bind (m := Builtin.Tuple.tupleExact _) (wpAny_newObj_type (wpAny_bind (wpAny_pure (wpAny_pure ⟨_, rfl, wpAny_pure h⟩))) htake)
    | exact wpAny_bind (wpAny_bind (m := Builtin.Tuple.tupleExact _) (wpAny_newObj_type (wpAny_pure (wpAny_pure ⟨_, rfl, wpAny_pure h⟩)) htake))
    | exact wpAny_bind (wpAny_bind (m := Builtin.Tuple.tupleExact _) (wpAny_newObj_type (wpAny_pure ⟨_, rfl, wpAny_pure h⟩) htake))
end
def tRevT (K : PySem.W.Frag) (te : TE) : TE := fun σ H Q => te σ H fun x H1 => ∃ a xs, x = .ref a ∧ SqT K H1 a xs ∧ ∀ p, H1 p = none → Q (.ref p) (upd H1 p (.tup xs.reverse))
theorem pe_revT {X : Cx} {e : Expr} {te : TE} {k : Nat} {p1 p2 p3 pos : Pos} (he : PE X e te) : PE X (.Subscript e (.Slice none none (some (.UnaryOp .USub (.Constant (.int 1) k p1) p2)) p3) pos) (tRevT X.K te) := by
  refine ⟨fun pins s σ H Q I h => ?_⟩
  refine Subscript_ (thn (he.run pins s σ H _ I h) fun v s1 ⟨x, H1, I1, r1, q1⟩ => ?_)
  obtain ⟨a, xs, ex, hx, q⟩ := q1
  subst ex
  cases r1
  have hst : PO X (some (.UnaryOp .USub (.Constant (.int 1) k p1) p2)) (tPart (tUn (rU fun i => .int (-i)) (tC (.int 1)))) := po_some (pe_un un_neg pe_int)
  refine wpAny_Slice (thn (po_none.run pins s1 σ H1 (fun o H2 => o = none ∧ H2 = H1) I1 ⟨rfl, rfl⟩) fun vl s2 ⟨l, H2, I2, pl, el, e2⟩ => ?_)
  subst el e2
  refine thn (po_none.run pins s2 σ H2 (fun o H3 => o = none ∧ H3 = H2) I2 ⟨rfl, rfl⟩) fun vu s3 ⟨u, H3, I3, pu, eu, e3⟩ => ?_
  subst eu e3
  refine thn (hst.run pins s3 σ H3 (fun o H4 => o = some (-1) ∧ H4 = H3) I3 ⟨1, rfl, -1, rfl, rfl, rfl⟩) fun vs s4 ⟨o, H4, I4, ps, eo, e4⟩ => ?_
  subst eo e4
  have I5 : Inv X pins σ H4 { s4 with heap := s4.heap.push { cls := .type "slice", data := .fields #[vl, vu, vs] } } := I4.kept (t' := s4.toks) fun b ob q => Heap.get?_push_of_some _ q
  obtain ⟨its, r, ht, hz⟩ := I5.tuple hx
  have hlen := r.length
  show wpAny (model X.prog X.w) X.A (subscriptTail e (.Slice none none (some (.UnaryOp .USub (.Constant (.int 1) k p1) p2)) p3) (.ref a) (.ref s4.heap.objs.size)) (EP X pins σ Q) X.xe { s4 with heap := s4.heap.push { cls := .type "slice", data := .fields #[vl, vu, vs] } }
  refine tail_any (ops := [.ref a, .ref s4.heap.objs.size]) ht.typeIs (PyProof.Rows.slot_tuple_getitem.lookup) ?_ (by with_unfolding_all rfl)
  refine back_item ht (Heap.IsSliceOf.new _ vl vu vs) pl pu ps ?_ (by rw [List.size_toArray]; omega)
  refine ⟨.ref _, _, I5.laid (t' := s4.toks) (o := .tup xs.reverse) (fun b ob q => Heap.get?_push_of_some _ q) (Nat.le_refl _) ?_, rfl, q _ (I5.hok.fresh (Nat.le_refl _))⟩
  exact ⟨by rw [List.length_reverse]; exact hz, _, r.reverse, ⟨_, Heap.get?_push_size _ rfl, rfl, _, rfl⟩⟩
end U

/-! own errors made without arguments; defs that raise -/
namespace U
open PySem PySem.Spec PyProof.Rows L2
theorem pmk_own0 {X : Cx} {pos : Pos} {C : Addr} {bmB : List Value} {B newId initId : String} {x : Str} {p : Pos} (F : ExcBaseFacts B newId initId bmB) (q : PySem.W.excIn X.K C bmB newId = true) (gC : X.mg x = some (.ref C))
    (kC : PySem.W.keepIn X.K (.ref C) = true) (r : Raises X (.ref C)) (hg : Gl X x) (hdb : (x == ("__debug__" : Str)) = false := by decide) :
    PMk X (.Call (.Name x p) [] [] pos) (fun _ H Q => Q (.ref C) none H) := by
  intro pins s σ H Q I h
  refine wpAny_Call_Name_kw (ld_glob I hg gC ?_ hdb)
  refine PySem.W.callWith_K0 I.kIn kC ?_
  show wpAny _ _ (call (.ref C) []) _ _ _
  obtain ⟨bm, N, nm, qn, bs, hdct, sn, sub, ab, col, dd, k0, k1, k2, k3, k5, mN, hC, hN, hni, T⟩ := exc_obj I.kIn q
  refine wpAny_call_exc_subT F T hC hN hni (fun h' e hm => ?_) (Nat.zero_le _)
  exact mk_of I hm r h (I.hok.gone hm.new)

/-- what the written part says of an own error class without __init__, at C -/
structure Ex (K : PySem.W.Frag) (mg : Str → Option Value) (x : Str) (C : Addr) : Prop where
  g : mg x = some (.ref C)
  e : PySem.W.excIn K C [.type "ValueError", .type "Exception", .type "BaseException", .type "object"] "ValueError.__new__" = true
  k : PySem.W.keepIn K (.ref C) = true
  b : PySem.W.subIn K (.ref C) (.type "BaseException") = some true
  t : PySem.W.typeIn K (.ref C) = some (.type "type")
/-- raise C() -/
theorem ps_raise0 {X : Cx} {x : Str} {C : Addr} {W : WX} {p pos pos2 : Pos} (T : Ex X.K X.mg x C) (hc : X.calm = true) (tk : Takes X W) (hg : Gl X x) (hdb : (x == ("__debug__" : Str)) = false := by decide) :
    PS X (.Raise (some (.Call (.Name x p) [] [] pos)) none pos2) (fun _ σ H => W (.ref C) none σ H) :=
  ps_raise hc tk (pmk_own0 PySem.F.excBase_ValueError T.e T.g T.k (raises_own T.b T.t) hg hdb)

/-- as Has, for a def that may raise -/
structure HasX (P : Program) (w : World) (K : PySem.W.Frag) (mg : Str → Option Value) (base : Heap) (x : Str) (k : Nat) (ps : List Str) (sp : Sp) : Prop where
  ex : ∃ f fd, mg x = some (.ref f) ∧ PySem.W.keepIn K (.ref f) = true ∧ Binds K fd ps [] ∧ FnOk P w K mg base (L2.CX P w) k f fd ps sp ∧ Lk K f fd
theorem Df.hasX {P : Program} {w : World} {K : PySem.W.Frag} {mg : Str → Option Value} {base : Heap} {x : Str} {st : Stmt} {ps : List Str} {k : Nat} {sp : Sp} (d : Df K mg x st ps)
    (h : ∀ f fd, Fun K x x st f fd → FnOk P w K mg base (L2.CX P w) k f fd ps sp) : HasX P w K mg base x k ps sp := by
  obtain ⟨f, fd, hm, F, b⟩ := d.ex
  exact ⟨f, fd, hm, F.kp, b, h f fd F, Fun.lk F⟩
def spOr (s1 s2 : Sp) : Sp := fun vs H Q E => s1 vs H Q E ∨ s2 vs H Q E
section
variable {P : Program} {w : World} {K : PySem.W.Frag} {mg : Str → Option Value} {base : Heap} {x : Str} {k j : Nat} {ps : List Str} {s1 s2 : Sp}
theorem Has.toX (h1 : Has P w K mg base x k ps s1) : HasX P w K mg base x k ps s1 := by
  obtain ⟨f, fd, m1, kp, b, F1, oc, od, sl, l1⟩ := h1.ex
  refine ⟨f, fd, m1, kp, b, ⟨F1.len, fun A outer s H args us vs Q E hr he hb hv hs => ?_⟩, _, _, _, l1⟩
  refine codeAny_mono (F1.run A outer s H args us vs Q E hr he hb hv hs) fun r s' hq => ?_
  cases r with
  | error e => exact hq.elim
  | ok fl => cases fl with
    | ret u => exact hq
    | next => exact False.elim hq
    | brk => exact False.elim hq
    | cont => exact False.elim hq
/-- what never raises and what may, of one def -/
theorem Has.or (h1 : Has P w K mg base x k ps s1) (h2 : HasX P w K mg base x k ps s2) : HasX P w K mg base x k ps (spOr s1 s2) := by
  obtain ⟨f, fd, m1, kp, b, F1, oc, od, sl, l1⟩ := h1.ex
  obtain ⟨f2, fd2, m2, _, _, F2, oc2, od2, sl2, l2⟩ := h2.ex
  have e := m1.symm.trans m2
  cases e
  have e := l1.symm.trans l2
  cases e
  refine ⟨f, fd, m1, kp, b, ⟨fun vs H Q E h => h.elim (F1.len _ _ _ _) (F2.len _ _ _ _), fun A outer s H args us vs Q E hr he hb hv hs => ?_⟩, _, _, _, l1⟩
  rcases hs with hs | hs
  · refine codeAny_mono (F1.run A outer s H args us vs Q E hr he hb hv hs) fun r s' hq => ?_
    cases r with
    | error e => exact hq.elim
    | ok fl => cases fl with
      | ret u => exact hq
      | next => exact False.elim hq
      | brk => exact False.elim hq
      | cont => exact False.elim hq
  · exact F2.run A outer s H args us vs Q E hr he hb hv hs
end
section
variable {X : Cx} {k j : Nat} {ps : List Str} {sp : Sp} {x : Str} {p pos : Pos} {e : Expr} {es : List Expr} {t : TA}
/-- a call that may raise -/
theorem pcallS {W : WX} (h : HasX X.prog X.w X.K X.mg X.base x k ps sp) (hr : Room j X.A) (hk : k ≤ j) (hg : Gl X x) (tk : Takes X W) (ha : PA X (e :: es) t) (hdb : (x == ("__debug__" : Str)) = false := by decide)
    (he : starEach (e :: es) X.env = (false, eval e X.env) :: starEach es X.env := by rfl) (hpl : (backTo pos (starEach es X.env)).any (·.1) = false := by rfl) :
    PE X (.Call (.Name x p) (e :: es) [] pos) (tCallS sp (WE W) t) := by
  obtain ⟨f, fd, hm, kp, b, F, _⟩ := h.ex
  exact pe_callS F (hr.mono hk) hg hm kp b (fun σ => passAt tk σ) ha hdb he hpl
end
/-- whether an own error is met by a clause -/
theorem exm_pair {K : PySem.W.Frag} {S D : Addr} {b : Bool} (hb : PySem.W.subIn K (.ref D) (.type "BaseException") = some true) (hi : PySem.W.isClsIn K D = true) (ht : PySem.W.typeIn K (.ref D) = some (.type "type"))
    (hs : PySem.W.subIn K (.ref S) (.ref D) = some b) : PySem.W.exmOne K (.ref S) (.ref D) = some b := by
  have hi' : (PySem.W.clsIn K D).isSome = true := hi
  unfold PySem.W.exmOne
  rw [if_pos (by rw [hb]; rfl)]
  show (if _ = true then PySem.W.subIn K (.ref S) (.ref D) else none) = some b
  rw [if_pos (by rw [hi', ht]; rfl)]
  exact hs
/-- a test of the kinds of the values that are not a tuple -/
theorem wl_nil {K : PySem.W.Frag} {Wout : WX} {D : Ends} {cls : Value} {d : Option Addr} {σ : L2.St} {H : Hp} (h : Wout cls d σ H) : wMany K Wout D [] cls d σ H := h
end U

/-! sorted(d.values()), a dict with int values -/
namespace U
open PySem PySem.Spec PyProof.Rows L2
def tSortVals (td : TE) : TE := fun σ H Q => td σ H fun x H1 => ∃ (a : Addr) (kvs : List (Key × V)) (is : List Int), x = V.ref a ∧ H1 a = some (.dK kvs) ∧ kvs.map (·.2) = is.map V.int ∧
  ∀ (ys : List Int) (p : Addr), ys.Perm is → ys.Pairwise (· ≤ ·) → H1 p = none → Q (.ref p) (upd H1 p (.lst (ys.map V.int)))
theorem int_ones : ∀ {us : List Value} {ks : List Int}, us.length = ks.length → (∀ (j : Nat) (v : Value), us[j]? = some v → ∃ (x : Int) (t : Tok), ks[j]? = some x ∧ v = Value.int x t) → IntsAre us ks := fun h h2 => L2.ints_each h h2
variable {X : Cx} {o : Expr} {p pos apos mpos : Pos} {td : TE}
theorem pe_sortedVals (hc : X.calm = true) (hg : Gl X "sorted") (hm : X.mg "sorted" = none) (hd : PE X o td) (hbase : attributeBase o "values" X.env (eval o X.env) = eval o X.env := by rfl) (hline : (apos.endLine == mpos.line) = true := by rfl)
    (hse : starEach [Expr.Call (.Attribute o "values" apos) [] [] mpos] X.env = [(false, eval (Expr.Call (.Attribute o "values" apos) [] [] mpos) X.env)] := by rfl) :
    PE X (.Call (.Name "sorted" p) [.Call (.Attribute o "values" apos) [] [] mpos] [] pos) (tSortVals td) := by
  refine ⟨fun pins s σ H Q I h => ?_⟩
  refine wpAny_Call_Name_kw (ld_blt I hg hm (u := .builtin "sorted") (by decide +kernel) ?_ (by decide +kernel) (by decide +kernel))
  rw [hse]
  refine PySem.callWith_builtin1 (wpAny_Call_method0_late hbase hline (thn (hd.run pins s σ H _ I h) fun v s1 ⟨x, H1, I1, r1, a, kvs, is, ex, ha, hv, q⟩ => ?_))
  subst ex
  cases r1
  obtain ⟨hz, hsys, vs, rel, dof⟩ := dk_of I1.hok ha
  obtain ⟨ep, dat⟩ := dof.dictAt
  obtain ⟨ob, es, ho, exx, hdat, hko, hpr, hnd⟩ := id dat
  refine ⟨"dict", "dict.values", F.plainAttrs_dict, F.slot_dict_values, F.type_dict_values, ⟨ob, ho, exx.1⟩, fun b e => ?_, Calls.callWith_builtin rfl (PySem.evalArgs_none ?_)⟩
  · cases e
    exact ⟨ob, ho, exx.2.1⟩
  refine call_meetsIn F.slot_dict_values ⟨ob, ho, exx.1⟩ F.entry_dict_values (F.args_dict_values_1 _) (meets_dict_values (mixKind X.prog X.w) a hsys) ⟨⟨vs, dof⟩, ?_⟩
  have hl : vs.length = is.length := by
    have e1 := congrArg List.length hv
    rw [List.length_map, List.length_map] at e1
    rw [← e1]
    exact (KV.length rel).symm
  have h16 : vs.length ≤ sizeLine := by
    rw [← KV.length rel]
    exact hz
  have k1 : ∀ b u, s1.heap.get? b = some u → (s1.heap.push { cls := .type "dict_values", data := .fields #[.ref a] }).get? b = some u := fun b u e => Heap.get?_push_of_some _ e
  have dat1 : (s1.heap.push { cls := .type "dict_values", data := .fields #[.ref a] }).DictAt (mixKind X.prog X.w) a vs ep := dat.keep k1
  refine Calls.call_function_entry PyProof.Rows.kind_sorted PyProof.Rows.plain_sorted PyProof.Rows.entry_sorted (PyProof.Rows.args_sorted1 _) ?_
  unfold Builtin.«sorted»
  refine wpAny_bind (m := checkCount "sorted" 1 1 _) (wpAny_pure ?_)
  refine wpAny_bind (PySem.W.kdu_collect (A := X.A.in1) (PySem.W.kdl_values (r := s1.heap.objs.size) (d := a) (knd := mixKind X.prog X.w) (kvs := vs) (ep := ep)) (I.ok.hd hc) ⟨⟨_, Heap.get?_push_size _ rfl, rfl, rfl⟩, dat1⟩ h16 fun h' tk acc hk hacc => ?_)
  have hal : acc.toList.length = is.length := by rw [Array.length_toList, hacc.1, hl]
  have hS : IntsAre acc.toList is := int_ones hal fun j v e => by
    obtain ⟨k, hk2⟩ := hacc.2 j v (by rw [← Array.getElem?_toList]; exact e)
    obtain ⟨x, h1, h2⟩ := KV.at' rel hk2
    have e1 : (kvs.map (·.2))[j]? = some x := by
      rw [List.getElem?_map, h1]
      rfl
    rw [hv, List.getElem?_map] at e1
    obtain ⟨i, hj, e2⟩ := Option.map_eq_some_iff.mp e1
    subst e2
    obtain ⟨t, e3⟩ := h2
    exact ⟨i, t, hj, e3⟩
  have I2 : Inv X pins σ H1 { s1 with heap := h', toks := tk } := I1.kept fun b u e => hk b u (k1 b u e)
  refine wpAny_bind (wpAny_newList ?_ (by rw [hal, ← hl]; exact h16))
  have hoL : (h'.push (seqObj "list" acc.toList.toArray 0)).get? h'.objs.size = some (seqObj "list" acc.toList.toArray 0) := Heap.get?_push_size _ rfl
  refine wpAny_bind (wpAny_holding (wpAny_call_entry PyProof.Rows.slot_list_sort ⟨_, hoL, rfl⟩ PyProof.Rows.entry_list_sort
    (SrtO.list_sort_ord (s := { s1 with heap := h'.push (seqObj "list" acc.toList.toArray 0), toks := tk }) SrtO.swo_int hoL (by rw [hal, ← hl]; exact h16) (fun h2 => SrtO.ints_sortable hS h2) fun out g1 g2 => ⟨_, rfl, ?_⟩) (PyProof.Rows.args_list_sort _)))
  obtain ⟨f1, f2, f3⟩ := SrtO.ints_out hS g1 g2
  obtain ⟨e', he'⟩ := PyProof.Rows.sortedHeap_at (vs := acc.toList) (out := out.toArray) hoL
  have hlen : ((out.map SrtO.iv).map V.int).length ≤ sizeLine := by
    rw [List.length_map, f2.length_eq, ← hl]
    exact h16
  refine wpAny_pure ⟨_, rfl, .ref h'.objs.size, upd H1 h'.objs.size (.lst ((out.map SrtO.iv).map V.int)), I2.laid (t' := tk) (fun b u e => ?_) (Nat.le_refl _)
    (show ObjOk X.prog X.w _ _ _ (.lst ((out.map SrtO.iv).map V.int)) from ⟨hlen, out, e', vals_of_ints f1, he'⟩), rfl, q _ _ f2 f3 (I2.hok.fresh (Nat.le_refl _))⟩
  have hb : b < h'.objs.size := Heap.lt_size e
  rw [PyProof.Rows.sortedHeap_old (Nat.ne_of_lt hb) (by rw [size_push']; exact Nat.lt_succ_of_lt hb)]
  exact Heap.get?_push_of_some _ e
/-! ### dicts of numbers -/
def kvN (hs : List (Nat × Nat)) : List (Key × V) := hs.map fun x => (Sum.inl (x.1 : Int), nV x.2)
theorem valV_ex {kvs : List (Key × V)} {k : Key} {v : V} (h : valV kvs k = some v) : ∃ kv ∈ kvs, kv.1 = k ∧ kv.2 = v := by
  unfold valV at h
  obtain ⟨kv, h1, h2⟩ := Option.map_eq_some_iff.mp h
  exact ⟨kv, List.mem_of_find?_eq_some h1, (by
    have h3 := List.find?_some h1
    exact of_decide_eq_true h3), h2⟩
theorem valV_no {kvs : List (Key × V)} {k : Key} (h : valV kvs k = none) : ∀ kv ∈ kvs, kv.1 ≠ k := by
  unfold valV at h
  rw [Option.map_eq_none_iff] at h
  intro kv hkv e
  have := List.find?_eq_none.mp h kv hkv
  exact this (decide_eq_true e)
theorem putK_no {kvs : List (Key × V)} {k : Key} {v : V} (h : valV kvs k = none) : putK kvs k v = kvs ++ [(k, v)] := by
  unfold putK
  refine if_neg fun z => ?_
  obtain ⟨kv, h1, h2⟩ := List.any_eq_true.mp z
  exact valV_no h kv h1 (of_decide_eq_true h2)
theorem kvN_has {hs : List (Nat × Nat)} {h : Nat} {v : V} (e : valV (kvN hs) (Sum.inl (h : Int)) = some v) : ∃ a, (h, a) ∈ hs := by
  obtain ⟨kv, h1, h2, _⟩ := valV_ex e
  obtain ⟨x, hx, rfl⟩ := List.mem_map.mp h1
  injection h2 with h2
  have : x.1 = h := by omega
  exact ⟨x.2, by rw [← this]; exact hx⟩
theorem kvN_no {hs : List (Nat × Nat)} {h : Nat} (e : valV (kvN hs) (Sum.inl (h : Int)) = none) (a : Nat) : (h, a) ∉ hs := fun m =>
  valV_no e _ (List.mem_map.mpr ⟨(h, a), m, rfl⟩) rfl
/-- a dict of the first numbers that are in the relation with each key -/
structure FirstN (R : Nat → Nat → Prop) (i : Nat) (hs : List (Nat × Nat)) : Prop where
  len : hs.length ≤ i
  ok : ∀ x ∈ hs, R x.2 x.1
  all : ∀ k v, k < i → R k v → ∃ a, (v, a) ∈ hs
theorem FirstN.start {R : Nat → Nat → Prop} : FirstN R 0 [] := ⟨Nat.le_refl _, fun _ h => absurd h List.not_mem_nil, fun _ _ h => absurd h (Nat.not_lt_zero _)⟩
theorem FirstN.skip {R : Nat → Nat → Prop} {i : Nat} {hs : List (Nat × Nat)} (h : FirstN R i hs) (n : ∀ v, R i v → ∃ a, (v, a) ∈ hs) : FirstN R (i + 1) hs :=
  ⟨Nat.le_succ_of_le h.len, h.ok, fun k v hk f => by
    rcases Nat.lt_succ_iff_lt_or_eq.mp hk with z | z
    · exact h.all k v z f
    · subst z
      exact n v f⟩
theorem FirstN.snoc {R : Nat → Nat → Prop} {i v : Nat} {hs : List (Nat × Nat)} (h : FirstN R i hs) (f : R i v) (one : ∀ u, R i u → u = v) : FirstN R (i + 1) (hs ++ [(v, i)]) where
  len := by
    rw [List.length_append, List.length_singleton]
    have := h.len
    omega
  ok := fun x hx => by
    rcases List.mem_append.mp hx with hx | hx
    · exact h.ok x hx
    · rw [List.mem_singleton.mp hx]
      exact f
  all := fun k u hk g => by
    rcases Nat.lt_succ_iff_lt_or_eq.mp hk with z | z
    · obtain ⟨a, ha⟩ := h.all k u z g
      exact ⟨a, List.mem_append_left _ ha⟩
    · subst z
      rw [one u g]
      exact ⟨k, List.mem_append_right _ List.mem_cons_self⟩
theorem kvN_get {hs : List (Nat × Nat)} {v a : Nat} (h : (v, a) ∈ hs) : ∃ b, (v, b) ∈ hs ∧ valV (kvN hs) (Sum.inl (v : Int)) = some (nV b) := by
  cases e : valV (kvN hs) (Sum.inl (v : Int)) with
  | none => exact absurd h (kvN_no e a)
  | some w =>
    obtain ⟨kv, h1, h2, h3⟩ := valV_ex e
    obtain ⟨x, hx, rfl⟩ := List.mem_map.mp h1
    injection h2 with h2
    have e1 : x.1 = v := by omega
    refine ⟨x.2, by rw [← e1]; exact hx, ?_⟩
    rw [← h3]
def tSortKeys (td : TE) : TE := fun σ H Q => td σ H fun x H1 => ∃ (a : Addr) (kvs : List (Key × V)) (is : List Int), x = V.ref a ∧ H1 a = some (.dK kvs) ∧ kvs.map (·.1) = is.map Sum.inl ∧
  ∀ (ys : List Int) (p : Addr), ys.Perm is → ys.Pairwise (· ≤ ·) → H1 p = none → Q (.ref p) (upd H1 p (.lst (ys.map V.int)))
theorem pe_sortedKeys (hc : X.calm = true) (hg : Gl X "sorted") (hm : X.mg "sorted" = none) (hd : PE X o td) (hbase : attributeBase o "keys" X.env (eval o X.env) = eval o X.env := by rfl) (hline : (apos.endLine == mpos.line) = true := by rfl)
    (hse : starEach [Expr.Call (.Attribute o "keys" apos) [] [] mpos] X.env = [(false, eval (Expr.Call (.Attribute o "keys" apos) [] [] mpos) X.env)] := by rfl) :
    PE X (.Call (.Name "sorted" p) [.Call (.Attribute o "keys" apos) [] [] mpos] [] pos) (tSortKeys td) := by
  refine ⟨fun pins s σ H Q I h => ?_⟩
  refine wpAny_Call_Name_kw (ld_blt I hg hm (u := .builtin "sorted") (by decide +kernel) ?_ (by decide +kernel) (by decide +kernel))
  rw [hse]
  refine PySem.callWith_builtin1 (wpAny_Call_method0_late hbase hline (thn (hd.run pins s σ H _ I h) fun v s1 ⟨x, H1, I1, r1, a, kvs, is, ex, ha, hv, q⟩ => ?_))
  subst ex
  cases r1
  obtain ⟨hz, hsys, vs, rel, dof⟩ := dk_of I1.hok ha
  obtain ⟨ep, dat⟩ := dof.dictAt
  obtain ⟨ob, es, ho, exx, hdat, hko, hpr, hnd⟩ := id dat
  refine ⟨"dict", "dict.keys", F.plainAttrs_dict, F.slot_dict_keys, F.type_dict_keys, ⟨ob, ho, exx.1⟩, fun b e => ?_, Calls.callWith_builtin rfl (PySem.evalArgs_none ?_)⟩
  · cases e
    exact ⟨ob, ho, exx.2.1⟩
  refine call_meetsIn F.slot_dict_keys ⟨ob, ho, exx.1⟩ F.entry_dict_keys (F.args_dict_keys_1 _) (PySem.W.kdl_meets_keys (mixKind X.prog X.w) a hsys) ⟨⟨vs, dof⟩, ?_⟩
  have hkeys : vs.map (·.1) = is.map Sum.inl := rel.keys.symm.trans hv
  have hl : vs.length = is.length := by
    have e := congrArg List.length hkeys
    rw [List.length_map, List.length_map] at e
    exact e
  have h16 : vs.length ≤ sizeLine := by
    rw [← KV.length rel]
    exact hz
  have k1 : ∀ b u, s1.heap.get? b = some u → (s1.heap.push { cls := .type "dict_keys", data := .fields #[.ref a] }).get? b = some u := fun b u e => Heap.get?_push_of_some _ e
  have dat1 : (s1.heap.push { cls := .type "dict_keys", data := .fields #[.ref a] }).DictAt (mixKind X.prog X.w) a vs ep := dat.keep k1
  refine Calls.call_function_entry PyProof.Rows.kind_sorted PyProof.Rows.plain_sorted PyProof.Rows.entry_sorted (PyProof.Rows.args_sorted1 _) ?_
  unfold Builtin.«sorted»
  refine wpAny_bind (m := checkCount "sorted" 1 1 _) (wpAny_pure ?_)
  refine wpAny_bind (PySem.W.kdu_collect (A := X.A.in1) (PySem.W.kdl_keys (r := s1.heap.objs.size) (d := a) (knd := mixKind X.prog X.w) (kvs := vs) (ep := ep)) (I.ok.hd hc) ⟨⟨_, Heap.get?_push_size _ rfl, rfl, rfl⟩, dat1⟩ h16 fun h' tk acc hk hacc => ?_)
  have hal : acc.toList.length = is.length := by rw [Array.length_toList, hacc.1, hl]
  have hS : IntsAre acc.toList is := int_ones hal fun j v e => by
    obtain ⟨k, x, hk2, hk3⟩ := hacc.2 j v (by rw [← Array.getElem?_toList]; exact e)
    have e3 : (vs.map (·.1))[j]? = some k := by
      rw [List.getElem?_map, hk2]
      rfl
    rw [hkeys, List.getElem?_map] at e3
    obtain ⟨i, hj, e2⟩ := Option.map_eq_some_iff.mp e3
    subst e2
    rcases keyIs_shape (show keyIs (Sum.inl i) v = true from hk3) with ⟨z, t, ek, ev⟩ | ⟨z, t, ek, ev⟩
    · cases ek
      exact ⟨i, t, hj, ev⟩
    · cases ek
  have I2 : Inv X pins σ H1 { s1 with heap := h', toks := tk } := I1.kept fun b u e => hk b u (k1 b u e)
  refine wpAny_bind (wpAny_newList ?_ (by rw [hal, ← hl]; exact h16))
  have hoL : (h'.push (seqObj "list" acc.toList.toArray 0)).get? h'.objs.size = some (seqObj "list" acc.toList.toArray 0) := Heap.get?_push_size _ rfl
  refine wpAny_bind (wpAny_holding (wpAny_call_entry PyProof.Rows.slot_list_sort ⟨_, hoL, rfl⟩ PyProof.Rows.entry_list_sort
    (SrtO.list_sort_ord (s := { s1 with heap := h'.push (seqObj "list" acc.toList.toArray 0), toks := tk }) SrtO.swo_int hoL (by rw [hal, ← hl]; exact h16) (fun h2 => SrtO.ints_sortable hS h2) fun out g1 g2 => ⟨_, rfl, ?_⟩) (PyProof.Rows.args_list_sort _)))
  obtain ⟨f1, f2, f3⟩ := SrtO.ints_out hS g1 g2
  obtain ⟨e', he'⟩ := PyProof.Rows.sortedHeap_at (vs := acc.toList) (out := out.toArray) hoL
  have hlen : ((out.map SrtO.iv).map V.int).length ≤ sizeLine := by
    rw [List.length_map, f2.length_eq, ← hl]
    exact h16
  refine wpAny_pure ⟨_, rfl, .ref h'.objs.size, upd H1 h'.objs.size (.lst ((out.map SrtO.iv).map V.int)), I2.laid (t' := tk) (fun b u e => ?_) (Nat.le_refl _)
    (show ObjOk X.prog X.w _ _ _ (.lst ((out.map SrtO.iv).map V.int)) from ⟨hlen, out, e', vals_of_ints f1, he'⟩), rfl, q _ _ f2 f3 (I2.hok.fresh (Nat.le_refl _))⟩
  have hb : b < h'.objs.size := Heap.lt_size e
  rw [PyProof.Rows.sortedHeap_old (Nat.ne_of_lt hb) (by rw [size_push']; exact Nat.lt_succ_of_lt hb)]
  exact Heap.get?_push_of_some _ e
end U

/-! where it is known that no repr is under way: the law itself -/
namespace U
open PySem PySem.Spec PyProof.Rows L2
section
variable {P : Program} {w : World} {K : PySem.W.Frag} {mg : Str → Option Value} {base : Heap}
/-- a def's promise to a caller that stands in no repr -/
structure FnG (P : Program) (w : World) (K : PySem.W.Frag) (mg : Str → Option Value) (base : Heap) (k : Nat) (f : Addr) (fd : FuncData) (ps : List Str) (sp : Sp) : Prop where
  len : ∀ vs H Q E, sp vs H Q E → vs.length = ps.length
  run : ∀ (A : Around) (outer : List Env) (s : Shared) (H : Hp) (args : Args) (us : List Value) (vs : List V) (Q : VK) (E : XK), A.guards = some [] → Room k A → Env0 P w K mg base A outer s H → BindsTo s fd args (ps.zip us) → Vals vs us → sp vs H Q E →
    codeAny (model P w) A (.call (.ref f) args) (CR CX0 outer P w H s Q E) s
theorem Fun.okG {x qual : Str} {st : Stmt} {f : Addr} {fd : FuncData} {N ps : List Str} {k : Nat} {sp : Sp} (F : Fun K x qual st f fd) (S : FnScope N ps (defScope st)) (len : ∀ vs H Q E, sp vs H Q E → vs.length = ps.length)
    (body : ∀ (cdv : Value) (A : Around) (outer : List Env) (s : Shared) (H : Hp) (vs : List V) (Q : VK) (E : XK), A.guards = some [] → Room k (A.deeper (envOfC qual (defScope st) s.heap.objs.size f cdv)) → sp vs H Q E →
      ∃ t, PSs (cxOf CX0 P w K mg base N qual (defScope st) f cdv A outer s H E).nox (defBody st) t ∧ t { nx := fun _ H' => Q .non H', rt := Q } (start N vs) H) : FnG P w K mg base (k + 1) f fd ps sp := by
  obtain ⟨oc, od, kV, doc, pm, an, cdv, ct, osl, rfl, at_, code⟩ := F.ex
  refine ⟨len, ?_⟩
  intro A outer s H args us vs Q E hg room env bnd vals promise
  have old : ∀ b o, base.get? b = some o → s.heap.get? b = some o := fun b o e => (env.bs b o e).1
  have kin := env.mod.kin.keeps old
  obtain ⟨t, reads, goal⟩ := body cdv A outer s H vs Q E hg (room.deeper _) promise
  apply codeAny_call_function room.depth (kin _ _ at_) rfl S.co S.gen rfl (PySem.W.codeRec_of kin code)
  apply bnd
  apply wpAny_newFunctionEnv_cells S.kind
  · rintro ⟨n, v⟩ hn
    exact (S.par n (List.of_mem_zip hn).1).imp id fun q => And.intro q (PySem.W.cellsFrom_some _ _ _ (Or.inl q))
  rintro _ rfl s1 made
  refine ⟨(env.mod.nolimit.keeps old).keeps made.toInCall.keep, codeAny_func ?_⟩
  refine wpAny_mono (reads.nox.run [] s1 _ H _ (inv_start S room.hd env (len _ _ _ _ promise) vals made) goal) ?_ fun _ _ h => h
  rintro (_ | _ | _ | u) s2 h
  · exact h.elim fun _ h => h.elim fun H' h => ⟨.non, H', h.1.os, h.1.bare, h.1.base, h.1.hok, rfl, h.2⟩
  · exact h.elim fun _ h => h.elim fun _ h => h.2.elim
  · exact h.elim fun _ h => h.elim fun _ h => h.2.elim
  · obtain ⟨v, _, H', J, rel, q⟩ := h
    exact ⟨v, H', J.os, J.bare, J.base, J.hok, rel, q⟩
end
/-- a def that keeps its promise where no repr is under way -/
structure HasG (P : Program) (w : World) (K : PySem.W.Frag) (mg : Str → Option Value) (base : Heap) (x : Str) (k : Nat) (ps : List Str) (sp : Sp) : Prop where
  ex : ∃ f fd, mg x = some (.ref f) ∧ PySem.W.keepIn K (.ref f) = true ∧ Binds K fd ps [] ∧ FnG P w K mg base k f fd ps sp ∧ Lk K f fd
theorem Df.hasG {P : Program} {w : World} {K : PySem.W.Frag} {mg : Str → Option Value} {base : Heap} {x : Str} {st : Stmt} {ps : List Str} {k : Nat} {sp : Sp} (d : Df K mg x st ps)
    (h : ∀ f fd, Fun K x x st f fd → FnG P w K mg base k f fd ps sp) : HasG P w K mg base x k ps sp := by
  obtain ⟨f, fd, named, F, bound⟩ := d.ex
  exact ⟨f, fd, named, F.kp, bound, h f fd F, Fun.lk F⟩
section
variable {X : Cx} {k j : Nat} {ps : List Str} {sp : Sp} {x : Str} {p pos : Pos} {e : Expr} {es : List Expr} {t : TA}
theorem pcallG (h : HasG X.prog X.w X.K X.mg X.base x k ps sp) (quiet : X.A.guards = some []) (hr : Room j X.A) (hk : k ≤ j) (hg : Gl X x) (ha : PA X (e :: es) t) (hdb : (x == ("__debug__" : Str)) = false := by decide)
    (he : starEach (e :: es) X.env = (false, eval e X.env) :: starEach es X.env := by rfl) (hpl : (backTo pos (starEach es X.env)).any (·.1) = false := by rfl) :
    PE X (.Call (.Name x p) (e :: es) [] pos) (tCall sp [] E0 t) := by
  obtain ⟨f, fd, named, kept, bound, F, _⟩ := h.ex
  constructor
  intro pins s σ H Q I goal
  apply wpAny_Call_Name_kw
  apply ld_glob I hg named _ hdb
  apply PySem.W.callWith_K (h₀ := X.base) I.ok.mod.kin kept _ he hpl
  refine thn (ha.run pos pins s σ H _ I goal) ?_
  rintro us s1 ⟨vs, H1, I1, rel, prom⟩
  rw [List.append_nil] at prom
  refine ⟨I1.kIn, wpAny_call (codeAny_mono (F.run X.A X.stack s1 H1 ⟨us, []⟩ us vs Q E0 quiet (hr.mono hk) I1.env0 ?_ rel prom) ?_)⟩
  · have many : us.length = ps.length := rel.length.symm.trans (F.len _ _ _ _ prom)
    have := bound s1 us I1.kIn (by rw [List.append_nil]; exact many)
    rwa [List.append_nil] at this
  · rintro (bad | _ | _ | _ | u) s2 out
    · exact pass0 pins σ H1 s1 bad s2 I1 out
    · exact out.elim
    · exact out.elim
    · exact out.elim
    · exact I1.after out
end
theorem bo_repr : bootBuiltins "repr" = some (.builtin "repr") := by decide +kernel
/-- repr of a tuple or list of plain values -/
def rRepr (K : PySem.W.Frag) : List V → Hp → VK → Prop := fun xs H Q => ∃ (a : Addr) (d : PyData), xs = [.ref a] ∧ Dp K H (.ref a) d ∧ d.showable = true ∧ d.hasDict = false ∧ d.depth ≤ 8 ∧ d.shown.length ≤ sizeLine ∧ Q (.str d.shown) H
theorem k_repr {X : Cx} {K : PySem.W.Frag} (h : X.K = K) (hg : X.A.guards = some []) (hu : X.A.units + 64 < cLine) : CallR X (.builtin "repr") (rRepr K) := by
  subst h
  intro pins s σ H xs us Q I r ⟨a, d, e, hd, hs, hnd, hdp, hsz, q⟩
  subst e
  obtain ⟨u, rfl, ru⟩ := vals1 r
  obtain ⟨as, rd⟩ := Dp.reads I d _ _ hd ru
  cases ru
  exact repr_of_reads' rd hs (PyData.noDict_hsm hnd) hg (by omega) (fun _ _ e => e) (fun h' u tk hk => ⟨.str d.shown, H, I.kept hk, ⟨_, rfl⟩, q⟩) hsz
/-- sorted(t), a tuple of ints -/
def rSortedT (K : PySem.W.Frag) : List V → Hp → VK → Prop := fun vs H Q => ∃ (a : Addr) (ns : List Int), vs = [V.ref a] ∧ SqT K H a (ns.map V.int) ∧
  ∀ (ns' : List Int) (p : Addr), ns'.Perm ns → ns'.Pairwise (· ≤ ·) → H p = none → Q (.ref p) (upd H p (.lst (ns'.map V.int)))
theorem k_sortedT {X : Cx} {K : PySem.W.Frag} (h : X.K = K) : CallR X (.builtin "sorted") (rSortedT K) := by
  subst h
  intro pins s σ H xs us Q I r ⟨a, is, e, ha, q⟩
  subst e
  obtain ⟨u, rfl, ru⟩ := vals1 r
  cases ru
  obtain ⟨its, rv, ht, hz⟩ := I.tuple ha
  have hS : IntsAre its is := rv.ints
  have h16 : its.length ≤ sizeLine := by rw [← rv.length]; exact hz
  obtain ⟨o, ho, hc, n, hd⟩ := id ht
  refine Calls.call_function_entry PyProof.Rows.kind_sorted PyProof.Rows.plain_sorted PyProof.Rows.entry_sorted (PyProof.Rows.args_sorted1 _) ?_
  unfold Builtin.«sorted»
  refine wpAny_bind (m := checkCount "sorted" 1 1 _) (wpAny_pure ?_)
  refine wpAny_bind (wpAny_collect_seq a (.inr rfl) ho hc hd (fun h' hk => ?_) (by rw [List.size_toArray]; exact h16))
  have I2 : Inv X pins σ H { s with heap := h' } := I.kept (t' := s.toks) hk
  have e0 : its.toArray.toList = its := rfl
  rw [e0]
  refine wpAny_bind (wpAny_newList ?_ h16)
  have hoL : (h'.push (seqObj "list" its.toArray 0)).get? h'.objs.size = some (seqObj "list" its.toArray 0) := Heap.get?_push_size _ rfl
  refine wpAny_bind (wpAny_holding (wpAny_call_entry PyProof.Rows.slot_list_sort ⟨_, hoL, rfl⟩ PyProof.Rows.entry_list_sort
    (SrtO.list_sort_ord (s := { s with heap := h'.push (seqObj "list" its.toArray 0) }) SrtO.swo_int hoL h16 (fun h2 => SrtO.ints_sortable hS h2) fun out g1 g2 => ⟨_, rfl, ?_⟩) (PyProof.Rows.args_list_sort _)))
  obtain ⟨f1, f2, f3⟩ := SrtO.ints_out hS g1 g2
  obtain ⟨e', he'⟩ := PyProof.Rows.sortedHeap_at (vs := its) (out := out.toArray) hoL
  have hlen : ((out.map SrtO.iv).map V.int).length ≤ sizeLine := by
    rw [List.length_map, f2.length_eq]
    rw [List.length_map] at hz
    exact hz
  refine wpAny_pure ⟨_, rfl, .ref h'.objs.size, upd H h'.objs.size (.lst ((out.map SrtO.iv).map V.int)), I2.laid (t' := s.toks) (fun b u e => ?_) (Nat.le_refl _)
    (show ObjOk X.prog X.w _ _ _ (.lst ((out.map SrtO.iv).map V.int)) from ⟨hlen, out, e', vals_of_ints f1, he'⟩), rfl, q _ _ f2 f3 (I2.hok.fresh (Nat.le_refl _))⟩
  have hb : b < h'.objs.size := Heap.lt_size e
  rw [PyProof.Rows.sortedHeap_old (Nat.ne_of_lt hb) (by rw [size_push']; exact Nat.lt_succ_of_lt hb)]
  exact Heap.get?_push_of_some _ e
/-- a tuple that the text sets at its top -/
structure GTup (K : PySem.W.Frag) (mg : Str → Option Value) (x : Str) (A : Addr) (xs : List V) : Prop where
  g : mg x = some (.ref A)
  t : ∀ H, SqT K H A xs
theorem kit_str {K : PySem.W.Frag} {s : String} (m : s ∈ ["NoneType", "bool", "int", "str", "list", "tuple", "dict"]) : PySem.W.kitOne K (.type s) (.type "str") = some (s == "str") := by
  simp only [List.mem_cons, List.not_mem_nil, or_false] at m
  rcases m with rfl | rfl | rfl | rfl | rfl | rfl | rfl <;> exact kit_ty (by decide +kernel)
theorem k_min {X : Cx} {K : PySem.W.Frag} (h : X.K = K) (hc : X.calm = true) : CallR X (.builtin "min") (rMin K) := by subst h; exact cr_min hc
theorem k_max {X : Cx} {K : PySem.W.Frag} (h : X.K = K) (hc : X.calm = true) : CallR X (.builtin "max") (rMax K) := by subst h; exact cr_max hc
/-! ### the top: what the law finds there -/
section
variable {P : Program} {w : World} {K : PySem.W.Frag} {mg mb : Str → Option Value} {a : Addr} {s₁ : Shared} {vs : List Value} {ns : List Int}
/-- what is known of the script, if it's no object of the written part -/
noncomputable def scriptH (K : PySem.W.Frag) (a : Addr) (vs : List Value) (ns : List Int) : Hp := fun b => open Classical in if b = a ∧ K.lookup a = none then some (.frz { cls := .type "list", data := .seq vs.toArray } (.lst (ns.map V.int))) else none
theorem scriptH_some {b : Addr} {o : HO} (h : scriptH K a vs ns b = some o) : b = a ∧ K.lookup a = none ∧ o = .frz { cls := .type "list", data := .seq vs.toArray } (.lst (ns.map V.int)) := by
  unfold scriptH at h
  split at h
  · rename_i c
    exact ⟨c.1, c.2, (Option.some.inj h).symm⟩
  · cases h
theorem scriptH_none {b : Addr} (h : b = a → K.lookup a ≠ none) : scriptH K a vs ns b = none := by
  cases e : scriptH K a vs ns b with
  | none => rfl
  | some o => exact absurd (scriptH_some e).2.1 (h (scriptH_some e).1)
theorem scriptH_seq (KX : K.In s₁.heap) (ha : s₁.heap.get? a = some { cls := .type "list", data := .seq vs.toArray }) (hi : IntsAre vs ns) (hl : ns.length ≤ sizeLine) : SqL K (scriptH K a vs ns) a (ns.map V.int) := by
  cases hk : K.lookup a with
  | none => exact .inl (.inr ⟨{ cls := .type "list", data := .seq vs.toArray }, if_pos ⟨rfl, hk⟩⟩)
  | some o =>
    have e := (KX a o hk).symm.trans ha
    cases e
    exact .inr ⟨_, vs.toArray, _, hk, rfl, rfl, rfl, by rw [List.size_toArray, hi.length]; exact hl, vals_ints hi⟩
theorem scriptH_ok (ha : s₁.heap.get? a = some { cls := .type "list", data := .seq vs.toArray }) (hi : IntsAre vs ns) (hl : ns.length ≤ sizeLine) : HOk P w (scriptH K a vs ns) s₁.heap := fun b u e => by
  obtain ⟨rfl, _, rfl⟩ := scriptH_some e
  exact ⟨ha, (by rw [List.length_map]; exact hl), vs, _, vals_ints hi, ha⟩
/-- a dict is not the script -/
theorem scriptH_ns {b : Addr} {m : Str → Option Value} (ha : s₁.heap.get? a = some { cls := .type "list", data := .seq vs.toArray }) (h : s₁.heap.Ns b m) : (hidT s₁.heap (scriptH K a vs ns)).Ns b m := by
  obtain ⟨o, es, ep, e, d, r⟩ := h
  refine ⟨o, es, ep, hidT_get e (scriptH_none fun z => ?_), d, r⟩
  subst z
  rw [ha] at e
  cases e
  cases (show Data.seq vs.toArray _ = Data.dict es ep from d)
theorem scriptH_kin (KX : K.In s₁.heap) : K.In (hidT s₁.heap (scriptH K a vs ns)) := fun b o e => hidT_get (KX b o e) (scriptH_none fun z => by
  subst z
  rw [e]
  exact fun z => by cases z)
theorem law_callG {k : Nat} {fa : Addr} {fd : FuncData} {x : Str} {sp : Sp} (KX : K.In s₁.heap) (hns : s₁.heap.Ns mainGlobals mg) (hb : s₁.heap.Ns builtinsNs mb) (hbb : ∀ x : Str, x ≠ "__name__" → mb x = bootBuiltins x) (hlim : s₁.heap.NoLimit) (hg : s₁.gens = #[])
    (ha : s₁.heap.get? a = some { cls := .type "list", data := .seq vs.toArray }) (hi : IntsAre vs ns) (hl : ns.length ≤ sizeLine) (hr : Room k callerA)
    (F : ∀ base : Heap, K.In base → base.Ns mainGlobals mg → FnG P w K mg base k fa fd [x] sp) (hbind : ∀ (s : Shared) (u : Value), BindsTo s fd ⟨[u], []⟩ [(x, u)])
    (hsp : ∀ H : Hp, SqL K H a (ns.map V.int) → sp [.ref a] H (fun v _ => v = .bl true) fun _ _ _ => False) :
    codeAny (model P w) callerA (.call (.ref fa) ⟨[.ref a], []⟩) (fun r s' => r = .ok (.ret (.bool true)) ∧ OldK s₁.heap s'.heap ∧ s'.os = s₁.os ∧ AllBare s'.gens) s₁ := by
  have kin := scriptH_kin (vs := vs) (ns := ns) (a := a) KX
  have ok : HOk P w (scriptH K a vs ns) s₁.heap := scriptH_ok ha hi hl
  have lim : (hidT s₁.heap (scriptH K a vs ns)).NoLimit := by
    obtain ⟨mc, h1, h2⟩ := hlim
    exact ⟨mc, scriptH_ns ha h1, h2⟩
  have env : Env0 P w K mg (hidT s₁.heap (scriptH K a vs ns)) callerA [] s₁ (scriptH K a vs ns) :=
    { frames := rfl
      mod := ⟨kin, scriptH_ns ha hns, ⟨mb, scriptH_ns ha hb, hbb⟩, lim⟩
      bs := fun _ _ e => of_hidT e
      bsz := Nat.le_of_eq (hidT_size _ _)
      funs := trivial
      frf := fun _ hb => (List.not_mem_nil hb).elim
      hok := ok
      bare := .of_eq hg }
  refine codeAny_mono ((F _ kin (scriptH_ns ha hns)).run callerA [] s₁ _ ⟨[.ref a], []⟩ [.ref a] [.ref a] _ _ rfl hr env (hbind s₁ (.ref a)) (.cons rfl .nil) (hsp _ (scriptH_seq KX ha hi hl))) ?_
  rintro (e | _ | _ | _ | u) s' h
  · exact h.elim
  · exact h.elim
  · exact h.elim
  · exact h.elim
  · obtain ⟨_, H', os, bare, un, ok', rel, rfl⟩ := h
    cases rel
    refine ⟨rfl, OldK.of_keep fun b o e => ?_, os, bare⟩
    cases q : scriptH K a vs ns b with
    | none => exact un.keep b o e q List.not_mem_nil List.not_mem_nil
    | some u =>
      obtain ⟨rfl, _, rfl⟩ := scriptH_some q
      rw [ha] at e
      cases e
      exact (ok' _ _ (un.frzs _ _ _ q)).1
end
/-- the end: as the library's walk_of, for a law that asks for repr itself -/
theorem walk_ofG {l : PySem.W.OpenLaw} {n k : Nat} {q : Program} {loose : List Str} {XP : (Str → Option Value) → Heap → Prop} {YP : World → Heap → Prop} {d : DefRec} {K : Params → PySem.W.Frag} {sp : World → Sp} {x : Str}
    (hn : l.most = some n) (hn2 : n ≤ sizeLine) (hdf : d.params.defaults = []) (hr : Room k callerA)
    (hY : ∀ (w : World) (h : Heap), YP w h → (K w.params).In h)
    (F : ∀ (w : World) (mg : Str → Option Value) (fa : Addr) (h : Heap), (K w.params).In h → h.Ns mainGlobals mg → mg d.name = some (.ref fa) →
      ∃ fd : FuncData, (∀ (s : Shared) (u : Value), BindsTo s fd ⟨[u], []⟩ [(x, u)]) ∧
        ∀ base : Heap, (K w.params).In base → base.Ns mainGlobals mg → FnG l.prog w (K w.params) mg base k fa fd [x] (sp w))
    (hsp : ∀ (w : World) (H : Hp) (a : Addr) (ns : List Int), ns.length ≤ n → SqL (K w.params) H a (ns.map V.int) → sp w [.ref a] H (fun v _ => v = .bl true) fun _ _ _ => False) :
    PySem.W.WalkO q loose XP YP l.row.toRowW d [] (fun f vs => PySem.call f vs) := by
  refine Att.attach_call hn hdf fun w s₀ s₁ mg mb fa o pm cd doc a vs ns G Y ho hd hcd hmg hobj hints hlen hg => ?_
  obtain ⟨fd, bd, Fd⟩ := F w mg fa _ (hY w _ Y) G.T.g hmg
  exact law_callG (hY w _ Y) G.T.g G.T.b G.T.builtins G.T.nolimit hg hobj hints (Nat.le_trans hlen hn2) hr Fd bd fun H hS => hsp w H a ns hlen hS
end U

/-! tuple(zip(a, b)), a and b tuples -/
namespace U
open PySem PySem.Spec PyProof.Rows L2 RZ
namespace F
theorem zip_no_len : typeLookup (.type "zip") "__len__" = pure none := by rw [typeLookup_type, builtinLookup_eq_fast]; kernel_rfl
theorem zip_no_hint : typeLookup (.type "zip") "__length_hint__" = pure none := by rw [typeLookup_type, builtinLookup_eq_fast]; kernel_rfl
end F
section
variable {prog : Program} {w : World} {A : Around} {E : Value → Shared → Prop} {s : Shared} {z TI TO T i1 i2 l1 l2 : Addr} {f : Bool} {oT : Obj} {k1 k2 : Nat} {xs ys : Array Value} {x y : Value}
/-- the next of a zip over tuples whose last tuple is still out -/
theorem zipT_item_held {Q : Value → Shared → Prop} (D : ZipApart z TI TO i1 i2 l1 l2) (hz : IsZipHeld s.heap z TI TO T f) (hT : s.heap.get? T = some oT) (hTI : IsPair s.heap TI (.ref i1) (.ref i2))
    (h1 : s.heap.IsTupleIter i1 l1 k1) (h2 : s.heap.IsTupleIter i2 l2 k2) (hl1 : s.heap.IsTuple l1 xs) (hl2 : s.heap.IsTuple l2 ys) (hx : xs[k1]? = some x) (hy : ys[k2]? = some y)
    (hQ : ∀ h', IsZipHeld h' z TI TO T true → h'.IsTupleIter i1 l1 (k1 + 1) → h'.IsTupleIter i2 l2 (k2 + 1) → IsPair h' s.heap.objs.size x y → h'.objs.size = s.heap.objs.size + 1 →
      (∀ c o, c ≠ z → c ≠ i1 → c ≠ i2 → s.heap.get? c = some o → h'.get? c = some o) → Q (.ref s.heap.objs.size) { s with heap := h' }) :
    wpAny (model prog w) A (Builtin.«zip.__next__» ⟨[.ref z], []⟩) (fun fin s' => ∃ v, fin = .done (.ret v) ∧ Q v s') E s := by
  show wpAny _ _ (field (.ref z) 2 >>= _) _ _ _
  apply wpAny_bind
  apply wpAny_field hz rfl (x := .bool false) rfl
  show wpAny _ _ (field (.ref z) 3 >>= _) _ _ _
  apply wpAny_bind
  apply wpAny_field hz rfl (x := .ref TI) rfl
  apply wpAny_bind
  apply wpAny_seqItems hTI rfl
  show wpAny _ _ (Builtin.SmallTypes.ownedTupleIsFree (.ref z) >>= _) _ _ _
  apply wpAny_bind
  apply wpAny_tupleHeld_zip hz hT
  intro g1 hz1 e1
  simp only [Bool.false_eq_true, if_false]
  apply wpAny_bind
  rw [← Array.forIn_toList]
  simp only [List.forIn_cons, List.forIn_nil]
  refine wpAny_bind (wpAny_bind (wpAny_holding ?_))
  show wpAny _ _ (Builtin.SmallTypes.nextOf (.ref i1) >>= _) _ _ _
  refine wpAny_bind (nextOf_tuple_item (s := { s with heap := g1 }) (h1.extBut e1.extBut D.i1z) (hl1.extBut e1.extBut D.l1z) hx fun g2 a2 e2 => wpAny_pure (wpAny_pure ?_))
  refine wpAny_bind (wpAny_bind (wpAny_holding ?_))
  show wpAny _ _ (Builtin.SmallTypes.nextOf (.ref i2) >>= _) _ _ _
  refine wpAny_bind (nextOf_tuple_item (s := { s with heap := g2 }) ((h2.extBut e1.extBut D.i2z).extBut e2.extBut D.i12.symm) ((hl2.extBut e1.extBut D.l2z).extBut e2.extBut D.l2i1) hy fun g3 b3 e3 => wpAny_pure (wpAny_pure (wpAny_pure ?_)))
  show wpAny _ _ (newTuple [x, y] >>= _) _ _ _
  refine wpAny_bind (wpAny_newTuple (wpAny_pure ⟨_, rfl, ?_⟩))
  have size : g3.objs.size = s.heap.objs.size := by rw [e3.1, e2.1, e1.1]
  have pair : IsPair (g3.push { cls := .type "tuple", data := .seq #[x, y] }) g3.objs.size x y := Heap.get?_push_size _ rfl
  have size2 : (g3.push { cls := .type "tuple", data := .seq #[x, y] }).objs.size = g3.objs.size + 1 := Heap.size_push ..
  show Q (.ref g3.objs.size) _
  rw [size] at pair size2 ⊢
  refine hQ _ ?_ ?_ ?_ pair size2 fun c o n1 n2 n3 e => Heap.get?_push_of_some _ (e3.extBut _ _ n3 (e2.extBut _ _ n2 (e1.extBut _ _ n1 e)))
  · exact Heap.get?_push_of_some _ (e3.extBut _ _ D.i2z.symm (e2.extBut _ _ D.i1z.symm hz1))
  · exact (a2.extBut e3.extBut D.i12).at fun o e => Heap.get?_push_of_some _ e
  · exact b3.at fun o e => Heap.get?_push_of_some _ e
theorem zipT_end_held {Q : Fin → Shared → Prop} (hh : A.handled = none) (D : ZipApart z TI TO i1 i2 l1 l2) (hz : IsZipHeld s.heap z TI TO T f) (hT : s.heap.get? T = some oT) (hTI : IsPair s.heap TI (.ref i1) (.ref i2))
    (h1 : s.heap.IsTupleIter i1 l1 k1) (h2 : s.heap.IsTupleIter i2 l2 k2) (hl1 : s.heap.IsTuple l1 xs) (hx : xs[k1]? = none)
    (hE : ∀ h' e, (∀ c o, c ≠ z → c ≠ i1 → s.heap.get? c = some o → h'.get? c = some o) → (∃ o, h'.get? e = some o ∧ o.cls = .type "StopIteration") → E (.ref e) { s with heap := h' }) :
    wpAny (model prog w) A (Builtin.«zip.__next__» ⟨[.ref z], []⟩) Q E s := by
  show wpAny _ _ (field (.ref z) 2 >>= _) _ _ _
  apply wpAny_bind
  apply wpAny_field hz rfl (x := .bool false) rfl
  show wpAny _ _ (field (.ref z) 3 >>= _) _ _ _
  apply wpAny_bind
  apply wpAny_field hz rfl (x := .ref TI) rfl
  apply wpAny_bind
  apply wpAny_seqItems hTI rfl
  show wpAny _ _ (Builtin.SmallTypes.ownedTupleIsFree (.ref z) >>= _) _ _ _
  apply wpAny_bind
  apply wpAny_tupleHeld_zip hz hT
  intro g1 hz1 e1
  simp only [Bool.false_eq_true, if_false]
  apply wpAny_bind
  rw [← Array.forIn_toList]
  simp only [List.forIn_cons, List.forIn_nil]
  refine wpAny_bind (wpAny_bind (wpAny_holding ?_))
  show wpAny _ _ (Builtin.SmallTypes.nextOf (.ref i1) >>= _) _ _ _
  refine wpAny_bind (nextOf_tuple_end (s := { s with heap := g1 }) hh (h1.extBut e1.extBut D.i1z) (hl1.extBut e1.extBut D.l1z) hx fun g2 e e2 he => ?_)
  exact hE g2 e (fun c o n1 n2 q => e2 _ _ n2 (e1.extBut _ _ n1 q)) he
/-- where a zip over tuples stands; lo: above all that the walk began with -/
structure ZSt (z TI TO i1 i2 l1 l2 : Addr) (xs ys : Array Value) (lo i : Nat) (h : Heap) : Prop where
  ti : IsPair h TI (.ref i1) (.ref i2)
  a : h.IsTupleIter i1 l1 i
  b : h.IsTupleIter i2 l2 i
  la : h.IsTuple l1 xs
  lb : h.IsTuple l2 ys
  m : (IsZip h z TI TO .none ∧ ∃ u v, IsPair h TO u v) ∨ ∃ (T : Addr) (f : Bool) (oT : Obj), IsZipHeld h z TI TO T f ∧ h.get? T = some oT ∧ lo ≤ T
def ZAcc (xs ys : Array Value) (lo : Nat) (h : Heap) (acc : Array Value) (i : Nat) : Prop :=
  acc.size = i ∧ (∀ (j : Nat) (v : Value), acc[j]? = some v → ∃ (T : Addr) (x y : Value), v = .ref T ∧ lo ≤ T ∧ xs[j]? = some x ∧ ys[j]? = some y ∧ h.get? T = some { cls := .type "tuple", data := .seq #[x, y] }) ∧
  ∀ (i j : Nat) (T : Addr), acc[i]? = some (.ref T) → acc[j]? = some (.ref T) → i = j
structure ZLow (z TI TO i1 i2 l1 l2 : Addr) (lo : Nat) : Prop where
  z : z < lo
  ti : TI < lo
  to_ : TO < lo
  a : i1 < lo
  b : i2 < lo
  la : l1 < lo
  lb : l2 < lo
theorem ZSt.keep {lo i : Nat} {h h' : Heap} {S : Addr} (st : ZSt z TI TO i1 i2 l1 l2 xs ys lo i h) (L : ZLow z TI TO i1 i2 l1 l2 lo) (hS : S ≠ z ∧ S ≠ TI ∧ S ≠ TO ∧ S ≠ i1 ∧ S ≠ i2 ∧ S ≠ l1 ∧ S ≠ l2 ∧ S < lo) (k : ∀ b o, b ≠ S → h.get? b = some o → h'.get? b = some o) :
    ZSt z TI TO i1 i2 l1 l2 xs ys lo i h' := by
  obtain ⟨s1, s2, s3, s4, s5, s6, s7, s8⟩ := hS
  refine ⟨k _ _ s2.symm st.ti, st.a.at fun o e => k _ o s4.symm e, st.b.at fun o e => k _ o s5.symm e, st.la.at fun o e => k _ o s6.symm e, st.lb.at fun o e => k _ o s7.symm e, ?_⟩
  rcases st.m with ⟨m, u, v, p⟩ | ⟨T, f, oT, m, t, l⟩
  · exact .inl ⟨k _ _ s1.symm m, u, v, k _ _ s3.symm p⟩
  · exact .inr ⟨T, f, oT, k _ _ s1.symm m, k _ _ (fun e => by subst e; exact absurd l (Nat.not_le_of_lt s8)) t, l⟩
theorem z_item {lo i : Nat} {Q : Option Value → Shared → Prop} (D : ZipApart z TI TO i1 i2 l1 l2) (L : ZLow z TI TO i1 i2 l1 l2 lo) (st : ZSt z TI TO i1 i2 l1 l2 xs ys lo i s.heap) (hx : xs[i]? = some x) (hy : ys[i]? = some y) (hs : lo ≤ s.heap.objs.size)
    (hQ : ∀ h', ZSt z TI TO i1 i2 l1 l2 xs ys lo (i + 1) h' → h'.get? s.heap.objs.size = some { cls := .type "tuple", data := .seq #[x, y] } → h'.objs.size = s.heap.objs.size + 1 →
      (∀ c o, c ≠ z → c ≠ TO → c ≠ i1 → c ≠ i2 → s.heap.get? c = some o → h'.get? c = some o) → Q (some (.ref s.heap.objs.size)) { s with heap := h' }) : wpAny (model prog w) A (pyNext (.ref z)) Q E s := by
  rcases st.m with ⟨m, u, v, p⟩ | ⟨T, f, oT, m, t, l⟩
  · refine pyNext_zipT_item D m st.ti p st.a st.b st.la st.lb hx hy fun h' c1 c2 c3 c4 c5 c6 c7 => ?_
    refine hQ h' ⟨c7 _ _ D.TIz D.TITO D.TIi1 D.TIi2 st.ti, c3, c4, st.la.at fun o e => c7 _ o D.l1z D.l1TO D.l1i1 D.l1i2 e, st.lb.at fun o e => c7 _ o D.l2z D.l2TO D.l2i1 D.l2i2 e, .inr ⟨_, false, _, c1, c5, hs⟩⟩ c5 c6 c7
  · have hTy : s.TypeIs (.ref z) "zip" := ⟨_, m, rfl⟩
    unfold pyNext
    refine wpAny_bind (wpAny_attempt (wpAny_callSpecial?_slot (name := Str.ofString "__next__") hTy PySem.F.slot_zip_next
      (wpAny_call_entry PySem.F.slot_zip_next hTy PySem.F.entry_zip_next
        (zipT_item_held D m t st.ti st.a st.b st.la st.lb hx hy fun h' c1 c3 c4 c5 c6 c7 => wpAny_pure ?_) (PySem.F.args_zip_next_1 _))))
    have nT : T ≠ z ∧ T ≠ i1 ∧ T ≠ i2 := ⟨fun e => by subst e; exact absurd l (Nat.not_le_of_lt L.z), fun e => by subst e; exact absurd l (Nat.not_le_of_lt L.a), fun e => by subst e; exact absurd l (Nat.not_le_of_lt L.b)⟩
    refine hQ h' ⟨c7 _ _ D.TIz D.TIi1 D.TIi2 st.ti, c3, c4, st.la.at fun o e => c7 _ o D.l1z D.l1i1 D.l1i2 e, st.lb.at fun o e => c7 _ o D.l2z D.l2i1 D.l2i2 e, .inr ⟨T, true, oT, c1, c7 _ _ nT.1 nT.2.1 nT.2.2 t, l⟩⟩ c5 c6 fun c o n1 _ n3 n4 e => c7 c o n1 n3 n4 e
theorem z_end {lo i : Nat} {Q : Option Value → Shared → Prop} (hh : A.handled = none) (D : ZipApart z TI TO i1 i2 l1 l2) (st : ZSt z TI TO i1 i2 l1 l2 xs ys lo i s.heap) (hx : xs[i]? = none)
    (hQ : ∀ h', (∀ c o, c ≠ z → c ≠ TO → c ≠ i1 → c ≠ i2 → s.heap.get? c = some o → h'.get? c = some o) → Q none { s with heap := h' }) : wpAny (model prog w) A (pyNext (.ref z)) Q E s := by
  rcases st.m with ⟨m, u, v, p⟩ | ⟨T, f, oT, m, t, l⟩
  · exact pyNext_zipT_end hh D m st.ti p st.a st.b st.la st.lb (.inl hx) hQ
  · have hTy : s.TypeIs (.ref z) "zip" := ⟨_, m, rfl⟩
    unfold pyNext
    refine wpAny_bind (wpAny_attempt (wpAny_callSpecial?_slot (name := Str.ofString "__next__") hTy PySem.F.slot_zip_next
      (wpAny_call_entry PySem.F.slot_zip_next hTy PySem.F.entry_zip_next (zipT_end_held hh D m t st.ti st.a st.b st.la hx fun h' e hk he => ?_) (PySem.F.args_zip_next_1 _))))
    obtain ⟨o, ho, hc⟩ := he
    refine wpAny_bind (wpAny_isInstance (T := "StopIteration") (b := true) ⟨o, ho, hc⟩ isSubtype_stop ?_)
    exact wpAny_pure (hQ _ fun c o n1 _ n3 _ e => hk c o n1 n3 e)
/-- what a walk may have changed -/
def Wrote (L : List Addr) (h h' : Heap) : Prop := ∀ b o, b ∉ L → h.get? b = some o → h'.get? b = some o
theorem z_loop {R : Result → Shared → Prop} {lo : Nat} {S : Addr} (hh : A.handled = none) (D : ZipApart z TI TO i1 i2 l1 l2) (L : ZLow z TI TO i1 i2 l1 l2 lo) (hS : S ≠ z ∧ S ≠ TI ∧ S ≠ TO ∧ S ≠ i1 ∧ S ≠ i2 ∧ S ≠ l1 ∧ S ≠ l2 ∧ S < lo) (hl : xs.size = ys.size) (hn : xs.size ≤ sizeLine) (res : Value) :
    ∀ (k i : Nat) (s : Shared) (acc : Array Value) (c : Nat), xs.size - i = k → i ≤ xs.size → ZSt z TI TO i1 i2 l1 l2 xs ys lo i s.heap → s.heap.get? S = some { cls := .type "list", dict := none, data := .seq acc c, slots := #[] } → ZAcc xs ys lo s.heap acc i → lo ≤ s.heap.objs.size →
    (∀ h' acc' c', Wrote [S, z, TO, i1, i2] s.heap h' → h'.get? S = some { cls := .type "list", dict := none, data := .seq acc' c', slots := #[] } → ZAcc xs ys lo h' acc' xs.size → R (.ok (.ret res)) { s with heap := h' }) →
    codeAny (model prog w) A (.builtin "list.extend.loop" ⟨[.ref S, .ref z, res], []⟩) R s := by
  have s1 := hS.1
  have s3 := hS.2.2.1
  have s4 := hS.2.2.2.1
  have s5 := hS.2.2.2.2.1
  have s8 := hS.2.2.2.2.2.2.2
  intro k
  induction k with
  | zero =>
    intro i s acc c hk hi st hacc g hlo hR
    have e : i = xs.size := by omega
    subst e
    refine codeAny_builtin PySem.F.entry_extend_loop ?_
    rw [Around.under_plainId PySem.F.plain_extend_loop _]
    show wpAny _ A.in1 (pyNext (.ref z) >>= _) _ _ s
    refine wpAny_bind (z_end (A := A.in1) hh D st (by simp) fun h' kp => ?_)
    refine wpAny_pure (hR h' acc c (fun b o nb e => kp b o (fun q => nb (by simp [q])) (fun q => nb (by simp [q])) (fun q => nb (by simp [q])) (fun q => nb (by simp [q])) e) (kp _ _ s1 s3 s4 s5 hacc) ⟨g.1, fun j v hj => ?_, g.2.2⟩)
    obtain ⟨T, x, y, e1, e2, e3, e4, e5⟩ := g.2.1 j v hj
    have ne : ∀ {b : Addr}, b < lo → T ≠ b := fun q e => by rw [e] at e2; exact absurd q (Nat.not_lt_of_le e2)
    exact ⟨T, x, y, e1, e2, e3, e4, kp _ _ (ne L.z) (ne L.to_) (ne L.a) (ne L.b) e5⟩
  | succ k ih =>
    intro i s acc c hk hi st hacc g hlo hR
    have hlt : i < xs.size := by omega
    refine codeAny_builtin PySem.F.entry_extend_loop ?_
    rw [Around.under_plainId PySem.F.plain_extend_loop _]
    show wpAny _ A.in1 (pyNext (.ref z) >>= _) _ _ s
    have hx : xs[i]? = some xs[i] := Array.getElem?_eq_getElem hlt
    have hy : ys[i]? = some (ys[i]'(by omega)) := Array.getElem?_eq_getElem _
    generalize xs[i] = x at hx
    generalize ys[i]'(by omega) = y at hy
    refine wpAny_bind (z_item (A := A.in1) D L st hx hy hlo fun h' st' hT hsz kp => ?_)
    have hacc' := kp _ _ s1 s3 s4 s5 hacc
    show wpAny _ A.in1 (updateSeq S (·.push _) >>= _) _ _ _
    have up : ∀ b o, b ≠ S → h'.get? b = some o → (h'.update S (Obj.mapSeq fun a => a.push (.ref s.heap.objs.size))).get? b = some o := fun b o nb e => (Heap.get?_update_other _ _ (Ne.symm nb)).trans e
    have ne : ∀ {T b : Addr}, lo ≤ T → b < lo → T ≠ b := fun e2 q e => by rw [e] at e2; exact absurd q (Nat.not_lt_of_le e2)
    refine wpAny_bind (wpAny_updateSeq hacc' rfl (wpAny_pure ⟨plainId_quiet PySem.F.plain_extend_loop _, ih (i + 1) _ (acc.push (.ref s.heap.objs.size)) _ (by omega) hlt (st'.keep L hS up) (Heap.get?_update_self _ hacc' rfl) ⟨by rw [Array.size_push, g.1], fun j v hj => ?_, fun a b U ha hb => ?_⟩ (by show lo ≤ (h'.update S _).objs.size; rw [Heap.size_update, hsz]; exact Nat.le_succ_of_le hlo) fun h2 acc2 c2 w2 hS2 g2 => ?_⟩)
      (by rw [g.1]; omega) (by show (acc.push _).size ≤ sizeLine + 1; rw [Array.size_push, g.1]; omega))
    · rw [Array.getElem?_push] at hj
      split at hj
      · rename_i ej
        cases hj
        rw [g.1] at ej
        rw [ej]
        exact ⟨_, x, y, rfl, hlo, hx, hy, up _ _ (ne hlo s8) hT⟩
      · obtain ⟨T, x', y', e1, e2, e3, e4, e5⟩ := g.2.1 j v hj
        exact ⟨T, x', y', e1, e2, e3, e4, up _ _ (ne e2 s8) (kp _ _ (ne e2 L.z) (ne e2 L.to_) (ne e2 L.a) (ne e2 L.b) e5)⟩
    · have old : ∀ {j : Nat} {U : Addr}, acc[j]? = some (.ref U) → U < s.heap.objs.size := fun hj => by
        obtain ⟨T, _, _, e1, _, _, _, e5⟩ := g.2.1 _ _ hj
        cases e1
        exact Heap.lt_size e5
      rw [Array.getElem?_push] at ha hb
      split at ha
      · rename_i ea
        cases ha
        split at hb
        · rename_i eb
          omega
        · exact absurd (old hb) (Nat.lt_irrefl _)
      · split at hb
        · cases hb
          exact absurd (old ha) (Nat.lt_irrefl _)
        · exact g.2.2 a b U ha hb
    · refine hR h2 acc2 c2 (fun b o nb e => w2 b o nb (up b o (fun q => nb (by simp [q])) (kp b o (fun q => nb (by simp [q])) (fun q => nb (by simp [q])) (fun q => nb (by simp [q])) (fun q => nb (by simp [q])) e))) hS2 g2
theorem z_collect {Q : List Value → Shared → Prop} (hh : A.handled = none) (D : ZipApart z TI TO i1 i2 l1 l2) (L : ZLow z TI TO i1 i2 l1 l2 s.heap.objs.size) (hl : xs.size = ys.size) (hn : xs.size ≤ sizeLine) (hz : IsZip s.heap z TI TO .none) (hTO : ∃ u v, IsPair s.heap TO u v)
    (hTI : IsPair s.heap TI (.ref i1) (.ref i2)) (h1 : s.heap.IsTupleIter i1 l1 0) (h2 : s.heap.IsTupleIter i2 l2 0) (hl1 : s.heap.IsTuple l1 xs) (hl2 : s.heap.IsTuple l2 ys)
    (hQ : ∀ h' acc, Wrote [z, TO, i1, i2] s.heap h' → ZAcc xs ys (s.heap.objs.size + 1) h' acc xs.size → Q acc.toList { s with heap := h' }) : wpAny (model prog w) A (collect (.ref z)) Q E s := by
  have low : ∀ {b : Addr}, b < s.heap.objs.size → s.heap.objs.size ≠ b := fun q e => absurd (e ▸ q) (Nat.lt_irrefl _)
  have L2 : ZLow z TI TO i1 i2 l1 l2 (s.heap.objs.size + 1) := ⟨Nat.lt_succ_of_lt L.z, Nat.lt_succ_of_lt L.ti, Nat.lt_succ_of_lt L.to_, Nat.lt_succ_of_lt L.a, Nat.lt_succ_of_lt L.b, Nat.lt_succ_of_lt L.la, Nat.lt_succ_of_lt L.lb⟩
  have hSz := low L.z
  unfold collect
  refine wpAny_bind (wpAny_runValue (codeAny_builtin PySem.F.entry_proto_collect ?_))
  rw [Around.under_plainId PySem.F.plain_proto_collect _]
  show wpAny _ A.in1 (newList [] >>= fun l => again (.builtin "list.__iadd__" ⟨[l, .ref z], []⟩)) _ _ s
  refine wpAny_bind (wpAny_newObj_type ?_)
  refine wpAny_pure ⟨plainId_quiet PySem.F.plain_list_iadd _, codeAny_builtin PySem.F.entry_list_iadd ?_⟩
  rw [Around.under_plainId PySem.F.plain_list_iadd _]
  have k1 : ∀ b o, s.heap.get? b = some o → (s.heap.push { cls := .type "list", data := .seq ([] : List Value).toArray }).get? b = some o := fun b o e => Heap.get?_push_of_some _ e
  have hz1 := k1 _ _ hz
  show wpAny _ A.in1 (Builtin.List.listExtendWith (.ref s.heap.objs.size) (.ref z) (.ref s.heap.objs.size)) _ _ _
  unfold Builtin.List.listExtendWith
  refine wpAny_bind (wpAny_typeOf (T := "zip") ⟨_, hz1, rfl⟩ ?_)
  have e1 : Builtin.List.listSameRef (.ref s.heap.objs.size) (.ref z) = false := by simp [Builtin.List.listSameRef, hSz]
  have e2 : (Value.type "zip" == Value.type "list") = false := by decide
  have e3 : (Value.type "zip" == Value.type "tuple") = false := by decide
  simp only [e1, e2, e3, Bool.or_false, Bool.false_eq_true, if_false]
  refine wpAny_bind (wpAny_pyIter_zip hz1 ?_)
  refine wpAny_bind (wpAny_holding ?_)
  unfold Builtin.List.listLengthHint
  refine wpAny_bind (wpAny_specialOf (T := "zip") ⟨_, hz1, rfl⟩ F.zip_no_len ?_)
  show wpAny _ A.in1 (specialOf (Value.ref z) (Str.ofString "__length_hint__") >>= _) _ _ _
  refine wpAny_bind (wpAny_specialOf (T := "zip") ⟨_, hz1, rfl⟩ F.zip_no_hint ?_)
  refine wpAny_pure ?_
  show wpAny _ A.in1 (rule "list.extend.makes-room" >>= fun _ => Builtin.List.listTouch (.ref s.heap.objs.size) >>= fun _ =>
    again (.builtin "list.extend.loop" ⟨[.ref s.heap.objs.size, .ref z, .ref s.heap.objs.size], []⟩)) _ _ _
  refine wpAny_bind (wpAny_rule ?_)
  have hS₁ : (s.heap.push { cls := .type "list", data := .seq ([] : List Value).toArray }).get? s.heap.objs.size = some { cls := .type "list", data := .seq ([] : List Value).toArray } := Heap.get?_push_size _ rfl
  refine wpAny_bind ?_
  show wpAny _ A.in1 (updateSeq s.heap.objs.size (·.push .none) >>= fun _ => updateSeq s.heap.objs.size (·.pop)) _ _ _
  refine wpAny_bind (wpAny_updateSeq hS₁ rfl ?_)
  have hS₂ := Heap.get?_update_self (Obj.mapSeq (·.push Value.none)) hS₁ rfl
  refine wpAny_updateSeq hS₂ rfl ?_
  have hS₃ := Heap.get?_update_self (Obj.mapSeq (·.pop)) hS₂ rfl
  have oth : ∀ b o, b ≠ s.heap.objs.size → s.heap.get? b = some o →
      (((s.heap.push { cls := .type "list", data := .seq ([] : List Value).toArray }).update s.heap.objs.size (Obj.mapSeq (·.push Value.none))).update s.heap.objs.size (Obj.mapSeq (·.pop))).get? b = some o :=
    fun b o hb e => (Heap.get?_update_other _ _ (Ne.symm hb)).trans ((Heap.get?_update_other _ _ (Ne.symm hb)).trans (k1 b o e))
  have st : ZSt z TI TO i1 i2 l1 l2 xs ys (s.heap.objs.size + 1) 0 s.heap := ⟨hTI, h1, h2, hl1, hl2, .inl ⟨hz, hTO⟩⟩
  have hSS := And.intro hSz (And.intro (low L.ti) (And.intro (low L.to_) (And.intro (low L.a) (And.intro (low L.b) (And.intro (low L.la) (And.intro (low L.lb) (Nat.lt_succ_self s.heap.objs.size)))))))
  refine wpAny_pure ⟨plainId_quiet PySem.F.plain_extend_loop _, ?_⟩
  refine z_loop (A := A) hh D L2 hSS hl hn _ xs.size 0 _ ?acc ?cnt rfl (Nat.zero_le _) ?zst ?lst ?za ?_ fun h' acc' c' wr hS' g => ?_
  case zst => exact st.keep L2 hSS oth
  case lst => exact hS₃
  case za =>
    refine ⟨rfl, fun j v hj => ?_, fun a b U ha _ => ?_⟩
    · have hj' : (#[] : Array Value)[j]? = some v := hj
      simp at hj'
    · have hj' : (#[] : Array Value)[a]? = some (.ref U) := ha
      simp at hj'
  · show s.heap.objs.size + 1 ≤ (Heap.update _ _ _).objs.size
    rw [Heap.size_update, Heap.size_update, Heap.size_push]
    exact Nat.le_refl _
  show wpAny _ A (load s.heap.objs.size >>= _) _ _ _
  refine wpAny_bind (wpAny_load hS' ?_)
  refine wpAny_pure (hQ h' acc' (fun b o nb e => wr b o (fun q => ?_) (oth b o (fun q => absurd (q ▸ Heap.lt_size e) (Nat.lt_irrefl _)) e)) g)
  rcases List.mem_cons.mp q with q | q
  · exact absurd (q ▸ Heap.lt_size e) (Nat.lt_irrefl _)
  · exact nb q
theorem code_tuple_zip {Q₁ : Value → Shared → Prop} (hh : A.handled = none) (D : ZipApart z TI TO i1 i2 l1 l2) (L : ZLow z TI TO i1 i2 l1 l2 s.heap.objs.size) (hl : xs.size = ys.size) (hn : xs.size ≤ sizeLine) (hz : IsZip s.heap z TI TO .none) (hTO : ∃ u v, IsPair s.heap TO u v)
    (hTI : IsPair s.heap TI (.ref i1) (.ref i2)) (h1 : s.heap.IsTupleIter i1 l1 0) (h2 : s.heap.IsTupleIter i2 l2 0) (hl1 : s.heap.IsTuple l1 xs) (hl2 : s.heap.IsTuple l2 ys)
    (h : ∀ h' acc, Wrote [z, TO, i1, i2] s.heap h' → ZAcc xs ys (s.heap.objs.size + 1) h' acc xs.size → Q₁ (.ref h'.objs.size) { s with heap := h'.push { cls := .type "tuple", data := .seq acc } }) :
    codeAny (model prog w) A (.call (.builtin "tuple.__new__") ⟨[.type "tuple", .ref z], []⟩) (wants Q₁ E) s := by
  refine codeAny_of_tree ?_
  show wpAny _ A.in1 (do checkBuiltinCall "tuple.__new__" ⟨[.type "tuple", .ref z], []⟩; again (.builtin "tuple.__new__" ⟨[.type "tuple", .ref z], []⟩)) _ _ s
  refine wpAny_bind (wpAny_of_eq (PySem.F.newCall_tuple_1 _) (wpAny_pure ⟨plainId_quiet PySem.F.plain_tuple_new _, codeAny_builtin PySem.F.entry_tuple_new ?_⟩))
  rw [Around.under_plainId PySem.F.plain_tuple_new _]
  have hsub := sub_tuple_self
  have hinit := init_tuple_lookup
  have hmh := madeHere_tuple
  have hTz : s.TypeIs (.ref z) "zip" := ⟨_, hz, rfl⟩
  wp_walk using wpAny_typeOf hTz, z_collect (A := A.in1) hh D L hl hn hz hTO hTI h1 h2 hl1 hl2
  intro h' acc wr g
  show wpAny _ _ (Builtin.Tuple.tupleExact acc.toList.toArray >>= fun v => ret v) _ _ _
  unfold Builtin.Tuple.tupleExact
  refine wpAny_bind (wpAny_newObj_type ?_ (by show acc.toList.toArray.size ≤ sizeLine; simp only [Array.toArray_toList]; rw [g.1]; exact hn))
  refine wpAny_pure ?_
  have e : acc.toList.toArray = acc := by simp
  rw [e]
  exact h h' acc wr g
theorem call_tuple_zip {Q : Value → Shared → Prop} (hh : A.handled = none) (D : ZipApart z TI TO i1 i2 l1 l2) (L : ZLow z TI TO i1 i2 l1 l2 s.heap.objs.size) (hl : xs.size = ys.size) (hn : xs.size ≤ sizeLine) (hz : IsZip s.heap z TI TO .none) (hTO : ∃ u v, IsPair s.heap TO u v)
    (hTI : IsPair s.heap TI (.ref i1) (.ref i2)) (h1 : s.heap.IsTupleIter i1 l1 0) (h2 : s.heap.IsTupleIter i2 l2 0) (hl1 : s.heap.IsTuple l1 xs) (hl2 : s.heap.IsTuple l2 ys)
    (hQ : ∀ h' acc, Wrote [z, TO, i1, i2] s.heap h' → ZAcc xs ys (s.heap.objs.size + 1) h' acc xs.size → Q (.ref h'.objs.size) { s with heap := h'.push { cls := .type "tuple", data := .seq acc } }) :
    wpAny (model prog w) A (call (.type "tuple") [.ref z]) Q E s := by
  refine callType_codes (Q₁ := fun obj s₁ => s₁.TypeIs obj "tuple" ∧ Q obj s₁) PySem.F.called_tuple (PySem.F.typeCall_tuple_1 _) PySem.F.entry_object_init
    (code_tuple_zip (A := A.in1) hh D L hl hn hz hTO hTI h1 h2 hl1 hl2 fun h' acc wr g => ⟨⟨_, Heap.get?_push_size _ rfl, rfl⟩, hQ h' acc wr g⟩) fun obj s₁ h₁ => ?_
  exact ⟨h₁.1, PySem.F.args_object_init_2 obj _, object_init_meets PySem.F.called_tuple.init.lookup PySem.F.called_tuple.made (by decide) prog w A.in1 _ s₁ ⟨h₁.1, rfl, h₁.2⟩⟩
end
/-! ### the rule -/
theorem un_more {fs ex : List Addr} {H0 H1 : Hp} {h h' : Heap} {b : Addr} {o : HO} (u : Un fs ex H0 H1 h h') (hb : h.objs.size ≤ b) (n0 : H0 b = none) : Un fs ex H0 (upd H1 b o) h h' where
  keep := u.keep
  slot := u.slot
  free := fun c q e n x => by
    rw [upd_ne (fun z => absurd (Heap.lt_size (z ▸ e)) (Nat.not_lt_of_le hb))]
    exact u.free c q e n x
  there := u.there
  tups := fun c xs e => by
    rw [upd_ne (ne_of_none e n0)]
    exact u.tups c xs e
  frzs := fun c q w e => by
    rw [upd_ne (ne_of_none e n0)]
    exact u.frzs c q w e
  tbls := fun c ps e => by
    rw [upd_ne (ne_of_none e n0)]
    exact u.tbls c ps e
theorem hok_more {P : Program} {w : World} {H1 : Hp} {h : Heap} {b : Addr} {o : HO} (x : HOk P w H1 h) (n : H1 b = none) (new : ObjOk P w (upd H1 b o) h b o) : HOk P w (upd H1 b o) h := fun c u e => by
  by_cases hc : c = b
  · subst hc
    rw [upd_same] at e
    cases e
    exact new
  · rw [upd_ne hc] at e
    exact (x c u e).stay (fun _ _ _ q => q) (fun _ q => by rw [upd_ne (ne_of_none q n)]; exact q) fun _ _ q => by rw [upd_ne (ne_of_none q n)]; exact q
/-- the tuples of a zip, tracked -/
def trkZ (H : Hp) : List (Addr × V × V) → Hp
  | [] => H
  | t :: r => upd (trkZ H r) t.1 (.tup [t.2.1, t.2.2])
theorem trkZ_out {H : Hp} {b : Addr} : ∀ {ts : List (Addr × V × V)}, b ∉ ts.map (·.1) → trkZ H ts b = H b
  | [], _ => rfl
  | t :: r, h => by
    rw [List.map_cons, List.mem_cons, not_or] at h
    show upd (trkZ H r) t.1 _ b = H b
    rw [upd_ne h.1, trkZ_out h.2]
theorem trkZ_same {H : Hp} : ∀ {ts : List (Addr × V × V)}, (∀ t ∈ ts, H t.1 = none) → Same H (trkZ H ts) := fun hn b o e => by
  rw [trkZ_out fun z => ?_]
  · exact e
  · obtain ⟨t, ht, rfl⟩ := List.mem_map.mp z
    rw [hn t ht] at e
    cases e
theorem trkZ_in {H : Hp} : ∀ {ts : List (Addr × V × V)}, (ts.map (·.1)).Nodup → ∀ t ∈ ts, trkZ H ts t.1 = some (.tup [t.2.1, t.2.2])
  | t :: r, hd, u, hu => by
    rw [List.map_cons, List.nodup_cons] at hd
    rcases List.mem_cons.mp hu with rfl | hu
    · exact upd_same
    · show upd (trkZ H r) t.1 _ u.1 = _
      rw [upd_ne fun e => hd.1 (List.mem_map.mpr ⟨u, hu, e⟩)]
      exact trkZ_in hd.2 u hu
theorem trkZ_all {P : Program} {w : World} {fs : List Addr} {H : Hp} {h hf : Heap} (u0 : Un fs [] H H h hf) (ok0 : HOk P w H hf) : ∀ {ts : List (Addr × V × V)}, (ts.map (·.1)).Nodup →
    (∀ t ∈ ts, h.objs.size ≤ t.1 ∧ H t.1 = none ∧ ∃ x y, RelV t.2.1 x ∧ RelV t.2.2 y ∧ hf.get? t.1 = some { cls := .type "tuple", data := .seq #[x, y] }) → Un fs [] H (trkZ H ts) h hf ∧ HOk P w (trkZ H ts) hf
  | [], _, _ => ⟨u0, ok0⟩
  | t :: r, hd, hs => by
    rw [List.map_cons, List.nodup_cons] at hd
    obtain ⟨u1, k1⟩ := trkZ_all u0 ok0 hd.2 fun x hx => hs x (List.mem_cons_of_mem _ hx)
    obtain ⟨hb, hn, x, y, rx, ry, hg⟩ := hs t List.mem_cons_self
    have n1 : trkZ H r t.1 = none := by rw [trkZ_out hd.1]; exact hn
    exact ⟨un_more u1 hb hn, hok_more k1 n1 ⟨by show 2 ≤ sizeLine; decide, [x, y], .cons rx (.cons ry .nil), ⟨_, hg, rfl, _, rfl⟩⟩⟩
def tTupZip (K : PySem.W.Frag) (ta : TA) : TE := fun σ H Q => ta σ H fun vs H1 => ∃ (a b : Addr) (xs ys : List V), vs = [V.ref a, V.ref b] ∧ SqT K H1 a xs ∧ SqT K H1 b ys ∧ xs.length = ys.length ∧
  ∀ (r : Addr) (ts : List Addr) (H' : Hp), Same H1 H' → H1 r = none → H' r = some (.tup (ts.map V.ref)) → ts.length = xs.length →
    (∀ (i : Nat) (t : Addr) (x y : V), ts[i]? = some t → xs[i]? = some x → ys[i]? = some y → H1 t = none ∧ H' t = some (.tup [x, y])) → Q (.ref r) H'
theorem vals_refs2 : ∀ (ts : List Addr), Vals (ts.map V.ref) (ts.map Value.ref)
  | [] => .nil
  | _ :: r => .cons rfl (vals_refs2 r)
theorem acc_refs {xs ys : Array Value} {lo : Nat} {h : Heap} {acc : Array Value} {n : Nat} (g : ZAcc xs ys lo h acc n) : ∃ ts : List Addr, acc.toList = ts.map Value.ref ∧ ts.length = n ∧ ts.Nodup ∧
    ∀ (i : Nat) (t : Addr), ts[i]? = some t → ∃ x y, lo ≤ t ∧ xs[i]? = some x ∧ ys[i]? = some y ∧ h.get? t = some { cls := .type "tuple", data := .seq #[x, y] } := by
  obtain ⟨g1, g2, g3⟩ := g
  have hv : ∀ v ∈ acc.toList, ∃ t, v = Value.ref t := fun v hv => by
    obtain ⟨j, hj⟩ := List.mem_iff_getElem?.mp hv
    obtain ⟨T, _, _, e, _⟩ := g2 j v (by rw [← Array.getElem?_toList]; exact hj)
    exact ⟨T, e⟩
  have ex : ∀ l : List Value, (∀ v ∈ l, ∃ t, v = Value.ref t) → ∃ ts : List Addr, l = ts.map Value.ref := fun l => by
    induction l with
    | nil => exact fun _ => ⟨[], rfl⟩
    | cons v r ih =>
      intro h
      obtain ⟨t, rfl⟩ := h v List.mem_cons_self
      obtain ⟨ts, rfl⟩ := ih fun x hx => h x (List.mem_cons_of_mem _ hx)
      exact ⟨t :: ts, rfl⟩
  obtain ⟨ts, hts⟩ := ex acc.toList hv
  have at_ : ∀ (i : Nat) (t : Addr), ts[i]? = some t → acc[i]? = some (.ref t) := fun i t e => by
    rw [← Array.getElem?_toList, hts, List.getElem?_map, e]
    rfl
  refine ⟨ts, hts, ?_, ?_, fun i t e => ?_⟩
  · have e := congrArg List.length hts
    rw [Array.length_toList, List.length_map, g1] at e
    exact e.symm
  · rw [List.Nodup, List.pairwise_iff_getElem]
    intro i j hi hj hij e
    have a1 := at_ i _ (List.getElem?_eq_getElem hi)
    have a2 := at_ j _ (List.getElem?_eq_getElem hj)
    rw [← e] at a2
    have := g3 i j _ a1 a2
    omega
  · obtain ⟨T, x, y, e1, h1, h2, h3, h4⟩ := g2 i _ (at_ i t e)
    cases e1
    exact ⟨x, y, h1, h2, h3, h4⟩
section
variable {X : Cx} {e e2 : Expr} {ta : TA} {p p2 pos q : Pos}
theorem pe_tupZip (hc : X.calm = true) (hg : Gl X "tuple") (hm : X.mg "tuple" = none) (hg2 : Gl X "zip") (hm2 : X.mg "zip" = none) (ha : PA X [e, e2] ta)
    (hs : starEach [e, e2] X.env = (false, eval e X.env) :: starEach [e2] X.env := by rfl) (hpl : (backTo q (starEach [e2] X.env)).any (·.1) = false := by rfl)
    (na : starEach [Expr.Call (.Name "zip" p2) [e, e2] [] q] X.env = (false, eval (Expr.Call (.Name "zip" p2) [e, e2] [] q) X.env) :: starEach [] X.env := by rfl) :
    PE X (.Call (.Name "tuple" p) [.Call (.Name "zip" p2) [e, e2] [] q] [] pos) (tTupZip X.K ta) := by
  refine ⟨fun pins s σ H Q I h => ?_⟩
  refine Call_ (ld_blt I hg hm (u := .type "tuple") (by decide +kernel) ?_)
  refine PyProof.Rows.callWith_type1 (PyProof.Rows.args_cons ?_ na) na rfl
  refine Call_ (ld_blt I hg2 hm2 PyProof.Rows.boot_zip (PyProof.Rows.callWith_type1 (thn (ha.run q pins s σ H _ I h) fun us s1 ⟨vs, H1, I1, r1, q1⟩ => ?_) hs hpl))
  obtain ⟨a, b, xs, ys, ex, hqx, hqy, hlen, q1⟩ := q1
  subst ex
  cases r1 with
  | cons r rr =>
    cases rr with
    | cons r' rr =>
      cases rr
      cases r
      cases r'
      obtain ⟨its, rv, p1, hz1⟩ := I1.tuple hqx
      obtain ⟨its2, rv2, p2', hz2⟩ := I1.tuple hqy
      obtain ⟨o1, ho1, _⟩ := id p1
      obtain ⟨o2, ho2, _⟩ := id p2'
      have la := Heap.lt_size ho1
      have lb := Heap.lt_size ho2
      have hl1 := rv.length
      have hl2 := rv2.length
      have sa : its.toArray.size = xs.length := by rw [List.size_toArray]; exact hl1.symm
      have sb : its2.toArray.size = ys.length := by rw [List.size_toArray]; exact hl2.symm
      refine call_zipT (show s1.heap.IsTuple a its.toArray from p1) (show s1.heap.IsTuple b its2.toArray from p2') fun h' hz hTI hTO h1 h2 hsz hk => PyProof.Rows.args_nil ?_
      have I2 : Inv X pins σ H1 { s1 with heap := h' } := I1.kept (t' := s1.toks) hk
      have s5 : h'.objs.size = s1.heap.objs.size + 5 := hsz
      have lo5 : ∀ k : Nat, k < 5 → s1.heap.objs.size + k < h'.objs.size := fun k z => by
        rw [s5]
        exact Nat.add_lt_add_left z _
      have lo6 : ∀ {c : Addr}, c < s1.heap.objs.size → c < h'.objs.size := fun {c} z => Nat.lt_trans z (lo5 0 (by decide))
      refine call_tuple_zip (s := { s1 with heap := h' }) (xs := its.toArray) (ys := its2.toArray) (I2.ok.hd hc) (PySem.W.ktu_apart s1.heap.objs.size a b la lb) ⟨lo5 4 (by decide), lo5 2 (by decide), lo5 3 (by decide), lo5 0 (by decide), lo5 1 (by decide), lo6 la, lo6 lb⟩ (by rw [sa, sb]; exact hlen) (by rw [sa]; exact hz1) hz ⟨_, _, hTO⟩ hTI h1 h2
        (Heap.IsTuple.at (show s1.heap.IsTuple a its.toArray from p1) fun o e => hk _ o e) (Heap.IsTuple.at (show s1.heap.IsTuple b its2.toArray from p2') fun o e => hk _ o e) fun h3 acc wr g => ?_
      obtain ⟨ts, hts, htl, htd, hta⟩ := acc_refs g
      have k3 : ∀ c o, s1.heap.get? c = some o → (h3.push { cls := .type "tuple", data := .seq acc }).get? c = some o := fun c o e => by
        have hlt := Heap.lt_size e
        refine Heap.get?_push_of_some _ (wr c o ?_ (hk c o e))
        simp only [List.mem_cons, List.not_mem_nil, or_false]
        rintro (z | z | z | z)
        · exact absurd (z ▸ hlt) (Nat.not_lt.mpr (Nat.le_add_right _ _))
        · exact absurd (z ▸ hlt) (Nat.not_lt.mpr (Nat.le_add_right _ _))
        · exact absurd (z ▸ hlt) (Nat.lt_irrefl _)
        · exact absurd (z ▸ hlt) (Nat.not_lt.mpr (Nat.le_add_right _ _))
      have fr : ∀ {c : Addr}, s1.heap.objs.size ≤ c → H1 c = none := fun {c} h => I1.hok.fresh h
      have hti : ∀ (i : Nat) (t : Addr), ts[i]? = some t → i < xs.length := fun i t e => by
        have := (List.getElem?_eq_some_iff.mp e).1
        rw [htl, sa] at this
        exact this
      -- what is tracked: the pairs
      let zs : List (Addr × V × V) := (List.range ts.length).map fun i => (ts.getD i 0, xs.getD i .non, ys.getD i .non)
      have zk : zs.map (·.1) = ts := by
        show ((List.range ts.length).map fun i => (ts.getD i 0, xs.getD i .non, ys.getD i .non)).map (·.1) = ts
        rw [List.map_map]
        apply List.ext_getElem?
        intro i
        rw [List.getElem?_map]
        by_cases hi : i < ts.length
        · rw [List.getElem?_range hi, List.getElem?_eq_getElem hi]
          show some (ts.getD i 0) = _
          rw [List.getD_eq_getElem?_getD, List.getElem?_eq_getElem hi] <;> rfl
        · rw [List.getElem?_eq_none (by rw [List.length_range]; omega), List.getElem?_eq_none (by omega)]
          rfl
      have zz : ∀ t ∈ zs, ∃ i, ts[i]? = some t.1 ∧ xs[i]? = some t.2.1 ∧ ys[i]? = some t.2.2 := fun t ht => by
        obtain ⟨i, hi, rfl⟩ := List.mem_map.mp ht
        rw [List.mem_range] at hi
        have hx := hti i _ (List.getElem?_eq_getElem hi)
        refine ⟨i, ?_, ?_, ?_⟩
        · show ts[i]? = some (ts.getD i 0)
          rw [List.getD_eq_getElem?_getD, List.getElem?_eq_getElem hi] <;> rfl
        · show xs[i]? = some (xs.getD i .non)
          rw [List.getD_eq_getElem?_getD, List.getElem?_eq_getElem hx] <;> rfl
        · show ys[i]? = some (ys.getD i .non)
          rw [List.getD_eq_getElem?_getD, List.getElem?_eq_getElem (by omega)] <;> rfl
      have zall : ∀ t ∈ zs, s1.heap.objs.size ≤ t.1 ∧ H1 t.1 = none ∧ ∃ x y, RelV t.2.1 x ∧ RelV t.2.2 y ∧ (h3.push { cls := .type "tuple", data := .seq acc }).get? t.1 = some { cls := .type "tuple", data := .seq #[x, y] } := fun t ht => by
        obtain ⟨i, e1, e2, e3⟩ := zz t ht
        obtain ⟨x, y, l1, gx, gy, gt⟩ := hta i _ e1
        have l2 : s1.heap.objs.size ≤ t.1 := by
          have : h'.objs.size + 1 ≤ t.1 := l1
          omega
        obtain ⟨u, hu, ru⟩ := rv.get e2
        obtain ⟨u', hu', ru'⟩ := rv2.get e3
        rw [List.getElem?_toArray] at gx gy
        rw [hu] at gx
        rw [hu'] at gy
        cases gx
        cases gy
        exact ⟨l2, fr l2, _, _, ru, ru', Heap.get?_push_of_some _ gt⟩
      obtain ⟨U1, K1⟩ := trkZ_all (fs := X.fs) (Un.kept k3) (I1.hok.kept k3) (by rw [zk]; exact htd) zall
      have hlow : s1.heap.objs.size ≤ h3.objs.size := by
        rcases Nat.lt_or_ge h3.objs.size s1.heap.objs.size with z | z
        · exfalso
          have e1 : h'.get? (s1.heap.objs.size + 2) = some _ := hTI
          have e2 := wr _ _ (by simp) e1
          exact absurd (Nat.lt_trans (Heap.lt_size e2) z) (Nat.not_lt.mpr (Nat.le_add_right _ _))
        · exact z
      have nr : ∀ {t : Addr}, t ∈ ts → t < h3.objs.size := fun {t} ht => by
        obtain ⟨i, hi⟩ := List.mem_iff_getElem?.mp ht
        obtain ⟨x, y, _, _, _, gt⟩ := hta i t hi
        exact Heap.lt_size gt
      have n3 : trkZ H1 zs h3.objs.size = none := by
        rw [trkZ_out (by rw [zk]; exact fun z => absurd (nr z) (Nat.lt_irrefl _))]
        exact fr hlow
      have OB : ObjOk X.prog X.w (upd (trkZ H1 zs) h3.objs.size (.tup (ts.map V.ref))) (h3.push { cls := .type "tuple", data := .seq acc }) h3.objs.size (.tup (ts.map V.ref)) :=
        ⟨by rw [List.length_map, htl, sa]; exact hz1, acc.toList, by rw [hts]; exact vals_refs2 ts, ⟨_, Heap.get?_push_size _ rfl, rfl, 0, by simp⟩⟩
      have I3 : Inv X pins σ (upd (trkZ H1 zs) h3.objs.size (.tup (ts.map V.ref))) { s1 with heap := h3.push { cls := .type "tuple", data := .seq acc } } :=
        I1.un (t' := s1.toks) (un_more U1 hlow (fr hlow)) (hok_more K1 n3 OB)
      have zn : ∀ t ∈ zs, H1 t.1 = none := fun t ht => (zall t ht).2.1
      refine ⟨.ref h3.objs.size, _, I3, rfl, q1 _ ts _ ((trkZ_same zn).trans (same_new (Same.refl _) n3)) (fr hlow) upd_same (by rw [htl, sa]) fun i t x y e1 e2 e3 => ?_⟩
      have htm : t ∈ ts := List.mem_of_getElem? e1
      have hmem : (t, x, y) ∈ zs := by
        refine List.mem_map.mpr ⟨i, List.mem_range.mpr (List.getElem?_eq_some_iff.mp e1).1, ?_⟩
        rw [List.getD_eq_getElem?_getD, e1, List.getD_eq_getElem?_getD, e2, List.getD_eq_getElem?_getD, e3] <;> rfl
      refine ⟨zn _ hmem, ?_⟩
      rw [upd_ne (Nat.ne_of_lt (nr htm))]
      exact trkZ_in (by rw [zk]; exact htd) _ hmem
end
end U

/-! sorted(set(xs)), xs a list of ints -/
namespace U
open PySem PySem.Spec PyProof.Rows L2
section
variable {P : Program} {w : World} {A : Around} {E : Value → Shared → Prop} {s : Shared}
/-- an empty set, as the text makes one -/
abbrev voidS (w : World) : Obj := { cls := .type "set", dict := none, data := .set #[] 0 (.fresh 0 0 (!w.params.followText "set-order")) }
theorem call_setL {l : Addr} {items : Array Value} (ns : List Int) {Q : Value → Shared → Prop} (hh : A.handled = none) (hl : s.heap.IsList l items) (hi : IntsAre items.toList ns) (hb : ns.length + 1 < scanBound)
    (q : ∀ (g : Heap) (tk c : Nat), SetR w g s.heap.objs.size (fun j => decide (j ∈ ns)) c → (∀ b o, s.heap.get? b = some o → g.get? b = some o) → Q (.ref s.heap.objs.size) { s with heap := g, toks := tk }) :
    wpAny (model P w) A (call (.type "set") [.ref l]) Q E s := by
  have sz : items.size = ns.length := by rw [← IntsAre.length hi, Array.length_toList]
  have T := F.called_set
  obtain ⟨c0, t0, m0⟩ := T.mro
  have f1 := T.made
  have f2 := T.sub
  have f3 := T.notType
  have f4 := T.canCreate
  have f5 := F.typeCall_set_1 (.ref l)
  refine wpAny_call (codeAny_of_tree ?_)
  refine wpAny_pure ⟨Code.quiet_builtin _ (by decide +kernel), codeAny_builtin F.entry_type_call ?_⟩
  rw [Around.under_plain (weight_type_call_type "set" [.ref l] []) rfl]
  repeat (any_goals (first | assumption | wp_step))
  refine codeAny_mono (code_set_led1 (.ref l) (E := E) (Q₁ := fun x s1 => x = .ref s.heap.objs.size ∧ s1 = { s with heap := s.heap.push (voidS w) }) ⟨rfl, rfl⟩) fun r s1 hr => ?_
  match r, hr with
  | .error e, hr => exact hr
  | .ok (.next), hr => exact hr.elim
  | .ok (.brk), hr => exact hr.elim
  | .ok (.cont), hr => exact hr.elim
  | .ok (.ret v), hr =>
  obtain ⟨rfl, rfl⟩ := hr
  have g0 : (s.heap.push (voidS w)).get? s.heap.objs.size = some (voidS w) := Heap.get?_push_size _ rfl
  have ty : Shared.TypeIs { s with heap := s.heap.push (voidS w) } (.ref s.heap.objs.size) "set" := ⟨_, g0, rfl⟩
  have f6 := T.init.lookup
  have f7 := T.init.bind (.ref s.heap.objs.size)
  repeat (any_goals (first | assumption | wp_step))
  refine codeAny_mono (codeAny_call_builtin (R := wants (fun r s2 => r = .none ∧ ∃ g tk c, s2 = { s with heap := g, toks := tk } ∧ SetR w g s.heap.objs.size (fun j => decide (j ∈ ns)) c ∧ ∀ b o, s.heap.get? b = some o → g.get? b = some o) E)
    T.init.plain F.entry_set_init (check_set_init_1 ty ?_)) fun r s2 hr => ?_
  · obtain ⟨ob, hob, hcl, k, hd⟩ := hl
    obtain ⟨cls, dct, dat, slt⟩ := ob
    simp only at hcl hd
    subst hcl
    subst hd
    have in0 : (s.heap.push (voidS w)).get? l = some { cls := .type "list", dict := dct, data := .seq items k, slots := slt } := Heap.get?_push_of_some _ hob
    have ll : (s.heap.push (voidS w)).IsList l items := ⟨_, in0, rfl, k, rfl⟩
    have f8 := F.sub_list_set
    have f9 := F.sub_list_frozenset
    have nd : (Value.type "list" == Value.type "dict") = false := by decide
    unfold Builtin.«set.__init__» noKeywords Builtin.Frozenset.updateFrom
    generalize hP : pyIter = pI
    wp_walk
    subst hP
    refine wpAny_pyIter_list ll (wpAny_bind (wpAny_runValue ?_))
    have lt : l < s.heap.objs.size := Heap.lt_size hob
    have s1z : (s.heap.push (voidS w)).objs.size = s.heap.objs.size + 1 := Heap.size_push ..
    have n1 : l ≠ (s.heap.push (voidS w)).objs.size := by
      rw [s1z]
      exact Nat.ne_of_lt (Nat.lt_succ_of_lt lt)
    have n2 : s.heap.objs.size ∉ [(s.heap.push (voidS w)).objs.size, l] := by
      rw [s1z]
      intro z
      rcases List.mem_cons.mp z with z | z
      · exact absurd z (Nat.ne_of_lt (Nat.lt_succ_self _))
      · exact absurd (List.mem_singleton.mp z) (Nat.ne_of_gt lt)
    have val : ∀ (i : Nat) (v : Value), items[i]? = some v → ∃ k t, ns[i]? = some k ∧ v = .int k t := fun i v hv => by
      have hlt : i < ns.length := sz ▸ (Array.getElem?_eq_some_iff.mp hv).1
      obtain ⟨t, ht⟩ := hi.int_at i v (by rw [Array.getElem?_toList]; exact hv)
      refine ⟨ns[i], t, List.getElem?_eq_getElem hlt, ?_⟩
      rw [ht, List.getD_eq_getElem?_getD, List.getElem?_eq_getElem hlt] <;> rfl
    refine set_update_ints ((Walks.list (by simp [hh]) _ l n1 items).toS) s.heap.objs.size n2 ns sz hb val (items.size - 0) 0 _ rfl (Nat.zero_le _) ⟨⟨_, Heap.get?_push_size _ rfl, rfl, rfl⟩, ll.push _⟩
      ⟨0, Nat.le_refl 0, setR_new_at (Heap.get?_push_of_some _ g0)⟩ fun s' c hm _ hS => ?_
    obtain ⟨g, g2, d2, tk, o2⟩ := s'
    have e1 : g2 = s.gens := hm.gens
    have e2 : d2 = s.drawn := hm.drawn
    have e3 : o2 = s.os := hm.os
    subst e1
    subst e2
    subst e3
    refine wpAny_pure ?_
    show wpAny _ _ (ret Value.none) _ _ _
    refine wpAny_pure ⟨rfl, g, tk, c, rfl, hS, fun b o e => hm.heap b o (fun z => ?_) (Heap.get?_push_of_some _ (Heap.get?_push_of_some _ e))⟩
    have hlt := Heap.lt_size e
    rcases List.mem_cons.mp z with z | z
    · exact absurd (z ▸ hlt) (Nat.lt_irrefl _)
    · rw [List.mem_singleton, s1z] at z
      exact absurd (z ▸ hlt) (Nat.not_lt.mpr (Nat.le_add_right _ _))
  · match r, hr with
    | .error e, hr => exact hr
    | .ok (.next), hr => exact hr.elim
    | .ok (.brk), hr => exact hr.elim
    | .ok (.cont), hr => exact hr.elim
    | .ok (.ret v), hr =>
    obtain ⟨rfl, g, tk, c, rfl, hS, hk⟩ := hr
    repeat (any_goals (first | assumption | wp_step))
    exact q g tk c hS hk
end
/-- few members: all of them below 63 -/
theorem setR_few {w : World} {h : Heap} {a : Addr} {ns : List Int} {c : Nat} (R : SetR w h a (fun j => decide (j ∈ ns)) c) (hb : ∀ k ∈ ns, 0 ≤ k ∧ k < 63) : c < 64 := by
  obtain ⟨o, es, ep, t, _, _, _, _, nd, hm, _, _, hn, _⟩ := R
  have h1 : (es.toList.map keyOf).map Int.toNat ⊆ List.range 63 := fun x hx => by
    obtain ⟨k, hk, rfl⟩ := List.mem_map.mp hx
    have h2 := (hm k).mpr hk
    obtain ⟨a, b⟩ := hb k (of_decide_eq_true h2)
    rw [List.mem_range]
    omega
  have h3 : ((es.toList.map keyOf).map Int.toNat).Nodup := by
    rw [List.Nodup, List.pairwise_map]
    refine List.Pairwise.imp_of_mem ?_ nd
    intro x y hx hy ne e
    obtain ⟨a1, b1⟩ := hb x (of_decide_eq_true ((hm x).mpr hx))
    obtain ⟨a2, b2⟩ := hb y (of_decide_eq_true ((hm y).mpr hy))
    exact ne (by omega)
  have h4 := h3.length_le_of_subset h1
  rw [List.length_map, List.length_map, List.length_range, Array.length_toList, hn] at h4
  omega
section
variable {X : Cx} {a : Expr} {ta : TE} {p p2 pos q : Pos}
def tSortSet (K : PySem.W.Frag) (ta : TE) : TE := fun σ H Q => ta σ H fun x H1 => ∃ (l : Addr) (ns : List Int), x = V.ref l ∧ SqL K H1 l (ns.map V.int) ∧ ns.length ≤ 1000 ∧ (∀ k ∈ ns, 0 ≤ k ∧ k < 63) ∧
  ∀ (os : List Int) (r : Addr), os.Pairwise (· < ·) → (∀ k, k ∈ os ↔ k ∈ ns) → H1 r = none → Q (.ref r) (upd H1 r (.lst (os.map V.int)))
theorem pe_sortedSet (hc : X.calm = true) (hg : Gl X "sorted") (hm : X.mg "sorted" = none) (hg2 : Gl X "set") (hm2 : X.mg "set" = none) (ha : PE X a ta)
    (na : starEach [a] X.env = (false, eval a X.env) :: starEach [] X.env := by rfl)
    (nb : starEach [Expr.Call (.Name "set" p2) [a] [] q] X.env = [(false, eval (Expr.Call (.Name "set" p2) [a] [] q) X.env)] := by rfl) :
    PE X (.Call (.Name "sorted" p) [.Call (.Name "set" p2) [a] [] q] [] pos) (tSortSet X.K ta) := by
  refine ⟨fun pins s σ H Q I h => ?_⟩
  refine wpAny_Call_Name_kw (ld_blt I hg hm (u := .builtin "sorted") (by decide +kernel) ?_ (by decide +kernel) (by decide +kernel))
  rw [nb]
  refine PySem.callWith_builtin1 (Call_ (ld_blt I hg2 hm2 PyProof.Rows.boot_set (PyProof.Rows.callWith_type1 (PyProof.Rows.args_cons (thn (ha.run pins s σ H _ I h) fun v s1 ⟨x, H1, I1, r1, l, ns, ex, hq, h1, hb, q1⟩ => PyProof.Rows.args_nil ?_) na) na rfl)))
  subst ex
  cases r1
  obtain ⟨its, rv, pl, _⟩ := I1.list hq
  refine call_setL ns (I1.ok.hd hc) pl.isList (by simpa using rv.ints) (by show _ < 4096; omega) fun g tk c R k => ?_
  have I2 : Inv X pins σ H1 { s1 with heap := g, toks := tk } := I1.kept k
  refine sorted_set R (I2.ok.hd hc) (setR_few R hb) fun s' r out c' os k2 eg eo hr ho hi hs hmem hlen => ?_
  have n1 : H1 r = none := I2.hok.fresh hr
  have h64 := setR_few R hb
  have OB : ObjOk X.prog X.w (upd H1 r (.lst (os.map V.int))) s'.heap r (.lst (os.map V.int)) := ⟨by rw [List.length_map, hlen, sizeLine_eq]; omega, out.toList, c', vals_of_ints hi, ho⟩
  have I3 := I2.call' (s' := s') (ch := []) eo (Un.laid k2 hr n1) (I2.hok.laid k2 hr OB) (by rw [eg]; exact I2.bare) (fun _ z => nomatch z)
  exact ⟨.ref r, _, I3, rfl, q1 os r hs (fun z => by rw [hmem z, decide_eq_true_eq]) n1⟩
end
end U

/-! in and not in over lists of data -/
namespace U
open PySem PySem.Spec PyProof.Rows L2
variable {X : Cx} {K : PySem.W.Frag}
theorem k_inD (h : X.K = K) (hu : X.A.units + 65 < cLine) : OpR X (compareOp .In) (rInD K) := by subst h; exact op_inD hu
theorem k_notinD (h : X.K = K) (hu : X.A.units + 65 < cLine) : OpR X (compareOp .NotIn) (rNotInD K) := by subst h; exact op_notInD hu
theorem _root_.L2.Room.units65 {k : Nat} {A : Around} (r : Room k A) : A.units + 65 < cLine := by have := r.un; omega
theorem iteFe {b : Bool} {A B : Prop} (e : b = false) (h : A) : if b = true then B else A := by
  subst e
  exact if_neg (by decide : ¬ (false = true)) ▸ h
theorem iteTe {b : Bool} {A B : Prop} (e : b = true) (h : B) : if b = true then B else A := by
  subst e
  exact if_pos (rfl : true = true) ▸ h
end U

/-! lists of pairs (int, flag): an item taken out by its data, sorted by the ints -/
namespace U
open PySem PySem.Spec PyProof.Rows L2
section
variable {X : Cx}
/-- l.remove(y), data of any depth -/
def rRemD (K : PySem.W.Frag) : V → List V → Hp → VK → Prop := fun x xs H Q => ∃ (a : Addr) (ys : List V) (y : V) (d : PyData) (ds : List PyData) (j : Nat) (z : PyData), x = V.ref a ∧ xs = [y] ∧ H a = some (.lst ys) ∧ DpAll K H ys ds ∧ Dp K H y d ∧
  SeqAt.shaped (.list ds) = true ∧ SeqAt.shaped d = true ∧ ds[j]? = some z ∧ PyData.eqv z d = true ∧ (∀ (m : Nat) (z' : PyData), m < j → ds[m]? = some z' → PyData.eqv z' d = false) ∧ Q .non (upd H a (.lst (ys.eraseIdx j)))
theorem mt_removeD (hu : X.A.units + 65 < cLine) : MtM X "list.remove" (rRemD X.K) := by
  intro pins s σ H x xs v us Q I rx rxs h
  obtain ⟨a, ys, y, d, ds, j, z, rfl, rfl, hH, ha, hy, sl, sd, hz, hzj, hno, q⟩ := h
  cases rx
  cases rxs with
  | cons ry rt =>
    rename_i uy ut
    cases rt
    obtain ⟨bs, r1⟩ := Dp.reads I d y uy hy ry
    have hxs : PyData.canLayAll0 ds = true := SeqAt.canLay_of_shaped sl
    have hroom : X.A.units + 1 + min (PyData.depthAll ds) d.depth < cLine := room_in_shaped sd hu
    obtain ⟨hsz, its, n, rv, hlen, ho⟩ := I.lstM hH
    obtain ⟨as, h4⟩ := Dp.readsAll I ds _ its ha rv
    have hn : its.length = ds.length := SeqAt.ReadsAll.length ds its as h4
    have hmap : its.map (SeqAt.readOf s.heap) = ds := SeqAt.readsAll_map ds its as hxs h4
    have hvl := rv.length
    have hsl := sizeLine_eq
    obtain ⟨hjd, _⟩ := List.getElem?_eq_some_iff.mp hz
    have hjl : j < its.length := by omega
    have hj : j < its.toArray.size := by simpa using hjl
    have at_ : ∀ (m : Nat) (hm : m < its.toArray.size) (z' : PyData), ds[m]? = some z' → SeqAt.readOf s.heap its.toArray[m] = z' := by
      intro m hm z' hz'
      have hml : m < its.length := by simpa using hm
      rw [← hmap, List.getElem?_map, List.getElem?_eq_getElem hml] at hz'
      have e1 : SeqAt.readOf s.heap its[m] = z' := Option.some.inj (show some (SeqAt.readOf s.heap its[m]) = some z' from hz')
      simpa using e1
    refine call_meets PySem.F.slot_list_remove ⟨_, ho, rfl⟩ PySem.F.entry_list_remove (PySem.F.args_list_remove_2 _ _)
      (SeqAt.list_removeAt a its.toArray n _ _ uy (fun u => PyData.eqv (SeqAt.readOf s.heap u) d) j hj ?_ ?_ (by rw [List.size_toArray]; omega)) ⟨ho, SeqAt.items_eqAt (vs := its.toArray) (show ReadsAll s.heap its.toArray.toList ds as from h4) r1 hxs (SeqAt.canLay_of_shaped sd) hroom, ?_⟩
    · show PyData.eqv (SeqAt.readOf s.heap its.toArray[j]) d = true
      rw [at_ j hj z hz]
      exact hzj
    · intro m hm hmj
      have hmd : m < ds.length := by omega
      have hz' : ds[m]? = some ds[m] := List.getElem?_eq_getElem hmd
      show PyData.eqv (SeqAt.readOf s.heap its.toArray[m]) d = false
      rw [at_ m hm _ hz']
      exact hno m _ hmj hz'
    · have rr := rv.eraseIdx j
      refine ⟨.non, _, I.lset (its' := its.eraseIdx j) (t' := s.toks) hH ho ?_ rr ?_, rfl, q⟩
      · show its.toArray.eraseIdxIfInBounds j = (its.eraseIdx j).toArray
        rw [List.eraseIdxIfInBounds_toArray]
      · have z2 := List.length_eraseIdx_le (l := ys) (i := j)
        omega
theorem k_removeD {K : PySem.W.Frag} (h : X.K = K) (hu : X.A.units + 65 < cLine) : MtM X "list.remove" (rRemD K) := by subst h; exact mt_removeD hu
theorem k_lcount {K : PySem.W.Frag} (h : X.K = K) : MtR X "list.count" (rCntI K) := by subst h; exact mt_lcount
/-- repr of None, or of data -/
def rReprN (K : PySem.W.Frag) : List V → Hp → VK → Prop := fun xs H Q => (xs = [.non] ∧ Q (.str "None") H) ∨ rRepr K xs H Q
theorem k_reprN {K : PySem.W.Frag} (h : X.K = K) (hg : X.A.guards = some []) (hu : X.A.units + 64 < cLine) : CallR X (.builtin "repr") (rReprN K) := by
  refine CallR.or (fun pins s σ H xs us Q I r h => ?_) (k_repr h hg hu)
  obtain ⟨rfl, q⟩ := h
  obtain ⟨u, rfl, ru⟩ := vals1 r
  cases ru
  exact PySem.P.repr_of_none ⟨.str _, H, I.tok _, ⟨_, rfl⟩, q⟩
/-- a tuple as a target, K named (within a try) -/
theorem k_gtup {K : PySem.W.Frag} {es : List Expr} {k : Nat} {t : TGs} {n : Nat} {pos : Pos} (e : X.K = K) (hc : X.calm = true) (h : PGs X es t)
    (hn : (assignEach es X.env).length = n := by rfl) (hst : (assignEach es X.env).findIdx? (·.1) = none := by rfl) : PG X (.Tuple es k pos) (gTup K n t) := by
  subst e
  exact pg_tup hc h hn hst
/-- a method of a builtin, K named (within a comprehension) -/
theorem k_bm {K : PySem.W.Frag} {T : String} {name : Str} {id : String} {r : V → List V → Hp → VK → Prop} {o e : Expr} {es : List Expr} {to : TE} {t : TA} {apos cpos : Pos} (h : X.K = K) (pa : PlainAttrs T) (slot : Slot T name id) (hty : typeOf (.builtin id) = pure (.type "method_descriptor")) (hm : MtR X id r) (ho : PE X o to) (ha : PA X (e :: es) t)
    (hbase : attributeBase o name X.env (eval o X.env) = eval o X.env := by rfl)
    (hfew : ((backTo cpos (starEach (e :: es) X.env)).all (fun x => !x.1) && (backToKw cpos (keywordEach [] X.env)).all (fun x => x.1.isSome)
      && decide ((e :: es).length + ([] : List Keyword).length + (if ([] : List Keyword).isEmpty then 0 else 1) < 30)) = true := by rfl)
    (hline : (apos.endLine == cpos.line) = true := by rfl) (hs : starEach (e :: es) X.env = (false, eval e X.env) :: starEach es X.env := by rfl) (hplain : (backTo cpos (starEach es X.env)).any (·.1) = false := by rfl) :
    PE X (.Call (.Attribute o name apos) (e :: es) [] cpos) (tBM K T r to t) := by
  subst h
  exact pe_bm pa slot hty hm ho ha hbase hfew hline hs hplain
/-! ### sorted -/
def IsPB (h : Heap) (v : Value) (x : Int) (b : Bool) : Prop := ∃ a o t n, v = .ref a ∧ h.get? a = some o ∧ o.cls = .type "tuple" ∧ o.data = .seq #[.int x t, .bool b] n
theorem IsPB.keeps {h h' : Heap} {v : Value} {x : Int} {b : Bool} (p : IsPB h v x b) (k : ∀ b o, h.get? b = some o → o.cls = .type "tuple" → h'.get? b = some o) : IsPB h' v x b := by
  obtain ⟨a, o, t, n, e, ho, hc, hd⟩ := p
  exact ⟨a, o, t, n, e, k _ _ ho hc, hc, hd⟩
def ltK (k : Value → Int) (v u : Value) : Bool := decide (k v < k u)
theorem swo_ltK (k : Value → Int) : SrtO.Swo (ltK k) := by
  refine ⟨fun x y h => ?_, fun x y z h1 h2 => ?_⟩
  · have a := of_decide_eq_true (p := k x < k y) h
    exact decide_eq_false (p := k y < k x) (by omega)
  · have a := of_decide_eq_false (p := k y < k x) h1
    have b := of_decide_eq_false (p := k z < k y) h2
    exact decide_eq_false (p := k z < k x) (by omega)
variable {prog : Program} {w : World} {A : Around} {s : Shared}
theorem pb_cmp {vs : List Value} {k : Value → Int} {b : Value → Bool} (hp : ∀ v ∈ vs, IsPB s.heap v (k v) (b v)) (one : ∀ v ∈ vs, ∀ u ∈ vs, k v = k u → b v = b u) : SrtO.Cmp prog w A s (tuples' true) (fun p => p.1 ∈ vs) (SrtO.lt2 (ltK k)) := by
  intro p q hm hm'
  have h1 := hp _ hm
  have h2 := hp _ hm'
  have h3 := one _ hm _ hm'
  show wpAny (model prog w) A (keyLt' (tuples' true) p.1 q.1) (fun r s' => s' = s ∧ r = ltK k p.1 q.1) (fun _ _ => False) s
  unfold ltK
  generalize k p.1 = x at h1 h3 ⊢
  generalize b p.1 = y at h1 h3
  generalize k q.1 = x' at h2 h3 ⊢
  generalize b q.1 = y' at h2 h3
  obtain ⟨a, o, t, n, e, ho, hc, hd⟩ := h1
  obtain ⟨a', o', t', n', e', ho', hc', hd'⟩ := h2
  rw [e, e']
  refine PySem.W.kat_lt ho hd ho' hd' ?_
  show PySem.W.KatLex prog w A true (decide (2 < 2)) _ [(.int x t, .int x' t'), (.bool y, .bool y')] 0 s
  refine PySem.W.kat_cons (SeqAt.EqAt.int_int x t x' t' prog w _ _ ?_)
  refine PySem.W.kat_go (fun e1 => ?_) (fun e1 => ?_)
  · have ex : x = x' := by simpa using e1
    have ey := h3 ex
    subst ex
    subst ey
    refine PySem.W.kat_yes (PySem.W.kat_cons (SeqAt.EqAt.bool_bool y y prog w _ _ ?_))
    refine PySem.W.kat_go (fun e2 => ?_) (fun e2 => ?_)
    · exact PySem.W.kat_yes (PySem.W.kat_nil ⟨rfl, (decide_eq_false (Int.lt_irrefl _)).symm⟩)
    · rw [beq_self_eq_true] at e2
      cases e2
  · have ex : ¬ x = x' := by simpa using e1
    exact PySem.W.kat_no (oneLt_int ⟨rfl, rfl⟩)
theorem pb_firsts {h : Heap} : ∀ {vs : List Value}, (∀ v ∈ vs, ∃ x y, IsPB h v x y) → ∃ fs : List Value, PySem.W.KatTups h vs fs ∧ fs.length = vs.length ∧ ∀ f ∈ fs, ∃ x t, f = Value.int x t
  | [], _ => ⟨[], PySem.W.KatTups.nil, rfl, fun _ hm => by simp at hm⟩
  | v :: vs, hp => by
    obtain ⟨fs, h1, h2, h3⟩ := pb_firsts (vs := vs) fun v' hm => hp v' (List.mem_cons_of_mem _ hm)
    obtain ⟨x, y, a, o, t, n, e, ho, hc, hd⟩ := hp v (List.mem_cons_self ..)
    subst e
    refine ⟨.int x t :: fs, PySem.W.KatTups.cons ho hc hd rfl h1, by rw [List.length_cons, List.length_cons, h2], fun f hm => ?_⟩
    rcases List.mem_cons.mp hm with rfl | hm
    · exact ⟨x, t, rfl⟩
    · exact h3 f hm
theorem pb_sortable {a : Addr} {vs : List Value} {k : Value → Int} {b : Value → Bool} (h0 : 0 < vs.length) (hp : ∀ v ∈ vs, IsPB s.heap v (k v) (b v)) (one : ∀ v ∈ vs, ∀ u ∈ vs, k v = k u → b v = b u) (ha : ∀ o, s.heap.get? a = some o → o.cls ≠ .type "tuple") : SrtO.SortableO prog w A s a vs (ltK k) := by
  intro h' keep
  have hp' : ∀ v ∈ vs, IsPB h' v (k v) (b v) := fun v hm => (hp v hm).keeps fun b o e c => keep b o (fun z => by subst z; exact ha o e c) e
  obtain ⟨fs, h1, h2, h3⟩ := pb_firsts fun v hm => ⟨_, _, hp' v hm⟩
  refine ⟨tuples' true, fun Q E hq => ?_, pb_cmp hp' one⟩
  refine PySem.W.kat_kind (T := .type "int") h1 (by omega) (fun f hm => ?_) (by rfl) ?_
  · obtain ⟨x, t, rfl⟩ := h3 f hm
    exact PySem.W.Looks.now
  · have e : (Value.type "int" != Value.type "tuple") = true := by first | decide +kernel | rfl | decide
    rw [e]
    exact hq
end
/-- sorted(xs), xs a list of pairs (int, flag), one flag for each int -/
def rSortedPB (K : PySem.W.Frag) : List V → Hp → VK → Prop := fun vs H Q => ∃ (a : Addr) (ys : List V) (k : V → Int) (b : V → Bool), vs = [V.ref a] ∧ SqL K H a ys ∧ (∀ y ∈ ys, ∃ t, y = V.ref t ∧ H t = some (.tup [.int (k y), .bl (b y)])) ∧ (∀ y ∈ ys, ∀ z ∈ ys, k y = k z → b y = b z) ∧
  ∀ (zs : List V) (p : Addr), zs.Perm ys → zs.Pairwise (fun y z => k y ≤ k z) → H p = none → Q (.ref p) (upd H p (.lst zs))
theorem k_sortedPB {X : Cx} {K : PySem.W.Frag} (h : X.K = K) : CallR X (.builtin "sorted") (rSortedPB K) := by
  subst h
  intro pins s σ H vs us Q I r h
  obtain ⟨a, ys, k, b, rfl, hs, hx, one, q⟩ := h
  obtain ⟨its, rv, hl, hz⟩ := I.list hs
  rw [Vals.ref1 r]
  obtain ⟨e1, e2⟩ := refs_back rv fun x m => by
    obtain ⟨t, e, _⟩ := hx x m
    exact ⟨t, e⟩
  have hm0 : ∀ v ∈ its, backV v ∈ ys := fun v hv => by rw [e1]; exact List.mem_map.mpr ⟨_, hv, rfl⟩
  have hp : ∀ v ∈ its, IsPB s.heap v (k (backV v)) (b (backV v)) := fun v hv => by
    have hm := hm0 v hv
    obtain ⟨t, rfl⟩ := e2 v hv
    obtain ⟨t', e, ht⟩ := hx _ hm
    cases e
    obtain ⟨_, its2, r2, o, ho, hc, n, hd⟩ := I.hok _ _ ht
    obtain ⟨u1, u2, rfl, ri, rj⟩ := vals2 r2
    obtain ⟨t1, rfl⟩ := ri
    cases rj
    exact ⟨t, o, t1, n, rfl, ho, hc, hd⟩
  have one' : ∀ v ∈ its, ∀ u ∈ its, k (backV v) = k (backV u) → b (backV v) = b (backV u) := fun v hv u hu e => one _ (hm0 v hv) _ (hm0 u hu) e
  refine SrtO.sorted_ord (swo_ltK fun u => k (backV u)) hl.isList (by rw [← rv.length]; exact hz) (fun h2 h₁ a' ha kk => ?_) fun out h1 h2 => ?_
  · refine pb_sortable (s := { s with heap := h₁ }) (b := fun u => b (backV u)) (by omega) (fun v hm => (hp v hm).keeps fun b o e _ => (kk b o e).2) one' fun o e => ?_
    have e' : some o = some (seqObj "list" its.toArray 0) := e.symm.trans ha
    cases e'
    intro c
    exact absurd (Value.type.inj c) (by decide)
  · have h3 : ∀ u ∈ out, ∃ a, u = Value.ref a := fun u hu => e2 u (h2.perm.mem_iff.mp hu)
    obtain ⟨ep, he'⟩ := PyProof.Rows.sortedAll_at s.heap its out.toArray
    have hperm : (out.map backV).Perm ys := by
      rw [e1]
      exact h2.perm.map backV
    have hlen : (out.map backV).length ≤ sizeLine := by
      rw [hperm.length_eq]
      exact hz
    refine ⟨.ref _, upd H (s.heap.objs.size + 1) (.lst (out.map backV)), I.laid (t' := s.toks) (fun _ _ => PyProof.Rows.sortedAll_old) (Nat.le_succ _) ⟨hlen, out, ep, vals_back h3, he'⟩, rfl, q _ _ hperm ?_ (I.hok.fresh (Nat.le_succ _))⟩
    refine List.pairwise_map.mpr (h1.imp fun {x y} z => ?_)
    have z' : ltK (fun u => k (backV u)) y x = false := z
    have := of_decide_eq_false (p := k (backV y) < k (backV x)) z'
    omega
end U

/-! bits of numbers, dicts of numbers, d[k] op= on lists, list(d.values()) -/
namespace U
open PySem PySem.Spec PyProof.Rows L2
/-! ### numbers as sets -/
theorem tb0 (n : Nat) : n.testBit 0 = decide (n % 2 = 1) := Nat.testBit_zero n
theorem tbS (n i : Nat) : n.testBit (i + 1) = (n / 2).testBit i := Nat.testBit_succ n i
theorem sub_half {F S : Nat} (h : ∀ i, F.testBit i = true → S.testBit i = true) : F % 2 ≤ S % 2 ∧ ∀ i, (F / 2).testBit i = true → (S / 2).testBit i = true := by
  refine ⟨?_, fun i hi => ?_⟩
  · have := h 0
    rw [tb0, tb0, decide_eq_true_eq, decide_eq_true_eq] at this
    omega
  · rw [← tbS] at hi ⊢
    exact h _ hi
/-- a set within another one: the difference -/
theorem sub_bits : ∀ {S F : Nat}, (∀ i, F.testBit i = true → S.testBit i = true) → F ≤ S ∧ ∀ i, (S - F).testBit i = (S.testBit i && !F.testBit i) := by
  intro S
  induction S using Nat.strongRecOn with
  | ind S ih =>
    intro F h
    by_cases hS : S = 0
    · subst hS
      have hF : F = 0 := by
        refine Nat.eq_of_testBit_eq fun i => ?_
        cases e : F.testBit i with
        | false => simp
        | true => exact (h i e).symm
      subst hF
      exact ⟨Nat.le_refl _, fun i => by simp⟩
    · obtain ⟨h0, h1⟩ := sub_half h
      obtain ⟨a, b⟩ := ih (S / 2) (by omega) h1
      refine ⟨by omega, fun i => ?_⟩
      cases i with
      | zero =>
        rw [tb0, tb0, tb0, Bool.eq_iff_iff, Bool.and_eq_true, Bool.not_eq_true', decide_eq_true_eq, decide_eq_true_eq, decide_eq_false_iff_not]
        omega
      | succ i =>
        rw [tbS, tbS, tbS, ← b i]
        congr 1
        omega
/-- sets that are apart: the sum -/
theorem add_bits : ∀ {A B : Nat}, (∀ i, A.testBit i = true → B.testBit i = false) → ∀ i, (A + B).testBit i = (A.testBit i || B.testBit i) := by
  intro A
  induction A using Nat.strongRecOn with
  | ind A ih =>
    intro B h i
    by_cases hA : A = 0
    · subst hA
      simp
    · have h0 := h 0
      rw [tb0, tb0, decide_eq_true_eq, decide_eq_false_iff_not] at h0
      have h1 : ∀ i, (A / 2).testBit i = true → (B / 2).testBit i = false := fun i hi => by
        rw [← tbS] at hi ⊢
        exact h _ hi
      cases i with
      | zero =>
        rw [tb0, tb0, tb0, Bool.eq_iff_iff, Bool.or_eq_true, decide_eq_true_eq, decide_eq_true_eq, decide_eq_true_eq]
        omega
      | succ i =>
        rw [tbS, tbS, tbS, ← ih (A / 2) (by omega) h1 i]
        congr 1
        omega
theorem one_bits (k i : Nat) : (2 ^ k).testBit i = decide (k = i) := Nat.testBit_two_pow
/-- the next lower set within f -/
theorem and_top : ∀ {f d e : Nat}, (∀ i, d.testBit i = true → f.testBit i = true) → (∀ i, e.testBit i = true → f.testBit i = true) → e < d → e ≤ (d - 1) &&& f := by
  intro f
  induction f using Nat.strongRecOn with
  | ind f ih =>
    intro d e hd he lt
    by_cases hf : f = 0
    · subst hf
      have : d = 0 := by
        refine Nat.eq_of_testBit_eq fun i => ?_
        cases q : d.testBit i with
        | false => simp
        | true => exact (hd i q).symm
      omega
    · obtain ⟨d0, d1⟩ := sub_half hd
      obtain ⟨e0, e1⟩ := sub_half he
      have q2 : ((d - 1) &&& f) / 2 = ((d - 1) / 2) &&& (f / 2) := Nat.and_div_two
      have q0 : ((d - 1) &&& f) % 2 = ((d - 1) % 2) &&& (f % 2) := by
        have := Nat.and_mod_two_pow (a := d - 1) (b := f) (n := 1)
        simpa using this
      rcases Nat.mod_two_eq_zero_or_one d with z | z
      · have q3 : (d - 1) / 2 = d / 2 - 1 := by omega
        have q4 : (d - 1) % 2 = 1 := by omega
        have := ih (f / 2) (by omega) d1 e1 (by omega)
        rw [q3] at q2
        rw [q4] at q0
        have q5 : (1 &&& (f % 2)) = f % 2 := by
          rcases Nat.mod_two_eq_zero_or_one f with y | y <;> rw [y] <;> rfl
        rw [q5] at q0
        omega
      · have q3 : (d - 1) / 2 = d / 2 := by omega
        have q6 : (d / 2) &&& (f / 2) = d / 2 := by
          refine Nat.eq_of_testBit_eq fun i => ?_
          rw [Nat.testBit_and]
          cases q : (d / 2).testBit i with
          | false => rfl
          | true => rw [d1 i q]; rfl
        rw [q3, q6] at q2
        omega
/-- the places of the bits -/
def bitsL (m : Nat) : List Nat := (List.range (Builtin.Int.intBits (m : Int))).filter fun k => m.testBit k
theorem ib_le {m n : Nat} (h : m < 2 ^ n) : Builtin.Int.intBits (m : Int) ≤ n := PyProof.Rows.intBits_le (by simpa using h)
theorem lt_ib (m : Nat) : m < 2 ^ Builtin.Int.intBits (m : Int) := by
  unfold Builtin.Int.intBits
  by_cases h : m = 0
  · subst h
    decide
  · have e : ((m : Int) == 0) = false := beq_eq_false_iff_ne.mpr (by omega)
    rw [e]
    exact Nat.lt_log2_self
theorem mem_bitsL {m k : Nat} : k ∈ bitsL m ↔ m.testBit k = true := by
  unfold bitsL
  rw [List.mem_filter, List.mem_range]
  refine ⟨fun h => h.2, fun h => ⟨?_, h⟩⟩
  refine Nat.lt_of_not_le fun z => ?_
  have := Nat.testBit_lt_two_pow (Nat.lt_of_lt_of_le (lt_ib m) (Nat.pow_le_pow_right (by decide) z))
  rw [h] at this
  cases this
theorem bitsL_pw (m : Nat) : (bitsL m).Pairwise (· < ·) := List.Pairwise.filter _ List.pairwise_lt_range
theorem bitsL_nd (m : Nat) : (bitsL m).Nodup := (bitsL_pw m).imp fun h => Nat.ne_of_lt h
theorem bitsL_len {m n : Nat} (h : m < 2 ^ n) : (bitsL m).length ≤ n := by
  unfold bitsL
  refine Nat.le_trans (List.length_filter_le _ _) ?_
  rw [List.length_range]
  exact ib_le h
/-! ### rules -/
section
variable {X : Cx}
theorem toNat_nn (a : Nat) : ((a : Int)).toNat = a := Int.toNat_natCast a
theorem op_orN : OpR X (binaryOp .BitOr) (fun x y H Q => ∃ a b : Nat, x = nV a ∧ y = nV b ∧ Q (nV (a ||| b)) H) := by
  intro pins s σ H x y v u Q I rx ry h
  obtain ⟨a, b, rfl, rfl, q⟩ := h
  refine op_or pins s σ H _ _ v u Q I rx ry ⟨_, _, rfl, rfl, ?_⟩
  show Q (V.int (Builtin.bitOr (a : Int) (b : Int))) H
  rw [bitOr_nn (Int.natCast_nonneg a) (Int.natCast_nonneg b), toNat_nn, toNat_nn]
  exact q
theorem ip_orN : PIp X .BitOr (fun x y H Q => ∃ a b : Nat, x = nV a ∧ y = nV b ∧ Q (nV (a ||| b)) H) := by
  intro pins s σ H x y v u Q I rx ry h
  obtain ⟨a, b, rfl, rfl, q⟩ := h
  refine iop_or pins s σ H _ _ v u Q I rx ry ⟨_, _, rfl, rfl, ?_⟩
  show Q (V.int (Builtin.bitOr (a : Int) (b : Int))) H
  rw [bitOr_nn (Int.natCast_nonneg a) (Int.natCast_nonneg b), toNat_nn, toNat_nn]
  exact q
theorem op_andN : OpR X (binaryOp .BitAnd) (fun x y H Q => ∃ a b : Nat, x = nV a ∧ y = nV b ∧ Q (nV (a &&& b)) H) := by
  intro pins s σ H x y v u Q I rx ry h
  obtain ⟨a, b, rfl, rfl, q⟩ := h
  refine op_and pins s σ H _ _ v u Q I rx ry ⟨_, _, rfl, rfl, ?_⟩
  show Q (V.int (Builtin.bitAnd (a : Int) (b : Int))) H
  rw [PyProof.Rows.bitAnd_pp (Int.natCast_nonneg a) (Int.natCast_nonneg b), toNat_nn, toNat_nn]
  exact q
/-- a number below 0, by what is beside it -/
theorem op_andM : OpR X (binaryOp .BitAnd) (fun x y H Q => ∃ d f : Nat, x = .int (-(d : Int)) ∧ y = nV f ∧ 0 < d ∧ Q (nV (f - ((d - 1) &&& f))) H) := by
  intro pins s σ H x y v u Q I rx ry h
  obtain ⟨d, f, rfl, rfl, hd, q⟩ := h
  refine op_and pins s σ H _ _ v u Q I rx ry ⟨_, _, rfl, rfl, ?_⟩
  show Q (V.int (Builtin.bitAnd (-(d : Int)) (f : Int))) H
  rw [PyProof.Rows.bitAnd_np (by omega) (Int.natCast_nonneg f), toNat_nn]
  have e : (Builtin.bitNot (-(d : Int))).toNat = d - 1 := by
    unfold Builtin.bitNot
    omega
  rw [e, Nat.and_comm]
  have le : ((d - 1) &&& f) ≤ f := Nat.and_le_right
  have e2 : (f : Int) - (((d - 1) &&& f : Nat) : Int) = ((f - ((d - 1) &&& f) : Nat) : Int) := by omega
  rw [e2]
  exact q
theorem op_addN : OpR X (binaryOp .Add) (fun x y H Q => ∃ a b : Nat, x = nV a ∧ y = nV b ∧ Q (nV (a + b)) H) := by
  intro pins s σ H x y v u Q I rx ry h
  obtain ⟨a, b, rfl, rfl, q⟩ := h
  exact op_add pins s σ H _ _ v u Q I rx ry ⟨_, _, rfl, rfl, q⟩
theorem op_subN : OpR X (binaryOp .Sub) (fun x y H Q => ∃ a b : Nat, x = nV a ∧ y = nV b ∧ b ≤ a ∧ Q (nV (a - b)) H) := by
  intro pins s σ H x y v u Q I rx ry h
  obtain ⟨a, b, rfl, rfl, hb, q⟩ := h
  refine op_sub pins s σ H _ _ v u Q I rx ry ⟨_, _, rfl, rfl, ?_⟩
  show Q (V.int ((a : Int) - (b : Int))) H
  have e : (a : Int) - (b : Int) = ((a - b : Nat) : Int) := by omega
  rw [e]
  exact q
theorem ip_subN : PIp X .Sub (fun x y H Q => ∃ a b : Nat, x = nV a ∧ y = nV b ∧ b ≤ a ∧ Q (nV (a - b)) H) := by
  intro pins s σ H x y v u Q I rx ry h
  obtain ⟨a, b, rfl, rfl, hb, q⟩ := h
  refine ip_sub pins s σ H _ _ v u Q I rx ry ⟨_, _, rfl, rfl, ?_⟩
  show Q (V.int ((a : Int) - (b : Int))) H
  have e : (a : Int) - (b : Int) = ((a - b : Nat) : Int) := by omega
  rw [e]
  exact q
theorem ip_addN : PIp X .Add (fun x y H Q => ∃ a b : Nat, x = nV a ∧ y = nV b ∧ Q (nV (a + b)) H) := by
  intro pins s σ H x y v u Q I rx ry h
  obtain ⟨a, b, rfl, rfl, q⟩ := h
  exact ip_add pins s σ H _ _ v u Q I rx ry ⟨_, _, rfl, rfl, q⟩
theorem op_shrNN : OpR X (binaryOp .RShift) (fun x y H Q => ∃ a k : Nat, x = nV a ∧ y = nV k ∧ Q (nV (a >>> k)) H) := by
  intro pins s σ H x y v u Q I rx ry h
  obtain ⟨a, k, rfl, rfl, q⟩ := h
  refine op_shrN pins s σ H _ _ v u Q I rx ry ⟨_, k, rfl, rfl, ?_⟩
  have e : (a : Int) / 2 ^ k = ((a >>> k : Nat) : Int) := by
    rw [Nat.shiftRight_eq_div_pow, Int.natCast_ediv, Int.natCast_pow]
    rfl
  rw [e]
  exact q
theorem op_oneN : OpR X (binaryOp .LShift) (fun x y H Q => ∃ k : Nat, x = .int 1 ∧ y = nV k ∧ k ≤ 134217727 ∧ Q (nV (2 ^ k)) H) := by
  intro pins s σ H x y v u Q I rx ry h
  obtain ⟨k, rfl, rfl, c, q⟩ := h
  refine op_oneShl pins s σ H _ _ v u Q I rx ry ⟨k, rfl, rfl, c, ?_⟩
  have e : (2 : Int) ^ k = ((2 ^ k : Nat) : Int) := (Int.natCast_pow 2 k).symm
  rw [e]
  exact q
/-- the bit k of a, as a truth -/
theorem bit1 (a k : Nat) : ((nV (a >>> k &&& 1)) = V.int 0 ↔ a.testBit k = false) ∧ (((a >>> k &&& 1 : Nat) : Int) != 0) = a.testBit k := by
  have e : a >>> k &&& 1 = (a.testBit k).toNat := by
    rw [Nat.and_comm]
    unfold Nat.testBit
    rcases Nat.mod_two_eq_zero_or_one (a >>> k) with z | z
    · have e1 : 1 &&& a >>> k = 0 := by
        rw [Nat.and_comm, Nat.and_one_is_mod]
        exact z
      rw [e1]
      rfl
    · have e1 : 1 &&& a >>> k = 1 := by
        rw [Nat.and_comm, Nat.and_one_is_mod]
        exact z
      rw [e1]
      rfl
  rw [e]
  cases a.testBit k
  · exact ⟨⟨fun _ => rfl, fun _ => rfl⟩, rfl⟩
  · refine ⟨⟨fun z => ?_, fun z => by cases z⟩, rfl⟩
    have z' : V.int 1 = V.int 0 := z
    injection z' with z'
    cases z'
theorem and0 (a b : Nat) : (((a &&& b : Nat) : Int) != 0) = true ↔ ∃ i, a.testBit i = true ∧ b.testBit i = true := by
  rw [bne_iff_ne]
  constructor
  · intro h
    refine Classical.byContradiction fun no => h ?_
    have : a &&& b = 0 := by
      refine Nat.eq_of_testBit_eq fun i => ?_
      rw [Nat.testBit_and, Nat.zero_testBit]
      cases q : a.testBit i with
      | false => rfl
      | true =>
        cases q2 : b.testBit i with
        | false => rfl
        | true => exact (no ⟨i, q, q2⟩).elim
    rw [this]
    rfl
  · rintro ⟨i, h1, h2⟩ z
    have z' : a &&& b = 0 := by omega
    have : (a &&& b).testBit i = true := by rw [Nat.testBit_and, h1, h2]; rfl
    rw [z', Nat.zero_testBit] at this
    cases this
/-- a truth, as a test of a comprehension -/
def tTruC (K : PySem.W.Frag) (ta : TE) : TT := fun σ H Q => ta σ H fun x H1 => ∃ k, TruV K x H1 k ∧ Q k H1
theorem k_truC {K : PySem.W.Frag} {a : Expr} {ta : TE} (h : X.K = K) (ha : PE X a ta) (he : ∀ whole, isTrue a X.env whole = (do let v ← whole; standAt a.pos; holding [v] (truthy v))) : PT X a (tTruC K ta) := k_tru h ha he
/-- xs[i] of a list that stands in H, to be set anew -/
def rGetL : V → V → Hp → VK → Prop := fun x y H Q => ∃ (p : Addr) (xs : List V) (i : Nat) (v : V), x = .ref p ∧ y = nV i ∧ H p = some (.lst xs) ∧ xs[i]? = some v ∧ Q v H
theorem get_lst : PGet X rGetL := by
  intro pins s σ H o i ov iv Q I ro ri h
  obtain ⟨p, xs, k, v, rfl, rfl, hp, hv, q⟩ := h
  cases ro
  obtain ⟨t, rfl⟩ := ri
  obtain ⟨its, r, pl, hz⟩ := I.list (SqL.of hp)
  obtain ⟨w, ew, rw'⟩ := r.get hv
  have hl := r.length
  have hn := line63
  have hk := (List.getElem?_eq_some_iff.mp hv).1
  exact wpAny_getItem_list pl.isList (by omega) (by omega) (by rw [toNat_nn]; simpa using ew) ⟨v, H, I, rw', q⟩
/-- a dict comprehension over it: Pv by the turn and the heap (the new dict at D within) -/
theorem dc_it {J : It} {n : Nat} {G : Hp → Prop} {Y : Nat → Hp → V → Hp → Prop} (w : Walk J n G Y) {g : TG} {tt : TT} {tk tv : TE} {vs : List Nat} {σ : L2.St} {H1 : Hp} {D : Addr} {Qd : Hp → Prop} (Pv : Nat → Hp → Prop) (h0 : Pv 0 (upd H1 D (.dK []))) (hG : ∀ i H, i ≤ n → Pv i H → G H)
    (hs : ∀ i x H H', i < n → Pv i H → Y i H x H' → g x (wipe σ vs) H' fun σ2 H2 => wipe σ2 vs = wipe σ vs ∧ tt σ2 H2 fun b H3 =>
      if b = true then tk σ2 H3 fun y H4 => tv σ2 H4 fun z H5 => ∃ kvs k, y = kV k ∧ H5 D = some (.dK kvs) ∧ kvs.length < sizeLine ∧ Pv (i + 1) (upd H5 D (.dK (putK kvs k z))) else Pv (i + 1) H3) (hd : ∀ H, Pv n H → Qd H) :
    ∃ W : Nat → Nat → Hp → Prop, (∃ m, W 0 m (upd H1 D (.dK []))) ∧ ∀ i m H, W i m H →
      (J.stop i H ∧ Qd H) ∨ (J.go i H ∧ ∃ Nx : Hp → Prop, (∀ H', Nx H' → ∃ m', m' < m ∧ W (i + 1) m' H') ∧ ∀ x H', J.yld i H x H' → g x (wipe σ vs) H' fun σ2 H2 => wipe σ2 vs = wipe σ vs ∧ tt σ2 H2 fun b H3 =>
        if b = true then tk σ2 H3 fun y H4 => tv σ2 H4 fun z H5 => ∃ kvs k, y = kV k ∧ H5 D = some (.dK kvs) ∧ kvs.length < sizeLine ∧ Nx (upd H5 D (.dK (putK kvs k z))) else Nx H3) := by
  refine ⟨fun i m H => m = n - i ∧ i ≤ n ∧ Pv i H, ⟨n, by simp, Nat.zero_le _, h0⟩, ?_⟩
  rintro i m H ⟨rfl, hi, p⟩
  have q := hG i H hi p
  by_cases hlt : i < n
  · exact .inr ⟨w.goes i H hlt q, Pv (i + 1), fun H' p' => ⟨n - (i + 1), by omega, rfl, hlt, p'⟩, fun x H' y => hs i x H H' hlt p (w.yields i H x H' hlt q y)⟩
  · have e : i = n := by omega
    subst e
    exact .inl ⟨w.stops H q, hd H p⟩
/-! ### list(d.values()) -/
def tListVals (td : TE) : TE := fun σ H Q => td σ H fun x H1 => ∃ (a : Addr) (kvs : List (Key × V)), x = V.ref a ∧ H1 a = some (.dK kvs) ∧ ∀ p, H1 p = none → Q (.ref p) (upd H1 p (.lst (kvs.map (·.2))))
theorem pe_listVals {o : Expr} {p pos apos mpos : Pos} {td : TE} (hc : X.calm = true) (hg : Gl X "list") (hm : X.mg "list" = none) (hd : PE X o td) (hbase : attributeBase o "values" X.env (eval o X.env) = eval o X.env := by rfl) (hline : (apos.endLine == mpos.line) = true := by rfl)
    (hse : starEach [Expr.Call (.Attribute o "values" apos) [] [] mpos] X.env = [(false, eval (Expr.Call (.Attribute o "values" apos) [] [] mpos) X.env)] := by rfl) :
    PE X (.Call (.Name "list" p) [.Call (.Attribute o "values" apos) [] [] mpos] [] pos) (tListVals td) := by
  refine ⟨fun pins s σ H Q I h => ?_⟩
  refine wpAny_Call_Name_kw (ld_blt I hg hm (u := .type "list") (by decide +kernel) ?_ (by decide +kernel) (by decide +kernel))
  rw [hse]
  refine PySem.callWith_type1 (wpAny_Call_method0_late hbase hline (thn (hd.run pins s σ H _ I h) fun v s1 ⟨x, H1, I1, r1, a, kvs, ex, ha, q⟩ => ?_))
  subst ex
  cases r1
  obtain ⟨hz, hsys, vs, rel, dof⟩ := dk_of I1.hok ha
  obtain ⟨ep, dat⟩ := dof.dictAt
  obtain ⟨ob, es, ho, exx, hdat, hko, hpr, hnd⟩ := id dat
  refine ⟨"dict", "dict.values", F.plainAttrs_dict, F.slot_dict_values, F.type_dict_values, ⟨ob, ho, exx.1⟩, fun b e => ?_, Calls.callWith_builtin rfl (PySem.evalArgs_none ?_)⟩
  · cases e
    exact ⟨ob, ho, exx.2.1⟩
  refine call_meetsIn F.slot_dict_values ⟨ob, ho, exx.1⟩ F.entry_dict_values (F.args_dict_values_1 _) (meets_dict_values (mixKind X.prog X.w) a hsys) ⟨⟨vs, dof⟩, ?_⟩
  have hl : vs.length = kvs.length := (KV.length rel).symm
  have h16 : vs.length ≤ sizeLine := by
    rw [hl]
    exact hz
  have k1 : ∀ b u, s1.heap.get? b = some u → (s1.heap.push { cls := .type "dict_values", data := .fields #[.ref a] }).get? b = some u := fun b u e => Heap.get?_push_of_some _ e
  have dat1 : (s1.heap.push { cls := .type "dict_values", data := .fields #[.ref a] }).DictAt (mixKind X.prog X.w) a vs ep := dat.keep k1
  have I2 : Inv X pins σ H1 { s1 with heap := s1.heap.push { cls := .type "dict_values", data := .fields #[.ref a] } } := I1.kept k1
  refine PySem.W.kdl_call (PySem.W.kdl_values (r := s1.heap.objs.size) (d := a) (knd := mixKind X.prog X.w) (kvs := vs) (ep := ep)) (I.ok.hd hc) ⟨⟨_, Heap.get?_push_size _ rfl, rfl, rfl⟩, dat1⟩ h16 fun h' tk acc' c' hkeep hS hacc => ?_
  refine ⟨.ref _, upd H1 _ (.lst (kvs.map (·.2))), I2.laid (t' := tk) hkeep (Nat.le_refl _) (show ObjOk X.prog X.w _ _ _ (.lst (kvs.map (·.2))) from ⟨?_, acc'.toList, c', ?_, ?_⟩), rfl, q _ (I2.hok.fresh (Nat.le_refl _))⟩
  · rw [List.length_map]
    exact hz
  · have el : acc'.toList.length = acc'.size := by simp
    refine vals_of_at (by rw [List.length_map, el, hacc.1, hl]) fun j x w h1 h2 => ?_
    obtain ⟨k, hky⟩ := hacc.2 j w (by rw [← Array.getElem?_toList]; exact h2)
    obtain ⟨x', e1, e2⟩ := KV.at' rel hky
    rw [List.getElem?_map, e1] at h1
    cases h1
    exact e2
  · rw [Array.toArray_toList]
    exact hS
end
/-! ### dicts with whole numbers as keys -/
def kvG (hs : List (Nat × V)) : List (Key × V) := hs.map fun x => (Sum.inl (x.1 : Int), x.2)
def getG : List (Nat × V) → Nat → Option V
  | [], _ => none
  | (j, v) :: r, k => if j = k then some v else getG r k
def putG : List (Nat × V) → Nat → V → List (Nat × V)
  | [], k, v => [(k, v)]
  | (j, u) :: r, k, v => if j = k then (j, v) :: r else (j, u) :: putG r k v
theorem valV_cons {k j : Key} {v : V} {r : List (Key × V)} : valV ((j, v) :: r) k = if j = k then some v else valV r k := by
  unfold valV
  rw [List.find?_cons]
  by_cases h : j = k
  · rw [if_pos h, show decide (((j, v) : Key × V).1 = k) = true from decide_eq_true h]
    rfl
  · rw [if_neg h, show decide (((j, v) : Key × V).1 = k) = false from decide_eq_false h]
theorem inl_nat {j k : Nat} : (Sum.inl (j : Int) : Key) = Sum.inl (k : Int) ↔ j = k := by
  constructor
  · intro h
    injection h with h
    omega
  · intro h
    rw [h]
theorem valV_G : ∀ {hs : List (Nat × V)} {k : Nat}, valV (kvG hs) (Sum.inl (k : Int)) = getG hs k
  | [], _ => rfl
  | (j, v) :: r, k => by
    show valV ((Sum.inl (j : Int), v) :: kvG r) _ = _
    rw [valV_cons, valV_G (hs := r)]
    show _ = if j = k then some v else getG r k
    by_cases h : j = k
    · rw [if_pos h, if_pos (inl_nat.mpr h)]
    · rw [if_neg h, if_neg fun z => h (inl_nat.mp z)]
theorem nd_G {hs : List (Nat × V)} (nd : (hs.map (·.1)).Nodup) : ((kvG hs).map (·.1)).Nodup := by
  unfold kvG
  rw [List.map_map]
  induction hs with
  | nil => exact .nil
  | cons x r ih =>
    rw [List.map_cons, List.nodup_cons] at nd ⊢
    refine ⟨fun z => nd.1 ?_, ih nd.2⟩
    obtain ⟨y, hy, e⟩ := List.mem_map.mp z
    exact List.mem_map.mpr ⟨y, hy, inl_nat.mp e⟩
theorem mem_keys_put {hs : List (Nat × V)} {k : Nat} {v : V} {j : Nat} : j ∈ (putG hs k v).map (·.1) ↔ j = k ∨ j ∈ hs.map (·.1) := by
  induction hs with
  | nil => simp [putG]
  | cons x r ih =>
    obtain ⟨i, u⟩ := x
    unfold putG
    by_cases h : i = k
    · rw [if_pos h]
      subst h
      simp only [List.map_cons, List.mem_cons]
      exact ⟨fun z => .inr z, fun z => z.elim .inl id⟩
    · rw [if_neg h]
      simp only [List.map_cons, List.mem_cons]
      rw [ih]
      exact or_left_comm
theorem put_nd {hs : List (Nat × V)} (nd : (hs.map (·.1)).Nodup) {k : Nat} {v : V} : ((putG hs k v).map (·.1)).Nodup := by
  induction hs with
  | nil => simp [putG]
  | cons x r ih =>
    obtain ⟨i, u⟩ := x
    rw [List.map_cons, List.nodup_cons] at nd
    unfold putG
    by_cases h : i = k
    · rw [if_pos h, List.map_cons, List.nodup_cons]
      exact nd
    · rw [if_neg h, List.map_cons, List.nodup_cons]
      exact ⟨fun z => (mem_keys_put.mp z).elim h nd.1, ih nd.2⟩
theorem get_put {hs : List (Nat × V)} {k j : Nat} {v : V} : getG (putG hs k v) j = if k = j then some v else getG hs j := by
  induction hs with
  | nil =>
    unfold putG
    show (if k = j then some v else getG [] j) = _
    rfl
  | cons x r ih =>
    obtain ⟨i, u⟩ := x
    unfold putG
    by_cases h : i = k
    · rw [if_pos h]
      subst h
      show (if i = j then some v else getG r j) = if i = j then some v else (if i = j then some u else getG r j)
      by_cases e : i = j
      · rw [if_pos e, if_pos e]
      · rw [if_neg e, if_neg e, if_neg e]
    · rw [if_neg h]
      show (if i = j then some u else getG (putG r k v) j) = if k = j then some v else (if i = j then some u else getG r j)
      rw [ih]
      by_cases e : i = j
      · rw [if_pos e]
        have : ¬ k = j := fun z => h (e.trans z.symm)
        rw [if_neg this, if_pos e]
      · rw [if_neg e, if_neg e]
theorem get_none {hs : List (Nat × V)} {k : Nat} : getG hs k = none ↔ k ∉ hs.map (·.1) := by
  induction hs with
  | nil => simp [getG]
  | cons x r ih =>
    obtain ⟨i, u⟩ := x
    show (if i = k then some u else getG r k) = none ↔ _
    simp only [List.map_cons, List.mem_cons, not_or]
    by_cases h : i = k
    · rw [if_pos h]
      exact ⟨fun z => (by cases z), fun z => absurd h.symm z.1⟩
    · rw [if_neg h, ih]
      exact ⟨fun z => ⟨fun y => h y.symm, z⟩, fun z => z.2⟩
theorem get_mem {hs : List (Nat × V)} {k : Nat} {v : V} (h : getG hs k = some v) : (k, v) ∈ hs := by
  induction hs with
  | nil => cases h
  | cons x r ih =>
    obtain ⟨i, u⟩ := x
    have h' : (if i = k then some u else getG r k) = some v := h
    by_cases e : i = k
    · rw [if_pos e] at h'
      cases h'
      rw [e]
      exact List.mem_cons_self
    · rw [if_neg e] at h'
      exact List.mem_cons_of_mem _ (ih h')
theorem get_of {hs : List (Nat × V)} (nd : (hs.map (·.1)).Nodup) {k : Nat} {v : V} (h : (k, v) ∈ hs) : getG hs k = some v := by
  induction hs with
  | nil => exact (List.not_mem_nil h).elim
  | cons x r ih =>
    obtain ⟨i, u⟩ := x
    rw [List.map_cons, List.nodup_cons] at nd
    show (if i = k then some u else getG r k) = some v
    rcases List.mem_cons.mp h with e | h
    · cases e
      exact if_pos rfl
    · have : ¬ i = k := fun z => nd.1 (List.mem_map.mpr ⟨(k, v), h, z.symm⟩)
      rw [if_neg this]
      exact ih nd.2 h
theorem putK_G : ∀ {hs : List (Nat × V)}, (hs.map (·.1)).Nodup → ∀ {k : Nat} {v : V}, putK (kvG hs) (Sum.inl (k : Int)) v = kvG (putG hs k v) := by
  intro hs nd k v
  unfold putK
  by_cases h : k ∈ hs.map (·.1)
  · rw [if_pos (List.any_eq_true.mpr (by
      obtain ⟨x, hx, e⟩ := List.mem_map.mp h
      exact ⟨_, List.mem_map.mpr ⟨x, hx, rfl⟩, by rw [← e]; simp⟩))]
    induction hs with
    | nil => exact (List.not_mem_nil h).elim
    | cons x r ih =>
      obtain ⟨i, u⟩ := x
      rw [List.map_cons, List.nodup_cons] at nd
      unfold putG kvG
      by_cases e : i = k
      · subst e
        rw [if_pos rfl, List.map_cons, List.map_cons, List.map_cons, List.map_map]
        congr 1
        · simp
        · refine List.map_congr_left fun y hy => ?_
          have : ¬ y.1 = i := fun z => nd.1 (List.mem_map.mpr ⟨y, hy, z⟩)
          have n2 : ¬ (Sum.inl (y.1 : Int) : Key) = Sum.inl (i : Int) := fun z => this (inl_nat.mp z)
          exact if_neg n2
      · have hk : k ∈ r.map (·.1) := (List.mem_cons.mp h).resolve_left fun z => e z.symm
        rw [if_neg e, List.map_cons, List.map_cons, List.map_cons]
        have n2 : ¬ (Sum.inl (i : Int) : Key) = Sum.inl (k : Int) := fun z => e (inl_nat.mp z)
        congr 1
        · exact if_neg n2
        · exact ih nd.2 hk
  · rw [if_neg (by
      intro z
      obtain ⟨kv, h1, h2⟩ := List.any_eq_true.mp z
      obtain ⟨x, hx, rfl⟩ := List.mem_map.mp h1
      exact h (List.mem_map.mpr ⟨x, hx, inl_nat.mp (of_decide_eq_true h2)⟩))]
    induction hs with
    | nil => rfl
    | cons x r ih =>
      obtain ⟨i, u⟩ := x
      rw [List.map_cons, List.nodup_cons] at nd
      rw [List.map_cons, List.mem_cons, not_or] at h
      unfold putG
      rw [if_neg fun z => h.1 z.symm]
      show (Sum.inl (i : Int), u) :: (kvG r ++ _) = (Sum.inl (i : Int), u) :: kvG (putG r k v)
      rw [ih nd.2 h.2]
theorem put_len {hs : List (Nat × V)} {k : Nat} {v : V} : (putG hs k v).length ≤ hs.length + 1 := by
  induction hs with
  | nil => exact Nat.le_refl _
  | cons x r ih =>
    obtain ⟨i, u⟩ := x
    unfold putG
    by_cases e : i = k
    · rw [if_pos e]
      show r.length + 1 ≤ r.length + 1 + 1
      omega
    · rw [if_neg e]
      show (putG r k v).length + 1 ≤ r.length + 1 + 1
      omega
theorem kvG_len {hs : List (Nat × V)} : (kvG hs).length = hs.length := List.length_map _
theorem dget_G {H : Hp} {d : Addr} {hs : List (Nat × V)} (e : H d = some (.dK (kvG hs))) {k : Nat} : DGet H d (nV k) (getG hs k) := by
  have := DGet.k (k := Sum.inl (k : Int)) e
  rw [valV_G] at this
  exact this
theorem dget_F {H : Hp} {d : Addr} {od : Obj} {hs : List (Nat × V)} (e : H d = some (.frz od (.dK (kvG hs)))) {k : Nat} : DGet H d (nV k) (getG hs k) := by
  refine .inl ⟨kvG hs, Sum.inl (k : Int), .inr ⟨od, e⟩, rfl, ?_⟩
  rw [valV_G]
theorem dput_G {H : Hp} {d : Addr} {hs : List (Nat × V)} (e : H d = some (.dK (kvG hs))) (nd : (hs.map (·.1)).Nodup) (hl : hs.length < sizeLine) {k : Nat} {v : V} : DPut H d (nV k) v (upd H d (.dK (kvG (putG hs k v)))) := by
  have := DPut.k (k := Sum.inl (k : Int)) (v := v) e (by rw [kvG_len]; exact hl)
  rw [putK_G nd] at this
  exact this
theorem sum_nat {α : Type} {f : α → Nat} : ∀ {l : List α}, (l.map fun g => ((f g : Nat) : Int)).sum = (((l.map f).sum : Nat) : Int)
  | [] => rfl
  | g :: r => by
    rw [List.map_cons, List.map_cons, List.sum_cons, List.sum_cons, sum_nat (l := r)]
    omega
end U

namespace U
open PySem PySem.Spec PyProof.Rows L2
def topS (i : Nat) : Stmt := PySem.Challenge.pw_untriedways_k03_standings_told_apart.main.body.getD i (.Pass ⟨0, 0, 0, 0⟩)
section
variable {P : Program} {w : World} {K : PySem.W.Frag} {mg : Str → Option Value} {base : Heap}
abbrev s_is_integer : Stmt := topS 14
abbrev sl_is_integer : List Str := ["thing"]
theorem sc_is_integer : FnScope ["thing"] ["thing"] (defScope s_is_integer) := ⟨rfl, rfl, rfl, by decide +kernel, rfl, by decide +kernel, by decide +kernel⟩
def spIsInteger (K : PySem.W.Frag) : Sp := fun vs H Q _ => ∃ v s, vs = [v] ∧ Kn K H v s ∧ Q (.bl (isI v)) H
theorem ok_is_integer (B : Bt mg) (D : Df K mg "is_integer" s_is_integer ["thing"]) : Has P w K mg base "is_integer" 1 ["thing"] (spIsInteger K) := by
  refine D.has fun f fd F => F.ok sc_is_integer (fun vs H Q E h => ?_) (fun cdv A outer s H vs Q E hr h => ?_)
  · obtain ⟨v, s, rfl, _⟩ := h
    rfl
  · obtain ⟨v, s, rfl, hv, q⟩ := h
    refine ⟨_, (pss_one (ps_ret (pe_and (pe_callB (k_isi (K := K) rfl) (by rfl) B.isinstance bo_isinstance (pa_cons (pv 0) (pa_cons (pe_bltn (v := .ty "int") (by rfl) B.int bo_int rfl) pa_nil))) (pe_one (pe_not (pe_callB (k_isi (K := K) rfl) (by rfl) B.isinstance bo_isinstance (pa_cons (pv 0) (pa_cons (pe_bltn (v := .ty "bool") (by rfl) B.bool bo_bool rfl) pa_nil)))))))), ?_⟩
    refine ⟨v, rfl, v, .ty "int", _, _, _, rfl, .ty "int", hv.ty, kit_int hv.mem, _, rfl, ?_⟩
    have e := kn_int hv
    by_cases h1 : (s == "int" || s == "bool") = true
    · rw [h1]
      refine iteT ?_
      refine ⟨v, rfl, v, .ty "bool", _, _, _, rfl, .ty "bool", hv.ty, kit_bool hv.mem, _, rfl, ?_⟩
      have e2 : isI v = !(s == "bool") := by
        rw [e]
        simp only [Bool.or_eq_true, beq_iff_eq] at h1
        rcases h1 with rfl | rfl <;> rfl
      rw [← e2]
      exact q
    · have e2 : isI v = false := by
        rw [e]
        simp only [Bool.or_eq_true, not_or] at h1
        simpa using h1.1
      rw [Bool.eq_false_iff.mpr h1]
      refine iteF ?_
      rw [e2] at q
      exact q

abbrev s_is_index : Stmt := topS 16
abbrev sl_is_index : List Str := ["thing", "many"]
theorem sc_is_index : FnScope ["thing", "many"] ["thing", "many"] (defScope s_is_index) := ⟨rfl, rfl, rfl, by decide +kernel, rfl, by decide +kernel, by decide +kernel⟩
def spIsIndex (K : PySem.W.Frag) : Sp := fun vs H Q _ => ∃ (v : V) (s : String) (m : Int), vs = [v, .int m] ∧ Kn K H v s ∧ Q (.bl (idxV v m)) H
theorem ok_is_index (h_is_integer : Has P w K mg base "is_integer" 1 ["thing"] (spIsInteger K)) (D : Df K mg "is_index" s_is_index ["thing", "many"]) : Has P w K mg base "is_index" 2 ["thing", "many"] (spIsIndex K) := by
  refine D.has fun f fd F => F.ok sc_is_index (fun vs H Q E h => ?_) (fun cdv A outer s H vs Q E hr h => ?_)
  · obtain ⟨v, s, m, rfl, _⟩ := h
    rfl
  · obtain ⟨v, s, m, rfl, hv, q⟩ := h
    refine ⟨_, (pss_one (ps_ret (pe_and (pcall h_is_integer hr (by decide) (by rfl) (pa_cons (pv 0) pa_nil)) (pe_one (pe_chain op_le op_lt pe_int (pv 0) (pv 1)))))), ?_⟩
    refine ⟨v, rfl, v, s, rfl, hv, _, rfl, ?_⟩
    cases v with
    | int i =>
      refine iteT ?_
      refine ⟨_, rfl, _, _, rfl, rfl, _, rfl, ?_⟩
      by_cases h0 : (0 : Int) ≤ i
      · rw [decide_eq_true h0]
        refine iteT ?_
        refine ⟨_, rfl, _, _, rfl, rfl, ?_⟩
        have e : idxV (.int i) m = decide (i < m) := by
          show (decide (0 ≤ i) && decide (i < m)) = decide (i < m)
          rw [decide_eq_true h0, Bool.true_and]
        rw [e] at q
        exact q
      · rw [decide_eq_false h0]
        refine iteF ?_
        have e : idxV (.int i) m = false := by
          show (decide (0 ≤ i) && decide (i < m)) = false
          rw [decide_eq_false h0, Bool.false_and]
        rw [e] at q
        exact q
    | _ => exact iteF q

abbrev s_is_any_lot : Stmt := topS 17
abbrev sl_is_any_lot : List Str := ["thing", "last", "item"]
theorem sc_is_any_lot : FnScope ["thing", "last", "item"] ["thing"] (defScope s_is_any_lot) := ⟨rfl, rfl, rfl, by decide +kernel, rfl, by decide +kernel, by decide +kernel⟩
/-- strictly ascending integers above l -/
def ascFrom : Int → List V → Bool
  | _, [] => true
  | l, .int i :: r => decide (l < i) && ascFrom i r
  | _, _ :: _ => false
theorem ascFrom_cons {l : Int} {x : V} {r : List V} : ascFrom l (x :: r) = (match x with | .int i => decide (l < i) && ascFrom i r | _ => false) := by
  cases x <;> rfl
def spAnyLot (K : PySem.W.Frag) : Sp := fun vs H Q _ => ∃ v : V, vs = [v] ∧
  ((∃ a xs, v = .ref a ∧ SqT K H a xs ∧ (∀ x ∈ xs, ∃ s, Kn K H x s) ∧ Q (.bl (ascFrom (-1) xs)) H) ∨ (∃ s, Kn K H v s ∧ (s == "tuple") = false ∧ Q (.bl false) H))
theorem ok_is_any_lot (B : Bt mg) (h_is_integer : Has P w K mg base "is_integer" 1 ["thing"] (spIsInteger K)) (D : Df K mg "is_any_lot" s_is_any_lot ["thing"]) : Has P w K mg base "is_any_lot" 2 ["thing"] (spAnyLot K) := by
  refine D.has fun f fd F => F.ok sc_is_any_lot (fun vs H Q E h => ?_) (fun cdv A outer s H vs Q E hr h => ?_)
  · obtain ⟨v, rfl, _⟩ := h
    rfl
  · obtain ⟨v, rfl, h⟩ := h
    refine ⟨_, (pss_cons (ps_if (pt_not (pt_val (pe_callB (k_isi (K := K) rfl) (by rfl) B.isinstance bo_isinstance (pa_cons (pv 0) (pa_cons (pe_bltn (v := .ty "tuple") (by rfl) B.tuple bo_tuple rfl) pa_nil)))))
    (pss_one (ps_ret pe_bl))
    pss_nil)
  (pss_cons (ps_set (i := 1) sc_is_any_lot.nd rfl (.inl rfl) (pe_un un_neg pe_int))
  (pss_cons (ps_for PassesOwn.never rfl (k_pit (K := K) rfl (pv 0)) (pg_name (i := 2) sc_is_any_lot.nd rfl (.inl rfl))
    (pss_cons (ps_if (PW.pt (pw_or (pt_not (pt_val (pcall h_is_integer hr (by decide) (by rfl) (pa_cons (pv 2) pa_nil)))) (pw_or1 (pt_cmpR op_le (pv 2) (pv 1) (nomark _)))))
    (pss_one (ps_ret pe_bl))
    pss_nil)
  (pss_one (ps_set (i := 1) sc_is_any_lot.nd rfl (.inl rfl) (pv 2)))))
  (pss_one (ps_ret pe_bl))))), ?_⟩
    rcases h with ⟨a, xs, rfl, hS, hk, q⟩ | ⟨s, hv, hs, q⟩
    · refine ⟨_, rfl, _, .ty "tuple", _, _, _, rfl, .ty "tuple", (kn_of_tup hS).ty, kit_tuple (kn_of_tup hS).mem, _, rfl, iteF ?_⟩
      refine ⟨1, rfl, ?_⟩
      refine ⟨_, rfl, a, rfl, ⟨_, hS⟩, ?_⟩
      refine for_tup (xs := xs) (fun i σ H' => H' = H ∧ ∃ last it, σ = [some (.ref a), some (.int last), it] ∧ ascFrom (-1) xs = ascFrom last (xs.drop i)) ⟨rfl, -1, none, rfl, rfl⟩ ?_ ?_ ?_
      · rintro i σ H' _ ⟨rfl, _⟩
        exact hS
      · rintro i x σ H' hx ⟨rfl, last, it, rfl, e⟩
        obtain ⟨s, hs⟩ := hk x (List.mem_of_getElem? hx)
        rw [drop_cons_of hx, ascFrom_cons] at e
        refine ⟨x, rfl, x, s, rfl, hs, _, rfl, ?_⟩
        cases x with
        | int z =>
          simp only at e
          refine iteF ?_
          refine ⟨_, rfl, _, rfl, z, last, rfl, rfl, _, rfl, ?_⟩
          by_cases h2 : z ≤ last
          · rw [decide_eq_true h2]
            refine iteT ?_
            have e2 : ascFrom (-1) xs = false := by
              rw [e, decide_eq_false (by omega), Bool.false_and]
            rw [e2] at q
            exact q
          · rw [decide_eq_false h2]
            refine iteF ?_
            refine ⟨.int z, rfl, rfl, z, _, rfl, ?_⟩
            rw [e, decide_eq_true (by omega), Bool.true_and]
        | _ =>
          refine iteT (iteT ?_)
          simp only at e
          rw [e] at q
          exact q
      · rintro σ H' ⟨rfl, last, it, rfl, e⟩
        rw [List.drop_length] at e
        have e2 : ascFrom (-1) xs = true := e
        rw [e2] at q
        exact q
    · refine ⟨_, rfl, _, .ty "tuple", _, _, _, rfl, .ty "tuple", hv.ty, kit_tuple hv.mem, _, rfl, ?_⟩
      rw [hs]
      exact iteT q

abbrev s_is_lot : Stmt := topS 18
abbrev sl_is_lot : List Str := ["thing", "many"]
theorem sc_is_lot : FnScope ["thing", "many"] ["thing", "many"] (defScope s_is_lot) := ⟨rfl, rfl, rfl, by decide +kernel, rfl, by decide +kernel, by decide +kernel⟩
def spIsLot (K : PySem.W.Frag) : Sp := fun vs H Q _ => ∃ (v : V) (m : Int), vs = [v, .int m] ∧
  ((∃ a xs, v = .ref a ∧ SqT K H a xs ∧ (∀ x ∈ xs, ∃ s, Kn K H x s) ∧ Q (.bl (lotFrom m (-1) xs)) H) ∨ (∃ s, Kn K H v s ∧ (s == "tuple") = false ∧ Q (.bl false) H))
theorem lotFrom_cons {m l : Int} {x : V} {r : List V} : lotFrom m l (x :: r) = (match x with | .int i => idxV x m && decide (l < i) && lotFrom m i r | _ => false) := by
  cases x <;> rfl
/-- the last one is an integer below m, if there is one -/
def lastLt (m : Int) (xs : List V) : Prop := ∀ z, xs.getLast? = some z → ∃ i, z = .int i ∧ i < m
theorem asc_last : ∀ {xs : List V} {l : Int}, ascFrom l xs = true → ∀ z, xs.getLast? = some z → ∃ i, z = .int i ∧ l < i
  | [], _, _, _, h => by cases h
  | .int i :: r, l, h, z, hz => by
    have h' : (decide (l < i) && ascFrom i r) = true := h
    rw [Bool.and_eq_true, decide_eq_true_eq] at h'
    cases r with
    | nil =>
      cases hz
      exact ⟨i, rfl, h'.1⟩
    | cons y r =>
      rw [List.getLast?_cons_cons] at hz
      obtain ⟨j, e, hj⟩ := asc_last h'.2 z hz
      exact ⟨j, e, by omega⟩
  | .non :: _, _, h, _, _ => by cases h
  | .bl _ :: _, _, h, _, _ => by cases h
  | .str _ :: _, _, h, _, _ => by cases h
  | .byt _ :: _, _, h, _, _ => by cases h
  | .flt _ :: _, _, h, _, _ => by cases h
  | .ref _ :: _, _, h, _, _ => by cases h
  | .ty _ :: _, _, h, _, _ => by cases h
theorem lot_asc {m : Int} : ∀ {xs : List V} {l : Int}, -1 ≤ l → (lotFrom m l xs = true ↔ ascFrom l xs = true ∧ lastLt m xs)
  | [], _, _ => ⟨fun _ => ⟨rfl, fun z h => by cases h⟩, fun _ => rfl⟩
  | .int i :: r, l, hl => by
    have e1 : lotFrom m l (.int i :: r) = (decide (0 ≤ i) && decide (i < m) && decide (l < i) && lotFrom m i r) := rfl
    have e2 : ascFrom l (.int i :: r) = (decide (l < i) && ascFrom i r) := rfl
    rw [e1, e2]
    simp only [Bool.and_eq_true, decide_eq_true_eq]
    constructor
    · rintro ⟨⟨⟨h1, h2⟩, h3⟩, h4⟩
      obtain ⟨h5, h6⟩ := (lot_asc (l := i) (by omega)).mp h4
      refine ⟨⟨h3, h5⟩, fun z hz => ?_⟩
      cases r with
      | nil => cases hz; exact ⟨i, rfl, h2⟩
      | cons y r => rw [List.getLast?_cons_cons] at hz; exact h6 z hz
    · rintro ⟨⟨h3, h5⟩, h6⟩
      have h7 : lastLt m r := fun z hz => by
        cases r with
        | nil => cases hz
        | cons y r => exact h6 z (by rw [List.getLast?_cons_cons]; exact hz)
      refine ⟨⟨⟨by omega, ?_⟩, h3⟩, (lot_asc (l := i) (by omega)).mpr ⟨h5, h7⟩⟩
      cases r with
      | nil =>
        obtain ⟨j, e, hj⟩ := h6 _ rfl
        cases e
        exact hj
      | cons y r =>
        cases e : (y :: r).getLast? with
        | none => simp at e
        | some z =>
          obtain ⟨j, e3, hj⟩ := asc_last h5 z e
          obtain ⟨j', e4, hj'⟩ := h7 z e
          rw [e3] at e4
          cases e4
          omega
  | .non :: _, _, _ => ⟨fun h => (by cases h), fun h => (by cases h.1)⟩
  | .bl _ :: _, _, _ => ⟨fun h => (by cases h), fun h => (by cases h.1)⟩
  | .str _ :: _, _, _ => ⟨fun h => (by cases h), fun h => (by cases h.1)⟩
  | .byt _ :: _, _, _ => ⟨fun h => (by cases h), fun h => (by cases h.1)⟩
  | .flt _ :: _, _, _ => ⟨fun h => (by cases h), fun h => (by cases h.1)⟩
  | .ref _ :: _, _, _ => ⟨fun h => (by cases h), fun h => (by cases h.1)⟩
  | .ty _ :: _, _, _ => ⟨fun h => (by cases h), fun h => (by cases h.1)⟩
theorem ok_is_lot (B : Bt mg) (h_is_any_lot : Has P w K mg base "is_any_lot" 2 ["thing"] (spAnyLot K)) (D : Df K mg "is_lot" s_is_lot ["thing", "many"]) : Has P w K mg base "is_lot" 3 ["thing", "many"] (spIsLot K) := by
  refine D.has fun f fd F => F.ok sc_is_lot (fun vs H Q E h => ?_) (fun cdv A outer s H vs Q E hr h => ?_)
  · obtain ⟨v, m, rfl, _⟩ := h
    rfl
  · obtain ⟨v, m, rfl, h⟩ := h
    refine ⟨_, (pss_one (ps_ret (pe_and (pcall h_is_any_lot hr (by decide) (by rfl) (pa_cons (pv 0) pa_nil)) (pe_one (pe_or (pe_cmpR op_eq (pe_callB (k_len (K := K) rfl) (by rfl) B.len bo_len (pa_cons (pv 0) pa_nil)) pe_int (nomark _)) (pe_one (pe_cmpR op_lt (pe_ix (k_ixt (K := K) rfl) (pv 0) (pe_un un_neg pe_int) (fun _ _ => rfl)) (pv 1) (nomark _)))))))), ?_⟩
    rcases h with ⟨a, xs, rfl, hS, hk, q⟩ | ⟨s, hv, hs, q⟩
    · refine ⟨_, rfl, .ref a, rfl, .inl ⟨a, xs, rfl, hS, hk, _, rfl, ?_⟩⟩
      cases e : ascFrom (-1) xs with
      | false =>
        have e2 : lotFrom m (-1) xs = false := by
          rw [Bool.eq_false_iff]
          intro z
          rw [((lot_asc (Int.le_refl _)).mp z).1] at e
          cases e
        rw [e2] at q
        exact iteF q
      | true =>
        refine iteT ?_
        refine ⟨_, rfl, a, _, rfl, .inr hS, rfl, _, rfl, ?_⟩
        rcases List.eq_nil_or_concat xs with rfl | ⟨ys, v, rfl⟩
        · exact iteT q
        · rw [List.concat_eq_append] at *
          obtain ⟨i, rfl, _⟩ := asc_last e v (by simp)
          rw [decide_eq_false (by
            intro z
            injection z with z
            rw [List.length_append, List.length_singleton] at z
            omega)]
          refine iteF ?_
          refine ⟨_, rfl, 1, rfl, a, _, -1, _, rfl, rfl, hS, atI_last _ _, _, rfl, i, m, rfl, rfl, ?_⟩
          have e2 : lotFrom m (-1) (ys ++ [.int i]) = decide (i < m) := by
            rw [Bool.eq_iff_iff, lot_asc (Int.le_refl _), decide_eq_true_eq]
            constructor
            · rintro ⟨_, h⟩
              obtain ⟨j, z, hj⟩ := h (.int i) (by simp)
              cases z
              exact hj
            · intro h
              exact ⟨e, fun z hz => ⟨i, by simpa using hz.symm, h⟩⟩
          rw [e2] at q
          exact q
    · refine ⟨_, rfl, v, rfl, .inr ⟨s, hv, hs, _, rfl, iteF q⟩⟩

abbrev s_marks : Stmt := topS 21
abbrev sl_marks : List Str := ["many", "lot", "marked", "item"]
theorem sc_marks : FnScope ["many", "lot", "marked", "item"] ["many", "lot"] (defScope s_marks) := ⟨rfl, rfl, rfl, by decide +kernel, rfl, by decide +kernel, by decide +kernel⟩
def mks (n : Nat) (ls : List Nat) : List Bool := (List.range n).map fun i => decide (i ∈ ls)
theorem mks_nil (n : Nat) : (mks n []).map V.bl = (List.replicate n [V.bl false]).flatten := by
  unfold mks
  rw [List.map_map]
  apply List.ext_getElem?
  intro i
  have e : (List.replicate n [V.bl false]).flatten = List.replicate n (V.bl false) := by
    induction n with
    | zero => rfl
    | succ n ih => rw [List.replicate_succ, List.flatten_cons, ih, List.replicate_succ]; rfl
  rw [e, List.getElem?_map, List.getElem?_replicate]
  by_cases h : i < n
  · rw [List.getElem?_range h, if_pos h]
    simp
  · rw [List.getElem?_eq_none (by simpa using h), if_neg h]
    rfl
theorem mks_snoc {n : Nat} {ls : List Nat} {z : Nat} : ((mks n ls).map V.bl).set z (.bl true) = (mks n (ls ++ [z])).map V.bl := by
  unfold mks
  rw [List.map_map, List.map_map, set_map_range]
  refine List.map_congr_left fun i _ => ?_
  by_cases h : i = z
  · subst h
    rw [if_pos rfl]
    simp
  · rw [if_neg h]
    simp [h]
theorem mks_length (n : Nat) (ls : List Nat) : (mks n ls).length = n := by
  unfold mks
  rw [List.length_map, List.length_range]
theorem mks_get {n : Nat} {ls : List Nat} {j : Nat} (h : j < n) : ((mks n ls).map V.bl)[j]? = some (.bl (decide (j ∈ ls))) := by
  unfold mks
  rw [List.map_map, get_map_range h]
  rfl
def spMarks (K : PySem.W.Frag) : Sp := fun vs H Q _ => ∃ (n : Nat) (a : Addr) (ls : List Nat), vs = [.int (n : Int), .ref a] ∧ SqT K H a (ls.map nV) ∧ (∀ z ∈ ls, z < n) ∧ n ≤ 100000 ∧
  ∀ p H', Same H H' → H p = none → H' p = some (.lst ((mks n ls).map V.bl)) → Q (.ref p) H'
theorem ok_marks (D : Df K mg "marks" s_marks ["many", "lot"]) : Has P w K mg base "marks" 1 ["many", "lot"] (spMarks K) := by
  refine D.has fun f fd F => F.ok sc_marks (fun vs H Q E h => ?_) (fun cdv A outer s H vs Q E hr h => ?_)
  · obtain ⟨n, a, ls, rfl, _⟩ := h
    rfl
  · obtain ⟨n, a, ls, rfl, hS, hl, hn, q⟩ := h
    refine ⟨_, (pss_cons (ps_set (i := 2) sc_marks.nd rfl (.inl rfl) (pe_op op_rep (pe_lst (pa_cons pe_bl pa_nil)) (pv 0)))
  (pss_cons (ps_for PassesOwn.never rfl (k_pit (K := K) rfl (pv 1)) (pg_name (i := 3) sc_marks.nd rfl (.inl rfl))
    (pss_one (ps_asg pe_bl (pg_sub (pv 2) (pv 3) set_list))))
  (pss_one (ps_ret (pv 2))))), ?_⟩
    refine ⟨by show 1 ≤ sizeLine; decide, fun p1 n1 => ⟨_, rfl, p1, (n : Int), _, rfl, rfl, upd_same, by omega, by omega, by show 1 * (n : Int).toNat ≤ sizeLine; rw [Nat.one_mul]; exact small_sz (by omega), fun p2 n2 => ?_⟩⟩
    have s1 := same_new (o := .lst [V.bl false]) (Same.refl H) n1
    have h2 : H p2 = none := s1.free n2
    refine ⟨_, rfl, a, rfl, ⟨_, Same.sqt (same_new s1 n2) hS⟩, ?_⟩
    refine for_tup (xs := ls.map nV) (fun i σ H' => Same H H' ∧ H' p2 = some (.lst ((mks n (ls.take i)).map V.bl)) ∧ ∃ it, σ = [some (.int (n : Int)), some (.ref a), some (.ref p2), it]) ⟨same_new s1 n2, ?_, none, rfl⟩ ?_ ?_ ?_
    · rw [upd_same, List.take_zero, mks_nil]
      rfl
    · rintro i σ H' _ ⟨sm, _⟩
      exact Same.sqt sm hS
    · rintro i x σ H' hx ⟨sm, hp, it, rfl⟩
      obtain ⟨z, hz, rfl⟩ := getmap hx
      have hzn := hl z (List.mem_of_getElem? hz)
      refine ⟨_, rfl, _, rfl, p2, _, (z : Int), z, rfl, rfl, hp, by rw [List.length_map, mks_length]; exact ixN_nat hzn, ?_⟩
      refine ⟨same_mut sm h2, ?_, _, rfl⟩
      rw [upd_same, mks_snoc, take_snoc_of hz]
    · rintro σ H' ⟨sm, hp, it, rfl⟩
      rw [List.length_map, List.take_length] at hp
      exact ⟨_, rfl, q p2 H' sm h2 hp⟩

abbrev s_steps_from : Stmt := topS 24
abbrev sl_steps_from : List Str := ["many", "pairs", "sources", "heads", "tail", "head", "steps", "place", "layer", "count", "fresh", "_"]
theorem sc_steps_from : FnScope ["many", "pairs", "sources", "heads", "tail", "head", "steps", "place", "layer", "count", "fresh", "_"] ["many", "pairs", "sources"] (defScope s_steps_from) := ⟨rfl, rfl, rfl, by decide +kernel, rfl, by decide +kernel, by decide +kernel⟩
def oV : Option Nat → V
  | none => .non
  | some d => nV d
def PairAt (K : PySem.W.Frag) (H : Hp) (v : V) (e : Nat × Nat) : Prop := ∃ t, v = .ref t ∧ SqT K H t [nV e.1, nV e.2]
/-- the values vs are the pairs es -/
structure Prs (K : PySem.W.Frag) (H : Hp) (vs : List V) (es : Es) : Prop where
  len : vs.length = es.length
  at_ : ∀ (i : Nat) (v : V) (e : Nat × Nat), vs[i]? = some v → es[i]? = some e → PairAt K H v e
theorem Prs.same {K : PySem.W.Frag} {H H' : Hp} {vs : List V} {es : Es} (p : Prs K H vs es) (s : Same H H') : Prs K H' vs es :=
  ⟨p.len, fun i v e a b => (p.at_ i v e a b).elim fun t ⟨h1, h2⟩ => ⟨t, h1, Same.sqt s h2⟩⟩
theorem Prs.get {K : PySem.W.Frag} {H : Hp} {vs : List V} {es : Es} (p : Prs K H vs es) {i : Nat} {v : V} (h : vs[i]? = some v) : ∃ e, es[i]? = some e ∧ PairAt K H v e := by
  have hi := (List.getElem?_eq_some_iff.mp h).1
  have hj : i < es.length := by rw [← p.len]; exact hi
  exact ⟨es[i], List.getElem?_eq_getElem hj, p.at_ i v _ h (List.getElem?_eq_getElem hj)⟩
def stV (n : Nat) (st : Nat → Option Nat) : List V := (List.range n).map fun v => oV (st v)
theorem stV_len (n : Nat) (st : Nat → Option Nat) : (stV n st).length = n := by
  unfold stV
  rw [List.length_map, List.length_range]
theorem stV_get {n j : Nat} {st : Nat → Option Nat} (h : j < n) : (stV n st)[j]? = some (oV (st j)) := get_map_range h
theorem stV_congr {n : Nat} {st st' : Nat → Option Nat} (h : ∀ v, v < n → st v = st' v) : stV n st = stV n st' := by
  unfold stV
  exact List.map_congr_left fun v hv => by rw [h v (List.mem_range.mp hv)]
theorem stV_set {n j : Nat} {d : Nat} {st : Nat → Option Nat} : (stV n st).set j (nV d) = stV n (fun v => if v = j then some d else st v) := by
  unfold stV
  rw [set_map_range]
  refine List.map_congr_left fun v _ => ?_
  by_cases h : v = j
  · simp only [if_pos h]
    rfl
  · simp only [if_neg h]
theorem stV_none (n : Nat) : stV n (fun _ => none) = (List.replicate n [V.non]).flatten := by
  unfold stV
  apply List.ext_getElem?
  intro i
  have e : (List.replicate n [V.non]).flatten = List.replicate n V.non := by
    induction n with
    | zero => rfl
    | succ n ih => rw [List.replicate_succ, List.flatten_cons, ih, List.replicate_succ]; rfl
  rw [e, List.getElem?_map, List.getElem?_replicate]
  by_cases h : i < n
  · rw [List.getElem?_range h, if_pos h]
    rfl
  · rw [List.getElem?_eq_none (by simpa using h), if_neg h]
    rfl
/-- behind the heads T, seen in layer c -/
def nx (c : Nat) (st : Nat → Option Nat) (T : List Nat) (v : Nat) : Option Nat := match st v with
  | some d => some d
  | none => if v ∈ T then some (c + 1) else none
theorem nx_nil (c : Nat) (st : Nat → Option Nat) : nx c st [] = st := by
  funext v
  unfold nx
  cases e : st v with
  | some d => rfl
  | none => simp
theorem nx_old {c : Nat} {st : Nat → Option Nat} {T : List Nat} {h d : Nat} (e : nx c st T h = some d) : nx c st (T ++ [h]) = nx c st T := by
  funext v
  unfold nx at e ⊢
  cases q : st v with
  | some d => rfl
  | none =>
    simp only
    by_cases hv : v = h
    · subst hv
      rw [q] at e
      simp only at e
      by_cases hm : v ∈ T
      · simp [hm]
      · rw [if_neg hm] at e
        cases e
    · simp [hv]
theorem nx_new {c : Nat} {st : Nat → Option Nat} {T : List Nat} {h : Nat} (e : nx c st T h = none) : (fun v => if v = h then some (c + 1) else nx c st T v) = nx c st (T ++ [h]) := by
  funext v
  unfold nx at e ⊢
  by_cases hv : v = h
  · subst hv
    rw [if_pos rfl]
    cases q : st v with
    | some d => rw [q] at e; cases e
    | none => simp
  · rw [if_neg hv]
    cases q : st v with
    | some d => rfl
    | none => simp [hv]
theorem nx_none {c : Nat} {st : Nat → Option Nat} {T : List Nat} {h : Nat} : nx c st T h = none ↔ st h = none ∧ h ∉ T := by
  unfold nx
  cases q : st h with
  | some d => simp
  | none => simp
/-- what stands while the search goes on -/
structure SfH (H H' : Hp) (D sp : Addr) (qs : List Addr) (n : Nat) (es : Es) (st : Nat → Option Nat) : Prop where
  same : Same H H'
  hD : H' D = some (.lst (qs.map V.ref))
  hA : ∀ (v : Nat) (q : Addr), qs[v]? = some q → H' q = some (.lst ((adj es v).map nV))
  hs : H' sp = some (.lst (stV n st))
/-- which objects are others -/
structure SfN (H : Hp) (D sp : Addr) (qs : List Addr) (x : Addr) : Prop where
  new : H x = none
  nD : x ≠ D
  nq : ∀ q ∈ qs, x ≠ q
theorem SfH.upd_other {H H' : Hp} {D sp x : Addr} {qs : List Addr} {n : Nat} {es : Es} {st : Nat → Option Nat} {o : HO} (s : SfH H H' D sp qs n es st) (N : SfN H D sp qs x) (ns : x ≠ sp) : SfH H (upd H' x o) D sp qs n es st where
  same := same_mut s.same N.new
  hD := by rw [upd_ne N.nD.symm]; exact s.hD
  hA := fun v q h => by rw [upd_ne (N.nq q (List.mem_of_getElem? h)).symm]; exact s.hA v q h
  hs := by rw [upd_ne ns.symm]; exact s.hs
theorem SfH.upd_sp {H H' : Hp} {D sp : Addr} {qs : List Addr} {n : Nat} {es : Es} {st st' : Nat → Option Nat} (s : SfH H H' D sp qs n es st) (N : SfN H D sp qs sp) : SfH H (upd H' sp (.lst (stV n st'))) D sp qs n es st' where
  same := same_mut s.same N.new
  hD := by rw [upd_ne N.nD.symm]; exact s.hD
  hA := fun v q h => by rw [upd_ne (N.nq q (List.mem_of_getElem? h)).symm]; exact s.hA v q h
  hs := upd_same
theorem SfH.newN {H H' : Hp} {D sp x : Addr} {qs : List Addr} {n : Nat} {es : Es} {st : Nat → Option Nat} (s : SfH H H' D sp qs n es st) (hq : ∀ q ∈ qs, H' q ≠ none) (h : H' x = none) : SfN H D sp qs x ∧ x ≠ sp :=
  ⟨⟨Same.free s.same h, (ne_of_none s.hD h).symm, fun q m z => hq q m (by rw [← z]; exact h)⟩, (ne_of_none s.hs h).symm⟩
def spSteps (K : PySem.W.Frag) : Sp := fun vs H Q _ => ∃ (n : Nat) (b c : Addr) (pvs : List V) (es : Es) (S : List Nat), vs = [.int (n : Int), .ref b, .ref c] ∧ SqX K H b pvs ∧ Prs K H pvs es ∧ SqX K H c (S.map nV) ∧
  (∀ e ∈ es, e.1 < n ∧ e.2 < n) ∧ (∀ s ∈ S, s < n) ∧ n ≤ 1000 ∧ es.length ≤ 1000 ∧
  ∀ p H' st, Same H H' → H p = none → H' p = some (.lst (stV n st)) → (∀ v, v < n → (∀ d, st v = some d ↔ Dst es S v d) ∧ (st v = none ↔ ¬ Rch es S v)) → Q (.ref p) H'
theorem ok_steps_from (B : Bt mg) (D0 : Df K mg "steps_from" s_steps_from ["many", "pairs", "sources"]) : Has P w K mg base "steps_from" 1 ["many", "pairs", "sources"] (spSteps K) := by
  refine D0.has fun f fd F => F.ok sc_steps_from (fun vs H Q E h => ?_) (fun cdv A outer s H vs Q E hr h => ?_)
  · obtain ⟨n, b, c, pvs, es, S, rfl, _⟩ := h
    rfl
  · obtain ⟨n, b, c, pvs, es, S, rfl, hB, hP, hC, he, hS, hn, hel, q⟩ := h
    refine ⟨_, (pss_cons (ps_setLc (i := 3) (own := [("_", 11)]) (g := gName 11) rfl sc_steps_from.nd rfl rfl (sw_true rfl rfl rfl (by decide +kernel)) (pi_range1 (by rfl) B.range (pa_cons (pv 0) pa_nil)) (blkOk_by (N := sl_steps_from) (sc := defScope s_steps_from) (by decide +kernel)) (fun _ _ _ _ _ => (pg_name (i := 11) sc_steps_from.nd rfl (.inl rfl))) (fun _ _ _ _ _ => pts_nil) (fun _ _ _ _ _ => (pe_lst pa_nil)))
  (pss_cons (ps_for PassesOwn.never rfl (k_pis (K := K) rfl (pv 1)) (pg_tup rfl (pgs_cons (pg_name (i := 4) sc_steps_from.nd rfl (.inl rfl)) (pgs_cons (pg_name (i := 5) sc_steps_from.nd rfl (.inl rfl)) pgs_nil)))
    (pss_one (ps_expr (pe_bm PySem.F.plainAttrs_list PySem.F.slot_list_append PySem.F.type_list_append mt_append (pe_ix (k_ixl (K := K) rfl) (pv 3) (pv 4) (fun _ _ => rfl)) (pa_cons (pv 5) pa_nil)))))
  (pss_cons (ps_set (i := 6) sc_steps_from.nd rfl (.inl rfl) (pe_op op_rep (pe_lst (pa_cons pe_non pa_nil)) (pv 0)))
  (pss_cons (ps_for PassesOwn.never rfl (k_pis (K := K) rfl (pv 2)) (pg_name (i := 7) sc_steps_from.nd rfl (.inl rfl))
    (pss_one (ps_asg pe_int (pg_sub (pv 6) (pv 7) set_list))))
  (pss_cons (ps_set (i := 8) sc_steps_from.nd rfl (.inl rfl) (pe_callTy (k_list (K := K) rfl) (by rfl) B.list bo_list (pa_cons (pv 2) pa_nil)))
  (pss_cons (ps_set (i := 9) sc_steps_from.nd rfl (.inl rfl) pe_int)
  (pss_cons (ps_while PassesOwn.never (k_tru (K := K) rfl (pv 8) (by intro _; rfl))
    (pss_cons (ps_aug (i := 9) sc_steps_from.nd rfl (.inl rfl) pe_int ip_add)
  (pss_cons (ps_set (i := 10) sc_steps_from.nd rfl (.inl rfl) (pe_lst pa_nil))
  (pss_cons (ps_for PassesOwn.never rfl (k_pil (K := K) rfl (pv 8)) (pg_name (i := 7) sc_steps_from.nd rfl (.inl rfl))
    (pss_one (ps_for PassesOwn.never rfl (k_pil (K := K) rfl (pe_ix (k_ixl (K := K) rfl) (pv 3) (pv 7) (fun _ _ => rfl))) (pg_name (i := 5) sc_steps_from.nd rfl (.inl rfl))
    (pss_one (ps_if (pt_cmpR op_isN (pe_ix (k_ixl (K := K) rfl) (pv 6) (pv 5) (fun _ _ => rfl)) pe_non (nomark _))
    (pss_cons (ps_asg (pv 9) (pg_sub (pv 6) (pv 5) set_list))
  (pss_one (ps_expr (pe_bm PySem.F.plainAttrs_list PySem.F.slot_list_append PySem.F.type_list_append mt_append (pv 10) (pa_cons (pv 5) pa_nil)))))
    pss_nil)))))
  (pss_one (ps_set (i := 8) sc_steps_from.nd rfl (.inl rfl) (pv 10)))))))
  (pss_one (ps_ret (pv 6)))))))))), ?_⟩
    -- heads
    refine ⟨_, rfl, _, rfl, by omega, by omega, fun D nD => ?_⟩
    refine lc_range (lo := 0) (n := (n : Int).toNat) (fun i H' => ∃ qs : List Addr, qs.length = i ∧ qs.Nodup ∧ (∀ q ∈ qs, H q = none ∧ q ≠ D ∧ H' q = some (.lst [])) ∧ H' D = some (.lst (qs.map V.ref)) ∧ Same H H')
      ⟨[], rfl, List.nodup_nil, fun q hq => (List.not_mem_nil hq).elim, upd_same, same_new (Same.refl H) nD⟩ ?_ ?_
    · rintro i H' hi ⟨qs, hl, nd, hq, hD, sm⟩
      refine ⟨rfl, tyes ?_⟩
      refine iteT ?_
      refine ⟨Nat.zero_le _, fun p np => ⟨qs.map V.ref, ?_, ?_, qs ++ [p], by simp [hl], ?_, ?_, ?_, ?_⟩⟩
      · rw [upd_ne (ne_of_none hD np)]
        exact hD
      · rw [List.length_map]
        exact small_lt (by omega)
      · rw [List.nodup_append]
        refine ⟨nd, by simp, fun x hx y hy => ?_⟩
        rw [List.mem_singleton.mp hy]
        exact ne_of_none (hq x hx).2.2 np
      · intro x hx
        have nDp : D ≠ p := ne_of_none hD np
        rcases List.mem_append.mp hx with hx | hx
        · obtain ⟨h1, h2, h3⟩ := hq x hx
          exact ⟨h1, h2, by rw [upd_ne h2, upd_ne (ne_of_none h3 np)]; exact h3⟩
        · rw [List.mem_singleton.mp hx]
          exact ⟨Same.free sm np, nDp.symm, by rw [upd_ne nDp.symm, upd_same]⟩
      · rw [upd_same, List.map_append]
        rfl
      · exact same_mut (same_new sm np) nD
    rintro H1 ⟨qs, hql, qnd, hq, hD, sm1⟩
    have hql : qs.length = n := by rw [hql]; rfl
    -- the pairs
    refine ⟨_, rfl, b, rfl, for_seq hB (fun i σ H' => ∃ t h, σ = [some (.int (n : Int)), some (.ref b), some (.ref c), some (.ref D), t, h, none, none, none, none, none, none] ∧ Same H H' ∧
      H' D = some (.lst (qs.map V.ref)) ∧ ∀ (v : Nat) (q : Addr), qs[v]? = some q → H' q = some (.lst ((adj (es.take i) v).map nV))) ⟨none, none, rfl, sm1, hD, fun v q h => (hq q (List.mem_of_getElem? h)).2.2⟩ ?_ ?_ ?_⟩
    · rintro i σ H' _ ⟨t, h, rfl, sm, _⟩
      exact sm
    · rintro i x σ H' hx ⟨t, h, rfl, sm, hD', hA⟩
      obtain ⟨e, hei, t0, rfl, ht0⟩ := hP.get hx
      obtain ⟨e1, e2⟩ := e
      have hlt := he _ (List.mem_of_getElem? hei)
      have hqv : qs[e1]? = some qs[e1] := List.getElem?_eq_getElem (by rw [hql]; exact hlt.1)
      refine ⟨t0, _, rfl, Same.sqt sm ht0, rfl, _, _, rfl, _, _, rfl, rfl, ?_⟩
      refine ⟨_, rfl, _, rfl, D, _, (e1 : Int), .ref qs[e1], rfl, rfl, sql hD', atI_nat (by rw [List.getElem?_map, hqv]; rfl), .inl ⟨rfl, _, sql (hA e1 _ hqv)⟩, _, rfl, ?_⟩
      refine ⟨_, _, _, rfl, rfl, hA e1 _ hqv, ?_, ?_⟩
      · rw [List.length_map]
        have h1 : (adj (es.take i) e1).length ≤ (es.take i).length := List.length_filterMap_le _ _
        have h2 : (es.take i).length ≤ es.length := by rw [List.length_take]; exact Nat.min_le_right _ _
        exact small_lt (by omega)
      · have hmem : qs[e1] ∈ qs := List.mem_of_getElem? hqv
        refine ⟨_, _, rfl, same_mut sm (hq _ hmem).1, by rw [upd_ne (hq _ hmem).2.1.symm]; exact hD', fun v q' hv => ?_⟩
        rw [take_snoc_of hei, adj_snoc]
        by_cases hve : e1 = v
        · subst hve
          rw [hqv] at hv
          cases hv
          rw [if_pos rfl, upd_same, List.map_append]
          rfl
        · rw [if_neg hve, upd_ne (fun z => hve ?_)]
          · exact hA v q' hv
          · rw [z] at hv
            exact (List.getElem?_inj (by rw [hql]; exact hlt.1) qnd).mp (by rw [hqv, hv])
    rintro σ H2 ⟨t, h, rfl, sm2, hD2, hA2⟩
    rw [hP.len, List.take_length] at hA2
    -- steps
    refine ⟨by show 1 ≤ sizeLine; decide, fun p1 n1 => ⟨_, rfl, p1, (n : Int), _, rfl, rfl, upd_same, by omega, by omega, by show 1 * (n : Int).toNat ≤ sizeLine; rw [Nat.one_mul]; exact small_sz (by omega), fun sp nsp => ?_⟩⟩
    have sm3 : Same H2 (upd H2 p1 (.lst [V.non])) := same_new (Same.refl H2) n1
    have nsp2 : H2 sp = none := Same.free sm3 nsp
    have nqs : ∀ q ∈ qs, H2 q ≠ none := fun q m z => by
      obtain ⟨v, hv⟩ := List.getElem?_of_mem m
      rw [hA2 v q hv] at z
      cases z
    have Nsp : SfN H D sp qs sp := ⟨Same.free sm2 nsp2, (ne_of_none hD2 nsp2).symm, fun q m z => nqs q m (by rw [← z]; exact nsp2)⟩
    have s0 : SfH H (upd (upd H2 p1 (.lst [V.non])) sp (.lst (stV n fun _ => none))) D sp qs n es (fun _ => none) := by
      have sm4 : Same H2 (upd (upd H2 p1 (.lst [V.non])) sp (.lst (stV n fun _ => none))) := same_new sm3 nsp
      exact ⟨sm2.trans sm4, sm4 _ _ hD2, fun v q hv => sm4 _ _ (hA2 v q hv), upd_same⟩
    rw [show ((n : Int)).toNat = n from rfl, ← stV_none]
    -- the sources
    refine ⟨_, rfl, c, rfl, for_seq hC (fun i σ H' => ∃ pl, σ = [some (.int (n : Int)), some (.ref b), some (.ref c), some (.ref D), t, h, some (.ref sp), pl, none, none, none, none] ∧
      SfH H H' D sp qs n es (fun v => if v ∈ S.take i then some 0 else none)) ⟨none, rfl, ?_⟩ ?_ ?_ ?_⟩
    · have e0 : (fun v => if v ∈ S.take 0 then some 0 else none) = (fun _ : Nat => (none : Option Nat)) := by
        funext v
        simp
      rw [e0]
      exact s0
    · rintro i σ H' _ ⟨pl, rfl, sf⟩
      exact sf.same
    · rintro i x σ H' hx ⟨pl, rfl, sf⟩
      obtain ⟨z, hz, rfl⟩ := getmap hx
      have hzn := hS z (List.mem_of_getElem? hz)
      refine ⟨_, rfl, _, rfl, sp, _, (z : Int), z, rfl, rfl, sf.hs, by rw [stV_len]; exact ixN_nat hzn, _, rfl, ?_⟩
      show SfH H (upd H' sp (.lst ((stV n _).set z (nV 0)))) D sp qs n es _
      rw [stV_set]
      have e1 : (fun v => if v = z then some 0 else if v ∈ S.take i then some 0 else none) = (fun v => if v ∈ S.take (i + 1) then some 0 else (none : Option Nat)) := by
        funext v
        rw [take_snoc_of hz]
        by_cases hv : v = z
        · simp [hv]
        · simp [hv]
      rw [e1]
      exact sf.upd_sp Nsp
    rintro σ H3 ⟨pl, rfl, sf3⟩
    rw [List.length_map, List.take_length] at sf3
    -- layer, count
    refine ⟨_, rfl, c, S.map nV, rfl, Same.sqx sf3.same hC, fun ly nly => ?_⟩
    have nq3 : ∀ {H' : Hp} {st : Nat → Option Nat}, SfH H H' D sp qs n es st → ∀ q ∈ qs, H' q ≠ none := fun s q m z => by
      obtain ⟨v, hv⟩ := List.getElem?_of_mem m
      rw [s.hA v q hv] at z
      cases z
    obtain ⟨Nly, nly2⟩ := sf3.newN (nq3 sf3) nly
    -- the layers
    refine ⟨fun m σ H' => ∃ (cc : Nat) (st : Nat → Option Nat) (lay : List Nat) (ly : Addr) (t h pl fr : Option V), σ = [some (.int (n : Int)), some (.ref b), some (.ref c), some (.ref D), t, h, some (.ref sp), pl, some (.ref ly), some (.int (cc : Int)), fr, none] ∧
      SfH H H' D sp qs n es st ∧ SfN H D sp qs ly ∧ ly ≠ sp ∧ H' ly = some (.lst (lay.map nV)) ∧ Bfs n es S cc st lay ∧ m = 2 * openN n st + (if lay = [] then 0 else 1),
      ⟨_, 0, _, S, ly, t, h, pl, none, rfl, sf3.upd_other Nly nly2, Nly, nly2, upd_same, Bfs.start hS, rfl⟩, ?_⟩
    rintro m σ H4 ⟨cc, st, lay, ly4, t4, h4, pl4, fr4, rfl, sf4, Nl4, nls, hly, bf, rfl⟩
    refine ⟨_, rfl, !(lay.map nV).isEmpty, .inl ⟨_, sql hly, rfl⟩, ?_⟩
    cases hlay : lay with
    | nil =>
      subst hlay
      refine iteF ⟨_, rfl, ?_⟩
      exact q sp H4 st sf4.same Nsp.new sf4.hs fun v hv => bf.done he hv
    | cons l0 lr =>
      rw [← hlay]
      have hne : lay ≠ [] := by rw [hlay]; exact List.cons_ne_nil _ _
      have e5 : (!(lay.map nV).isEmpty) = true := by rw [hlay]; rfl
      rw [e5]
      refine iteT ⟨_, fun σ' H' z => z, ?_⟩
      -- count += 1; fresh = []
      refine ⟨_, rfl, _, _, rfl, rfl, Nat.zero_le _, fun fr nfr => ?_⟩
      obtain ⟨Nfr, nfrs⟩ := sf4.newN (nq3 sf4) nfr
      have nfl : ly4 ≠ fr := ne_of_none hly nfr
      -- for place in layer
      refine ⟨_, rfl, ly4, rfl, ⟨_, sql (show (upd H4 fr (.lst [])) ly4 = _ by rw [upd_ne nfl]; exact hly)⟩, ?_⟩
      refine for_list (xs := lay.map nV) (fun i σ H' => ∃ (T fl : List Nat) (h pl : Option V), σ = [some (.int (n : Int)), some (.ref b), some (.ref c), some (.ref D), t4, h, some (.ref sp), pl, some (.ref ly4), some (.int ((cc : Int) + 1)), some (.ref fr), none] ∧
        T = (lay.take i).flatMap (adj es) ∧ SfH H H' D sp qs n es (nx cc st T) ∧ H' ly4 = some (.lst (lay.map nV)) ∧ H' fr = some (.lst (fl.map nV)) ∧ (∀ v, v ∈ fl ↔ v < n ∧ st v = none ∧ v ∈ T) ∧ fl.length + openN n (nx cc st T) ≤ openN n st)
        ⟨[], [], h4, pl4, rfl, rfl, by rw [nx_nil]; exact sf4.upd_other Nfr nfrs, by rw [upd_ne nfl]; exact hly, upd_same, fun v => by simp, by rw [nx_nil]; simp⟩ ?_ ?_ ?_
      · rintro i σ H' _ ⟨T, fl, h, pl, rfl, _, _, hl5, _⟩
        exact sql hl5
      · rintro i x σ H' hx ⟨T, fl, h, pl, rfl, rfl, sf5, hl5, hf5, hfl, hfn⟩
        obtain ⟨z, hz, rfl⟩ := getmap hx
        have hzn : z < n := ((bf.lay z).mp (List.mem_of_getElem? hz)).1
        have hqz : qs[z]? = some qs[z] := List.getElem?_eq_getElem (by rw [hql]; exact hzn)
        refine ⟨_, rfl, _, rfl, D, _, (z : Int), .ref qs[z], rfl, rfl, sql sf5.hD, atI_nat (by rw [List.getElem?_map, hqz]; rfl), qs[z], rfl, ⟨_, sql (sf5.hA z _ hqz)⟩, ?_⟩
        refine for_list (xs := (adj es z).map nV) (fun j σ H' => ∃ (T fl : List Nat) (h : Option V), σ = [some (.int (n : Int)), some (.ref b), some (.ref c), some (.ref D), t4, h, some (.ref sp), some (nV z), some (.ref ly4), some (.int ((cc : Int) + 1)), some (.ref fr), none] ∧
          T = (lay.take i).flatMap (adj es) ++ (adj es z).take j ∧ SfH H H' D sp qs n es (nx cc st T) ∧ H' ly4 = some (.lst (lay.map nV)) ∧ H' fr = some (.lst (fl.map nV)) ∧ (∀ v, v ∈ fl ↔ v < n ∧ st v = none ∧ v ∈ T) ∧ fl.length + openN n (nx cc st T) ≤ openN n st)
          ⟨_, fl, h, rfl, rfl, by rw [List.take_zero, List.append_nil]; exact sf5, hl5, hf5, by rw [List.take_zero, List.append_nil]; exact hfl, by rw [List.take_zero, List.append_nil]; exact hfn⟩ ?_ ?_ ?_
        · rintro j σ H' _ ⟨T, fl, h, rfl, _, sf6, _⟩
          exact sql (sf6.hA z _ hqz)
        · rintro j x σ H' hx ⟨T, fl, h, rfl, rfl, sf6, hl6, hf6, hfl6, hfn6⟩
          obtain ⟨y, hy, rfl⟩ := getmap hx
          have hyn : y < n := (he _ (mem_adj.mp (List.mem_of_getElem? hy))).2
          generalize hT : (lay.take i).flatMap (adj es) ++ (adj es z).take j = T at sf6 hfl6 hfn6
          have hT2 : (lay.take i).flatMap (adj es) ++ (adj es z).take (j + 1) = T ++ [y] := by rw [take_snoc_of hy, ← List.append_assoc, hT]
          refine ⟨_, rfl, _, rfl, sp, _, (y : Int), oV (nx cc st T y), rfl, rfl, sql sf6.hs, atI_nat (stV_get hyn), rfl, _, rfl, ?_⟩
          cases e7 : nx cc st T y with
          | some d =>
            refine iteF ⟨_, fl, _, rfl, hT2.symm, ?_, hl6, hf6, fun v => ?_, ?_⟩
            · rw [nx_old e7]; exact sf6
            · rw [hfl6 v]
              constructor
              · rintro ⟨h1, h2, h3⟩
                exact ⟨h1, h2, List.mem_append_left _ h3⟩
              · rintro ⟨h1, h2, h3⟩
                refine ⟨h1, h2, ?_⟩
                rcases List.mem_append.mp h3 with h3 | h3
                · exact h3
                · rw [List.mem_singleton.mp h3] at h2 ⊢
                  by_cases hm : y ∈ T
                  · exact hm
                  · rw [nx_none.mpr ⟨h2, hm⟩] at e7
                    cases e7
            · rw [nx_old e7]; exact hfn6
          | none =>
            obtain ⟨e8, e9⟩ := nx_none.mp e7
            refine iteT ?_
            have hcc : (V.int ((cc : Int) + 1)) = nV (cc + 1) := rfl
            refine ⟨_, rfl, _, rfl, _, rfl, sp, _, (y : Int), y, rfl, rfl, sf6.hs, by rw [stV_len]; exact ixN_nat hyn, ?_⟩
            have hfr : ∀ o, (upd H' sp o) fr = some (.lst (fl.map nV)) := fun o => by rw [upd_ne nfrs]; exact hf6
            refine ⟨_, rfl, .inl ⟨rfl, _, sql (hfr _)⟩, _, rfl, fr, _, _, rfl, rfl, hfr _, ?_, ?_⟩
            · have h1 : openN n st ≤ n := by
                unfold openN
                have := List.countP_le_length (p := fun v => (st v).isNone) (l := List.range n)
                rw [List.length_range] at this
                exact this
              rw [List.length_map]
              exact small_lt (by omega)
            · rw [hcc, stV_set, nx_new e7]
              refine ⟨_, fl ++ [y], _, rfl, hT2.symm, (sf6.upd_sp Nsp).upd_other Nfr nfrs, ?_, ?_, fun v => ?_, ?_⟩
              · rw [upd_ne nfl, upd_ne nls]; exact hl6
              · rw [upd_same, List.map_append]; rfl
              · rw [List.mem_append, hfl6 v, List.mem_singleton, List.mem_append, List.mem_singleton]
                constructor
                · rintro (⟨h1, h2, h3⟩ | rfl)
                  · exact ⟨h1, h2, .inl h3⟩
                  · exact ⟨hyn, e8, .inr rfl⟩
                · rintro ⟨h1, h2, h3 | rfl⟩
                  · exact .inl ⟨h1, h2, h3⟩
                  · exact .inr rfl
              · have h9 : openN n (nx cc st (T ++ [y])) < openN n (nx cc st T) := openN_lt (fun v hv => by
                  obtain ⟨a1, a2⟩ := nx_none.mp hv
                  exact nx_none.mpr ⟨a1, fun z => a2 (List.mem_append_left _ z)⟩) hyn e7 (fun z => (nx_none.mp z).2 (by simp))
                rw [List.length_append, List.length_singleton]
                omega
        · rintro σ H' ⟨T, fl, h, rfl, rfl, sf6, hl6, hf6, hfl6, hfn6⟩
          rw [List.length_map, List.take_length] at sf6 hfl6 hfn6
          have hT3 : (lay.take (i + 1)).flatMap (adj es) = (lay.take i).flatMap (adj es) ++ adj es z := by
            rw [take_snoc_of hz, List.flatMap_append]
            simp
          exact ⟨_, fl, h, _, rfl, rfl, by rw [hT3]; exact sf6, hl6, hf6, by rw [hT3]; exact hfl6, by rw [hT3]; exact hfn6⟩
      · rintro σ H' ⟨T, fl, h, pl, rfl, rfl, sf5, hl5, hf5, hfl, hfn⟩
        rw [List.length_map, List.take_length] at sf5 hfl hfn
        refine ⟨_, rfl, _, ?_, cc + 1, nx cc st (lay.flatMap (adj es)), fl, fr, _, h, pl, _, rfl, sf5, Nfr, nfrs, hf5, ?_, rfl⟩
        · have h1 : (if lay = [] then 0 else 1) = 1 := if_neg hne
          rw [h1]
          cases fl with
          | nil => simp only [List.length_nil, if_pos] at hfn ⊢; omega
          | cons f0 fr0 => rw [List.length_cons] at hfn; rw [if_neg (List.cons_ne_nil _ _)]; omega
        · refine bf.next he hS (fun v => ?_) hfl
          rw [List.mem_flatMap]
          constructor
          · rintro ⟨u, hu, hv⟩
            exact ⟨u, hu, mem_adj.mp hv⟩
          · rintro ⟨u, hu, hv⟩
            exact ⟨u, hu, mem_adj.mpr hv⟩

abbrev s_leads_to_all : Stmt := topS 25
abbrev sl_leads_to_all : List Str := ["many", "pairs", "places", "steps", "place"]
theorem sc_leads_to_all : FnScope ["many", "pairs", "places", "steps", "place"] ["many", "pairs", "places"] (defScope s_leads_to_all) := ⟨rfl, rfl, rfl, by decide +kernel, rfl, by decide +kernel, by decide +kernel⟩
def spLeads (K : PySem.W.Frag) : Sp := fun vs H Q _ => ∃ (n : Nat) (b c : Addr) (pvs : List V) (es : Es) (gs : List Nat), vs = [.int (n : Int), .ref b, .ref c] ∧ SqX K H b pvs ∧ Prs K H pvs es ∧ SqT K H c (gs.map nV) ∧
  (∀ e ∈ es, e.1 < n ∧ e.2 < n) ∧ (∀ g ∈ gs, g < n) ∧ 0 < n ∧ n ≤ 1000 ∧ es.length ≤ 1000 ∧ gs.length ≤ 1000 ∧
  ∀ H' (ok : Bool), Same H H' → (ok = true ↔ ∀ g ∈ gs, Rch es [0] g) → Q (.bl ok) H'
theorem ok_leads_to_all (B : Bt mg) (h_steps_from : Has P w K mg base "steps_from" 1 ["many", "pairs", "sources"] (spSteps K)) (D0 : Df K mg "leads_to_all" s_leads_to_all ["many", "pairs", "places"]) : Has P w K mg base "leads_to_all" 2 ["many", "pairs", "places"] (spLeads K) := by
  refine D0.has fun f fd F => F.ok sc_leads_to_all (fun vs H Q E h => ?_) (fun cdv A outer s H vs Q E hr h => ?_)
  · obtain ⟨n, b, c, pvs, es, S, rfl, _⟩ := h
    rfl
  · obtain ⟨n, b, c, pvs, es, gs, rfl, hB, hP, hC, he, hg, h0, hn, hel, hgl, q⟩ := h
    refine ⟨_, (pss_cons (ps_set (i := 3) sc_leads_to_all.nd rfl (.inr rfl) (pcall h_steps_from hr (by decide) (by rfl) (pa_cons (pv 0) (pa_cons (pv 1) (pa_cons (pe_tup (pa_cons pe_int pa_nil)) pa_nil)))))
  (pss_one (ps_ret (pe_callB (k_all (K := K) rfl rfl) (by rfl) B.all bo_all (pa_cons (pe_lc (own := [("place", 4)]) (g := gName 4) rfl sc_leads_to_all.nd (k_pit (K := K) rfl (pv 2)) (blkOk_by (N := sl_leads_to_all) (sc := defScope s_leads_to_all) (by decide +kernel)) (fun _ _ _ _ _ => (pg_name (i := 4) sc_leads_to_all.nd rfl (.inl rfl))) (fun _ _ _ _ _ => pts_nil) (fun _ _ _ _ _ => (pe_cmpR op_notN (pe_ix (k_ixl (K := K) rfl) (pv 3) (pv 4) (fun _ _ => rfl)) pe_non (nomark _)))) pa_nil))))), ?_⟩
    refine ⟨_, rfl, _, rfl, by show 1 ≤ sizeLine; decide, fun t0 nt0 => ?_⟩
    have s1 := same_new (o := .tup [.int 0]) (Same.refl H) nt0
    refine ⟨n, b, t0, pvs, es, [0], rfl, Same.sqx s1 hB, hP.same s1, .inr (sqt upd_same), he, fun s hs => by rw [List.mem_singleton.mp hs]; exact h0, hn, hel, fun p H2 st s2 np hp hst => ?_⟩
    have s12 := s1.trans s2
    refine ⟨_, rfl, c, rfl, ⟨_, Same.sqt s12 hC⟩, fun D nD => ?_⟩
    refine lc_val walk_tup calm_at (fun i => (gs[i]?).bind fun g => some (V.bl (st g).isSome)) (by rw [List.length_map]; omega) nD (fun H3 s3 => Same.sqt s3 (Same.sqt s12 hC)) ?_ fun H3 s3 h3 => ?_
    · rintro i x H3 H4 hi s3 ⟨rfl, hx⟩ Kt kt
      obtain ⟨g, hgi, rfl⟩ := getmap hx
      have hgn := hg g (List.mem_of_getElem? hgi)
      refine ⟨rfl, tyes ?_⟩
      refine iteT ?_
      refine ⟨_, rfl, _, rfl, p, _, (g : Int), oV (st g), rfl, rfl, sql (s3 _ _ hp), atI_nat (stV_get hgn), rfl, ?_⟩
      have k0 := kt _ (Same.refl _)
      rw [hgi] at k0
      have e : (!decide (oV (st g) = .non)) = (st g).isSome := by
        cases st g with
        | none => rfl
        | some d => rfl
      rw [e]
      exact k0
    · rw [List.length_map, fm_range, fm_some] at h3
      refine ⟨D, gs.map fun g => (st g).isSome, rfl, sql (by rw [h3, List.map_map]; rfl), ?_⟩
      refine q H3 _ (s12.trans s3) ?_
      rw [List.all_eq_true]
      constructor
      · intro h g hgm
        have h1 := h _ (List.mem_map.mpr ⟨g, hgm, rfl⟩)
        have h2 := (hst g (hg g hgm)).2
        refine Classical.byContradiction fun z => ?_
        rw [h2.mpr z] at h1
        cases h1
      · intro h x hx
        obtain ⟨g, hgm, rfl⟩ := List.mem_map.mp hx
        have h2 := (hst g (hg g hgm)).2
        cases e : st g with
        | none => exact absurd (h g hgm) (h2.mp e)
        | some d => rfl

abbrev s_Map_many : Stmt := inClass (topS 30) 1
abbrev sl_Map_many : List Str := ["self"]
theorem sc_Map_many : FnScope ["self"] ["self"] (defScope s_Map_many) := ⟨rfl, rfl, rfl, by decide +kernel, rfl, by decide +kernel, by decide +kernel⟩
/-- what the top says of the class Map and its constants -/
structure MapC (K : PySem.W.Frag) (mg : Str → Option Value) (CMap : Addr) : Prop where
  cl : Cls K CMap
  n1 : NoAttr K CMap "_many"
  n2 : NoAttr K CMap "_arrows"
  n3 : NoAttr K CMap "_goals"
  mgMap : mg "Map" = some (.ref CMap)
  FEWEST_PLACES : ∃ t, mg "FEWEST_PLACES" = some (.int 2 t)
  MOST_PLACES : ∃ t, mg "MOST_PLACES" = some (.int 40 t)
  MOST_ARROWS : ∃ t, mg "MOST_ARROWS" = some (.int 60 t)
def mapF (n : Nat) (a c : Addr) : List (Str × V) := putF "_goals" (.ref c) (putF "_arrows" (.ref a) (putF "_many" (nV n) []))
theorem kn1 : ¬ (("_many" : Str) = "_arrows") := by decide +kernel
theorem kn2 : ¬ (("_many" : Str) = "_goals") := by decide +kernel
theorem kn3 : ¬ (("_arrows" : Str) = "_goals") := by decide +kernel
theorem mapF_m (n : Nat) (a c : Addr) : (mapF n a c).lookup ("_many" : Str) = some (nV n) := by
  unfold mapF
  rw [lookup_putF, if_neg kn2, lookup_putF, if_neg kn1, lookup_putF, if_pos rfl]
theorem mapF_a (n : Nat) (a c : Addr) : (mapF n a c).lookup ("_arrows" : Str) = some (.ref a) := by
  unfold mapF
  rw [lookup_putF, if_neg kn3, lookup_putF, if_pos rfl]
theorem mapF_g (n : Nat) (a c : Addr) : (mapF n a c).lookup ("_goals" : Str) = some (.ref c) := by
  unfold mapF
  rw [lookup_putF, if_pos rfl]
theorem mapF_no (n : Nat) (a c : Addr) {m : Str} (h1 : ¬ m = "_goals") (h2 : ¬ m = "_arrows") (h3 : ¬ m = "_many") : (mapF n a c).lookup m = none := by
  unfold mapF
  rw [lookup_putF, if_neg h1, lookup_putF, if_neg h2, lookup_putF, if_neg h3]
  rfl
theorem mapF_many (n : Nat) (a c : Addr) : (mapF n a c).lookup ("many" : Str) = none := mapF_no n a c (by decide +kernel) (by decide +kernel) (by decide +kernel)
theorem mapF_arrows (n : Nat) (a c : Addr) : (mapF n a c).lookup ("arrows" : Str) = none := mapF_no n a c (by decide +kernel) (by decide +kernel) (by decide +kernel)
theorem mapF_goals (n : Nat) (a c : Addr) : (mapF n a c).lookup ("goals" : Str) = none := mapF_no n a c (by decide +kernel) (by decide +kernel) (by decide +kernel)
/-- a Map stands at p: n places, arrows at a (the values pvs), goals at c -/
structure MapAt (K : PySem.W.Frag) (C : Addr) (H : Hp) (p : Addr) (n : Nat) (a : Addr) (pvs : List V) (c : Addr) (gs : List Nat) : Prop where
  ob : ∃ dx, H p = some (.ins C dx (mapF n a c))
  ar : SqT K H a pvs
  go : SqT K H c (gs.map nV)
theorem MapAt.same {K : PySem.W.Frag} {C : Addr} {H H' : Hp} {p : Addr} {n : Nat} {a : Addr} {pvs : List V} {c : Addr} {gs : List Nat} (m : MapAt K C H p n a pvs c gs) (s : Same H H') : MapAt K C H' p n a pvs c gs :=
  ⟨m.ob.elim fun dx h => ⟨dx, s _ _ h⟩, Same.sqt s m.ar, Same.sqt s m.go⟩
def spMany (K : PySem.W.Frag) (C : Addr) : Sp := fun vs H Q _ => ∃ p n a pvs c gs, vs = [.ref p] ∧ MapAt K C H p n a pvs c gs ∧ Q (nV n) H
theorem ok_many {CMap : Addr} (C : MapC K mg CMap) (D0 : DfM K CMap "many" "Map.many" s_Map_many ["self"]) : HasM P w K mg base CMap "many" 1 ["self"] (spMany K CMap) := by
  refine D0.has fun f fd F => F.ok sc_Map_many (fun vs H Q E h => ?_) (fun cdv A outer s H vs Q E hr h => ?_)
  · obtain ⟨p, n, a, pvs, c, gs, rfl, _⟩ := h
    rfl
  · obtain ⟨p, n, a, pvs, c, gs, rfl, m, q⟩ := h
    obtain ⟨dx, hp⟩ := m.ob
    refine ⟨_, (pss_one (ps_ret (k_fld (K := K) rfl (pv 0) rfl))), ?_⟩
    exact ⟨_, rfl, p, CMap, dx, _, _, rfl, hp, C.cl, C.n1, mapF_m n a c, q⟩

abbrev s_Map_arrows : Stmt := inClass (topS 30) 2
abbrev sl_Map_arrows : List Str := ["self"]
theorem sc_Map_arrows : FnScope ["self"] ["self"] (defScope s_Map_arrows) := ⟨rfl, rfl, rfl, by decide +kernel, rfl, by decide +kernel, by decide +kernel⟩
def spArrows (K : PySem.W.Frag) (C : Addr) : Sp := fun vs H Q _ => ∃ p n a pvs c gs, vs = [.ref p] ∧ MapAt K C H p n a pvs c gs ∧ Q (.ref a) H
theorem ok_arrows {CMap : Addr} (C : MapC K mg CMap) (D0 : DfM K CMap "arrows" "Map.arrows" s_Map_arrows ["self"]) : HasM P w K mg base CMap "arrows" 1 ["self"] (spArrows K CMap) := by
  refine D0.has fun f fd F => F.ok sc_Map_arrows (fun vs H Q E h => ?_) (fun cdv A outer s H vs Q E hr h => ?_)
  · obtain ⟨p, n, a, pvs, c, gs, rfl, _⟩ := h
    rfl
  · obtain ⟨p, n, a, pvs, c, gs, rfl, m, q⟩ := h
    obtain ⟨dx, hp⟩ := m.ob
    refine ⟨_, (pss_one (ps_ret (k_fld (K := K) rfl (pv 0) rfl))), ?_⟩
    exact ⟨_, rfl, p, CMap, dx, _, _, rfl, hp, C.cl, C.n2, mapF_a n a c, q⟩

abbrev s_Map_goals : Stmt := inClass (topS 30) 3
abbrev sl_Map_goals : List Str := ["self"]
theorem sc_Map_goals : FnScope ["self"] ["self"] (defScope s_Map_goals) := ⟨rfl, rfl, rfl, by decide +kernel, rfl, by decide +kernel, by decide +kernel⟩
def spGoals (K : PySem.W.Frag) (C : Addr) : Sp := fun vs H Q _ => ∃ p n a pvs c gs, vs = [.ref p] ∧ MapAt K C H p n a pvs c gs ∧ Q (.ref c) H
theorem ok_goals {CMap : Addr} (C : MapC K mg CMap) (D0 : DfM K CMap "goals" "Map.goals" s_Map_goals ["self"]) : HasM P w K mg base CMap "goals" 1 ["self"] (spGoals K CMap) := by
  refine D0.has fun f fd F => F.ok sc_Map_goals (fun vs H Q E h => ?_) (fun cdv A outer s H vs Q E hr h => ?_)
  · obtain ⟨p, n, a, pvs, c, gs, rfl, _⟩ := h
    rfl
  · obtain ⟨p, n, a, pvs, c, gs, rfl, m, q⟩ := h
    obtain ⟨dx, hp⟩ := m.ob
    refine ⟨_, (pss_one (ps_ret (k_fld (K := K) rfl (pv 0) rfl))), ?_⟩
    exact ⟨_, rfl, p, CMap, dx, _, _, rfl, hp, C.cl, C.n3, mapF_g n a c, q⟩

def leftV {α : Type} (xs : List α) (ls : List Nat) : List α := (List.range xs.length).filterMap fun i => if i ∈ ls then none else xs[i]?
/-- a Map at p and what is right of it for every function -/
structure MapOk (K : PySem.W.Frag) (C : Addr) (H : Hp) (p : Addr) (n : Nat) (a : Addr) (pvs : List V) (es : Es) (c : Addr) (gs : List Nat) : Prop where
  at_ : MapAt K C H p n a pvs c gs
  pr : Prs K H pvs es
  n0 : 0 < n
  n1 : n ≤ 1000
  el : es.length ≤ 1000
  gn : gs.length ≤ 1000
  ok : ∀ e ∈ es, e.1 < n ∧ e.2 < n
  gl : ∀ g ∈ gs, g < n
theorem MapOk.same {K : PySem.W.Frag} {C : Addr} {H H' : Hp} {p : Addr} {n : Nat} {a : Addr} {pvs : List V} {es : Es} {c : Addr} {gs : List Nat} (m : MapOk K C H p n a pvs es c gs) (s : Same H H') : MapOk K C H' p n a pvs es c gs :=
  ⟨m.at_.same s, m.pr.same s, m.n0, m.n1, m.el, m.gn, m.ok, m.gl⟩
/-- the edges that are left without the arrows of the lot -/
abbrev left (es : Es) (ls : List Nat) : Es := leftV es ls
theorem mem_leftV {α : Type} {xs : List α} {ls : List Nat} {x : α} : x ∈ leftV xs ls ↔ ∃ i, xs[i]? = some x ∧ i ∉ ls := by
  unfold leftV
  rw [List.mem_filterMap]
  constructor
  · rintro ⟨i, _, h⟩
    by_cases hi : i ∈ ls
    · rw [if_pos hi] at h
      cases h
    · rw [if_neg hi] at h
      exact ⟨i, h, hi⟩
  · rintro ⟨i, h, hi⟩
    exact ⟨i, List.mem_range.mpr (List.getElem?_eq_some_iff.mp h).1, by rw [if_neg hi]; exact h⟩
theorem leftV_len {α : Type} {xs : List α} {ls : List Nat} : (leftV xs ls).length ≤ xs.length := by
  unfold leftV
  have := List.length_filterMap_le (fun i => if i ∈ ls then none else xs[i]?) (List.range xs.length)
  rw [List.length_range] at this
  exact this
theorem left_ok {es : Es} {ls : List Nat} {Pq : Nat × Nat → Prop} (h : ∀ e ∈ es, Pq e) : ∀ e ∈ left es ls, Pq e := fun e he => by
  obtain ⟨i, hi, _⟩ := mem_leftV.mp he
  exact h e (List.mem_of_getElem? hi)
theorem left_map {α β : Type} {f : Nat → Option α} {g : Nat → Option β} : ∀ {l : List Nat}, (∀ i ∈ l, (f i).isSome = (g i).isSome) →
    (l.filterMap f).length = (l.filterMap g).length ∧ ∀ (j : Nat) (x : α) (y : β), (l.filterMap f)[j]? = some x → (l.filterMap g)[j]? = some y → ∃ i ∈ l, f i = some x ∧ g i = some y
  | [], _ => ⟨rfl, fun j x y h _ => by simp at h⟩
  | i :: r, h => by
    obtain ⟨ih1, ih2⟩ := left_map (l := r) fun k hk => h k (List.mem_cons_of_mem _ hk)
    have hi := h i List.mem_cons_self
    cases ef : f i with
    | none =>
      rw [ef] at hi
      have eg : g i = none := by
        cases q : g i with
        | none => rfl
        | some y => rw [q] at hi; cases hi
      rw [List.filterMap_cons_none ef, List.filterMap_cons_none eg]
      exact ⟨ih1, fun j x y a b => (ih2 j x y a b).elim fun k ⟨hk, q⟩ => ⟨k, List.mem_cons_of_mem _ hk, q⟩⟩
    | some x0 =>
      rw [ef] at hi
      cases eg : g i with
      | none => rw [eg] at hi; cases hi
      | some y0 =>
        rw [List.filterMap_cons_some ef, List.filterMap_cons_some eg]
        refine ⟨by rw [List.length_cons, List.length_cons, ih1], fun j x y a b => ?_⟩
        cases j with
        | zero =>
          cases a
          cases b
          exact ⟨i, List.mem_cons_self, ef, eg⟩
        | succ j => exact (ih2 j x y a b).elim fun k ⟨hk, q⟩ => ⟨k, List.mem_cons_of_mem _ hk, q⟩
theorem Prs.left {K : PySem.W.Frag} {H : Hp} {vs : List V} {es : Es} (p : Prs K H vs es) (ls : List Nat) : Prs K H (leftV vs ls) (leftV es ls) := by
  have h := left_map (f := fun i => if i ∈ ls then none else vs[i]?) (g := fun i => if i ∈ ls then none else es[i]?) (l := List.range vs.length) fun i hi => by
    have h1 : i < vs.length := List.mem_range.mp hi
    by_cases hm : i ∈ ls
    · simp only [if_pos hm]
      rfl
    · simp only [if_neg hm]
      rw [List.getElem?_eq_getElem h1, List.getElem?_eq_getElem (by rw [← p.len]; exact h1)]
      rfl
  have e : leftV es ls = (List.range vs.length).filterMap fun i => if i ∈ ls then none else es[i]? := by
    unfold leftV
    rw [p.len]
  rw [e]
  refine ⟨h.1, fun j v e' a b => ?_⟩
  obtain ⟨i, _, q1, q2⟩ := h.2 j v e' a b
  by_cases hm : i ∈ ls
  · rw [if_pos hm] at q1
    cases q1
  · rw [if_neg hm] at q1 q2
    exact p.at_ i v e' q1 q2

/-- an own class whose instances are no tuples, no ints -/
structure OwnC (K : PySem.W.Frag) (C : Addr) : Prop where
  cl : Cls K C
  ha : PySem.W.findIn K (.ref C) "__class__" = some (some (.builtin "object.__class__"))
  hn : PySem.W.specialIn K (.builtin "object.__class__") "__get__" = some (some (.builtin "getset_descriptor.__get__"))
  htk : PySem.W.takesIn K (.builtin "object.__class__") = some true
  hm : PySem.W.mroIn K C (.type "object") = some true
  kt : PySem.W.kitOne K (.ref C) (.type "tuple") = some false
  ki : PySem.W.kitOne K (.ref C) (.type "int") = some false
  kb : PySem.W.kitOne K (.ref C) (.type "bool") = some false
theorem kit_sub {K : PySem.W.Frag} {C : Addr} {T : String} {r : Bool} (hm : PySem.W.kitMeta T = true) (h : PySem.W.subIn K (.ref C) (.type T) = some r) : PySem.W.kitOne K (.ref C) (.type T) = some r := by
  have e : (Value.ref C == Value.type T) = false := rfl
  unfold PySem.W.kitOne
  rw [e]
  show (if PySem.W.kitMeta T = true then PySem.W.subIn K (.ref C) (.type T) else none) = some r
  rw [if_pos hm]
  exact h

/-- what the top says of an own class: its fields are no attributes of the class -/
structure ClsC (K : PySem.W.Frag) (mg : Str → Option Value) (x : Str) (C : Addr) (fs : List Str) : Prop where
  cl : Cls K C
  na : ∀ f ∈ fs, NoAttr K C f
  mg : mg x = some (.ref C)
section
variable {K : PySem.W.Frag} {mg : Str → Option Value} {x f g k : Str} {C : Addr} {r : List Str}
theorem ClsC.n0 (h : ClsC K mg x C (f :: r)) : NoAttr K C f := h.na f List.mem_cons_self
theorem ClsC.n1 (h : ClsC K mg x C (f :: g :: r)) : NoAttr K C g := h.na g (List.mem_cons_of_mem _ List.mem_cons_self)
theorem ClsC.n2 (h : ClsC K mg x C (f :: g :: k :: r)) : NoAttr K C k := h.na k (List.mem_cons_of_mem _ (List.mem_cons_of_mem _ List.mem_cons_self))
end

abbrev s_pairs_left : Stmt := topS 23
abbrev sl_pairs_left : List Str := ["arrows", "rotten", "gone", "arrow", "pair"]
theorem sc_pairs_left : FnScope ["arrows", "rotten", "gone", "arrow", "pair"] ["arrows", "rotten"] (defScope s_pairs_left) := ⟨rfl, rfl, rfl, by decide +kernel, rfl, by decide +kernel, by decide +kernel⟩
def spPairsLeft (K : PySem.W.Frag) : Sp := fun vs H Q _ => ∃ (a b : Addr) (xs : List V) (ls : List Nat), vs = [.ref a, .ref b] ∧ SqT K H a xs ∧ SqT K H b (ls.map nV) ∧ (∀ z ∈ ls, z < xs.length) ∧ xs.length ≤ 100000 ∧
  ∀ p H', Same H H' → H p = none → H' p = some (.lst (leftV xs ls)) → Q (.ref p) H'
theorem ok_pairs_left (B : Bt mg) (h_marks : Has P w K mg base "marks" 1 ["many", "lot"] (spMarks K)) (D : Df K mg "pairs_left" s_pairs_left ["arrows", "rotten"]) : Has P w K mg base "pairs_left" 2 ["arrows", "rotten"] (spPairsLeft K) := by
  refine D.has fun f fd F => F.ok sc_pairs_left (fun vs H Q E h => ?_) (fun cdv A outer s H vs Q E hr h => ?_)
  · obtain ⟨a, b, xs, ls, rfl, _⟩ := h
    rfl
  · obtain ⟨a, b, xs, ls, rfl, hA, hB, hl, hn, q⟩ := h
    refine ⟨_, (pss_cons (ps_set (i := 2) sc_pairs_left.nd rfl (.inr rfl) (pcall h_marks hr (by decide) (by rfl) (pa_cons (pe_callB (k_len (K := K) rfl) (by rfl) B.len bo_len (pa_cons (pv 0) pa_nil)) (pa_cons (pv 1) pa_nil))))
  (pss_one (ps_ret (pe_lc (own := [("arrow", 3), ("pair", 4)]) (g := gTup K 2 (gCons (gName 3) (gCons (gName 4) gNil))) rfl sc_pairs_left.nd (pi_enumT (by rfl) B.enumerate (pa_cons (pv 0) pa_nil)) (blkOk_by (N := sl_pairs_left) (sc := defScope s_pairs_left) (by decide +kernel)) (fun _ _ _ _ _ => (pg_tup rfl (pgs_cons (pg_name (i := 3) sc_pairs_left.nd rfl (.inl rfl)) (pgs_cons (pg_name (i := 4) sc_pairs_left.nd rfl (.inl rfl)) pgs_nil)))) (fun _ _ _ _ _ => pts_one (pt_not (pt_val (pe_ix (k_ixl (K := K) rfl) (pv 2) (pv 3) (fun _ _ => rfl))))) (fun _ _ _ _ _ => (pv 4)))))), ?_⟩
    refine ⟨_, rfl, ⟨a, xs, rfl, .inr hA, _, rfl, xs.length, b, ls, rfl, hB, hl, hn, fun g H1 s1 ng hg => ?_⟩⟩
    refine ⟨_, rfl, a, xs, rfl, Same.sqt s1 hA, fun D nD => ?_⟩
    refine lc_val walkT calm_pair (fun i => if i ∈ ls then none else xs[i]?) hn nD (fun H2 s2 => Same.sqt s2 (Same.sqt s1 hA)) ?_ fun H2 s2 h2 => ?_
    · rintro i x H2 H3 hi s2 ⟨T, x1, x2, rfl, nT, rfl, e1, e2⟩ Kt kt
      cases e1
      have s3 := same_new (o := .tup [.int (i : Nat), x2]) (Same.refl H2) nT
      have hg3 : (upd H2 T (.tup [.int (i : Nat), x2])) g = some (.lst ((mks xs.length ls).map V.bl)) := s3 _ _ (s2 _ _ hg)
      refine ⟨T, _, rfl, sqt upd_same, rfl, _, _, rfl, _, _, rfl, rfl, rfl, ?_⟩
      refine ⟨_, rfl, _, rfl, g, _, (i : Int), _, rfl, rfl, sql hg3, atI_nat (mks_get hi), _, rfl, ?_⟩
      have k0 := kt _ (Same.refl _)
      by_cases hm : i ∈ ls
      · rw [decide_eq_true hm]
        refine iteF ?_
        rw [if_pos hm] at k0
        exact k0
      · rw [decide_eq_false hm]
        refine iteT ⟨x2, rfl, ?_⟩
        rw [if_neg hm, show xs[i]? = some x2 from e2] at k0
        exact k0
    · exact q D H2 (s1.trans s2) (s1.free nD) h2

abbrev s_is_pair : Stmt := topS 34
abbrev sl_is_pair : List Str := ["thing", "many", "tail", "head"]
theorem sc_is_pair : FnScope ["thing", "many", "tail", "head"] ["thing", "many"] (defScope s_is_pair) := ⟨rfl, rfl, rfl, by decide +kernel, rfl, by decide +kernel, by decide +kernel⟩
def pairV (m : Int) : List V → Bool
  | [x, y] => idxV x m && (idxV y m && !decide (x = y))
  | _ => false
/-- whether the value x is a pair for m: b -/
def PairRes (K : PySem.W.Frag) (H : Hp) (m : Int) (x : V) (b : Bool) : Prop :=
  (∃ a ys, x = .ref a ∧ SqT K H a ys ∧ (∀ y ∈ ys, ∃ s, Kn K H y s) ∧ b = pairV m ys) ∨ (∃ s, Kn K H x s ∧ (s == "tuple") = false ∧ b = false)
def spIsPair (K : PySem.W.Frag) : Sp := fun vs H Q _ => ∃ (v : V) (m : Int) (b : Bool), vs = [v, .int m] ∧ PairRes K H m v b ∧ Q (.bl b) H
theorem pairV_ne {m : Int} {ys : List V} (h : ys.length ≠ 2) : pairV m ys = false := by
  match ys, h with
  | [], _ => rfl
  | [_], _ => rfl
  | [_, _], h => exact absurd rfl h
  | _ :: _ :: _ :: _, _ => rfl
theorem ok_is_pair (B : Bt mg) (h_is_index : Has P w K mg base "is_index" 2 ["thing", "many"] (spIsIndex K)) (D0 : Df K mg "is_pair" s_is_pair ["thing", "many"]) : Has P w K mg base "is_pair" 3 ["thing", "many"] (spIsPair K) := by
  refine D0.has fun f fd F => F.ok sc_is_pair (fun vs H Q E h => ?_) (fun cdv A outer s H vs Q E hr h => ?_)
  · obtain ⟨v, m, b, rfl, _⟩ := h
    rfl
  · obtain ⟨v, m, b, rfl, h, q⟩ := h
    refine ⟨_, (pss_cons (ps_if (PW.pt (pw_or (pt_not (pt_val (pe_callB (k_isi (K := K) rfl) (by rfl) B.isinstance bo_isinstance (pa_cons (pv 0) (pa_cons (pe_bltn (v := .ty "tuple") (by rfl) B.tuple bo_tuple rfl) pa_nil))))) (pw_or1 (pt_cmpR op_ne (pe_callB (k_len (K := K) rfl) (by rfl) B.len bo_len (pa_cons (pv 0) pa_nil)) pe_int (nomark _)))))
    (pss_one (ps_ret pe_bl))
    pss_nil)
  (pss_cons (ps_asg (pv 0) (pg_tup rfl (pgs_cons (pg_name (i := 2) sc_is_pair.nd rfl (.inl rfl)) (pgs_cons (pg_name (i := 3) sc_is_pair.nd rfl (.inl rfl)) pgs_nil))))
  (pss_one (ps_ret (pe_and (pcall h_is_index hr (by decide) (by rfl) (pa_cons (pv 2) (pa_cons (pv 1) pa_nil))) (pe_and (pcall h_is_index hr (by decide) (by rfl) (pa_cons (pv 3) (pa_cons (pv 1) pa_nil))) (pe_one (pe_cmpR (k_neD (K := K) rfl hr.units) (pv 2) (pv 3) (nomark _))))))))), ?_⟩
    rcases h with ⟨a, ys, rfl, hS, hk, rfl⟩ | ⟨s, hv, hs, rfl⟩
    · refine ⟨_, rfl, _, .ty "tuple", _, _, _, rfl, .ty "tuple", (kn_of_tup hS).ty, kit_tuple (kn_of_tup hS).mem, _, rfl, iteF ?_⟩
      refine ⟨_, rfl, a, ys, rfl, .inr hS, rfl, _, rfl, ?_⟩
      by_cases h2 : ys.length = 2
      · rw [h2]
        refine iteF ?_
        match ys, h2, hS, hk, q with
        | [x, y], _, hS, hk, q =>
          obtain ⟨sx, kx⟩ := hk x (by simp)
          obtain ⟨sy, ky⟩ := hk y (by simp)
          refine ⟨_, rfl, a, _, rfl, hS, rfl, _, _, rfl, _, _, rfl, rfl, ?_⟩
          refine ⟨x, rfl, _, rfl, x, sx, m, rfl, kx, _, rfl, ?_⟩
          have q : Q (.bl (idxV x m && (idxV y m && !decide (x = y)))) H := q
          cases h3 : idxV x m with
          | false =>
            rw [h3, Bool.false_and] at q
            exact iteF q
          | true =>
            rw [h3, Bool.true_and] at q
            refine iteT ⟨y, rfl, _, rfl, y, sy, m, rfl, ky, _, rfl, ?_⟩
            cases h4 : idxV y m with
            | false =>
              rw [h4, Bool.false_and] at q
              exact iteF q
            | true =>
              rw [h4, Bool.true_and] at q
              refine iteT ?_
              match x, y, h3, h4, q with
              | .int i, .int j, _, _, q =>
                refine ⟨_, rfl, _, rfl, .int i, .int j, .int i, .int j, rfl, rfl, ?_⟩
                have e : (!PyData.eqv (.int i) (.int j)) = !decide (V.int i = V.int j) := by
                  congr 1
                  by_cases h5 : i = j
                  · subst h5
                    simp [PyData.eqv]
                  · have h6 : ¬ V.int i = V.int j := fun z => h5 (by cases z; rfl)
                    simp [PyData.eqv, h5]
                rw [e]
                exact q
      · have e : (!decide (V.int (ys.length : Int) = V.int 2)) = true := by
          have : ¬ V.int (ys.length : Int) = V.int 2 := fun z => h2 (by injection z with z; omega)
          simp [this]
        rw [e]
        refine iteT ?_
        rw [pairV_ne h2] at q
        exact q
    · refine ⟨_, rfl, _, .ty "tuple", _, _, _, rfl, .ty "tuple", hv.ty, kit_tuple hv.mem, _, rfl, ?_⟩
      rw [hs]
      exact iteT (iteT q)

abbrev s_check_pairs : Stmt := topS 33
abbrev sl_check_pairs : List Str := ["many", "pairs", "most", "pair"]
theorem sc_check_pairs : FnScope ["many", "pairs", "most", "pair"] ["many", "pairs", "most"] (defScope s_check_pairs) := ⟨rfl, rfl, rfl, by decide +kernel, rfl, by decide +kernel, by decide +kernel⟩
/-- parts of a map but the goals, all right -/
structure GoodPairs (n : Nat) (es : Es) (m : Nat) : Prop where
  n2 : 2 ≤ n
  n40 : n ≤ 40
  lm : es.length ≤ m
  ok : ∀ e ∈ es, e.1 < n ∧ e.2 < n ∧ e.1 ≠ e.2
def spCheckPairs (K : PySem.W.Frag) : Sp := fun vs H Q _ => ∃ (n : Nat) (a : Addr) (pvs : List V) (es : Es) (m : Nat), vs = [.int (n : Int), .ref a, .int (m : Int)] ∧ SqT K H a pvs ∧ Prs K H pvs es ∧ GoodPairs n es m ∧ m ≤ 60 ∧ ∀ H', Same H H' → Q .non H'
theorem TyX_same {K : PySem.W.Frag} {H H' : Hp} {v : V} {t : Value} (h : TyX K H v t) (s : Same H H') : TyX K H' v t := by
  cases h with
  | base b => cases b with
    | non => exact .base .non
    | bl x => exact .base (.bl x)
    | int i => exact .base (.int i)
    | str x => exact .base (.str x)
    | flt x => exact .base (.flt x)
    | lst e => exact .base (.lst (s _ _ e))
    | frz e => exact .base (.frz (s _ _ e))
    | tup e => exact .base (.tup (s _ _ e))
    | dK e => exact .base (.dK (s _ _ e))
    | dT e => exact .base (.dT (s _ _ e))
    | ins e a b c d f => exact .base (.ins (s _ _ e) a b c d f)
  | byt b => exact .byt b
  | set e => exact .set (s _ _ e)
  | kList a b => exact .kList a b
  | kTuple a b => exact .kTuple a b
  | kDict a b => exact .kDict a b
  | fTuple e => exact .fTuple (s _ _ e)
  | fDict e => exact .fDict (s _ _ e)
theorem Kn.same {K : PySem.W.Frag} {H H' : Hp} {v : V} {t : String} (h : Kn K H v t) (s : Same H H') : Kn K H' v t := ⟨TyX_same h.ty s, h.mem⟩
theorem PairRes.same {K : PySem.W.Frag} {H H' : Hp} {m : Int} {v : V} {b : Bool} (h : PairRes K H m v b) (s : Same H H') : PairRes K H' m v b := by
  rcases h with ⟨a, ys, e, h1, h2, h3⟩ | ⟨t, h1, h2⟩
  · exact .inl ⟨a, ys, e, Same.sqt s h1, fun y hy => (h2 y hy).elim fun t k => ⟨t, k.same s⟩, h3⟩
  · exact .inr ⟨t, h1.same s, h2⟩
theorem pairRes_of {K : PySem.W.Frag} {H : Hp} {n : Nat} {v : V} {e : Nat × Nat} (h : PairAt K H v e) (h1 : e.1 < n) (h2 : e.2 < n) (h3 : e.1 ≠ e.2) : PairRes K H (n : Int) v true := by
  obtain ⟨t, rfl, ht⟩ := h
  refine .inl ⟨t, _, rfl, ht, fun y hy => ?_, ?_⟩
  · simp only [List.mem_cons, List.not_mem_nil, or_false] at hy
    rcases hy with rfl | rfl <;> exact ⟨"int", kn_of_int⟩
  · show true = ((decide (0 ≤ (e.1 : Int)) && decide ((e.1 : Int) < (n : Int))) && ((decide (0 ≤ (e.2 : Int)) && decide ((e.2 : Int) < (n : Int))) && !decide (nV e.1 = nV e.2)))
    have h4 : ¬ nV e.1 = nV e.2 := fun z => by
      have z' : V.int (e.1 : Int) = V.int (e.2 : Int) := z
      injection z' with z'
      exact h3 (by omega)
    simp only [h4, decide_false, Bool.not_false, Bool.and_true]
    symm
    simp only [Bool.and_eq_true, decide_eq_true_eq]
    omega
theorem ok_check_pairs {CMap : Addr} (B : Bt mg) (C : MapC K mg CMap) (h_is_integer : Has P w K mg base "is_integer" 1 ["thing"] (spIsInteger K)) (h_is_pair : Has P w K mg base "is_pair" 3 ["thing", "many"] (spIsPair K)) (D0 : Df K mg "check_pairs" s_check_pairs ["many", "pairs", "most"]) : Has P w K mg base "check_pairs" 4 ["many", "pairs", "most"] (spCheckPairs K) := by
  refine D0.has fun f fd F => F.ok sc_check_pairs (fun vs H Q E h => ?_) (fun cdv A outer s H vs Q E hr h => ?_)
  · obtain ⟨n, a, pvs, es, m, rfl, _⟩ := h
    rfl
  · obtain ⟨n, a, pvs, es, m, rfl, hA, hP, g, hm, q⟩ := h
    refine ⟨_, (pss_cons (ps_if (PW.pt (pw_or (pt_not (pt_val (pcall h_is_integer hr (by decide) (by rfl) (pa_cons (pv 0) pa_nil)))) (pw_or1 (pt_not (pt_chain op_le op_le (pe_glob (v := .int 2) (by rfl) C.FEWEST_PLACES.choose_spec ⟨_, rfl⟩) (pv 0) (pe_glob (v := .int 40) (by rfl) C.MOST_PLACES.choose_spec ⟨_, rfl⟩))))))
    (pss_one ps_never)
    pss_nil)
  (pss_cons (ps_if (PW.pt (pw_or (pt_not (pt_val (pe_callB (k_isi (K := K) rfl) (by rfl) B.isinstance bo_isinstance (pa_cons (pv 1) (pa_cons (pe_bltn (v := .ty "tuple") (by rfl) B.tuple bo_tuple rfl) pa_nil))))) (pw_or1 (pt_cmpR op_gt (pe_callB (k_len (K := K) rfl) (by rfl) B.len bo_len (pa_cons (pv 1) pa_nil)) (pv 2) (nomark _)))))
    (pss_one ps_never)
    pss_nil)
  (pss_one (ps_if (pt_not (pt_val (pe_callB (k_all (K := K) rfl rfl) (by rfl) B.all bo_all (pa_cons (pe_lc (own := [("pair", 3)]) (g := gName 3) rfl sc_check_pairs.nd (k_pit (K := K) rfl (pv 1)) (blkOk_by (N := sl_check_pairs) (sc := defScope s_check_pairs) (by decide +kernel)) (fun _ _ _ _ _ => (pg_name (i := 3) sc_check_pairs.nd rfl (.inl rfl))) (fun _ _ _ _ _ => pts_nil) (fun _ _ _ _ _ => (pcall h_is_pair hr (by decide) (by rfl) (pa_cons (pv 3) (pa_cons (pv 0) pa_nil))))) pa_nil))))
    (pss_one ps_never)
    pss_nil)))), ?_⟩
    have gn2 := g.n2
    have gn40 := g.n40
    have glm := g.lm
    have hl := hP.len
    refine ⟨_, rfl, .int (n : Int), "int", rfl, kn_of_int, _, rfl, iteF ?_⟩
    refine ⟨_, rfl, _, _, rfl, rfl, _, rfl, ?_⟩
    rw [decide_eq_true (show (2 : Int) ≤ (n : Int) by omega)]
    refine iteT ⟨_, _, rfl, rfl, _, rfl, ?_⟩
    rw [decide_eq_true (show (n : Int) ≤ (40 : Int) by omega)]
    refine iteF ?_
    refine ⟨_, rfl, _, .ty "tuple", _, _, _, rfl, .ty "tuple", (kn_of_tup hA).ty, kit_tuple (kn_of_tup hA).mem, _, rfl, iteF ?_⟩
    refine ⟨_, rfl, a, pvs, rfl, .inr hA, _, rfl, _, _, rfl, rfl, _, rfl, ?_⟩
    rw [decide_eq_false (show ¬ (m : Int) < (pvs.length : Int) by omega)]
    refine iteF ?_
    refine ⟨_, rfl, a, rfl, ⟨_, hA⟩, fun D nD => ?_⟩
    refine lc_val walk_tup calm_at (fun i => (pvs[i]?).bind fun _ => some (V.bl true)) (by omega) nD (fun H3 s3 => Same.sqt s3 hA) ?_ fun H3 s3 h3 => ?_
    · rintro i x H3 H4 hi s3 ⟨rfl, hx⟩ Kt kt
      refine ⟨rfl, tyes ?_⟩
      refine iteT ?_
      obtain ⟨e, hei, he⟩ := hP.get hx
      obtain ⟨h1, h2, h3⟩ := g.ok e (List.mem_of_getElem? hei)
      refine ⟨x, rfl, _, rfl, x, (n : Int), true, rfl, (pairRes_of he h1 h2 h3).same s3, ?_⟩
      have k0 := kt _ (Same.refl _)
      rw [hx] at k0
      exact k0
    · rw [fm_range, fm_some] at h3
      refine ⟨D, pvs.map fun _ => true, rfl, sql (by rw [List.map_map]; exact h3), _, rfl, ?_⟩
      rw [show (pvs.map fun _ => true).all id = true by rw [List.all_map]; exact List.all_eq_true.mpr fun _ _ => rfl]
      refine iteF ?_
      exact q H3 s3

abbrev s_are_goals : Stmt := topS 35
abbrev sl_are_goals : List Str := ["thing", "many", "arrows"]
theorem sc_are_goals : FnScope ["thing", "many", "arrows"] ["thing", "many", "arrows"] (defScope s_are_goals) := ⟨rfl, rfl, rfl, by decide +kernel, rfl, by decide +kernel, by decide +kernel⟩
/-- what judges the value v as goals: r told of a lot, or not one at all -/
def spAreGoals (K : PySem.W.Frag) : Sp := fun vs H Q _ => ∃ (v : V) (n : Nat) (b : Addr) (pvs : List V) (es : Es), vs = [v, .int (n : Int), .ref b] ∧ SqT K H b pvs ∧ Prs K H pvs es ∧ (∀ e ∈ es, e.1 < n ∧ e.2 < n) ∧ 0 < n ∧ n ≤ 1000 ∧ es.length ≤ 1000 ∧
  ((∃ c xs, v = .ref c ∧ SqT K H c xs ∧ xs.length ≤ 1000 ∧ (∀ x ∈ xs, ∃ s, Kn K H x s) ∧
    ∀ H' (ok : Bool), Same H H' → (ok = true ↔ ∃ gs : List Nat, xs = gs.map nV ∧ lotFrom (n : Int) (-1) xs = true ∧ gs ≠ [] ∧ (∀ g ∈ gs, g ≠ 0) ∧ ∀ g ∈ gs, Rch es [0] g) → Q (.bl ok) H') ∨
   (∃ s, Kn K H v s ∧ (s == "tuple") = false ∧ Q (.bl false) H))
theorem nV_inj {gs gs' : List Nat} (h : gs.map nV = gs'.map nV) : gs = gs' := by
  refine (List.map_inj_right fun x y e => ?_).mp h
  have e' : V.int (x : Int) = V.int (y : Int) := e
  injection e' with e'
  omega
theorem ok_are_goals (B : Bt mg) (h_is_lot : Has P w K mg base "is_lot" 3 ["thing", "many"] (spIsLot K)) (h_leads_to_all : Has P w K mg base "leads_to_all" 2 ["many", "pairs", "places"] (spLeads K))
    (D0 : Df K mg "are_goals" s_are_goals ["thing", "many", "arrows"]) : Has P w K mg base "are_goals" 4 ["thing", "many", "arrows"] (spAreGoals K) := by
  refine D0.has fun f fd F => F.ok sc_are_goals (fun vs H Q E h => ?_) (fun cdv A outer s H vs Q E hr h => ?_)
  · obtain ⟨v, n, b, pvs, es, rfl, _⟩ := h
    rfl
  · obtain ⟨v, n, b, pvs, es, rfl, hB, hP, he, h0, hn, hel, h⟩ := h
    refine ⟨_, (pss_cons (ps_if (PW.pt (pw_or (pt_not (pt_val (pcall h_is_lot hr (by decide) (by rfl) (pa_cons (pv 0) (pa_cons (pv 1) pa_nil))))) (pw_or (pt_cmpR op_eq (pe_callB (k_len (K := K) rfl) (by rfl) B.len bo_len (pa_cons (pv 0) pa_nil)) pe_int (nomark _)) (pw_or1 (pt_cmpR op_eq (pe_ix (k_ixt (K := K) rfl) (pv 0) pe_int (fun _ _ => rfl)) pe_int (nomark _))))))
    (pss_one (ps_ret pe_bl))
    pss_nil)
  (pss_one (ps_ret (pcall h_leads_to_all hr (by decide) (by rfl) (pa_cons (pv 1) (pa_cons (pv 2) (pa_cons (pv 0) pa_nil))))))), ?_⟩
    rcases h with ⟨c, xs, rfl, hS, hxl, hk, q⟩ | ⟨s, hv, hs, q⟩
    · refine ⟨_, rfl, _, rfl, .ref c, (n : Int), rfl, .inl ⟨c, xs, rfl, hS, hk, _, rfl, ?_⟩⟩
      cases hlf : lotFrom (n : Int) (-1) xs with
      | false =>
        refine iteT (iteT ?_)
        refine q H false (Same.refl H) ⟨fun z => Bool.noConfusion z, ?_⟩
        rintro ⟨gs, _, h2, _⟩
        rw [hlf] at h2
        cases h2
      | true =>
        obtain ⟨gs, rfl, hg, hpw⟩ := lot_nat (Int.le_refl _) hlf
        rw [List.length_map] at hxl
        refine iteF ?_
        refine ⟨_, rfl, c, _, rfl, .inr hS, rfl, _, rfl, ?_⟩
        cases gs with
        | nil =>
          refine iteT (iteT ?_)
          refine q H false (Same.refl H) ⟨fun z => Bool.noConfusion z, ?_⟩
          rintro ⟨gs', h1, _, h3, _⟩
          exact absurd (nV_inj h1).symm h3
        | cons g0 gr =>
          have e1 : decide (V.int (((g0 :: gr).map nV).length : Int) = V.int 0) = false := by
            have : ¬ V.int (((g0 :: gr).map nV).length : Int) = V.int 0 := fun z => by
              injection z with z
              rw [List.length_map, List.length_cons] at z
              omega
            simp only [this, decide_false]
          rw [e1]
          refine iteF ?_
          refine ⟨_, rfl, c, _, (0 : Nat), nV g0, rfl, rfl, hS, atI_nat rfl, rfl, _, rfl, ?_⟩
          by_cases hz : g0 = 0
          · subst hz
            refine iteT ?_
            refine q H false (Same.refl H) ⟨fun z => Bool.noConfusion z, ?_⟩
            rintro ⟨gs', h1, _, _, h4, _⟩
            exact absurd rfl (h4 0 (by rw [← nV_inj h1]; exact List.mem_cons_self))
          · have e2 : decide (nV g0 = V.int 0) = false := by
              have : ¬ nV g0 = V.int 0 := fun z => by
                have z' : V.int (g0 : Int) = V.int 0 := z
                injection z' with z'
                omega
              simp only [this, decide_false]
            rw [e2]
            refine iteF ?_
            refine ⟨_, rfl, _, rfl, _, rfl, n, b, c, pvs, es, g0 :: gr, rfl, .inr hB, hP, hS, he, fun g hm => ?_, h0, hn, hel, hxl, fun H' ok s' hok => q H' ok s' ?_⟩
            · have := (hg g hm).1
              omega
            · rw [hok]
              constructor
              · intro h
                refine ⟨g0 :: gr, rfl, hlf, List.cons_ne_nil _ _, fun g hm => ?_, h⟩
                rcases List.mem_cons.mp hm with rfl | hm
                · exact hz
                · have := List.rel_of_pairwise_cons hpw hm
                  omega
              · rintro ⟨gs', h1, _, _, _, h5⟩
                rw [nV_inj h1]
                exact h5
    · refine ⟨_, rfl, _, rfl, v, (n : Int), rfl, .inr ⟨s, hv, hs, _, rfl, iteT (iteT q)⟩⟩

abbrev s_Map___init__ : Stmt := inClass (topS 30) 0
abbrev sl_Map___init__ : List Str := ["self", "many", "arrows", "goals"]
theorem sc_Map___init__ : FnScope ["self", "many", "arrows", "goals"] ["self", "many", "arrows", "goals"] (defScope s_Map___init__) := ⟨rfl, rfl, rfl, by decide +kernel, rfl, by decide +kernel, by decide +kernel⟩
theorem pw_len {n : Nat} : ∀ {gs : List Nat} {l : Nat}, gs.Pairwise (· < ·) → (∀ g ∈ gs, l ≤ g ∧ g < n) → gs.length ≤ n - l
  | [], _, _, _ => Nat.zero_le _
  | g :: r, l, hp, h => by
    have h1 := h g List.mem_cons_self
    have h2 : r.length ≤ n - (g + 1) := pw_len hp.of_cons fun x hx => ⟨List.rel_of_pairwise_cons hp hx, (h x (List.mem_cons_of_mem _ hx)).2⟩
    rw [List.length_cons]
    omega
theorem putF_len (f : Str) (v : V) : ∀ fs : List (Str × V), (putF f v fs).length ≤ fs.length + 1
  | [] => Nat.le_refl _
  | (g, x) :: r => by
    unfold putF
    split
    · exact Nat.le_succ _
    · rw [List.length_cons, List.length_cons]
      exact Nat.succ_le_succ (putF_len f v r)
/-- parts that make a map -/
structure GoodMap (n : Nat) (es : Es) (gs : List Nat) : Prop where
  n2 : 2 ≤ n
  n40 : n ≤ 40
  l60 : es.length ≤ 60
  ok : ∀ e ∈ es, e.1 < n ∧ e.2 < n ∧ e.1 ≠ e.2
  ne : gs ≠ []
  pw : gs.Pairwise (· < ·)
  gl : ∀ g ∈ gs, g ≠ 0 ∧ g < n
  rch : ∀ g ∈ gs, Rch es [0] g
def spMapInit (K : PySem.W.Frag) (C : Addr) : Sp := fun vs H Q _ => ∃ (p dx : Addr) (n : Nat) (a : Addr) (pvs : List V) (es : Es) (c : Addr) (gs : List Nat), vs = [.ref p, .int (n : Int), .ref a, .ref c] ∧ H p = some (.ins C dx []) ∧
  SqT K H a pvs ∧ Prs K H pvs es ∧ SqT K H c (gs.map nV) ∧ GoodMap n es gs ∧ ∀ H', MapAt K C H' p n a pvs c gs → (∀ b o, b ≠ p → H b = some o → H' b = some o) → Q .non H'
theorem ok_Map_init {CMap : Addr} (C : MapC K mg CMap) (h_check_pairs : Has P w K mg base "check_pairs" 4 ["many", "pairs", "most"] (spCheckPairs K))
    (h_are_goals : Has P w K mg base "are_goals" 4 ["thing", "many", "arrows"] (spAreGoals K)) (D0 : DfI K CMap "Map.__init__" s_Map___init__ ["self", "many", "arrows", "goals"]) : HasI P w K mg base CMap 5 ["self", "many", "arrows", "goals"] (spMapInit K CMap) := by
  refine D0.has fun f fd F => F.ok sc_Map___init__ (fun vs H Q E h => ?_) (fun cdv A outer s H vs Q E hr h => ?_)
  · obtain ⟨p, dx, n, a, pvs, es, c, gs, rfl, _⟩ := h
    rfl
  · obtain ⟨p, dx, n, a, pvs, es, c, gs, rfl, hp, hA, hP, hG, g, q⟩ := h
    refine ⟨_, (pss_cons (ps_expr (pcall h_check_pairs hr (by decide) (by rfl) (pa_cons (pv 1) (pa_cons (pv 2) (pa_cons (pe_glob (v := .int 60) (by rfl) C.MOST_ARROWS.choose_spec ⟨_, rfl⟩) pa_nil)))))
  (pss_cons (ps_if (pt_not (pt_val (pcall h_are_goals hr (by decide) (by rfl) (pa_cons (pv 3) (pa_cons (pv 1) (pa_cons (pv 2) pa_nil))))))
    (pss_one ps_never)
    pss_nil)
  (pss_cons (ps_fld (pv 0) (pv 1) rfl)
  (pss_cons (ps_fld (pv 0) (pv 2) rfl)
  (pss_one (ps_fld (pv 0) (pv 3) rfl)))))), ?_⟩
    have gn2 := g.n2
    have gn40 := g.n40
    -- many, arrows
    refine ⟨_, rfl, _, rfl, n, a, pvs, es, 60, rfl, hA, hP, ⟨g.n2, g.n40, g.l60, g.ok⟩, Nat.le_refl _, fun H1 s1 => ?_⟩
    -- goals
    refine ⟨_, rfl, _, rfl, _, rfl, .ref c, n, a, pvs, es, rfl, Same.sqt s1 hA, hP.same s1, fun e he => ⟨(g.ok e he).1, (g.ok e he).2.1⟩, by omega, by omega, by have := g.l60; omega,
      .inl ⟨c, _, rfl, Same.sqt s1 hG, ?_, fun x hx => ?_, fun H2 ok s2 hok => ⟨_, rfl, ?_⟩⟩⟩
    · rw [List.length_map]
      have h1 : gs.length ≤ n - 0 := pw_len g.pw fun x hx => ⟨Nat.zero_le _, (g.gl x hx).2⟩
      omega
    · obtain ⟨z, _, rfl⟩ := List.mem_map.mp hx
      exact ⟨"int", kn_of_int⟩
    have e2 : ok = true := hok.mpr ⟨gs, rfl, lot_of (fun x hx => ⟨by have := (g.gl x hx).2; omega, by omega⟩) g.pw, g.ne, fun x hx => (g.gl x hx).1, g.rch⟩
    rw [e2]
    refine iteF ?_
    -- the fields
    have hp2 : H2 p = some (.ins CMap dx []) := s2 _ _ (s1 _ _ hp)
    refine ⟨_, rfl, _, rfl, p, CMap, dx, _, rfl, hp2, C.cl, C.n1, by show 0 < 1000; decide, ?_⟩
    refine ⟨_, rfl, _, rfl, p, CMap, dx, _, rfl, upd_same, C.cl, C.n2, by show 1 < 1000; decide, ?_⟩
    refine ⟨_, rfl, _, rfl, p, CMap, dx, _, rfl, upd_same, C.cl, C.n3, Nat.lt_of_le_of_lt (putF_len _ _ _) (by show 1 + 1 < 1000; decide), ?_⟩
    rw [upd_upd, upd_upd]
    have keep : ∀ b o, b ≠ p → H b = some o → upd H2 p (.ins CMap dx (mapF n a c)) b = some o := fun b o nb hb => by
      rw [upd_ne nb]
      exact s2 _ _ (s1 _ _ hb)
    have kt : ∀ {x : Addr} {xs : List V}, SqT K H x xs → SqT K (upd H2 p (.ins CMap dx (mapF n a c))) x xs := fun {x xs} h => by
      rcases h with (h | ⟨o, h⟩) | h
      · exact .inl (.inl (keep _ _ (ne_of h hp (by intro z; cases z)) h))
      · exact .inl (.inr ⟨o, keep _ _ (ne_of h hp (by intro z; cases z)) h⟩)
      · exact .inr h
    exact q _ ⟨⟨dx, upd_same⟩, kt hA, kt hG⟩ keep

abbrev s_goals_are_open : Stmt := topS 32
abbrev sl_goals_are_open : List Str := ["chart", "rotten"]
theorem sc_goals_are_open : FnScope ["chart", "rotten"] ["chart", "rotten"] (defScope s_goals_are_open) := ⟨rfl, rfl, rfl, by decide +kernel, rfl, by decide +kernel, by decide +kernel⟩
def spOpen (K : PySem.W.Frag) (C : Addr) : Sp := fun vs H Q _ => ∃ (p : Addr) (n : Nat) (a : Addr) (pvs : List V) (es : Es) (c : Addr) (gs : List Nat) (b : Addr) (ls : List Nat), vs = [.ref p, .ref b] ∧ MapOk K C H p n a pvs es c gs ∧ SqT K H b (ls.map nV) ∧ (∀ z ∈ ls, z < es.length) ∧
  ∀ H' (ok : Bool), Same H H' → (ok = true ↔ ∀ g ∈ gs, Rch (left es ls) [0] g) → Q (.bl ok) H'
theorem ok_goals_are_open {CMap : Addr} (C : MapC K mg CMap) (h_leads_to_all : Has P w K mg base "leads_to_all" 2 ["many", "pairs", "places"] (spLeads K)) (h_pairs_left : Has P w K mg base "pairs_left" 2 ["arrows", "rotten"] (spPairsLeft K))
    (h_many : HasM P w K mg base CMap "many" 1 ["self"] (spMany K CMap)) (h_arrows : HasM P w K mg base CMap "arrows" 1 ["self"] (spArrows K CMap)) (h_goals : HasM P w K mg base CMap "goals" 1 ["self"] (spGoals K CMap))
    (D0 : Df K mg "goals_are_open" s_goals_are_open ["chart", "rotten"]) : Has P w K mg base "goals_are_open" 3 ["chart", "rotten"] (spOpen K CMap) := by
  refine D0.has fun f fd F => F.ok sc_goals_are_open (fun vs H Q E h => ?_) (fun cdv A outer s H vs Q E hr h => ?_)
  · obtain ⟨p, n, a, pvs, es, c, gs, b, ls, rfl, _⟩ := h
    rfl
  · obtain ⟨p, n, a, pvs, es, c, gs, b, ls, rfl, m, hB, hls, q⟩ := h
    refine ⟨_, (pss_one (ps_ret (pcall h_leads_to_all hr (by decide) (by rfl) (pa_cons (pe_meth0 (pv 0) C.cl h_many.mt h_many.F (hr.mono (by decide)) h_many.b .nil pass0) (pa_cons (pcall h_pairs_left hr (by decide) (by rfl) (pa_cons (pe_meth0 (pv 0) C.cl h_arrows.mt h_arrows.F (hr.mono (by decide)) h_arrows.b .nil pass0) (pa_cons (pv 1) pa_nil))) (pa_cons (pe_meth0 (pv 0) C.cl h_goals.mt h_goals.F (hr.mono (by decide)) h_goals.b .nil pass0) pa_nil)))))), ?_⟩
    have ma := m.at_
    obtain ⟨dx, hp⟩ := ma.ob
    have hl := m.pr.len
    refine ⟨_, rfl, p, dx, _, rfl, hp, mapF_many _ _ _, p, n, a, pvs, c, gs, rfl, ma, ?_⟩
    refine ⟨_, rfl, p, dx, _, rfl, hp, mapF_arrows _ _ _, p, n, a, pvs, c, gs, rfl, ma, _, rfl, ?_⟩
    refine ⟨a, b, pvs, ls, rfl, ma.ar, hB, fun z hz => by rw [hl]; exact hls z hz, by have := m.el; omega, fun d H1 s1 nd hd => ?_⟩
    have m1 := m.same s1
    obtain ⟨dx1, hp1⟩ := m1.at_.ob
    refine ⟨_, rfl, p, dx1, _, rfl, hp1, mapF_goals _ _ _, p, n, a, pvs, c, gs, rfl, m1.at_, ?_⟩
    refine ⟨n, d, c, leftV pvs ls, left es ls, gs, rfl, .inl (sql hd), (m1.pr).left ls, m1.at_.go, left_ok m.ok, m.gl, m.n0, m.n1, Nat.le_trans leftV_len m.el, m.gn, fun H' ok s' hok => q H' ok (s1.trans s') hok⟩

/-- a tuple of two lots of numbers -/
structure StdAt (K : PySem.W.Frag) (H : Hp) (t x y : Addr) (rs ls : List Nat) : Prop where
  t : SqT K H t [.ref x, .ref y]
  x : SqT K H x (rs.map nV)
  y : SqT K H y (ls.map nV)
theorem StdAt.same {K : PySem.W.Frag} {H H' : Hp} {t x y : Addr} {rs ls : List Nat} (h : StdAt K H t x y rs ls) (s : Same H H') : StdAt K H' t x y rs ls := ⟨Same.sqt s h.t, Same.sqt s h.x, Same.sqt s h.y⟩
def PairT (H : Hp) (v : V) (e : Nat × Nat) : Prop := ∃ t, v = .ref t ∧ H t = some (.tup [nV e.1, nV e.2])
theorem PairT.at_ {K : PySem.W.Frag} {H : Hp} {v : V} {e : Nat × Nat} (h : PairT H v e) : PairAt K H v e := h.elim fun t ⟨a, b⟩ => ⟨t, a, sqt b⟩
/-- what a place of a comprehension over pairs gives -/
def RelG (G : Nat × Nat → Option (Nat × Nat)) (es : Es) (i : Nat) (H : Hp) (o : Option V) : Prop :=
  ∃ e, es[i]? = some e ∧ ((∃ e' v, G e = some e' ∧ o = some v ∧ PairT H v e') ∨ (G e = none ∧ o = none))
theorem RelG.stay {G : Nat × Nat → Option (Nat × Nat)} {es : Es} {D : Addr} (i : Nat) (o : Option V) (H H' : Hp) (acc : List V) (hD : H D = some (.lst acc)) (h : RelG G es i H o)
    (k : ∀ b u, b ≠ D → H b = some u → H' b = some u) : RelG G es i H' o := by
  obtain ⟨e, he, h⟩ := h
  refine ⟨e, he, ?_⟩
  rcases h with ⟨e', v, h1, h2, t, rfl, ht⟩ | h
  · exact .inl ⟨e', _, h1, h2, t, rfl, k _ _ (ne_of ht hD (by intro z; cases z)) ht⟩
  · exact .inr h
theorem prs_rel {K : PySem.W.Frag} {H : Hp} {G : Nat × Nat → Option (Nat × Nat)} : ∀ {es : Es} {os : List (Option V)}, os.length = es.length → (∀ i o, os[i]? = some o → RelG G es i H o) → Prs K H (os.filterMap id) (es.filterMap G)
  | [], [], _, _ => ⟨rfl, fun i v e h _ => by simp at h⟩
  | e :: es, o :: os, hl, h => by
    have ih := prs_rel (K := K) (es := es) (os := os) (by simpa using hl) fun i o' hi => by
      obtain ⟨e', h1, h2⟩ := h (i + 1) o' (by simpa using hi)
      exact ⟨e', by simpa using h1, h2⟩
    obtain ⟨e0, h0, h1⟩ := h 0 o rfl
    cases (show some e = some e0 from h0)
    rcases h1 with ⟨e', v, h1, rfl, hv⟩ | ⟨h1, rfl⟩
    · rw [List.filterMap_cons_some h1, List.filterMap_cons_some (f := id) (b := v) rfl]
      refine ⟨by rw [List.length_cons, List.length_cons, ih.len], fun i x y a b => ?_⟩
      cases i with
      | zero =>
        cases a
        cases b
        exact hv.at_
      | succ i => exact ih.at_ i x y a b
    · rw [List.filterMap_cons_none h1, List.filterMap_cons_none (f := id) rfl]
      exact ih
  | [], _ :: _, hl, _ => by cases hl
  | _ :: _, [], hl, _ => by cases hl
/-- the edges between the places that are reached, without the rotten ones -/
def innG (rs : List Nat) (e : Nat × Nat) : Option (Nat × Nat) := if e.1 ∈ rs ∧ e.2 ∈ rs then some e else none
abbrev inner (es : Es) (rs ls : List Nat) : Es := (left es ls).filterMap (innG rs)
theorem fmG_ok {G : Nat × Nat → Option (Nat × Nat)} {es : Es} {Pq : Nat × Nat → Prop} (hG : ∀ e e', G e = some e' → Pq e → Pq e') (h : ∀ e ∈ es, Pq e) : ∀ e ∈ es.filterMap G, Pq e := fun e' he => by
  obtain ⟨e, h1, h2⟩ := List.mem_filterMap.mp he
  exact hG e e' h2 (h e h1)
theorem inn_ok {rs : List Nat} {e e' : Nat × Nat} {Pq : Nat × Nat → Prop} (h : innG rs e = some e') (p : Pq e) : Pq e' := by
  unfold innG at h
  split at h
  · cases h
    exact p
  · cases h
/-- a standing of the map -/
structure StdOk (n : Nat) (es : Es) (gs rs ls : List Nat) : Prop where
  rp : rs.Pairwise (· < ·)
  lp : ls.Pairwise (· < ·)
  rn : ∀ r ∈ rs, r < n
  ln : ∀ l ∈ ls, l < es.length
  r0 : 0 ∈ rs
  tl : ∀ l ∈ ls, ∀ e, es[l]? = some e → e.1 ∈ rs
  hold : ∀ r ∈ rs, Rch (inner es rs ls) [0] r
  opn : ∀ g ∈ gs, Rch (left es ls) [0] g
theorem kn_nats {K : PySem.W.Frag} {H : Hp} {gs : List Nat} : ∀ x ∈ gs.map nV, ∃ s, Kn K H x s := fun x hx => by
  obtain ⟨z, _, rfl⟩ := List.mem_map.mp hx
  exact ⟨"int", kn_of_int⟩

abbrev s_holds_together : Stmt := topS 59
abbrev sl_holds_together : List Str := ["chart", "reached", "rotten", "inside", "left", "pairs", "tail", "head"]
theorem sc_holds_together : FnScope ["chart", "reached", "rotten", "inside", "left", "pairs", "tail", "head"] ["chart", "reached", "rotten"] (defScope s_holds_together) := ⟨rfl, rfl, rfl, by decide +kernel, rfl, by decide +kernel, by decide +kernel⟩
def spHolds (K : PySem.W.Frag) (C : Addr) : Sp := fun vs H Q _ => ∃ (p : Addr) (n : Nat) (a : Addr) (pvs : List V) (es : Es) (c : Addr) (gs : List Nat) (x y : Addr) (rs ls : List Nat), vs = [.ref p, .ref x, .ref y] ∧ MapOk K C H p n a pvs es c gs ∧
  SqT K H x (rs.map nV) ∧ (∀ z ∈ rs, z < n) ∧ rs.length ≤ 1000 ∧ SqT K H y (ls.map nV) ∧ (∀ z ∈ ls, z < es.length) ∧
  ∀ H' (ok : Bool), Same H H' → (ok = true ↔ ∀ r ∈ rs, Rch (inner es rs ls) [0] r) → Q (.bl ok) H'
theorem ok_holds_together {CMap : Addr} (C : MapC K mg CMap) (h_marks : Has P w K mg base "marks" 1 ["many", "lot"] (spMarks K)) (h_leads_to_all : Has P w K mg base "leads_to_all" 2 ["many", "pairs", "places"] (spLeads K))
    (h_pairs_left : Has P w K mg base "pairs_left" 2 ["arrows", "rotten"] (spPairsLeft K)) (h_many : HasM P w K mg base CMap "many" 1 ["self"] (spMany K CMap)) (h_arrows : HasM P w K mg base CMap "arrows" 1 ["self"] (spArrows K CMap))
    (D0 : Df K mg "holds_together" s_holds_together ["chart", "reached", "rotten"]) : Has P w K mg base "holds_together" 3 ["chart", "reached", "rotten"] (spHolds K CMap) := by
  refine D0.has fun f fd F => F.ok sc_holds_together (fun vs H Q E h => ?_) (fun cdv A outer s H vs Q E hr h => ?_)
  · obtain ⟨p, n, a, pvs, es, c, gs, x, y, rs, ls, rfl, _⟩ := h
    rfl
  · obtain ⟨p, n, a, pvs, es, c, gs, x, y, rs, ls, rfl, m, hX, hrs, hrl, hY, hls, q⟩ := h
    refine ⟨_, (pss_cons (ps_set (i := 3) sc_holds_together.nd rfl (.inr rfl) (pcall h_marks hr (by decide) (by rfl) (pa_cons (pe_meth0 (pv 0) C.cl h_many.mt h_many.F (hr.mono (by decide)) h_many.b .nil pass0) (pa_cons (pv 1) pa_nil))))
  (pss_cons (ps_set (i := 4) sc_holds_together.nd rfl (.inl rfl) (pcall h_pairs_left hr (by decide) (by rfl) (pa_cons (pe_meth0 (pv 0) C.cl h_arrows.mt h_arrows.F (hr.mono (by decide)) h_arrows.b .nil pass0) (pa_cons (pv 2) pa_nil))))
  (pss_cons (ps_setLc (i := 5) (own := [("tail", 6), ("head", 7)]) (g := gTup K 2 (gCons (gName 6) (gCons (gName 7) gNil))) rfl sc_holds_together.nd rfl rfl (sw_true rfl rfl rfl (by decide +kernel)) (k_pil (K := K) rfl (pv 4)) (blkOk_by (N := sl_holds_together) (sc := defScope s_holds_together) (by decide +kernel)) (fun _ _ _ _ _ => (pg_tup rfl (pgs_cons (pg_name (i := 6) sc_holds_together.nd rfl (.inl rfl)) (pgs_cons (pg_name (i := 7) sc_holds_together.nd rfl (.inl rfl)) pgs_nil)))) (fun _ _ _ _ _ => pts_one (PW.pt (pw_and (pt_val (pe_ix (k_ixl (K := K) rfl) (pv 3) (pv 6) (fun _ _ => rfl))) (pw_and1 (pt_val (pe_ix (k_ixl (K := K) rfl) (pv 3) (pv 7) (fun _ _ => rfl))))))) (fun _ _ _ _ _ => (pe_tup (pa_cons (pv 6) (pa_cons (pv 7) pa_nil)))))
  (pss_one (ps_ret (pcall h_leads_to_all hr (by decide) (by rfl) (pa_cons (pe_meth0 (pv 0) C.cl h_many.mt h_many.F (hr.mono (by decide)) h_many.b .nil pass0) (pa_cons (pv 5) (pa_cons (pv 1) pa_nil))))))))), ?_⟩
    obtain ⟨dx, hp⟩ := m.at_.ob
    have hl := m.pr.len
    -- inside
    refine ⟨_, rfl, p, dx, _, rfl, hp, mapF_many _ _ _, p, n, a, pvs, c, gs, rfl, m.at_, _, rfl, n, x, rs, rfl, hX, hrs, by have := m.n1; omega, fun d H1 s1 nd hd => ?_⟩
    have m1 := m.same s1
    obtain ⟨dx1, hp1⟩ := m1.at_.ob
    -- left
    refine ⟨_, rfl, p, dx1, _, rfl, hp1, mapF_arrows _ _ _, p, n, a, pvs, c, gs, rfl, m1.at_, _, rfl, a, y, pvs, ls, rfl, m1.at_.ar, Same.sqt s1 hY, fun z hz => by rw [hl]; exact hls z hz, by have := m.el; omega, fun lf H2 s2 nlf hlf => ?_⟩
    have m2 := m1.same s2
    have p2 := m2.pr.left ls
    have hd2 := s2 _ _ hd
    -- pairs
    refine ⟨_, rfl, lf, rfl, ⟨_, sql hlf⟩, fun D nD => ?_⟩
    refine lc_rel walk_list calm_at (RelG (innG rs) (left es ls)) RelG.stay (by have := leftV_len (xs := pvs) (ls := ls); have := m.el; omega) nD (fun H3 s3 => sql (s3 _ _ hlf)) ?_ fun H3 os s3 hol hos h3 => ?_
    · rintro i v H3 H4 hi s3 ⟨rfl, hv⟩ Kt kt
      obtain ⟨e, hei, t, rfl, ht⟩ := p2.get hv
      obtain ⟨e1, e2⟩ := e
      have hok := left_ok m.ok _ (List.mem_of_getElem? hei)
      have hd3 := s3 _ _ hd2
      refine ⟨t, _, rfl, Same.sqt s3 ht, rfl, _, _, rfl, _, _, rfl, rfl, rfl, ?_⟩
      refine ⟨_, rfl, _, rfl, d, _, (e1 : Int), _, rfl, rfl, sql hd3, atI_nat (mks_get hok.1), _, rfl, ?_⟩
      by_cases h1 : e1 ∈ rs
      · rw [decide_eq_true h1]
        refine iteT ⟨_, rfl, _, rfl, d, _, (e2 : Int), _, rfl, rfl, sql hd3, atI_nat (mks_get hok.2), _, rfl, ?_⟩
        by_cases h2 : e2 ∈ rs
        · rw [decide_eq_true h2]
          refine iteT ⟨_, rfl, _, rfl, by show 2 ≤ sizeLine; decide, fun t2 nt2 => kt _ _ (same_new (Same.refl _) nt2) ⟨(e1, e2), hei, .inl ⟨(e1, e2), _, by unfold innG; rw [if_pos ⟨h1, h2⟩], rfl, t2, rfl, upd_same⟩⟩⟩
        · rw [decide_eq_false h2]
          refine iteF (kt _ _ (Same.refl _) ⟨(e1, e2), hei, .inr ⟨by unfold innG; rw [if_neg fun z => h2 z.2], rfl⟩⟩)
      · rw [decide_eq_false h1]
        refine iteF ?_
        refine iteF (kt _ _ (Same.refl _) ⟨(e1, e2), hei, .inr ⟨by unfold innG; rw [if_neg fun z => h1 z.1], rfl⟩⟩)
    · have m3 := m2.same s3
      obtain ⟨dx3, hp3⟩ := m3.at_.ob
      have p3 := prs_rel (K := K) (hol.trans p2.len) hos
      refine ⟨_, rfl, p, dx3, _, rfl, hp3, mapF_many _ _ _, p, n, a, pvs, c, gs, rfl, m3.at_, _, rfl, _, rfl, ?_⟩
      have sm : Same H H3 := (s1.trans s2).trans s3
      refine ⟨n, D, x, _, _, rs, rfl, .inl (sql h3), p3, Same.sqt sm hX, fmG_ok (fun e e' => inn_ok (Pq := fun e => e.1 < n ∧ e.2 < n)) (left_ok m.ok), hrs, m.n0, m.n1, ?_, hrl, fun H' ok s' hok => q H' ok (sm.trans s') hok⟩
      exact Nat.le_trans (List.length_filterMap_le _ _) (Nat.le_trans leftV_len m.el)

/-- the edges between places that are not reached -/
def unrG (rs : List Nat) (e : Nat × Nat) : Option (Nat × Nat) := if e.1 ∉ rs ∧ e.2 ∉ rs then some e else none
abbrev unr (es : Es) (rs ls : List Nat) : Es := (left es ls).filterMap (unrG rs)
theorem unr_ok {rs : List Nat} {e e' : Nat × Nat} {Pq : Nat × Nat → Prop} (h : unrG rs e = some e') (p : Pq e) : Pq e' := by
  unfold unrG at h
  split at h
  · cases h
    exact p
  · cases h
/-- edges turned about -/
def swp (e : Nat × Nat) : Nat × Nat := (e.2, e.1)
abbrev backE (es : Es) (rs ls : List Nat) : Es := (unr es rs ls).filterMap fun e => some (swp e)
abbrev openG (gs rs : List Nat) : List Nat := gs.filterMap fun g => if g ∈ rs then none else some g
theorem mem_openG {gs rs : List Nat} {g : Nat} : g ∈ openG gs rs ↔ g ∈ gs ∧ g ∉ rs := by
  unfold openG
  rw [List.mem_filterMap]
  constructor
  · rintro ⟨z, hz, h⟩
    by_cases hm : z ∈ rs
    · rw [if_pos hm] at h
      cases h
    · rw [if_neg hm] at h
      cases h
      exact ⟨hz, hm⟩
  · rintro ⟨h1, h2⟩
    exact ⟨g, h1, if_neg h2⟩

abbrev s__unreached_pairs : Stmt := topS 60
abbrev sl__unreached_pairs : List Str := ["chart", "standing", "reached", "rotten", "inside", "left", "tail", "head"]
theorem sc__unreached_pairs : FnScope ["chart", "standing", "reached", "rotten", "inside", "left", "tail", "head"] ["chart", "standing"] (defScope s__unreached_pairs) := ⟨rfl, rfl, rfl, by decide +kernel, rfl, by decide +kernel, by decide +kernel⟩
def spUnr (K : PySem.W.Frag) (C : Addr) : Sp := fun vs H Q _ => ∃ (p : Addr) (n : Nat) (a : Addr) (pvs : List V) (es : Es) (c : Addr) (gs : List Nat) (t x y : Addr) (rs ls : List Nat), vs = [.ref p, .ref t] ∧ MapOk K C H p n a pvs es c gs ∧
  StdAt K H t x y rs ls ∧ (∀ z ∈ rs, z < n) ∧ (∀ z ∈ ls, z < es.length) ∧
  ∀ D H' xs, Same H H' → H D = none → H' D = some (.lst xs) → Prs K H' xs (unr es rs ls) → Q (.ref D) H'
theorem ok__unreached_pairs {CMap : Addr} (C : MapC K mg CMap) (h_marks : Has P w K mg base "marks" 1 ["many", "lot"] (spMarks K))
    (h_pairs_left : Has P w K mg base "pairs_left" 2 ["arrows", "rotten"] (spPairsLeft K)) (h_many : HasM P w K mg base CMap "many" 1 ["self"] (spMany K CMap)) (h_arrows : HasM P w K mg base CMap "arrows" 1 ["self"] (spArrows K CMap))
    (D0 : Df K mg "_unreached_pairs" s__unreached_pairs ["chart", "standing"]) : Has P w K mg base "_unreached_pairs" 3 ["chart", "standing"] (spUnr K CMap) := by
  refine D0.has fun f fd F => F.ok sc__unreached_pairs (fun vs H Q E h => ?_) (fun cdv A outer s H vs Q E hr h => ?_)
  · obtain ⟨p, n, a, pvs, es, c, gs, t, x, y, rs, ls, rfl, _⟩ := h
    rfl
  · obtain ⟨p, n, a, pvs, es, c, gs, t, x, y, rs, ls, rfl, m, S, hrs, hls, q⟩ := h
    refine ⟨_, (pss_cons (ps_asg (pv 1) (pg_tup rfl (pgs_cons (pg_name (i := 2) sc__unreached_pairs.nd rfl (.inl rfl)) (pgs_cons (pg_name (i := 3) sc__unreached_pairs.nd rfl (.inl rfl)) pgs_nil))))
  (pss_cons (ps_set (i := 4) sc__unreached_pairs.nd rfl (.inr rfl) (pcall h_marks hr (by decide) (by rfl) (pa_cons (pe_meth0 (pv 0) C.cl h_many.mt h_many.F (hr.mono (by decide)) h_many.b .nil pass0) (pa_cons (pv 2) pa_nil))))
  (pss_cons (ps_set (i := 5) sc__unreached_pairs.nd rfl (.inl rfl) (pcall h_pairs_left hr (by decide) (by rfl) (pa_cons (pe_meth0 (pv 0) C.cl h_arrows.mt h_arrows.F (hr.mono (by decide)) h_arrows.b .nil pass0) (pa_cons (pv 3) pa_nil))))
  (pss_one (ps_ret (pe_lc (own := [("tail", 6), ("head", 7)]) (g := gTup K 2 (gCons (gName 6) (gCons (gName 7) gNil))) rfl sc__unreached_pairs.nd (k_pil (K := K) rfl (pv 5)) (blkOk_by (N := sl__unreached_pairs) (sc := defScope s__unreached_pairs) (by decide +kernel)) (fun _ _ _ _ _ => (pg_tup rfl (pgs_cons (pg_name (i := 6) sc__unreached_pairs.nd rfl (.inl rfl)) (pgs_cons (pg_name (i := 7) sc__unreached_pairs.nd rfl (.inl rfl)) pgs_nil)))) (fun _ _ _ _ _ => pts_one (PW.pt (pw_and (pt_not (pt_val (pe_ix (k_ixl (K := K) rfl) (pv 4) (pv 6) (fun _ _ => rfl)))) (pw_and1 (pt_not (pt_val (pe_ix (k_ixl (K := K) rfl) (pv 4) (pv 7) (fun _ _ => rfl)))))))) (fun _ _ _ _ _ => (pe_tup (pa_cons (pv 6) (pa_cons (pv 7) pa_nil)))))))))), ?_⟩
    obtain ⟨dx, hp⟩ := m.at_.ob
    have hl := m.pr.len
    refine ⟨_, rfl, t, _, rfl, S.t, rfl, _, _, rfl, _, _, rfl, rfl, ?_⟩
    refine ⟨_, rfl, p, dx, _, rfl, hp, mapF_many _ _ _, p, n, a, pvs, c, gs, rfl, m.at_, _, rfl, n, x, rs, rfl, S.x, hrs, by have := m.n1; omega, fun d H1 s1 nd hd => ?_⟩
    have m1 := m.same s1
    obtain ⟨dx1, hp1⟩ := m1.at_.ob
    refine ⟨_, rfl, p, dx1, _, rfl, hp1, mapF_arrows _ _ _, p, n, a, pvs, c, gs, rfl, m1.at_, _, rfl, a, y, pvs, ls, rfl, m1.at_.ar, Same.sqt s1 S.y, fun z hz => by rw [hl]; exact hls z hz, by have := m.el; omega, fun lf H2 s2 nlf hlf => ?_⟩
    have m2 := m1.same s2
    have p2 := m2.pr.left ls
    have hd2 := s2 _ _ hd
    refine ⟨_, rfl, lf, rfl, ⟨_, sql hlf⟩, fun D nD => ?_⟩
    refine lc_rel walk_list calm_at (RelG (unrG rs) (left es ls)) RelG.stay (by have := leftV_len (xs := pvs) (ls := ls); have := m.el; omega) nD (fun H3 s3 => sql (s3 _ _ hlf)) ?_ fun H3 os s3 hol hos h3 => ?_
    · rintro i v H3 H4 hi s3 ⟨rfl, hv⟩ Kt kt
      obtain ⟨e, hei, t, rfl, ht⟩ := p2.get hv
      obtain ⟨e1, e2⟩ := e
      have hok := left_ok m.ok _ (List.mem_of_getElem? hei)
      have hd3 := s3 _ _ hd2
      refine ⟨t, _, rfl, Same.sqt s3 ht, rfl, _, _, rfl, _, _, rfl, rfl, rfl, ?_⟩
      refine ⟨_, rfl, _, rfl, d, _, (e1 : Int), _, rfl, rfl, sql hd3, atI_nat (mks_get hok.1), _, rfl, ?_⟩
      by_cases h1 : e1 ∈ rs
      · rw [decide_eq_true h1]
        refine iteF ?_
        refine iteF (kt _ _ (Same.refl _) ⟨(e1, e2), hei, .inr ⟨by unfold unrG; rw [if_neg fun z => z.1 h1], rfl⟩⟩)
      · rw [decide_eq_false h1]
        refine iteT ⟨_, rfl, _, rfl, d, _, (e2 : Int), _, rfl, rfl, sql hd3, atI_nat (mks_get hok.2), _, rfl, ?_⟩
        by_cases h2 : e2 ∈ rs
        · rw [decide_eq_true h2]
          refine iteF (kt _ _ (Same.refl _) ⟨(e1, e2), hei, .inr ⟨by unfold unrG; rw [if_neg fun z => z.2 h2], rfl⟩⟩)
        · rw [decide_eq_false h2]
          refine iteT ⟨_, rfl, _, rfl, by show 2 ≤ sizeLine; decide, fun t2 nt2 => kt _ _ (same_new (Same.refl _) nt2) ⟨(e1, e2), hei, .inl ⟨(e1, e2), _, by unfold unrG; rw [if_pos ⟨h1, h2⟩], rfl, t2, rfl, upd_same⟩⟩⟩
    · have sm : Same H H3 := (s1.trans s2).trans s3
      exact q D H3 _ sm (Same.free (s1.trans s2) nD) h3 (prs_rel (K := K) (hol.trans p2.len) hos)

abbrev s_is_standing : Stmt := topS 38
abbrev sl_is_standing : List Str := ["chart", "thing", "reached", "rotten", "inside", "arrow"]
theorem sc_is_standing : FnScope ["chart", "thing", "reached", "rotten", "inside", "arrow"] ["chart", "thing"] (defScope s_is_standing) := ⟨rfl, rfl, rfl, by decide +kernel, rfl, by decide +kernel, by decide +kernel⟩
/-- is_standing, where it is one -/
def spIsStd (K : PySem.W.Frag) (C : Addr) : Sp := fun vs H Q _ => ∃ (p : Addr) (n : Nat) (a : Addr) (pvs : List V) (es : Es) (c : Addr) (gs : List Nat) (t x y : Addr) (rs ls : List Nat), vs = [.ref p, .ref t] ∧ MapOk K C H p n a pvs es c gs ∧
  StdAt K H t x y rs ls ∧ StdOk n es gs rs ls ∧ ∀ H', Same H H' → Q (.bl true) H'
theorem ok_is_standing {CMap : Addr} (B : Bt mg) (C : MapC K mg CMap) (h_is_lot : Has P w K mg base "is_lot" 3 ["thing", "many"] (spIsLot K)) (h_marks : Has P w K mg base "marks" 1 ["many", "lot"] (spMarks K))
    (h_holds_together : Has P w K mg base "holds_together" 3 ["chart", "reached", "rotten"] (spHolds K CMap)) (h_goals_are_open : Has P w K mg base "goals_are_open" 3 ["chart", "rotten"] (spOpen K CMap))
    (h_many : HasM P w K mg base CMap "many" 1 ["self"] (spMany K CMap)) (h_arrows : HasM P w K mg base CMap "arrows" 1 ["self"] (spArrows K CMap))
    (D0 : Df K mg "is_standing" s_is_standing ["chart", "thing"]) : Has P w K mg base "is_standing" 4 ["chart", "thing"] (spIsStd K CMap) := by
  refine D0.has fun f fd F => F.ok sc_is_standing (fun vs H Q E h => ?_) (fun cdv A outer s H vs Q E hr h => ?_)
  · obtain ⟨p, n, a, pvs, es, c, gs, t, x, y, rs, ls, rfl, _⟩ := h
    rfl
  · obtain ⟨p, n, a, pvs, es, c, gs, t, x, y, rs, ls, rfl, m, S, o, q⟩ := h
    refine ⟨_, (pss_cons (ps_if (PW.pt (pw_or (pt_not (pt_val (pe_callB (k_isi (K := K) rfl) (by rfl) B.isinstance bo_isinstance (pa_cons (pv 1) (pa_cons (pe_bltn (v := .ty "tuple") (by rfl) B.tuple bo_tuple rfl) pa_nil))))) (pw_or1 (pt_cmpR op_ne (pe_callB (k_len (K := K) rfl) (by rfl) B.len bo_len (pa_cons (pv 1) pa_nil)) pe_int (nomark _)))))
    (pss_one (ps_ret pe_bl))
    pss_nil)
  (pss_cons (ps_asg (pv 1) (pg_tup rfl (pgs_cons (pg_name (i := 2) sc_is_standing.nd rfl (.inl rfl)) (pgs_cons (pg_name (i := 3) sc_is_standing.nd rfl (.inl rfl)) pgs_nil))))
  (pss_cons (ps_if (PW.pt (pw_or (pt_not (pt_val (pcall h_is_lot hr (by decide) (by rfl) (pa_cons (pv 2) (pa_cons (pe_meth0 (pv 0) C.cl h_many.mt h_many.F (hr.mono (by decide)) h_many.b .nil pass0) pa_nil))))) (pw_or1 (pt_not (pt_val (pcall h_is_lot hr (by decide) (by rfl) (pa_cons (pv 3) (pa_cons (pe_callB (k_len (K := K) rfl) (by rfl) B.len bo_len (pa_cons (pe_meth0 (pv 0) C.cl h_arrows.mt h_arrows.F (hr.mono (by decide)) h_arrows.b .nil pass0) pa_nil)) pa_nil))))))))
    (pss_one (ps_ret pe_bl))
    pss_nil)
  (pss_cons (ps_set (i := 4) sc_is_standing.nd rfl (.inr rfl) (pcall h_marks hr (by decide) (by rfl) (pa_cons (pe_meth0 (pv 0) C.cl h_many.mt h_many.F (hr.mono (by decide)) h_many.b .nil pass0) (pa_cons (pv 2) pa_nil))))
  (pss_cons (ps_if (PW.pt (pw_or (pt_not (pt_val (pe_ix (k_ixl (K := K) rfl) (pv 4) pe_int (fun _ _ => rfl)))) (pw_or1 (pt_not (pt_val (pe_callB (k_all (K := K) rfl rfl) (by rfl) B.all bo_all (pa_cons (pe_lc (own := [("arrow", 5)]) (g := gName 5) rfl sc_is_standing.nd (k_pit (K := K) rfl (pv 3)) (blkOk_by (N := sl_is_standing) (sc := defScope s_is_standing) (by decide +kernel)) (fun _ _ _ _ _ => (pg_name (i := 5) sc_is_standing.nd rfl (.inl rfl))) (fun _ _ _ _ _ => pts_nil) (fun _ _ _ _ _ => (pe_ix (k_ixl (K := K) rfl) (pv 4) (pe_ix (k_ixt (K := K) rfl) (pe_ix (k_ixt (K := K) rfl) (pe_meth0 (pv 0) C.cl h_arrows.mt h_arrows.F (hr.mono (by decide)) h_arrows.b .nil pass0) (pv 5) (fun _ _ => rfl)) pe_int (fun _ _ => rfl)) (fun _ _ => rfl)))) pa_nil)))))))
    (pss_one (ps_ret pe_bl))
    pss_nil)
  (pss_one (ps_ret (pe_and (pcall h_holds_together hr (by decide) (by rfl) (pa_cons (pv 0) (pa_cons (pv 2) (pa_cons (pv 3) pa_nil)))) (pe_one (pcall h_goals_are_open hr (by decide) (by rfl) (pa_cons (pv 0) (pa_cons (pv 3) pa_nil)))))))))))), ?_⟩
    obtain ⟨dx, hp⟩ := m.at_.ob
    have hl := m.pr.len
    -- a tuple of two
    refine ⟨_, rfl, _, .ty "tuple", _, _, _, rfl, .ty "tuple", (kn_of_tup S.t).ty, kit_tuple (kn_of_tup S.t).mem, _, rfl, iteF ?_⟩
    refine ⟨_, rfl, t, _, rfl, .inr S.t, rfl, _, rfl, iteF ?_⟩
    refine ⟨_, rfl, t, _, rfl, S.t, rfl, _, _, rfl, _, _, rfl, rfl, ?_⟩
    -- lots
    refine ⟨_, rfl, _, rfl, p, dx, _, rfl, hp, mapF_many _ _ _, p, n, a, pvs, c, gs, rfl, m.at_, .ref x, (n : Int), rfl, .inl ⟨x, _, rfl, S.x, kn_nats, _, rfl, ?_⟩⟩
    rw [lot_of (fun z hz => ⟨by have := o.rn z hz; omega, by omega⟩) o.rp]
    refine iteF ?_
    refine ⟨_, rfl, _, rfl, p, dx, _, rfl, hp, mapF_arrows _ _ _, p, n, a, pvs, c, gs, rfl, m.at_, a, pvs, rfl, .inr m.at_.ar, .ref y, (pvs.length : Int), rfl, .inl ⟨y, _, rfl, S.y, kn_nats, _, rfl, ?_⟩⟩
    rw [lot_of (fun z hz => ⟨by have := o.ln z hz; omega, by omega⟩) o.lp]
    refine iteF ?_
    -- inside
    refine ⟨_, rfl, p, dx, _, rfl, hp, mapF_many _ _ _, p, n, a, pvs, c, gs, rfl, m.at_, _, rfl, n, x, rs, rfl, S.x, o.rn, by have := m.n1; omega, fun d H1 s1 nd hd => ?_⟩
    have m1 := m.same s1
    have S1 := S.same s1
    refine ⟨_, rfl, d, _, (0 : Nat), _, rfl, rfl, sql hd, atI_nat (mks_get m.n0), _, rfl, ?_⟩
    rw [decide_eq_true o.r0]
    refine iteF ?_
    refine ⟨_, rfl, y, rfl, ⟨_, S1.y⟩, fun D nD => ?_⟩
    have hll : ls.length ≤ es.length - 0 := pw_len o.lp fun z hz => ⟨Nat.zero_le _, o.ln z hz⟩
    refine lc_val walk_tup calm_at (fun i => (ls[i]?).bind fun _ => some (V.bl true)) (by rw [List.length_map]; have := m.el; omega) nD (fun H3 s3 => Same.sqt s3 S1.y) ?_ fun H3 s3 h3 => ?_
    · rintro i v H3 H4 hi s3 ⟨rfl, hv⟩ Kt kt
      obtain ⟨l, hli, rfl⟩ := getmap hv
      have m3 := m1.same s3
      obtain ⟨dx3, hp3⟩ := m3.at_.ob
      have hln := o.ln l (List.mem_of_getElem? hli)
      have hle : es[l]? = some es[l] := List.getElem?_eq_getElem hln
      have hlv : pvs[l]? = some pvs[l] := List.getElem?_eq_getElem (by omega)
      obtain ⟨tp, htp, ht⟩ := m3.pr.at_ l _ _ hlv hle
      have hin := o.tl l (List.mem_of_getElem? hli) _ hle
      have h1n := (m.ok _ (List.mem_of_getElem? hle)).1
      refine ⟨rfl, tyes ?_⟩
      refine iteT ?_
      refine ⟨_, rfl, _, rfl, p, dx3, _, rfl, hp3, mapF_arrows _ _ _, p, n, a, pvs, c, gs, rfl, m3.at_, _, rfl, a, pvs, (l : Int), _, rfl, rfl, m3.at_.ar, atI_nat hlv, tp, _, (0 : Nat), _, htp, rfl, ht, atI_nat rfl, d, _, (es[l].1 : Int), _, rfl, rfl, sql (s3 _ _ hd), atI_nat (mks_get h1n), ?_⟩
      have k0 := kt _ (Same.refl _)
      rw [hli] at k0
      rw [decide_eq_true hin]
      exact k0
    · rw [List.length_map, fm_range, fm_some] at h3
      refine ⟨D, ls.map fun _ => true, rfl, sql (by rw [h3, List.map_map]; rfl), _, rfl, ?_⟩
      have e1 : (ls.map fun _ => true).all id = true := by
        rw [List.all_eq_true]
        intro z hz
        obtain ⟨_, _, rfl⟩ := List.mem_map.mp hz
        rfl
      rw [e1]
      refine iteF ?_
      have s13 : Same H H3 := s1.trans s3
      have m3 := m.same s13
      have S3 := S.same s13
      refine ⟨_, rfl, _, rfl, _, rfl, p, n, a, pvs, es, c, gs, x, y, rs, ls, rfl, m3, S3.x, o.rn, ?_, S3.y, o.ln, fun H5 ok5 s5 hok5 => ?_⟩
      · have := pw_len o.rp (l := 0) fun z hz => ⟨Nat.zero_le _, o.rn z hz⟩
        have := m.n1
        omega
      refine ⟨_, rfl, ?_⟩
      rw [hok5.mpr o.hold]
      refine iteT ⟨_, rfl, _, rfl, p, n, a, pvs, es, c, gs, y, ls, rfl, m3.same s5, Same.sqt s5 S3.y, o.ln, fun H6 ok6 s6 hok6 => ?_⟩
      rw [hok6.mpr o.opn]
      exact q H6 ((s13.trans s5).trans s6)

abbrev s_check_standing : Stmt := topS 39
abbrev sl_check_standing : List Str := ["chart", "thing"]
theorem sc_check_standing : FnScope ["chart", "thing"] ["chart", "thing"] (defScope s_check_standing) := ⟨rfl, rfl, rfl, by decide +kernel, rfl, by decide +kernel, by decide +kernel⟩
def spCheck (K : PySem.W.Frag) (C : Addr) : Sp := fun vs H Q _ => ∃ (p : Addr) (n : Nat) (a : Addr) (pvs : List V) (es : Es) (c : Addr) (gs : List Nat) (t x y : Addr) (rs ls : List Nat), vs = [.ref p, .ref t] ∧ MapOk K C H p n a pvs es c gs ∧
  StdAt K H t x y rs ls ∧ StdOk n es gs rs ls ∧ ∀ H', Same H H' → Q .non H'
theorem ok_check_standing {CMap : Addr} (h_is_standing : Has P w K mg base "is_standing" 4 ["chart", "thing"] (spIsStd K CMap)) (D0 : Df K mg "check_standing" s_check_standing ["chart", "thing"]) : Has P w K mg base "check_standing" 5 ["chart", "thing"] (spCheck K CMap) := by
  refine D0.has fun f fd F => F.ok sc_check_standing (fun vs H Q E h => ?_) (fun cdv A outer s H vs Q E hr h => ?_)
  · obtain ⟨p, n, a, pvs, es, c, gs, t, x, y, rs, ls, rfl, _⟩ := h
    rfl
  · obtain ⟨p, n, a, pvs, es, c, gs, t, x, y, rs, ls, rfl, m, S, o, q⟩ := h
    refine ⟨_, (pss_one (ps_if (pt_not (pt_val (pcall h_is_standing hr (by decide) (by rfl) (pa_cons (pv 0) (pa_cons (pv 1) pa_nil)))))
    (pss_one ps_never)
    pss_nil)), ?_⟩
    refine ⟨_, rfl, _, rfl, p, n, a, pvs, es, c, gs, t, x, y, rs, ls, rfl, m, S, o, fun H' s' => ⟨_, rfl, ?_⟩⟩
    refine iteF ?_
    exact q H' s'

/-- a standing of a map, as it is handed in: the values, and that it is one -/
structure At (K : PySem.W.Frag) (C : Addr) (H : Hp) (p : Addr) (n : Nat) (a : Addr) (pvs : List V) (es : Es) (c : Addr) (gs : List Nat) (t x y : Addr) (rs ls : List Nat) : Prop where
  m : MapOk K C H p n a pvs es c gs
  S : StdAt K H t x y rs ls
  o : StdOk n es gs rs ls
theorem At.same {K : PySem.W.Frag} {C : Addr} {H H' : Hp} {p : Addr} {n : Nat} {a : Addr} {pvs : List V} {es : Es} {c : Addr} {gs : List Nat} {t x y : Addr} {rs ls : List Nat} (h : At K C H p n a pvs es c gs t x y rs ls) (s : Same H H') :
    At K C H' p n a pvs es c gs t x y rs ls := ⟨h.m.same s, h.S.same s, h.o⟩
theorem At.rl {K : PySem.W.Frag} {C : Addr} {H : Hp} {p : Addr} {n : Nat} {a : Addr} {pvs : List V} {es : Es} {c : Addr} {gs : List Nat} {t x y : Addr} {rs ls : List Nat} (h : At K C H p n a pvs es c gs t x y rs ls) : rs.length ≤ 1000 := by
  have := pw_len h.o.rp (l := 0) fun z hz => ⟨Nat.zero_le _, h.o.rn z hz⟩
  have := h.m.n1
  omega
theorem At.ll {K : PySem.W.Frag} {C : Addr} {H : Hp} {p : Addr} {n : Nat} {a : Addr} {pvs : List V} {es : Es} {c : Addr} {gs : List Nat} {t x y : Addr} {rs ls : List Nat} (h : At K C H p n a pvs es c gs t x y rs ls) : ls.length ≤ 1000 := by
  have := pw_len h.o.lp (l := 0) fun z hz => ⟨Nat.zero_le _, h.o.ln z hz⟩
  have := h.m.el
  omega
/-- promises of functions of a map and a standing: R of the answer and the heap -/
def spOf (K : PySem.W.Frag) (C : Addr) (R : Nat → Es → List Nat → List Nat → List Nat → Hp → V → Hp → Prop) : Sp := fun vs H Q _ =>
  ∃ (p : Addr) (n : Nat) (a : Addr) (pvs : List V) (es : Es) (c : Addr) (gs : List Nat) (t x y : Addr) (rs ls : List Nat), vs = [.ref p, .ref t] ∧ At K C H p n a pvs es c gs t x y rs ls ∧ ∀ v H', Same H H' → R n es gs rs ls H v H' → Q v H'
theorem range_pw (n : Nat) : (List.range n).Pairwise (· < ·) := List.pairwise_lt_range
theorem fm_pw {n : Nat} {F : Nat → Option Nat} (hF : ∀ i j, F i = some j → j = i) : ((List.range n).filterMap F).Pairwise (· < ·) := by
  refine List.Pairwise.filterMap F (fun a b hab x hx y hy => ?_) (range_pw n)
  rw [hF a x hx, hF b y hy]
  exact hab

abbrev s_done_at : Stmt := topS 41
abbrev sl_done_at : List Str := ["chart", "standing", "reached", "_", "inside", "goal"]
theorem sc_done_at : FnScope ["chart", "standing", "reached", "_", "inside", "goal"] ["chart", "standing"] (defScope s_done_at) := ⟨rfl, rfl, rfl, by decide +kernel, rfl, by decide +kernel, by decide +kernel⟩
def RDone : Nat → Es → List Nat → List Nat → List Nat → Hp → V → Hp → Prop := fun _ _ gs rs _ _ v _ => v = .bl (decide (∀ g ∈ gs, g ∈ rs))
theorem ok_done_at {CMap : Addr} (B : Bt mg) (C : MapC K mg CMap) (h_marks : Has P w K mg base "marks" 1 ["many", "lot"] (spMarks K)) 
    (h_many : HasM P w K mg base CMap "many" 1 ["self"] (spMany K CMap)) (h_goals : HasM P w K mg base CMap "goals" 1 ["self"] (spGoals K CMap))
    (D0 : Df K mg "done_at" s_done_at ["chart", "standing"]) : Has P w K mg base "done_at" 2 ["chart", "standing"] (spOf K CMap RDone) := by
  refine D0.has fun f fd F => F.ok sc_done_at (fun vs H Q E h => ?_) (fun cdv A outer s H vs Q E hr h => ?_)
  · obtain ⟨p, n, a, pvs, es, c, gs, t, x, y, rs, ls, rfl, _⟩ := h
    rfl
  · obtain ⟨p, n, a, pvs, es, c, gs, t, x, y, rs, ls, rfl, hh, q⟩ := h
    refine ⟨_, (pss_cons (ps_asg (pv 1) (pg_tup rfl (pgs_cons (pg_name (i := 2) sc_done_at.nd rfl (.inl rfl)) (pgs_cons (pg_name (i := 3) sc_done_at.nd rfl (.inl rfl)) pgs_nil))))
  (pss_cons (ps_set (i := 4) sc_done_at.nd rfl (.inr rfl) (pcall h_marks hr (by decide) (by rfl) (pa_cons (pe_meth0 (pv 0) C.cl h_many.mt h_many.F (hr.mono (by decide)) h_many.b .nil pass0) (pa_cons (pv 2) pa_nil))))
  (pss_one (ps_ret (pe_callB (k_all (K := K) rfl rfl) (by rfl) B.all bo_all (pa_cons (pe_lc (own := [("goal", 5)]) (g := gName 5) rfl sc_done_at.nd (k_pit (K := K) rfl (pe_meth0 (pv 0) C.cl h_goals.mt h_goals.F (hr.mono (by decide)) h_goals.b .nil pass0)) (blkOk_by (N := sl_done_at) (sc := defScope s_done_at) (by decide +kernel)) (fun _ _ _ _ _ => (pg_name (i := 5) sc_done_at.nd rfl (.inl rfl))) (fun _ _ _ _ _ => pts_nil) (fun _ _ _ _ _ => (pe_ix (k_ixl (K := K) rfl) (pv 4) (pv 5) (fun _ _ => rfl)))) pa_nil)))))), ?_⟩
    have s1 := Same.refl H
    have h1 := hh
    obtain ⟨dx, hp⟩ := h1.m.at_.ob
    refine ⟨_, rfl, t, _, rfl, h1.S.t, rfl, _, _, rfl, _, _, rfl, rfl, ?_⟩
    refine ⟨_, rfl, p, dx, _, rfl, hp, mapF_many _ _ _, p, n, a, pvs, c, gs, rfl, h1.m.at_, _, rfl, n, x, rs, rfl, h1.S.x, h1.o.rn, by have := h1.m.n1; omega, fun d H2 s2 nd hd => ?_⟩
    have h2 := h1.same s2
    obtain ⟨dx2, hp2⟩ := h2.m.at_.ob
    refine ⟨_, rfl, p, dx2, _, rfl, hp2, mapF_goals _ _ _, p, n, a, pvs, c, gs, rfl, h2.m.at_, c, rfl, ⟨_, h2.m.at_.go⟩, fun D nD => ?_⟩
    refine lc_val walk_tup calm_at (fun i => (gs[i]?).bind fun g => some (V.bl (decide (g ∈ rs)))) (by rw [List.length_map]; have := h2.m.gn; omega) nD (fun H3 s3 => Same.sqt s3 h2.m.at_.go) ?_ fun H3 s3 h3 => ?_
    · rintro i v H3 H4 hi s3 ⟨rfl, hv⟩ Kt kt
      obtain ⟨g, hgi, rfl⟩ := getmap hv
      have hgn := h2.m.gl g (List.mem_of_getElem? hgi)
      refine ⟨rfl, tyes ?_⟩
      refine iteT ?_
      refine ⟨_, rfl, _, rfl, d, _, (g : Int), _, rfl, rfl, sql (s3 _ _ hd), atI_nat (mks_get hgn), ?_⟩
      have k0 := kt _ (Same.refl _)
      rw [hgi] at k0
      exact k0
    · rw [List.length_map, fm_range, fm_some] at h3
      refine ⟨D, gs.map fun g => decide (g ∈ rs), rfl, sql (by rw [h3, List.map_map]; rfl), ?_⟩
      refine q _ H3 ((s1.trans s2).trans s3) ?_
      show V.bl _ = V.bl _
      congr 1
      rw [Bool.eq_iff_iff, List.all_eq_true, decide_eq_true_eq]
      constructor
      · intro h g hg
        exact of_decide_eq_true (h _ (List.mem_map.mpr ⟨g, hg, rfl⟩))
      · intro h z hz
        obtain ⟨g, hg, rfl⟩ := List.mem_map.mp hz
        exact decide_eq_true (h g hg)

abbrev s_is_done : Stmt := topS 40
abbrev sl_is_done : List Str := ["chart", "standing"]
theorem sc_is_done : FnScope ["chart", "standing"] ["chart", "standing"] (defScope s_is_done) := ⟨rfl, rfl, rfl, by decide +kernel, rfl, by decide +kernel, by decide +kernel⟩
theorem ok_is_done {CMap : Addr} (h_check_standing : Has P w K mg base "check_standing" 5 ["chart", "thing"] (spCheck K CMap)) (h_done_at : Has P w K mg base "done_at" 2 ["chart", "standing"] (spOf K CMap RDone))
    (D0 : Df K mg "is_done" s_is_done ["chart", "standing"]) : Has P w K mg base "is_done" 6 ["chart", "standing"] (spOf K CMap RDone) := by
  refine D0.has fun f fd F => F.ok sc_is_done (fun vs H Q E h => ?_) (fun cdv A outer s H vs Q E hr h => ?_)
  · obtain ⟨p, n, a, pvs, es, c, gs, t, x, y, rs, ls, rfl, _⟩ := h
    rfl
  · obtain ⟨p, n, a, pvs, es, c, gs, t, x, y, rs, ls, rfl, hh, q⟩ := h
    refine ⟨_, (pss_cons (ps_expr (pcall h_check_standing hr (by decide) (by rfl) (pa_cons (pv 0) (pa_cons (pv 1) pa_nil))))
  (pss_one (ps_ret (pcall h_done_at hr (by decide) (by rfl) (pa_cons (pv 0) (pa_cons (pv 1) pa_nil)))))), ?_⟩
    refine ⟨_, rfl, _, rfl, p, n, a, pvs, es, c, gs, t, x, y, rs, ls, rfl, hh.m, hh.S, hh.o, fun H1 s1 => ?_⟩
    exact ⟨_, rfl, _, rfl, p, n, a, pvs, es, c, gs, t, x, y, rs, ls, rfl, hh.same s1, fun v H2 s2 hv => q v H2 (s1.trans s2) (hv)⟩

abbrev s_steps_to_go : Stmt := topS 56
abbrev sl_steps_to_go : List Str := ["chart", "standing", "reached", "_", "inside", "turned", "goals", "tail", "head", "goal"]
theorem sc_steps_to_go : FnScope ["chart", "standing", "reached", "_", "inside", "turned", "goals", "tail", "head", "goal"] ["chart", "standing"] (defScope s_steps_to_go) := ⟨rfl, rfl, rfl, by decide +kernel, rfl, by decide +kernel, by decide +kernel⟩
def RGo : Nat → Es → List Nat → List Nat → List Nat → Hp → V → Hp → Prop := fun n es gs rs ls H v H' => ∃ D st, v = .ref D ∧ H D = none ∧ H' D = some (.lst (stV n st)) ∧
  ∀ u, u < n → (∀ d, st u = some d ↔ Dst (backE es rs ls) (openG gs rs) u d) ∧ (st u = none ↔ ¬ Rch (backE es rs ls) (openG gs rs) u)
theorem ok_steps_to_go {CMap : Addr} (C : MapC K mg CMap) (h_marks : Has P w K mg base "marks" 1 ["many", "lot"] (spMarks K)) (h_steps_from : Has P w K mg base "steps_from" 1 ["many", "pairs", "sources"] (spSteps K))
    (h_unreached_pairs : Has P w K mg base "_unreached_pairs" 3 ["chart", "standing"] (spUnr K CMap))
    (h_many : HasM P w K mg base CMap "many" 1 ["self"] (spMany K CMap)) (h_goals : HasM P w K mg base CMap "goals" 1 ["self"] (spGoals K CMap))
    (D0 : Df K mg "steps_to_go" s_steps_to_go ["chart", "standing"]) : Has P w K mg base "steps_to_go" 4 ["chart", "standing"] (spOf K CMap RGo) := by
  refine D0.has fun f fd F => F.ok sc_steps_to_go (fun vs H Q E h => ?_) (fun cdv A outer s H vs Q E hr h => ?_)
  · obtain ⟨p, n, a, pvs, es, c, gs, t, x, y, rs, ls, rfl, _⟩ := h
    rfl
  · obtain ⟨p, n, a, pvs, es, c, gs, t, x, y, rs, ls, rfl, h1, q⟩ := h
    refine ⟨_, (pss_cons (ps_asg (pv 1) (pg_tup rfl (pgs_cons (pg_name (i := 2) sc_steps_to_go.nd rfl (.inl rfl)) (pgs_cons (pg_name (i := 3) sc_steps_to_go.nd rfl (.inl rfl)) pgs_nil))))
  (pss_cons (ps_set (i := 4) sc_steps_to_go.nd rfl (.inr rfl) (pcall h_marks hr (by decide) (by rfl) (pa_cons (pe_meth0 (pv 0) C.cl h_many.mt h_many.F (hr.mono (by decide)) h_many.b .nil pass0) (pa_cons (pv 2) pa_nil))))
  (pss_cons (ps_setLc (i := 5) (own := [("tail", 7), ("head", 8)]) (g := gTup K 2 (gCons (gName 7) (gCons (gName 8) gNil))) rfl sc_steps_to_go.nd rfl rfl (sw_true rfl rfl rfl (by decide +kernel)) (k_pil (K := K) rfl (pcall h_unreached_pairs hr (by decide) (by rfl) (pa_cons (pv 0) (pa_cons (pv 1) pa_nil)))) (blkOk_by (N := sl_steps_to_go) (sc := defScope s_steps_to_go) (by decide +kernel)) (fun _ _ _ _ _ => (pg_tup rfl (pgs_cons (pg_name (i := 7) sc_steps_to_go.nd rfl (.inl rfl)) (pgs_cons (pg_name (i := 8) sc_steps_to_go.nd rfl (.inl rfl)) pgs_nil)))) (fun _ _ _ _ _ => pts_nil) (fun _ _ _ _ _ => (pe_tup (pa_cons (pv 8) (pa_cons (pv 7) pa_nil)))))
  (pss_cons (ps_setLc (i := 6) (own := [("goal", 9)]) (g := gName 9) rfl sc_steps_to_go.nd rfl rfl (sw_true rfl rfl rfl (by decide +kernel)) (k_pit (K := K) rfl (pe_meth0 (pv 0) C.cl h_goals.mt h_goals.F (hr.mono (by decide)) h_goals.b .nil pass0)) (blkOk_by (N := sl_steps_to_go) (sc := defScope s_steps_to_go) (by decide +kernel)) (fun _ _ _ _ _ => (pg_name (i := 9) sc_steps_to_go.nd rfl (.inl rfl))) (fun _ _ _ _ _ => pts_one (pt_not (pt_val (pe_ix (k_ixl (K := K) rfl) (pv 4) (pv 9) (fun _ _ => rfl))))) (fun _ _ _ _ _ => (pv 9)))
  (pss_one (ps_ret (pcall h_steps_from hr (by decide) (by rfl) (pa_cons (pe_meth0 (pv 0) C.cl h_many.mt h_many.F (hr.mono (by decide)) h_many.b .nil pass0) (pa_cons (pv 5) (pa_cons (pv 6) pa_nil)))))))))), ?_⟩
    obtain ⟨dx, hp⟩ := h1.m.at_.ob
    refine ⟨_, rfl, t, _, rfl, h1.S.t, rfl, _, _, rfl, _, _, rfl, rfl, ?_⟩
    refine ⟨_, rfl, p, dx, _, rfl, hp, mapF_many _ _ _, p, n, a, pvs, c, gs, rfl, h1.m.at_, _, rfl, n, x, rs, rfl, h1.S.x, h1.o.rn, by have := h1.m.n1; omega, fun d H2 s2 nd hd => ?_⟩
    have h2 := h1.same s2
    -- turned
    refine ⟨_, rfl, _, rfl, p, n, a, pvs, es, c, gs, t, x, y, rs, ls, rfl, h2.m, h2.S, h2.o.rn, h2.o.ln, fun ul H3 uvs s3 nul hul hpr => ?_⟩
    have h3 := h2.same s3
    refine ⟨ul, rfl, ⟨_, sql hul⟩, fun D nD => ?_⟩
    have hul2 : uvs.length ≤ 1000 := by
      rw [hpr.len]
      exact Nat.le_trans (List.length_filterMap_le _ _) (Nat.le_trans leftV_len h1.m.el)
    refine lc_rel walk_list calm_at (RelG (fun e => some (swp e)) (unr es rs ls)) RelG.stay (by omega) nD (fun H4 s4 => sql (s4 _ _ hul)) ?_ fun H4 os s4 hol hos hD4 => ?_
    · rintro i v H4 H5 hi s4 ⟨rfl, hv⟩ Kt kt
      obtain ⟨e, hei, tt, rfl, ht⟩ := hpr.get hv
      obtain ⟨e1, e2⟩ := e
      refine ⟨tt, _, rfl, Same.sqt s4 ht, rfl, _, _, rfl, _, _, rfl, rfl, rfl, tyes ?_⟩
      refine iteT ?_
      exact ⟨_, rfl, _, rfl, by show 2 ≤ sizeLine; decide, fun t2 nt2 => kt _ _ (same_new (Same.refl _) nt2) ⟨(e1, e2), hei, .inl ⟨(e2, e1), _, rfl, rfl, t2, rfl, upd_same⟩⟩⟩
    have p4 := prs_rel (K := K) (hol.trans hpr.len) hos
    have h4 := h3.same s4
    have hd4 := s4 _ _ (s3 _ _ hd)
    obtain ⟨dx4, hp4⟩ := h4.m.at_.ob
    -- goals
    refine ⟨_, rfl, p, dx4, _, rfl, hp4, mapF_goals _ _ _, p, n, a, pvs, c, gs, rfl, h4.m.at_, c, rfl, ⟨_, h4.m.at_.go⟩, fun G nG => ?_⟩
    refine lc_val walk_tup calm_at (fun i => (gs[i]?).bind fun g => if g ∈ rs then none else some (nV g)) (by rw [List.length_map]; have := h2.m.gn; omega) nG (fun H5 s5 => Same.sqt s5 h4.m.at_.go) ?_ fun H5 s5 hG5 => ?_
    · rintro i v H5 H6 hi s5 ⟨rfl, hv⟩ Kt kt
      obtain ⟨g, hgi, rfl⟩ := getmap hv
      have hgn := h2.m.gl g (List.mem_of_getElem? hgi)
      refine ⟨rfl, ?_⟩
      refine ⟨_, rfl, _, rfl, d, _, (g : Int), _, rfl, rfl, sql (s5 _ _ hd4), atI_nat (mks_get hgn), _, rfl, ?_⟩
      have k0 := kt _ (Same.refl _)
      rw [hgi] at k0
      by_cases hm : g ∈ rs
      · rw [decide_eq_true hm]
        refine iteF ?_
        have k1 : Kt (if g ∈ rs then none else some (nV g)) _ := k0
        rw [if_pos hm] at k1
        exact k1
      · rw [decide_eq_false hm]
        refine iteT ⟨_, rfl, ?_⟩
        have k1 : Kt (if g ∈ rs then none else some (nV g)) _ := k0
        rw [if_neg hm] at k1
        exact k1
    rw [List.length_map, fm_range] at hG5
    have eG : (gs.filterMap fun g => if g ∈ rs then none else some (nV g)) = (openG gs rs).map nV := by
      unfold openG
      rw [List.map_filterMap]
      congr 1
      funext g
      by_cases hm : g ∈ rs
      · rw [if_pos hm, if_pos hm]
        rfl
      · rw [if_neg hm, if_neg hm]
        rfl
    rw [eG] at hG5
    have h5 := h4.same s5
    obtain ⟨dx5, hp5⟩ := h5.m.at_.ob
    refine ⟨_, rfl, p, dx5, _, rfl, hp5, mapF_many _ _ _, p, n, a, pvs, c, gs, rfl, h5.m.at_, _, rfl, _, rfl, ?_⟩
    have hok : ∀ e ∈ backE es rs ls, e.1 < n ∧ e.2 < n := fun e he => by
      obtain ⟨e0, h6, h7⟩ := List.mem_filterMap.mp he
      cases h7
      have h8 := fmG_ok (Pq := fun e => e.1 < n ∧ e.2 < n) (fun e e' => unr_ok (Pq := fun e => e.1 < n ∧ e.2 < n)) (left_ok h1.m.ok) e0 h6
      exact ⟨h8.2, h8.1⟩
    refine ⟨n, D, G, _, backE es rs ls, openG gs rs, rfl, .inl (sql (s5 _ _ hD4)), p4.same s5, .inl (sql hG5), hok, fun g hg => h1.m.gl g (mem_openG.mp hg).1, h1.m.n1, ?_, fun r H6 st s6 nr hr6 hst => ?_⟩
    · exact Nat.le_trans (List.length_filterMap_le _ _) (Nat.le_trans (List.length_filterMap_le _ _) (Nat.le_trans leftV_len h1.m.el))
    · have sm : Same H H5 := ((s2.trans s3).trans s4).trans s5
      exact q _ H6 (sm.trans s6) ⟨r, st, rfl, Same.free sm nr, hr6, hst⟩

/-- the place is alive -/
def Alive (es : Es) (gs rs ls : List Nat) (v : Nat) : Prop := Rch (backE es rs ls) (openG gs rs) v
def RAlive : Nat → Es → List Nat → List Nat → List Nat → Hp → V → Hp → Prop := fun n es gs rs ls H v H' => ∃ (q : Addr) (as : List Nat), v = .ref q ∧ H q = none ∧ H' q = some (.tup (as.map nV)) ∧ as.Pairwise (· < ·) ∧ ∀ u, u ∈ as ↔ u < n ∧ Alive es gs rs ls u
theorem no_alive {es : Es} {gs rs ls : List Nat} (h : ∀ g ∈ gs, g ∈ rs) {v : Nat} (ha : Alive es gs rs ls v) : False :=
  ha.ind (P := fun _ => False) (fun v hv => (mem_openG.mp hv).2 (h v (mem_openG.mp hv).1)) fun _ _ z _ => z
theorem alive_out {es : Es} {gs rs ls : List Nat} {v : Nat} (h : Alive es gs rs ls v) : v ∉ rs :=
  h.ind (P := fun v => v ∉ rs) (fun v hv => (mem_openG.mp hv).2) fun u v _ e => by
    obtain ⟨e0, h6, h7⟩ := List.mem_filterMap.mp e
    cases h7
    obtain ⟨e1, _, h9⟩ := List.mem_filterMap.mp h6
    unfold unrG at h9
    split at h9
    · rename_i hc
      cases h9
      exact hc.1
    · cases h9
theorem alive_back {es : Es} {gs rs ls : List Nat} {u v k : Nat} (ha : Alive es gs rs ls v) (hk : es[k]? = some (u, v)) (hl : k ∉ ls) (hu : u ∉ rs) (hv : v ∉ rs) : Alive es gs rs ls u := by
  refine Rch.edge ha (List.mem_filterMap.mpr ⟨(u, v), List.mem_filterMap.mpr ⟨(u, v), mem_leftV.mpr ⟨k, hk, hl⟩, ?_⟩, rfl⟩)
  unfold unrG
  exact if_pos ⟨hu, hv⟩
theorem mem_backE {es : Es} {rs ls : List Nat} {e : Nat × Nat} : e ∈ backE es rs ls ↔ ∃ k, es[k]? = some (swp e) ∧ k ∉ ls ∧ e.1 ∉ rs ∧ e.2 ∉ rs := by
  constructor
  · intro h
    obtain ⟨e0, h6, h7⟩ := List.mem_filterMap.mp h
    cases h7
    obtain ⟨e1, h8, h9⟩ := List.mem_filterMap.mp h6
    unfold unrG at h9
    split at h9
    · rename_i hc
      cases h9
      obtain ⟨k, h10, h11⟩ := mem_leftV.mp h8
      exact ⟨k, h10, h11, hc.2, hc.1⟩
    · cases h9
  · rintro ⟨k, h1, h2, h3, h4⟩
    refine List.mem_filterMap.mpr ⟨swp e, List.mem_filterMap.mpr ⟨swp e, mem_leftV.mpr ⟨k, h1, h2⟩, ?_⟩, rfl⟩
    unfold unrG
    exact if_pos ⟨h4, h3⟩

abbrev s_alive_at : Stmt := topS 43
abbrev sl_alive_at : List Str := ["chart", "standing", "steps", "place"]
theorem sc_alive_at : FnScope ["chart", "standing", "steps", "place"] ["chart", "standing"] (defScope s_alive_at) := ⟨rfl, rfl, rfl, by decide +kernel, rfl, by decide +kernel, by decide +kernel⟩
theorem ok_alive_at {CMap : Addr} (B : Bt mg) (C : MapC K mg CMap) (h_steps_to_go : Has P w K mg base "steps_to_go" 4 ["chart", "standing"] (spOf K CMap RGo))
    (h_many : HasM P w K mg base CMap "many" 1 ["self"] (spMany K CMap)) (D0 : Df K mg "alive_at" s_alive_at ["chart", "standing"]) : Has P w K mg base "alive_at" 5 ["chart", "standing"] (spOf K CMap RAlive) := by
  refine D0.has fun f fd F => F.ok sc_alive_at (fun vs H Q E h => ?_) (fun cdv A outer s H vs Q E hr h => ?_)
  · obtain ⟨p, n, a, pvs, es, c, gs, t, x, y, rs, ls, rfl, _⟩ := h
    rfl
  · obtain ⟨p, n, a, pvs, es, c, gs, t, x, y, rs, ls, rfl, hh, q⟩ := h
    refine ⟨_, (pss_cons (ps_set (i := 2) sc_alive_at.nd rfl (.inr rfl) (pcall h_steps_to_go hr (by decide) (by rfl) (pa_cons (pv 0) (pa_cons (pv 1) pa_nil))))
  (pss_one (ps_ret (pe_callTy (k_tuple (K := K) rfl) (by rfl) B.tuple bo_tuple (pa_cons (pe_lc (own := [("place", 3)]) (g := gName 3) rfl sc_alive_at.nd (pi_range1 (by rfl) B.range (pa_cons (pe_meth0 (pv 0) C.cl h_many.mt h_many.F (hr.mono (by decide)) h_many.b .nil pass0) pa_nil)) (blkOk_by (N := sl_alive_at) (sc := defScope s_alive_at) (by decide +kernel)) (fun _ _ _ _ _ => (pg_name (i := 3) sc_alive_at.nd rfl (.inl rfl))) (fun _ _ _ _ _ => pts_one (pt_cmpR op_notN (pe_ix (k_ixl (K := K) rfl) (pv 2) (pv 3) (fun _ _ => rfl)) pe_non (nomark _))) (fun _ _ _ _ _ => (pv 3))) pa_nil))))), ?_⟩
    have s1 := Same.refl H
    have h1 := hh
    refine ⟨_, rfl, _, rfl, p, n, a, pvs, es, c, gs, t, x, y, rs, ls, rfl, h1, fun v H2 s2 hv => ?_⟩
    obtain ⟨d, st, rfl, nd, hd, hst⟩ := hv
    have h2 := h1.same s2
    obtain ⟨dx, hp⟩ := h2.m.at_.ob
    have hn1 := h2.m.n1
    refine ⟨_, rfl, p, dx, _, rfl, hp, mapF_many _ _ _, p, n, a, pvs, c, gs, rfl, h2.m.at_, n, rfl, by omega, by omega, fun D nD => ?_⟩
    refine lc_val walk_range calm_fn (fun i => (if (st i).isSome then some i else none).map nV) (by show n ≤ 100000; omega) nD (fun _ _ => trivial) ?_ fun H3 s3 h3 => ?_
    · rintro i v H3 H4 hi s3 ⟨rfl, rfl⟩ Kt kt
      have hin : i < n := hi
      have e0 : (0 : Int) + (i : Int) = (i : Int) := Int.zero_add _
      refine ⟨rfl, ?_⟩
      refine ⟨_, rfl, _, rfl, d, _, _, oV (st i), rfl, rfl, sql (s3 _ _ hd), by rw [e0]; exact atI_nat (stV_get hin), rfl, _, rfl, ?_⟩
      have k0 := kt _ (Same.refl _)
      cases e : st i with
      | none =>
        rw [e] at k0
        exact iteF k0
      | some dd =>
        rw [e] at k0
        refine iteT ⟨_, rfl, ?_⟩
        show Kt (some (V.int ((0 : Int) + (i : Int)))) _
        rw [e0]
        exact k0
    · have e1 : ((List.range (n : Int).toNat).filterMap fun i => (if (st i).isSome then some i else none).map nV) = ((List.range n).filterMap fun i => if (st i).isSome then some i else none).map nV := by
        rw [List.map_filterMap]
        rfl
      rw [e1] at h3
      refine ⟨D, _, rfl, .inl ⟨sql h3, fun q1 nq1 => ?_⟩⟩
      have sm : Same H H3 := (s1.trans s2).trans s3
      refine q _ _ (same_new sm nq1) ⟨q1, _, rfl, Same.free sm nq1, upd_same, fm_pw fun i j hj => ?_, fun u => ?_⟩
      · by_cases hs : (st i).isSome = true
        · rw [if_pos hs] at hj
          exact (Option.some.inj hj).symm
        · rw [if_neg hs] at hj
          cases hj
      · rw [List.mem_filterMap]
        constructor
        · rintro ⟨i, hi, hj⟩
          by_cases hs : (st i).isSome = true
          · rw [if_pos hs] at hj
            cases hj
            have hun := List.mem_range.mp hi
            refine ⟨hun, Classical.byContradiction fun z => ?_⟩
            rw [(hst _ hun).2.mpr z] at hs
            cases hs
          · rw [if_neg hs] at hj
            cases hj
        · rintro ⟨hun, ha⟩
          refine ⟨u, List.mem_range.mpr hun, if_pos ?_⟩
          cases e : st u with
          | none => exact absurd ha ((hst u hun).2.mp e)
          | some dd => rfl

abbrev s_alive : Stmt := topS 42
abbrev sl_alive : List Str := ["chart", "standing"]
theorem sc_alive : FnScope ["chart", "standing"] ["chart", "standing"] (defScope s_alive) := ⟨rfl, rfl, rfl, by decide +kernel, rfl, by decide +kernel, by decide +kernel⟩
theorem RAlive.early {n : Nat} {es : Es} {gs rs ls : List Nat} {H H1 H2 : Hp} {v : V} (s : Same H H1) (h : RAlive n es gs rs ls H1 v H2) : RAlive n es gs rs ls H v H2 := by
  obtain ⟨q, as, rfl, n1, h2⟩ := h
  exact ⟨q, as, rfl, Same.free s n1, h2⟩
theorem ok_alive {CMap : Addr} (h_check_standing : Has P w K mg base "check_standing" 5 ["chart", "thing"] (spCheck K CMap)) (h_alive_at : Has P w K mg base "alive_at" 5 ["chart", "standing"] (spOf K CMap RAlive))
    (D0 : Df K mg "alive" s_alive ["chart", "standing"]) : Has P w K mg base "alive" 6 ["chart", "standing"] (spOf K CMap RAlive) := by
  refine D0.has fun f fd F => F.ok sc_alive (fun vs H Q E h => ?_) (fun cdv A outer s H vs Q E hr h => ?_)
  · obtain ⟨p, n, a, pvs, es, c, gs, t, x, y, rs, ls, rfl, _⟩ := h
    rfl
  · obtain ⟨p, n, a, pvs, es, c, gs, t, x, y, rs, ls, rfl, hh, q⟩ := h
    refine ⟨_, (pss_cons (ps_expr (pcall h_check_standing hr (by decide) (by rfl) (pa_cons (pv 0) (pa_cons (pv 1) pa_nil))))
  (pss_one (ps_ret (pcall h_alive_at hr (by decide) (by rfl) (pa_cons (pv 0) (pa_cons (pv 1) pa_nil)))))), ?_⟩
    refine ⟨_, rfl, _, rfl, p, n, a, pvs, es, c, gs, t, x, y, rs, ls, rfl, hh.m, hh.S, hh.o, fun H1 s1 => ?_⟩
    exact ⟨_, rfl, _, rfl, p, n, a, pvs, es, c, gs, t, x, y, rs, ls, rfl, hh.same s1, fun v H2 s2 hv => q v H2 (s1.trans s2) (RAlive.early s1 hv)⟩

def isTry (es : Es) (rs ls : List Nat) (i : Nat) : Option Nat := (es[i]?).bind fun e => if i ∉ ls ∧ e.1 ∈ rs ∧ e.2 ∉ rs then some i else none
def triesL (es : Es) (rs ls : List Nat) : List Nat := (List.range es.length).filterMap (isTry es rs ls)
theorem isTry_some {es : Es} {rs ls : List Nat} {i j : Nat} (h : isTry es rs ls i = some j) : j = i ∧ ∃ e, es[i]? = some e ∧ i ∉ ls ∧ e.1 ∈ rs ∧ e.2 ∉ rs := by
  unfold isTry at h
  cases e : es[i]? with
  | none => rw [e] at h; cases h
  | some x =>
    rw [e] at h
    simp only [Option.bind_some] at h
    split at h
    · rename_i hc
      exact ⟨(Option.some.inj h).symm, x, rfl, hc⟩
    · cases h
theorem mem_tries {es : Es} {rs ls : List Nat} {i : Nat} : i ∈ triesL es rs ls ↔ ∃ e, es[i]? = some e ∧ i ∉ ls ∧ e.1 ∈ rs ∧ e.2 ∉ rs := by
  unfold triesL
  rw [List.mem_filterMap]
  constructor
  · rintro ⟨j, _, h⟩
    obtain ⟨h1, h2⟩ := isTry_some h
    rw [h1]
    exact h2
  · rintro ⟨e, he, h⟩
    refine ⟨i, List.mem_range.mpr (List.getElem?_eq_some_iff.mp he).1, ?_⟩
    unfold isTry
    rw [he]
    exact if_pos h
theorem tries_pw {es : Es} {rs ls : List Nat} : (triesL es rs ls).Pairwise (· < ·) := fm_pw fun i j h => (isTry_some h).1
def RTries : Nat → Es → List Nat → List Nat → List Nat → Hp → V → Hp → Prop := fun n es gs rs ls H v H' => ∃ q : Addr, v = .ref q ∧ H q = none ∧ H' q = some (.tup ((triesL es rs ls).map nV))

abbrev s_tries_at : Stmt := topS 45
abbrev sl_tries_at : List Str := ["chart", "standing", "reached", "rotten", "inside", "gone", "arrow", "tail", "head"]
theorem sc_tries_at : FnScope ["chart", "standing", "reached", "rotten", "inside", "gone", "arrow", "tail", "head"] ["chart", "standing"] (defScope s_tries_at) := ⟨rfl, rfl, rfl, by decide +kernel, rfl, by decide +kernel, by decide +kernel⟩
theorem ok_tries_at {CMap : Addr} (B : Bt mg) (C : MapC K mg CMap) (h_marks : Has P w K mg base "marks" 1 ["many", "lot"] (spMarks K))
    (h_many : HasM P w K mg base CMap "many" 1 ["self"] (spMany K CMap)) (h_arrows : HasM P w K mg base CMap "arrows" 1 ["self"] (spArrows K CMap))
    (D0 : Df K mg "tries_at" s_tries_at ["chart", "standing"]) : Has P w K mg base "tries_at" 3 ["chart", "standing"] (spOf K CMap RTries) := by
  refine D0.has fun f fd F => F.ok sc_tries_at (fun vs H Q E h => ?_) (fun cdv A outer s H vs Q E hr h => ?_)
  · obtain ⟨p, n, a, pvs, es, c, gs, t, x, y, rs, ls, rfl, _⟩ := h
    rfl
  · obtain ⟨p, n, a, pvs, es, c, gs, t, x, y, rs, ls, rfl, hh, q⟩ := h
    refine ⟨_, (pss_cons (ps_asg (pv 1) (pg_tup rfl (pgs_cons (pg_name (i := 2) sc_tries_at.nd rfl (.inl rfl)) (pgs_cons (pg_name (i := 3) sc_tries_at.nd rfl (.inl rfl)) pgs_nil))))
  (pss_cons (ps_set (i := 4) sc_tries_at.nd rfl (.inr rfl) (pcall h_marks hr (by decide) (by rfl) (pa_cons (pe_meth0 (pv 0) C.cl h_many.mt h_many.F (hr.mono (by decide)) h_many.b .nil pass0) (pa_cons (pv 2) pa_nil))))
  (pss_cons (ps_set (i := 5) sc_tries_at.nd rfl (.inr rfl) (pcall h_marks hr (by decide) (by rfl) (pa_cons (pe_callB (k_len (K := K) rfl) (by rfl) B.len bo_len (pa_cons (pe_meth0 (pv 0) C.cl h_arrows.mt h_arrows.F (hr.mono (by decide)) h_arrows.b .nil pass0) pa_nil)) (pa_cons (pv 3) pa_nil))))
  (pss_one (ps_ret (pe_callTy (k_tuple (K := K) rfl) (by rfl) B.tuple bo_tuple (pa_cons (pe_lc (own := [("arrow", 6), ("tail", 7), ("head", 8)]) (g := gTup K 2 (gCons (gName 6) (gCons (gTup K 2 (gCons (gName 7) (gCons (gName 8) gNil))) gNil))) rfl sc_tries_at.nd (pi_enumT (by rfl) B.enumerate (pa_cons (pe_meth0 (pv 0) C.cl h_arrows.mt h_arrows.F (hr.mono (by decide)) h_arrows.b .nil pass0) pa_nil)) (blkOk_by (N := sl_tries_at) (sc := defScope s_tries_at) (by decide +kernel)) (fun _ _ _ _ _ => (pg_tup rfl (pgs_cons (pg_name (i := 6) sc_tries_at.nd rfl (.inl rfl)) (pgs_cons (pg_tup rfl (pgs_cons (pg_name (i := 7) sc_tries_at.nd rfl (.inl rfl)) (pgs_cons (pg_name (i := 8) sc_tries_at.nd rfl (.inl rfl)) pgs_nil))) pgs_nil)))) (fun _ _ _ _ _ => pts_one (PW.pt (pw_and (pt_not (pt_val (pe_ix (k_ixl (K := K) rfl) (pv 5) (pv 6) (fun _ _ => rfl)))) (pw_and (pt_val (pe_ix (k_ixl (K := K) rfl) (pv 4) (pv 7) (fun _ _ => rfl))) (pw_and1 (pt_not (pt_val (pe_ix (k_ixl (K := K) rfl) (pv 4) (pv 8) (fun _ _ => rfl))))))))) (fun _ _ _ _ _ => (pv 6))) pa_nil))))))), ?_⟩
    have hl := hh.m.pr.len
    have hn1 := hh.m.n1
    have hel := hh.m.el
    have s1 := Same.refl H
    have h1 := hh
    obtain ⟨dx, hp⟩ := h1.m.at_.ob
    refine ⟨_, rfl, t, _, rfl, h1.S.t, rfl, _, _, rfl, _, _, rfl, rfl, ?_⟩
    refine ⟨_, rfl, p, dx, _, rfl, hp, mapF_many _ _ _, p, n, a, pvs, c, gs, rfl, h1.m.at_, _, rfl, n, x, rs, rfl, h1.S.x, h1.o.rn, by omega, fun d H2 s2 nd hd => ?_⟩
    have h2 := h1.same s2
    obtain ⟨dx2, hp2⟩ := h2.m.at_.ob
    refine ⟨_, rfl, p, dx2, _, rfl, hp2, mapF_arrows _ _ _, p, n, a, pvs, c, gs, rfl, h2.m.at_, a, pvs, rfl, .inr h2.m.at_.ar, _, rfl, pvs.length, y, ls, rfl, h2.S.y, fun z hz => by rw [hl]; exact hh.o.ln z hz, by omega, fun g H3 s3 ng hg => ?_⟩
    have h3 := h2.same s3
    have hd3 := s3 _ _ hd
    obtain ⟨dx3, hp3⟩ := h3.m.at_.ob
    refine ⟨_, rfl, p, dx3, _, rfl, hp3, mapF_arrows _ _ _, p, n, a, pvs, c, gs, rfl, h3.m.at_, a, pvs, rfl, h3.m.at_.ar, fun D nD => ?_⟩
    refine lc_val walkT calm_pair (fun i => (isTry es rs ls i).map nV) (by omega) nD (fun H4 s4 => Same.sqt s4 h3.m.at_.ar) ?_ fun H4 s4 h4 => ?_
    · rintro i v H4 H5 hi s4 ⟨T, x1, x2, rfl, nT, rfl, e1, e2⟩ Kt kt
      cases e1
      have s5 := same_new (o := .tup [.int (i : Nat), x2]) (Same.refl H4) nT
      obtain ⟨e, hei, tt, rfl, ht⟩ := hh.m.pr.get (show pvs[i]? = some x2 from e2)
      obtain ⟨e1, e2⟩ := e
      have hok := hh.m.ok _ (List.mem_of_getElem? hei)
      have sm : Same H (upd H4 T (.tup [.int (i : Nat), .ref tt])) := (((s1.trans s2).trans s3).trans s4).trans s5
      have hg5 := s5 _ _ (s4 _ _ hg)
      have hd5 := s5 _ _ (s4 _ _ hd3)
      have k0 := kt _ (Same.refl _)
      have kf : ¬ (i ∉ ls ∧ e1 ∈ rs ∧ e2 ∉ rs) → Kt none (upd H4 T (.tup [.int (i : Nat), .ref tt])) := fun z => by
        unfold isTry at k0
        rw [hei] at k0
        simp only [Option.bind_some] at k0
        rw [if_neg z] at k0
        exact k0
      refine ⟨T, _, rfl, sqt upd_same, rfl, _, _, rfl, _, _, rfl, ⟨tt, _, rfl, Same.sqt sm ht, rfl, _, _, rfl, _, _, rfl, rfl, rfl, rfl, ?_⟩⟩
      refine ⟨_, rfl, _, rfl, g, _, (i : Int), _, rfl, rfl, sql hg5, atI_nat (mks_get hi), _, rfl, ?_⟩
      by_cases m1 : i ∈ ls
      · rw [decide_eq_true m1]
        refine iteF ?_
        exact iteF (kf fun z => z.1 m1)
      rw [decide_eq_false m1]
      refine iteT ⟨_, rfl, _, rfl, d, _, (e1 : Int), _, rfl, rfl, sql hd5, atI_nat (mks_get hok.1), _, rfl, ?_⟩
      by_cases m2 : e1 ∈ rs
      · rw [decide_eq_true m2]
        refine iteT ⟨_, rfl, _, rfl, d, _, (e2 : Int), _, rfl, rfl, sql hd5, atI_nat (mks_get hok.2), _, rfl, ?_⟩
        by_cases m3 : e2 ∈ rs
        · rw [decide_eq_true m3]
          refine iteF ?_
          exact kf fun z => z.2.2 m3
        · rw [decide_eq_false m3]
          refine iteT ⟨_, rfl, ?_⟩
          unfold isTry at k0
          rw [hei] at k0
          simp only [Option.bind_some] at k0
          rw [if_pos ⟨m1, m2, m3⟩] at k0
          exact k0
      · rw [decide_eq_false m2]
        refine iteF ?_
        exact iteF (kf fun z => m2 z.2.1)
    · have e1 : ((List.range pvs.length).filterMap fun i => (isTry es rs ls i).map nV) = (triesL es rs ls).map nV := by
        unfold triesL
        rw [List.map_filterMap, hl]
      rw [e1] at h4
      refine ⟨D, _, rfl, .inl ⟨sql h4, fun q1 nq1 => ?_⟩⟩
      have sm : Same H H4 := ((s1.trans s2).trans s3).trans s4
      exact q _ _ (same_new sm nq1) ⟨q1, rfl, Same.free sm nq1, upd_same⟩

abbrev s_tries : Stmt := topS 44
abbrev sl_tries : List Str := ["chart", "standing"]
theorem sc_tries : FnScope ["chart", "standing"] ["chart", "standing"] (defScope s_tries) := ⟨rfl, rfl, rfl, by decide +kernel, rfl, by decide +kernel, by decide +kernel⟩
theorem RTries.early {n : Nat} {es : Es} {gs rs ls : List Nat} {H H1 H2 : Hp} {v : V} (s : Same H H1) (h : RTries n es gs rs ls H1 v H2) : RTries n es gs rs ls H v H2 := by
  obtain ⟨q, rfl, n1, h2⟩ := h
  exact ⟨q, rfl, Same.free s n1, h2⟩
theorem ok_tries {CMap : Addr} (h_check_standing : Has P w K mg base "check_standing" 5 ["chart", "thing"] (spCheck K CMap)) (h_tries_at : Has P w K mg base "tries_at" 3 ["chart", "standing"] (spOf K CMap RTries))
    (D0 : Df K mg "tries" s_tries ["chart", "standing"]) : Has P w K mg base "tries" 6 ["chart", "standing"] (spOf K CMap RTries) := by
  refine D0.has fun f fd F => F.ok sc_tries (fun vs H Q E h => ?_) (fun cdv A outer s H vs Q E hr h => ?_)
  · obtain ⟨p, n, a, pvs, es, c, gs, t, x, y, rs, ls, rfl, _⟩ := h
    rfl
  · obtain ⟨p, n, a, pvs, es, c, gs, t, x, y, rs, ls, rfl, hh, q⟩ := h
    refine ⟨_, (pss_cons (ps_expr (pcall h_check_standing hr (by decide) (by rfl) (pa_cons (pv 0) (pa_cons (pv 1) pa_nil))))
  (pss_one (ps_ret (pcall h_tries_at hr (by decide) (by rfl) (pa_cons (pv 0) (pa_cons (pv 1) pa_nil)))))), ?_⟩
    refine ⟨_, rfl, _, rfl, p, n, a, pvs, es, c, gs, t, x, y, rs, ls, rfl, hh.m, hh.S, hh.o, fun H1 s1 => ?_⟩
    exact ⟨_, rfl, _, rfl, p, n, a, pvs, es, c, gs, t, x, y, rs, ls, rfl, hh.same s1, fun v H2 s2 hv => q v H2 (s1.trans s2) (RTries.early s1 hv)⟩

abbrev s_worth_at : Stmt := topS 47
abbrev sl_worth_at : List Str := ["chart", "standing", "tried", "steps", "arrows", "arrow"]
theorem sc_worth_at : FnScope ["chart", "standing", "tried", "steps", "arrows", "arrow"] ["chart", "standing"] (defScope s_worth_at) := ⟨rfl, rfl, rfl, by decide +kernel, rfl, by decide +kernel, by decide +kernel⟩
def RWorth : Nat → Es → List Nat → List Nat → List Nat → Hp → V → Hp → Prop := fun n es gs rs ls H v H' => ∃ (q : Addr) (ws : List Nat), v = .ref q ∧ H q = none ∧ H' q = some (.tup (ws.map nV)) ∧ ws.Pairwise (· < ·) ∧
  ∀ i, i ∈ ws ↔ i ∈ triesL es rs ls ∧ ∃ e, es[i]? = some e ∧ Alive es gs rs ls e.2
theorem ok_worth_at {CMap : Addr} (B : Bt mg) (C : MapC K mg CMap) (h_tries_at : Has P w K mg base "tries_at" 3 ["chart", "standing"] (spOf K CMap RTries)) (h_steps_to_go : Has P w K mg base "steps_to_go" 4 ["chart", "standing"] (spOf K CMap RGo))
    (h_arrows : HasM P w K mg base CMap "arrows" 1 ["self"] (spArrows K CMap)) (D0 : Df K mg "worth_at" s_worth_at ["chart", "standing"]) : Has P w K mg base "worth_at" 5 ["chart", "standing"] (spOf K CMap RWorth) := by
  refine D0.has fun f fd F => F.ok sc_worth_at (fun vs H Q E h => ?_) (fun cdv A outer s H vs Q E hr h => ?_)
  · obtain ⟨p, n, a, pvs, es, c, gs, t, x, y, rs, ls, rfl, _⟩ := h
    rfl
  · obtain ⟨p, n, a, pvs, es, c, gs, t, x, y, rs, ls, rfl, hh, q⟩ := h
    refine ⟨_, (pss_cons (ps_set (i := 2) sc_worth_at.nd rfl (.inl rfl) (pcall h_tries_at hr (by decide) (by rfl) (pa_cons (pv 0) (pa_cons (pv 1) pa_nil))))
  (pss_cons (ps_set (i := 3) sc_worth_at.nd rfl (.inr rfl) (pcall h_steps_to_go hr (by decide) (by rfl) (pa_cons (pv 0) (pa_cons (pv 1) pa_nil))))
  (pss_cons (ps_set (i := 4) sc_worth_at.nd rfl (.inr rfl) (pe_meth0 (pv 0) C.cl h_arrows.mt h_arrows.F (hr.mono (by decide)) h_arrows.b .nil pass0))
  (pss_one (ps_ret (pe_callTy (k_tuple (K := K) rfl) (by rfl) B.tuple bo_tuple (pa_cons (pe_lc (own := [("arrow", 5)]) (g := gName 5) rfl sc_worth_at.nd (k_pit (K := K) rfl (pv 2)) (blkOk_by (N := sl_worth_at) (sc := defScope s_worth_at) (by decide +kernel)) (fun _ _ _ _ _ => (pg_name (i := 5) sc_worth_at.nd rfl (.inl rfl))) (fun _ _ _ _ _ => pts_one (pt_cmpR op_notN (pe_ix (k_ixl (K := K) rfl) (pv 3) (pe_ix (k_ixt (K := K) rfl) (pe_ix (k_ixt (K := K) rfl) (pv 4) (pv 5) (fun _ _ => rfl)) pe_int (fun _ _ => rfl)) (fun _ _ => rfl)) pe_non (nomark _))) (fun _ _ _ _ _ => (pv 5))) pa_nil))))))), ?_⟩
    have hl := hh.m.pr.len
    have hel := hh.m.el
    refine ⟨_, rfl, _, rfl, p, n, a, pvs, es, c, gs, t, x, y, rs, ls, rfl, hh, fun v H1 s1 hv => ?_⟩
    obtain ⟨tr, rfl, ntr, htr⟩ := hv
    have h1 := hh.same s1
    refine ⟨_, rfl, _, rfl, p, n, a, pvs, es, c, gs, t, x, y, rs, ls, rfl, h1, fun v H2 s2 hv => ?_⟩
    obtain ⟨d, st, rfl, nd, hd, hst⟩ := hv
    have h2 := h1.same s2
    have htr2 := s2 _ _ htr
    obtain ⟨dx, hp⟩ := h2.m.at_.ob
    refine ⟨_, rfl, p, dx, _, rfl, hp, mapF_arrows _ _ _, p, n, a, pvs, c, gs, rfl, h2.m.at_, ?_⟩
    refine ⟨_, rfl, tr, rfl, ⟨_, sqt htr2⟩, fun D nD => ?_⟩
    have hlt : (triesL es rs ls).length ≤ es.length - 0 := pw_len tries_pw fun z hz => ⟨Nat.zero_le _, by
      obtain ⟨e, he, _⟩ := mem_tries.mp hz
      exact (List.getElem?_eq_some_iff.mp he).1⟩
    refine lc_val walk_tup calm_at (fun i => ((triesL es rs ls)[i]?).bind fun k => (es[k]?).bind fun e => if (st e.2).isSome then some (nV k) else none) (by rw [List.length_map]; omega) nD (fun H3 s3 => sqt (s3 _ _ htr2)) ?_ fun H3 s3 h3 => ?_
    · rintro i v H3 H4 hi s3 ⟨rfl, hv⟩ Kt kt
      obtain ⟨k, hki, rfl⟩ := getmap hv
      obtain ⟨e, hke, _⟩ := mem_tries.mp (List.mem_of_getElem? hki)
      have h3 := h2.same s3
      have hkl : k < pvs.length := by rw [hl]; exact (List.getElem?_eq_some_iff.mp hke).1
      have hk : pvs[k]? = some pvs[k] := List.getElem?_eq_getElem hkl
      obtain ⟨tt, htt, ht⟩ := h3.m.pr.at_ k _ _ hk hke
      have hok := hh.m.ok _ (List.mem_of_getElem? hke)
      refine ⟨rfl, ?_⟩
      refine ⟨_, rfl, _, rfl, _, rfl, a, pvs, (k : Int), _, rfl, rfl, h3.m.at_.ar, atI_nat hk, tt, _, (1 : Nat), nV e.2, htt, rfl, ht, atI_nat rfl, d, _, (e.2 : Int), oV (st e.2), rfl, rfl, sql (s3 _ _ hd), atI_nat (stV_get hok.2), rfl, _, rfl, ?_⟩
      have k0 := kt _ (Same.refl _)
      rw [hki] at k0
      simp only [Option.bind_some] at k0
      rw [hke] at k0
      simp only [Option.bind_some] at k0
      cases e5 : st e.2 with
      | none =>
        rw [e5] at k0
        exact iteF k0
      | some dd =>
        rw [e5] at k0
        exact iteT ⟨_, rfl, k0⟩
    · rw [List.length_map, fm_range] at h3
      have e1 : ((triesL es rs ls).filterMap fun k => (es[k]?).bind fun e => if (st e.2).isSome then some (nV k) else none) = ((triesL es rs ls).filterMap fun k => (es[k]?).bind fun e => if (st e.2).isSome then some k else none).map nV := by
        rw [List.map_filterMap]
        congr 1
        funext k
        cases es[k]? with
        | none => rfl
        | some e =>
          simp only [Option.bind_some]
          split <;> rfl
      rw [e1] at h3
      refine ⟨D, _, rfl, .inl ⟨sql h3, fun q1 nq1 => ?_⟩⟩
      have sm : Same H H3 := (s1.trans s2).trans s3
      have hF : ∀ (k j : Nat), ((es[k]?).bind fun (e : Nat × Nat) => if (st e.2).isSome then some k else none) = some j → j = k ∧ ∃ e : Nat × Nat, es[k]? = some e ∧ (st e.2).isSome = true := fun k j h => by
        cases e2 : es[k]? with
        | none => rw [e2] at h; cases h
        | some e =>
          rw [e2] at h
          simp only [Option.bind_some] at h
          split at h
          · rename_i hc
            exact ⟨(Option.some.inj h).symm, e, rfl, hc⟩
          · cases h
      refine q _ _ (same_new sm nq1) ⟨q1, _, rfl, Same.free sm nq1, upd_same, ?_, fun i => ?_⟩
      · refine List.Pairwise.filterMap _ (fun k j hkj u hu v hv => ?_) tries_pw
        rw [(hF k u hu).1, (hF j v hv).1]
        exact hkj
      · rw [List.mem_filterMap]
        constructor
        · rintro ⟨k, hk, hj⟩
          obtain ⟨rfl, e, he, hs⟩ := hF k i hj
          refine ⟨hk, e, he, Classical.byContradiction fun z => ?_⟩
          have hen := (hh.m.ok _ (List.mem_of_getElem? he)).2
          rw [(hst _ hen).2.mpr z] at hs
          cases hs
        · rintro ⟨hk, e, he, ha⟩
          refine ⟨i, hk, ?_⟩
          have hen := (hh.m.ok _ (List.mem_of_getElem? he)).2
          rw [he]
          refine if_pos ?_
          cases e5 : st e.2 with
          | none => exact absurd ha ((hst _ hen).2.mp e5)
          | some dd => rfl

abbrev s_worth : Stmt := topS 46
abbrev sl_worth : List Str := ["chart", "standing"]
theorem sc_worth : FnScope ["chart", "standing"] ["chart", "standing"] (defScope s_worth) := ⟨rfl, rfl, rfl, by decide +kernel, rfl, by decide +kernel, by decide +kernel⟩
theorem RWorth.early {n : Nat} {es : Es} {gs rs ls : List Nat} {H H1 H2 : Hp} {v : V} (s : Same H H1) (h : RWorth n es gs rs ls H1 v H2) : RWorth n es gs rs ls H v H2 := by
  obtain ⟨q, as, rfl, n1, h2⟩ := h
  exact ⟨q, as, rfl, Same.free s n1, h2⟩
theorem ok_worth {CMap : Addr} (h_check_standing : Has P w K mg base "check_standing" 5 ["chart", "thing"] (spCheck K CMap)) (h_worth_at : Has P w K mg base "worth_at" 5 ["chart", "standing"] (spOf K CMap RWorth))
    (D0 : Df K mg "worth" s_worth ["chart", "standing"]) : Has P w K mg base "worth" 7 ["chart", "standing"] (spOf K CMap RWorth) := by
  refine D0.has fun f fd F => F.ok sc_worth (fun vs H Q E h => ?_) (fun cdv A outer s H vs Q E hr h => ?_)
  · obtain ⟨p, n, a, pvs, es, c, gs, t, x, y, rs, ls, rfl, _⟩ := h
    rfl
  · obtain ⟨p, n, a, pvs, es, c, gs, t, x, y, rs, ls, rfl, hh, q⟩ := h
    refine ⟨_, (pss_cons (ps_expr (pcall h_check_standing hr (by decide) (by rfl) (pa_cons (pv 0) (pa_cons (pv 1) pa_nil))))
  (pss_one (ps_ret (pcall h_worth_at hr (by decide) (by rfl) (pa_cons (pv 0) (pa_cons (pv 1) pa_nil)))))), ?_⟩
    refine ⟨_, rfl, _, rfl, p, n, a, pvs, es, c, gs, t, x, y, rs, ls, rfl, hh.m, hh.S, hh.o, fun H1 s1 => ?_⟩
    exact ⟨_, rfl, _, rfl, p, n, a, pvs, es, c, gs, t, x, y, rs, ls, rfl, hh.same s1, fun v H2 s2 hv => q v H2 (s1.trans s2) (RWorth.early s1 hv)⟩

abbrev s__law_led : Stmt := topS 80
abbrev sl__law_led : List Str := ["_law_arrows", "_law_begun", "_law_let", "_law_barred", "_law_found", "_law_at", "_law_k", "_law_tail_here", "_law_head"]
theorem sc__law_led : FnScope ["_law_arrows", "_law_begun", "_law_let", "_law_barred", "_law_found", "_law_at", "_law_k", "_law_tail_here", "_law_head"] ["_law_arrows", "_law_begun", "_law_let", "_law_barred"] (defScope s__law_led) := ⟨rfl, rfl, rfl, by decide +kernel, rfl, by decide +kernel, by decide +kernel⟩
def ledG (lt br : List Nat) (k : Nat) (e : Nat × Nat) : Option (Nat × Nat) := if k ∉ br ∧ e.2 ∈ lt then some e else none
def ledE (es : Es) (lt br : List Nat) : Es := (List.range es.length).filterMap fun k => (es[k]?).bind (ledG lt br k)
theorem mem_ledE {es : Es} {lt br : List Nat} {e : Nat × Nat} : e ∈ ledE es lt br ↔ ∃ k, es[k]? = some e ∧ k ∉ br ∧ e.2 ∈ lt := by
  unfold ledE
  rw [List.mem_filterMap]
  constructor
  · rintro ⟨k, _, h⟩
    cases e2 : es[k]? with
    | none => rw [e2] at h; cases h
    | some x =>
      rw [e2] at h
      have h' : (if k ∉ br ∧ x.2 ∈ lt then some x else none) = some e := h
      split at h'
      · rename_i hc
        cases h'
        exact ⟨k, e2, hc⟩
      · cases h'
  · rintro ⟨k, h1, h2⟩
    refine ⟨k, List.mem_range.mpr (List.getElem?_eq_some_iff.mp h1).1, ?_⟩
    rw [h1]
    exact if_pos h2
def spLed (K : PySem.W.Frag) : Sp := fun vs H Q _ => ∃ (a b c d : Addr) (pvs : List V) (es : Es) (S lt br : List Nat) (n : Nat), vs = [.ref a, .ref b, .ref c, .ref d] ∧ SqX K H a pvs ∧ Prs K H pvs es ∧ SqX K H b (S.map nV) ∧ SqX K H c (lt.map nV) ∧ SqX K H d (br.map nV) ∧
  (∀ e ∈ es, e.2 < n) ∧ (∀ s ∈ S, s < n) ∧ S.Nodup ∧ n ≤ 1000 ∧ es.length ≤ 1000 ∧
  ∀ p H' (fs : List Nat), Same H H' → H p = none → H' p = some (.lst (fs.map nV)) → fs.Nodup → (∀ v, v ∈ fs ↔ Rch (ledE es lt br) S v) → Q (.ref p) H'
theorem ok__law_led (B : Bt mg) (D0 : Df K mg "_law_led" s__law_led ["_law_arrows", "_law_begun", "_law_let", "_law_barred"]) : Has P w K mg base "_law_led" 1 ["_law_arrows", "_law_begun", "_law_let", "_law_barred"] (spLed K) := by
  refine D0.has fun f fd F => F.ok sc__law_led (fun vs H Q E h => ?_) (fun cdv A outer s H vs Q E hr h => ?_)
  · obtain ⟨a, b, c, d, pvs, es, S, lt, br, n, rfl, _⟩ := h
    rfl
  · obtain ⟨a, b, c, d, pvs, es, S, lt, br, n, rfl, hA, hP, hB, hC, hD, he, hS, hSn, hn, hel, q⟩ := h
    refine ⟨_, (pss_cons (ps_set (i := 4) sc__law_led.nd rfl (.inl rfl) (pe_callTy (k_list (K := K) rfl) (by rfl) B.list bo_list (pa_cons (pv 1) pa_nil)))
  (pss_cons (ps_set (i := 5) sc__law_led.nd rfl (.inl rfl) pe_int)
  (pss_cons (ps_while PassesOwn.never (pt_cmpR op_lt (pv 5) (pe_callB (k_len (K := K) rfl) (by rfl) B.len bo_len (pa_cons (pv 4) pa_nil)) (nomark _))
    (pss_cons (ps_for PassesOwn.never rfl (pi_range1 (by rfl) B.range (pa_cons (pe_callB (k_len (K := K) rfl) (by rfl) B.len bo_len (pa_cons (pv 0) pa_nil)) pa_nil)) (pg_name (i := 6) sc__law_led.nd rfl (.inl rfl))
    (pss_cons (ps_asg (pe_ix (k_ixx (K := K) rfl) (pv 0) (pv 6) (fun _ _ => rfl)) (pg_tup rfl (pgs_cons (pg_name (i := 7) sc__law_led.nd rfl (.inl rfl)) (pgs_cons (pg_name (i := 8) sc__law_led.nd rfl (.inl rfl)) pgs_nil))))
  (pss_one (ps_if (PW.pt (pw_and (pt_cmpR op_eq (pv 7) (pe_ix (k_ixl (K := K) rfl) (pv 4) (pv 5) (fun _ _ => rfl)) (nomark _)) (pw_and (pt_cmpR (k_notin (K := K) rfl) (pv 6) (pv 3) (by rfl)) (pw_and (pt_cmpR (k_in (K := K) rfl) (pv 8) (pv 2) (by rfl)) (pw_and1 (pt_cmpR (k_notin (K := K) rfl) (pv 8) (pv 4) (by rfl)))))))
    (pss_one (ps_expr (pe_bm PySem.F.plainAttrs_list PySem.F.slot_list_append PySem.F.type_list_append mt_append (pv 4) (pa_cons (pv 8) pa_nil))))
    pss_nil))))
  (pss_one (ps_set (i := 5) sc__law_led.nd rfl (.inl rfl) (pe_op op_add (pv 5) pe_int)))))
  (pss_one (ps_ret (pv 4)))))), ?_⟩
    have hl := hP.len
    refine ⟨_, rfl, b, S.map nV, rfl, hB, fun p np => ?_⟩
    -- while
    refine ⟨fun m σ H' => ∃ (at' : Nat) (fs : List Nat) (k t h : Option V), σ = [some (.ref a), some (.ref b), some (.ref c), some (.ref d), some (.ref p), some (.int (at' : Int)), k, t, h] ∧ Same H H' ∧ H' p = some (.lst (fs.map nV)) ∧ fs.Nodup ∧ (∀ z ∈ fs, z < n) ∧ (∀ s ∈ S, s ∈ fs) ∧
      at' ≤ fs.length ∧ (∀ v ∈ fs, Rch (ledE es lt br) S v) ∧ (∀ i v, i < at' → fs[i]? = some v → ∀ u, (v, u) ∈ ledE es lt br → u ∈ fs) ∧ m = n - at',
      ⟨_, 0, S, none, none, none, rfl, same_new (Same.refl H) np, upd_same, hSn, hS, fun s h => h, Nat.zero_le _, fun v h => .base h, fun i v h => absurd h (Nat.not_lt_zero i), rfl⟩, ?_⟩
    rintro m σ H1 ⟨at', fs, k, t, h, rfl, s1, hp1, nd, hfn, hSf, hat, hrc, hcl, rfl⟩
    refine ⟨_, rfl, _, rfl, p, _, rfl, .inl (sql hp1), _, _, rfl, rfl, _, rfl, ?_⟩
    rw [List.length_map]
    by_cases hlt : at' < fs.length
    · rw [decide_eq_true (show (at' : Int) < (fs.length : Int) by omega)]
      refine iteT ⟨_, fun σ' H' z => z, ?_⟩
      have hfl := nodup_le nd hfn
      -- for k in range(len(arrows))
      refine ⟨_, rfl, a, pvs, rfl, Same.sqx s1 hA, pvs.length, rfl, by omega, by omega, ?_⟩
      have hz : fs[at']? = some fs[at'] := List.getElem?_eq_getElem hlt
      generalize fs[at'] = z at hz
      refine for_range (lo := 0) (n := (pvs.length : Int).toNat) (fun i σ H' => ∃ (fs' : List Nat) (k t h : Option V), σ = [some (.ref a), some (.ref b), some (.ref c), some (.ref d), some (.ref p), some (.int (at' : Int)), k, t, h] ∧ Same H H' ∧ H' p = some (.lst (fs'.map nV)) ∧ fs'.Nodup ∧ (∀ z ∈ fs', z < n) ∧
        fs <+: fs' ∧ (∀ v ∈ fs', Rch (ledE es lt br) S v) ∧ ∀ (j : Nat) (e : Nat × Nat), j < i → es[j]? = some e → j ∉ br → e.2 ∈ lt → e.1 = z → e.2 ∈ fs')
        ⟨fs, k, t, h, rfl, s1, hp1, nd, hfn, List.prefix_refl _, hrc, fun j e hj => absurd hj (Nat.not_lt_zero j)⟩ ?_ ?_
      · rintro i σ H2 hi ⟨fs', k, t, h, rfl, s2, hp2, nd2, hfn2, hpre, hrc2, hcl2⟩
        have hin : i < pvs.length := hi
        have e0 : (0 : Int) + (i : Int) = (i : Int) := Int.zero_add _
        have hiv : pvs[i]? = some pvs[i] := List.getElem?_eq_getElem hin
        have hie : es[i]? = some (es[i]'(by omega)) := List.getElem?_eq_getElem (by omega)
        generalize es[i]'(by omega) = e at hie
        obtain ⟨tt, htt, ht⟩ := hP.at_ i _ _ hiv hie
        obtain ⟨e1, e2⟩ := e
        have hA2 := Same.sqx s2 hA
        have hz2 : fs'[at']? = some z := by
          obtain ⟨r, rfl⟩ := hpre
          rw [List.getElem?_append_left hlt]
          exact hz
        have he2n : e2 < n := he _ (List.mem_of_getElem? hie)
        have keep : ∀ (k' t' h' : Option V), (∀ (hc : i ∉ br ∧ e2 ∈ lt ∧ e1 = z), e2 ∈ fs') → ∃ (fs'' : List Nat) (k t h : Option V), ([some (.ref a), some (.ref b), some (.ref c), some (.ref d), some (.ref p), some (.int (at' : Int)), k', t', h'] : L2.St) = [some (.ref a), some (.ref b), some (.ref c), some (.ref d), some (.ref p), some (.int (at' : Int)), k, t, h] ∧ Same H H2 ∧ H2 p = some (.lst (fs''.map nV)) ∧ fs''.Nodup ∧ (∀ z ∈ fs'', z < n) ∧
            fs <+: fs'' ∧ (∀ v ∈ fs'', Rch (ledE es lt br) S v) ∧ ∀ (j : Nat) (e : Nat × Nat), j < i + 1 → es[j]? = some e → j ∉ br → e.2 ∈ lt → e.1 = z → e.2 ∈ fs'' := fun k' t' h' hc =>
          ⟨fs', k', t', h', rfl, s2, hp2, nd2, hfn2, hpre, hrc2, fun j e hj he3 h1 h2 h3 => by
            by_cases hji : j = i
            · subst hji
              rw [hie] at he3
              cases he3
              exact hc ⟨h1, h2, h3⟩
            · exact hcl2 j e (by omega) he3 h1 h2 h3⟩
        -- tail, head = arrows[k]
        have ix : ∀ (R : V → Hp → Prop), R pvs[i] H2 → rIx K (.ref a) (.int ((0 : Int) + (i : Int))) H2 R := fun R r => by
          rw [e0]
          rcases hA2 with hA2 | hA2
          · exact .inl ⟨a, _, _, _, rfl, rfl, hA2, atI_nat hiv, r⟩
          · exact .inr (.inl ⟨a, _, _, _, rfl, rfl, hA2, atI_nat hiv, r⟩)
        refine ⟨_, rfl, _, rfl, ix _ ⟨tt, _, htt, Same.sqt s2 ht, rfl, _, _, rfl, _, _, rfl, rfl, ?_⟩⟩
        refine ⟨_, rfl, _, rfl, _, rfl, p, _, (at' : Int), nV z, rfl, rfl, sql hp2, atI_nat (by rw [List.getElem?_map, hz2]; rfl), rfl, _, rfl, ?_⟩
        by_cases c1 : e1 = z
        · subst c1
          rw [decide_eq_true (show nV e1 = nV e1 from rfl)]
          refine iteT ⟨_, rfl, _, rfl, d, _, rfl, Same.sqx s2 hD, rfl, flat_nats _, _, rfl, ?_⟩
          have ei : inV (V.int ((0 : Int) + (i : Int))) (br.map nV) = decide (i ∈ br) := by rw [e0]; exact inV_nats i br
          rw [if_pos rfl, ei]
          by_cases c2 : i ∈ br
          · rw [decide_eq_true c2]
            refine iteF ?_
            exact iteF (keep _ _ _ fun z => absurd c2 z.1)
          rw [decide_eq_false c2]
          refine iteT ⟨_, rfl, _, rfl, c, _, rfl, Same.sqx s2 hC, rfl, flat_nats _, _, rfl, ?_⟩
          rw [if_neg Bool.false_ne_true, inV_nats]
          by_cases c3 : e2 ∈ lt
          · rw [decide_eq_true c3]
            refine iteT ⟨_, rfl, _, rfl, p, _, rfl, .inl (sql hp2), rfl, flat_nats _, _, rfl, ?_⟩
            rw [if_pos rfl, inV_nats]
            by_cases c4 : e2 ∈ fs'
            · rw [decide_eq_true c4]
              refine iteF ?_
              exact keep _ _ _ fun _ => c4
            · rw [decide_eq_false c4]
              have hfl2 := nodup_le nd2 hfn2
              refine iteT ⟨_, rfl, .inl ⟨rfl, _, sql hp2⟩, _, rfl, p, _, _, rfl, rfl, hp2, by rw [List.length_map]; exact small_lt (by omega), ?_⟩
              have hre : Rch (ledE es lt br) S e2 := (hrc2 e1 (List.mem_of_getElem? hz2)).edge (mem_ledE.mpr ⟨i, hie, c2, c3⟩)
              refine ⟨fs' ++ [e2], _, _, _, rfl, same_mut s2 np, by rw [upd_same, List.map_append]; rfl, ?_, ?_, hpre.trans (List.prefix_append _ _), ?_, ?_⟩
              · rw [List.nodup_append]
                refine ⟨nd2, by simp, fun x hx y hy => ?_⟩
                rw [List.mem_singleton.mp hy]
                exact fun z => c4 (z ▸ hx)
              · intro x hx
                rcases List.mem_append.mp hx with hx | hx
                · exact hfn2 x hx
                · rw [List.mem_singleton.mp hx]
                  exact he2n
              · intro x hx
                rcases List.mem_append.mp hx with hx | hx
                · exact hrc2 x hx
                · rw [List.mem_singleton.mp hx]
                  exact hre
              · intro j e hj he3 h1 h2 h3
                by_cases hji : j = i
                · subst hji
                  rw [hie] at he3
                  cases he3
                  exact List.mem_append_right _ List.mem_cons_self
                · exact List.mem_append_left _ (hcl2 j e (by omega) he3 h1 h2 h3)
          · rw [decide_eq_false c3]
            refine iteF ?_
            exact iteF (keep _ _ _ fun z => absurd z.2.1 c3)
        · have c1' : ¬ nV e1 = nV z := fun y => by
            have y' : V.int (e1 : Int) = V.int (z : Int) := y
            injection y' with y'
            exact c1 (by omega)
          rw [decide_eq_false c1']
          refine iteF ?_
          exact iteF (keep _ _ _ fun z => absurd z.2.2 c1)
      · rintro σ H2 ⟨fs', k, t, h, rfl, s2, hp2, nd2, hfn2, hpre, hrc2, hcl2⟩
        refine ⟨_, rfl, _, _, rfl, rfl, n - (at' + 1), by omega, at' + 1, fs', k, t, h, rfl, s2, hp2, nd2, hfn2, fun s hs => hpre.subset (hSf s hs), ?_, hrc2, ?_, rfl⟩
        · have := hpre.length_le
          omega
        · intro i v hi hv u hu
          by_cases hia : i = at'
          · subst hia
            obtain ⟨r, rfl⟩ := hpre
            rw [List.getElem?_append_left hlt, hz] at hv
            cases hv
            obtain ⟨j, h1, h2, h3⟩ := mem_ledE.mp hu
            exact hcl2 j _ (by have := (List.getElem?_eq_some_iff.mp h1).1; show j < pvs.length; omega) h1 h2 h3 rfl
          · obtain ⟨r, rfl⟩ := id hpre
            rw [List.getElem?_append_left (by omega)] at hv
            exact hpre.subset (hcl i v (by omega) hv u hu)
    · rw [decide_eq_false (show ¬ (at' : Int) < (fs.length : Int) by omega)]
      refine iteF ⟨_, rfl, q p H1 fs s1 np hp1 nd fun v => ⟨hrc v, fun hv => ?_⟩⟩
      refine hv.ind hSf fun u v' hu he' => ?_
      obtain ⟨i, hi⟩ := List.getElem?_of_mem hu
      exact hcl i u (by have := (List.getElem?_eq_some_iff.mp hi).1; omega) hi v' he'

/-- the parts of a map as a tuple -/
structure PtsAt (K : PySem.W.Frag) (H : Hp) (t : Addr) (n : Nat) (a : Addr) (pvs : List V) (es : Es) (c : Addr) (gs : List Nat) : Prop where
  tp : SqT K H t [nV n, .ref a, .ref c]
  ar : SqT K H a pvs
  pr : Prs K H pvs es
  go : SqT K H c (gs.map nV)
  gm : GoodMap n es gs
theorem PtsAt.same {K : PySem.W.Frag} {H H' : Hp} {t : Addr} {n : Nat} {a : Addr} {pvs : List V} {es : Es} {c : Addr} {gs : List Nat} (h : PtsAt K H t n a pvs es c gs) (s : Same H H') : PtsAt K H' t n a pvs es c gs :=
  ⟨Same.sqt s h.tp, Same.sqt s h.ar, h.pr.same s, Same.sqt s h.go, h.gm⟩
theorem GoodMap.gl2 {n : Nat} {es : Es} {gs : List Nat} (g : GoodMap n es gs) : gs.length ≤ n - 0 := pw_len g.pw fun x hx => ⟨Nat.zero_le _, (g.gl x hx).2⟩

abbrev s__law_is_world : Stmt := topS 81
abbrev sl__law_is_world : List Str := ["_law_parts_here", "_law_rotten", "_law_many", "_law_arrows", "_law_goals", "_law_there", "_law_goal"]
theorem sc__law_is_world : FnScope ["_law_parts_here", "_law_rotten", "_law_many", "_law_arrows", "_law_goals", "_law_there", "_law_goal"] ["_law_parts_here", "_law_rotten"] (defScope s__law_is_world) := ⟨rfl, rfl, rfl, by decide +kernel, rfl, by decide +kernel, by decide +kernel⟩
theorem rch_led_left {n : Nat} {es : Es} {br S : List Nat} (h : ∀ e ∈ es, e.2 < n) {v : Nat} : Rch (ledE es (List.range n) br) S v ↔ Rch (left es br) S v := by
  constructor
  · exact Rch.mono (fun e he => by
      obtain ⟨k, h1, h2, _⟩ := mem_ledE.mp he
      exact mem_leftV.mpr ⟨k, h1, h2⟩) fun _ h => h
  · exact Rch.mono (fun e he => by
      obtain ⟨k, h1, h2⟩ := mem_leftV.mp he
      exact mem_ledE.mpr ⟨k, h1, h2, List.mem_range.mpr (h e (List.mem_of_getElem? h1))⟩) fun _ h => h
def spIsWorld (K : PySem.W.Frag) : Sp := fun vs H Q _ => ∃ (t : Addr) (n : Nat) (a : Addr) (pvs : List V) (es : Es) (c : Addr) (gs : List Nat) (d : Addr) (br : List Nat), vs = [.ref t, .ref d] ∧ PtsAt K H t n a pvs es c gs ∧ SqX K H d (br.map nV) ∧
  ∀ H' (ok : Bool), Same H H' → (ok = true ↔ ∀ g ∈ gs, Rch (left es br) [0] g) → Q (.bl ok) H'
theorem ok__law_is_world (B : Bt mg) (h_law_led : Has P w K mg base "_law_led" 1 ["_law_arrows", "_law_begun", "_law_let", "_law_barred"] (spLed K)) (D0 : Df K mg "_law_is_world" s__law_is_world ["_law_parts_here", "_law_rotten"]) : Has P w K mg base "_law_is_world" 2 ["_law_parts_here", "_law_rotten"] (spIsWorld K) := by
  refine D0.has fun f fd F => F.ok sc__law_is_world (fun vs H Q E h => ?_) (fun cdv A outer s H vs Q E hr h => ?_)
  · obtain ⟨t, n, a, pvs, es, c, gs, d, br, rfl, _⟩ := h
    rfl
  · obtain ⟨t, n, a, pvs, es, c, gs, d, br, rfl, hp, hd, q⟩ := h
    refine ⟨_, (pss_cons (ps_asg (pv 0) (pg_tup rfl (pgs_cons (pg_name (i := 2) sc__law_is_world.nd rfl (.inl rfl)) (pgs_cons (pg_name (i := 3) sc__law_is_world.nd rfl (.inl rfl)) (pgs_cons (pg_name (i := 4) sc__law_is_world.nd rfl (.inl rfl)) pgs_nil)))))
  (pss_cons (ps_set (i := 5) sc__law_is_world.nd rfl (.inr rfl) (pcall h_law_led hr (by decide) (by rfl) (pa_cons (pv 3) (pa_cons (pe_lst (pa_cons pe_int pa_nil)) (pa_cons (pe_listRg rfl (by rfl) B.list (prg_1 (by rfl) B.range (pv 2))) (pa_cons (pv 1) pa_nil))))))
  (pss_one (ps_ret (pe_callB (k_all (K := K) rfl rfl) (by rfl) B.all bo_all (pa_cons (pe_lc (own := [("_law_goal", 6)]) (g := gName 6) rfl sc__law_is_world.nd (k_pit (K := K) rfl (pv 4)) (blkOk_by (N := sl__law_is_world) (sc := defScope s__law_is_world) (by decide +kernel)) (fun _ _ _ _ _ => (pg_name (i := 6) sc__law_is_world.nd rfl (.inl rfl))) (fun _ _ _ _ _ => pts_nil) (fun _ _ _ _ _ => (pe_cmpR (k_in (K := K) rfl) (pv 6) (pv 5) (by rfl)))) pa_nil)))))), ?_⟩
    have gn := hp.gm.n40
    have g2 := hp.gm.n2
    have g60 := hp.gm.l60
    have ggl := hp.gm.gl2
    refine ⟨_, rfl, t, _, rfl, hp.tp, rfl, _, _, rfl, _, _, rfl, _, _, rfl, rfl, ?_⟩
    refine ⟨_, rfl, Nat.le_of_lt (small_lt (by decide : 1 ≤ 100000)), fun z nz => ⟨_, rfl, (n : Int), rfl, ⟨by omega, by omega, by omega, by omega, by omega⟩, fun r nr => ⟨_, rfl, ?_⟩⟩⟩
    have s1 := same_new (o := .lst [.int 0]) (Same.refl H) nz
    have s2 := same_new (o := .lst (rgV 0 (n : Int))) s1 nr
    have hz2 : upd (upd H z (.lst [.int 0])) r (.lst (rgV 0 (n : Int))) z = some (.lst [.int 0]) := by rw [upd_ne (ne_of_none (upd_same) nr), upd_same]
    refine ⟨a, z, r, d, pvs, es, [0], List.range n, br, n, rfl, .inr (Same.sqt s2 hp.ar), hp.pr.same s2, .inl (sql hz2), .inl (sql (by rw [upd_same, rgV0])), Same.sqx s2 hd, fun e he => (hp.gm.ok e he).2.1, fun x hx => by rw [List.mem_singleton.mp hx]; omega, by simp, by omega, by omega,
      fun p H3 fs s3 np hp3 nd hfs => ?_⟩
    have sm : Same H H3 := Same.trans s2 s3
    refine ⟨_, rfl, c, rfl, ⟨_, Same.sqt sm hp.go⟩, fun D nD => ?_⟩
    refine lc_val walk_tup calm_at (fun i => (gs[i]?).bind fun g => some (V.bl (decide (g ∈ fs)))) (by rw [List.length_map]; omega) nD (fun H4 s4 => Same.sqt (sm.trans s4) hp.go) ?_ fun H4 s4 h4 => ?_
    · rintro i v H4 H5 hi s4 ⟨rfl, hv⟩ Kt kt
      obtain ⟨g, hgi, rfl⟩ := getmap hv
      refine ⟨rfl, tyes ?_⟩
      refine iteT ?_
      refine ⟨_, rfl, _, rfl, p, _, rfl, .inl (sql (s4 _ _ hp3)), rfl, flat_nats _, ?_⟩
      rw [if_neg Bool.false_ne_true, inV_nats]
      have k0 := kt _ (Same.refl _)
      rw [hgi] at k0
      exact k0
    · rw [List.length_map, fm_range, fm_some] at h4
      refine ⟨D, gs.map fun g => decide (g ∈ fs), rfl, sql (by rw [h4, List.map_map]; rfl), ?_⟩
      refine q H4 _ (sm.trans s4) ?_
      rw [List.all_eq_true]
      have hiff : ∀ g, g ∈ fs ↔ Rch (left es br) [0] g := fun g => (hfs g).trans (rch_led_left fun e he => (hp.gm.ok e he).2.1)
      constructor
      · intro h g hg
        exact (hiff g).mp (of_decide_eq_true (h _ (List.mem_map.mpr ⟨g, hg, rfl⟩)))
      · intro h x hx
        obtain ⟨g, hg, rfl⟩ := List.mem_map.mp hx
        exact decide_eq_true ((hiff g).mpr (h g hg))

abbrev s__law_is_standing : Stmt := topS 82
abbrev sl__law_is_standing : List Str := ["_law_parts_here", "_law_reached", "_law_rotten", "_law_there", "_law_k"]
theorem sc__law_is_standing : FnScope ["_law_parts_here", "_law_reached", "_law_rotten", "_law_there", "_law_k"] ["_law_parts_here", "_law_reached", "_law_rotten"] (defScope s__law_is_standing) := ⟨rfl, rfl, rfl, by decide +kernel, rfl, by decide +kernel, by decide +kernel⟩
/-- what the law asks of reached places and rotten arrows -/
structure StdL (es : Es) (gs rs ls : List Nat) : Prop where
  r0 : 0 ∈ rs
  tl : ∀ l ∈ ls, ∀ e, es[l]? = some e → e.1 ∈ rs
  hold : ∀ r ∈ rs, Rch (ledE es rs ls) [0] r
  opn : ∀ g ∈ gs, Rch (left es ls) [0] g
theorem led_sub {es : Es} {rs ls : List Nat} (h0 : 0 ∈ rs) {v : Nat} (h : Rch (ledE es rs ls) [0] v) : v ∈ rs :=
  h.ind (fun v hv => by rw [List.mem_singleton.mp hv]; exact h0) fun u v _ e => by
    obtain ⟨k, _, _, h2⟩ := mem_ledE.mp e
    exact h2
def spIsStdL (K : PySem.W.Frag) : Sp := fun vs H Q _ => ∃ (t : Addr) (n : Nat) (a : Addr) (pvs : List V) (es : Es) (c : Addr) (gs : List Nat) (x y : Addr) (rs ls : List Nat), vs = [.ref t, .ref x, .ref y] ∧ PtsAt K H t n a pvs es c gs ∧
  SqX K H x (rs.map nV) ∧ SqX K H y (ls.map nV) ∧ rs.Nodup ∧ (∀ r ∈ rs, r < n) ∧ (∀ l ∈ ls, l < es.length) ∧ ls.length ≤ 1000 ∧
  ∀ H' (ok : Bool), Same H H' → (ok = true ↔ StdL es gs rs ls) → Q (.bl ok) H'
theorem ok__law_is_standing (B : Bt mg) (h_law_led : Has P w K mg base "_law_led" 1 ["_law_arrows", "_law_begun", "_law_let", "_law_barred"] (spLed K)) (h_law_is_world : Has P w K mg base "_law_is_world" 2 ["_law_parts_here", "_law_rotten"] (spIsWorld K))
    (D0 : Df K mg "_law_is_standing" s__law_is_standing ["_law_parts_here", "_law_reached", "_law_rotten"]) : Has P w K mg base "_law_is_standing" 3 ["_law_parts_here", "_law_reached", "_law_rotten"] (spIsStdL K) := by
  refine D0.has fun f fd F => F.ok sc__law_is_standing (fun vs H Q E h => ?_) (fun cdv A outer s H vs Q E hr h => ?_)
  · obtain ⟨t, n, a, pvs, es, c, gs, x, y, rs, ls, rfl, _⟩ := h
    rfl
  · obtain ⟨t, n, a, pvs, es, c, gs, x, y, rs, ls, rfl, hp, hx, hy, hrd, hrn, hln, hll, q⟩ := h
    refine ⟨_, (pss_cons (ps_if (PW.pt (pw_or (pt_cmpR (k_notin (K := K) rfl) pe_int (pv 1) (by rfl)) (pw_or1 (pt_not (pt_val (pe_callB (k_all (K := K) rfl rfl) (by rfl) B.all bo_all (pa_cons (pe_lc (own := [("_law_k", 4)]) (g := gName 4) rfl sc__law_is_standing.nd (k_pis (K := K) rfl (pv 2)) (blkOk_by (N := sl__law_is_standing) (sc := defScope s__law_is_standing) (by decide +kernel)) (fun _ _ _ _ _ => (pg_name (i := 4) sc__law_is_standing.nd rfl (.inl rfl))) (fun _ _ _ _ _ => pts_nil) (fun _ _ _ _ _ => (pe_cmpR (k_in (K := K) rfl) (pe_ix (k_ixt (K := K) rfl) (pe_ix (k_ixt (K := K) rfl) (pe_ix (k_ixt (K := K) rfl) (pv 0) pe_int (fun _ _ => rfl)) (pv 4) (fun _ _ => rfl)) pe_int (fun _ _ => rfl)) (pv 1) (by rfl)))) pa_nil)))))))
    (pss_one (ps_ret pe_bl))
    pss_nil)
  (pss_cons (ps_set (i := 3) sc__law_is_standing.nd rfl (.inl rfl) (pcall h_law_led hr (by decide) (by rfl) (pa_cons (pe_ix (k_ixt (K := K) rfl) (pv 0) pe_int (fun _ _ => rfl)) (pa_cons (pe_lst (pa_cons pe_int pa_nil)) (pa_cons (pv 1) (pa_cons (pv 2) pa_nil))))))
  (pss_one (ps_ret (pe_and (pe_cmpR op_eq (pe_callB (k_len (K := K) rfl) (by rfl) B.len bo_len (pa_cons (pv 3) pa_nil)) (pe_callB (k_len (K := K) rfl) (by rfl) B.len bo_len (pa_cons (pv 1) pa_nil)) (nomark _)) (pe_one (pcall h_law_is_world hr (by decide) (by rfl) (pa_cons (pv 0) (pa_cons (pv 2) pa_nil))))))))), ?_⟩
    have gn := hp.gm.n40
    have g2 := hp.gm.n2
    have g60 := hp.gm.l60
    have hl := hp.pr.len
    refine ⟨_, rfl, x, _, rfl, hx, rfl, flat_nats _, _, rfl, ?_⟩
    rw [if_pos rfl, show V.int 0 = nV 0 from rfl, inV_nats]
    by_cases h0 : 0 ∈ rs
    · rw [decide_eq_true h0]
      refine iteF ?_
      -- the tails
      refine ⟨_, rfl, y, rfl, ?_⟩
      refine lc_seq hy (Same.refl H) (fun i => (ls[i]?).bind fun l => some (V.bl (match es[l]? with
        | some e => decide (e.1 ∈ rs)
        | none => false))) (by rw [List.length_map]; omega) ?_ fun H1 D s1 nD h1 => ?_
      · rintro i v H4 H5 hi s4 ⟨rfl, hv⟩ Kt kt
        obtain ⟨l, hli, rfl⟩ := getmap hv
        have hlm := hln l (List.mem_of_getElem? hli)
        have hle : es[l]? = some es[l] := List.getElem?_eq_getElem hlm
        have hlp : l < pvs.length := by omega
        have hlv : pvs[l]? = some pvs[l] := List.getElem?_eq_getElem hlp
        have h4 := hp.same s4
        obtain ⟨tt, htt, ht⟩ := h4.pr.at_ l _ _ hlv hle
        refine ⟨rfl, tyes ?_⟩
        refine iteT ?_
        refine ⟨_, rfl, t, _, (1 : Nat), .ref a, rfl, rfl, h4.tp, atI_nat rfl, _, rfl, a, pvs, (l : Int), _, rfl, rfl, h4.ar, atI_nat hlv, tt, _, (0 : Nat), nV es[l].1, htt, rfl, ht, atI_nat rfl, _, rfl, x, _, rfl, Same.sqx s4 hx, rfl, flat_nats _, ?_⟩
        rw [if_neg Bool.false_ne_true, inV_nats]
        have k0 := kt _ (Same.refl _)
        rw [hli] at k0
        simp only [Option.bind_some] at k0
        rw [hle] at k0
        exact k0
      rw [List.length_map, fm_range, fm_some] at h1
      refine ⟨D, ls.map fun l => (match es[l]? with
        | some e => decide (e.1 ∈ rs)
        | none => false), rfl, sql (by rw [h1, List.map_map]; rfl), _, rfl, ?_⟩
      have htl : ((ls.map fun l => (match es[l]? with
        | some e => decide (e.1 ∈ rs)
        | none => false)).all id) = true ↔ ∀ l ∈ ls, ∀ e, es[l]? = some e → e.1 ∈ rs := by
        rw [List.all_eq_true]
        constructor
        · intro h l hl e he
          have := h _ (List.mem_map.mpr ⟨l, hl, rfl⟩)
          rw [he] at this
          exact of_decide_eq_true this
        · intro h z hz
          obtain ⟨l, hl, rfl⟩ := List.mem_map.mp hz
          have hle : es[l]? = some (es[l]'(hln l hl)) := List.getElem?_eq_getElem (hln l hl)
          rw [hle]
          exact decide_eq_true (h l hl _ hle)
      cases hb : (ls.map fun l => (match es[l]? with
        | some e => decide (e.1 ∈ rs)
        | none => false)).all id with
      | false =>
        refine iteT (q H1 false s1 ⟨fun z => Bool.noConfusion z, fun z => ?_⟩)
        rw [htl.mpr z.tl] at hb
        cases hb
      | true =>
        refine iteF ?_
        have h1p := hp.same s1
        -- led
        refine ⟨_, rfl, t, _, (1 : Nat), .ref a, rfl, rfl, h1p.tp, atI_nat rfl, Nat.le_of_lt (small_lt (by decide : 1 ≤ 100000)), fun z nz => ⟨_, rfl, _, rfl, ?_⟩⟩
        have s2 := same_new (o := .lst [.int 0]) s1 nz
        refine ⟨a, z, x, y, pvs, es, [0], rs, ls, n, rfl, .inr (Same.sqt s2 hp.ar), hp.pr.same s2, .inl (sql upd_same), Same.sqx s2 hx, Same.sqx s2 hy, fun e he => (hp.gm.ok e he).2.1, fun x hx => by rw [List.mem_singleton.mp hx]; omega, by simp, by omega, by omega,
          fun p H3 fs s3 np hp3 nd hfs => ?_⟩
        have sm : Same H H3 := Same.trans s2 s3
        refine ⟨_, rfl, p, _, rfl, .inl (sql hp3), _, rfl, x, _, rfl, Same.sqx sm hx, rfl, _, rfl, ?_⟩
        have hsub : fs ⊆ rs := fun v hv => led_sub h0 ((hfs v).mp hv)
        have hhold : decide (V.int ((fs.map nV).length : Int) = V.int ((rs.map nV).length : Int)) = true ↔ ∀ r ∈ rs, Rch (ledE es rs ls) [0] r := by
          rw [decide_eq_true_eq, List.length_map, List.length_map]
          constructor
          · intro e r hr
            injection e with e
            refine (hfs r).mp (Classical.byContradiction fun z => ?_)
            have h5 : (r :: fs).length ≤ rs.length := (List.nodup_cons.mpr ⟨z, nd⟩).length_le_of_subset fun v hv => by
              rcases List.mem_cons.mp hv with rfl | hv
              · exact hr
              · exact hsub hv
            rw [List.length_cons] at h5
            omega
          · intro h
            have h6 := nd.length_le_of_subset hsub
            have h7 := hrd.length_le_of_subset fun v hv => (hfs v).mpr (h v hv)
            congr 1
            omega
        cases hb2 : decide (V.int ((fs.map nV).length : Int) = V.int ((rs.map nV).length : Int)) with
        | false =>
          refine iteF (q H3 false sm ⟨fun z => Bool.noConfusion z, fun z => ?_⟩)
          rw [hhold.mpr z.hold] at hb2
          cases hb2
        | true =>
          refine iteT ⟨_, rfl, _, rfl, t, n, a, pvs, es, c, gs, y, ls, rfl, hp.same sm, Same.sqx sm hy, fun H5 ok s5 hok => q H5 ok (sm.trans s5) ?_⟩
          rw [hok]
          exact ⟨fun z => ⟨h0, htl.mp hb, hhold.mp hb2, z⟩, fun z => z.opn⟩
    · rw [decide_eq_false h0]
      refine iteT ?_
      refine iteT (q H false (Same.refl H) ⟨fun z => Bool.noConfusion z, fun z => absurd z.r0 h0⟩)

abbrev s__law_hand : Stmt := topS 74
abbrev sl__law_hand : List Str := ["_law_script", "_law_cells", "_law_cell"]
theorem sc__law_hand : FnScope ["_law_script", "_law_cells", "_law_cell"] ["_law_script"] (defScope s__law_hand) := ⟨rfl, rfl, rfl, by decide +kernel, rfl, by decide +kernel, by decide +kernel⟩
def spHand (K : PySem.W.Frag) : Sp := fun vs H Q _ => ∃ (a : Addr) (ns : List Int) (F : Hp), vs = [.ref a] ∧ SqL K H a (ns.map V.int) ∧ ns.length ≤ 1000 ∧ Same F H ∧
  ∀ h F' H', Grow (fun _ => False) F H F' H' → HandAt F' H' h → Q (.ref h) H'
theorem cutV_int (ns : List Int) (lo hi : Option Int) : ∃ ms : List Int, cutV (ns.map V.int) lo hi = ms.map V.int ∧ ms.length ≤ ns.length := by
  unfold cutV
  rw [← List.map_drop, ← List.map_take]
  refine ⟨_, rfl, ?_⟩
  rw [List.length_take, List.length_drop]
  omega
theorem ok__law_hand (B : Bt mg) (D0 : Df K mg "_law_hand" s__law_hand ["_law_script"]) : Has P w K mg base "_law_hand" 1 ["_law_script"] (spHand K) := by
  refine D0.has fun f fd F => F.ok sc__law_hand (fun vs H Q E h => ?_) (fun cdv A outer s H vs Q E hr h => ?_)
  · obtain ⟨a, ns, F, rfl, _⟩ := h
    rfl
  · obtain ⟨a, ns, F0, rfl, hS, hl, hF, q⟩ := h
    refine ⟨_, (pss_cons (ps_setLc (i := 1) (own := [("_law_cell", 2)]) (g := gName 2) rfl sc__law_hand.nd rfl rfl (sw_true rfl rfl rfl (by decide +kernel)) (k_pil (K := K) rfl (pe_slice (k_sll (K := K) rfl) (pv 0) po_none (po_some pe_int))) (blkOk_by (N := sl__law_hand) (sc := defScope s__law_hand) (by decide +kernel)) (fun _ _ _ _ _ => (pg_name (i := 2) sc__law_hand.nd rfl (.inl rfl))) (fun _ _ _ _ _ => pts_nil) (fun _ _ _ _ _ => (pe_callB call_abs (by rfl) B.abs bo_abs (pa_cons (pe_callTy call_int1 (by rfl) B.int bo_int (pa_cons (pv 2) pa_nil)) pa_nil))))
  (pss_one (ps_ret (pe_lst (pa_cons (pv 1) (pa_cons pe_int (pa_cons pe_int (pa_cons (pe_op op_add pe_int (pe_callB (k_len (K := K) rfl) (by rfl) B.len bo_len (pa_cons (pv 1) pa_nil))) (pa_cons pe_int pa_nil))))))))), ?_⟩
    obtain ⟨ms, hms, hml⟩ := cutV_int ns none (some 63)
    refine ⟨_, rfl, _, rfl, a, _, rfl, hS, fun p np => ⟨p, rfl, ⟨_, sql upd_same⟩, fun D nD => ?_⟩⟩
    rw [hms] at nD ⊢
    have s1 := same_new (o := .lst (ms.map V.int)) (Same.refl H) np
    refine lc_val (walk_list (xs := ms.map V.int)) calm_at (fun i => (ms[i]?).bind fun z => some (V.int (if z < 0 then -z else z))) (by rw [List.length_map]; omega) nD (fun H3 s3 => sql (s3 _ _ upd_same)) ?_ fun H3 s3 h3 => ?_
    · rintro i v H3 H4 hi s3 ⟨rfl, hv⟩ Kt kt
      obtain ⟨z, hz, rfl⟩ := getmap hv
      refine ⟨rfl, tyes ?_⟩
      refine iteT ?_
      refine ⟨_, rfl, .inl ⟨z, rfl, z, rfl, ?_⟩⟩
      have k0 := kt _ (Same.refl _)
      rw [hz] at k0
      exact k0
    · rw [List.length_map, fm_range, fm_some] at h3
      have eC : (ms.map fun z => V.int (if z < 0 then -z else z)) = (ms.map fun z => if z < 0 then -z else z).map V.int := by
        rw [List.map_map]
        rfl
      rw [eC] at h3
      refine ⟨_, rfl, _, rfl, D, _, rfl, .inl (sql h3), _, _, rfl, rfl, Nat.le_of_lt (small_lt (by decide : 5 ≤ 100000)), fun hh nh => ?_⟩
      have sm : Same H H3 := Same.trans s1 s3
      have hDh : D ≠ hh := ne_of_none h3 nh
      have sm2 := same_new (o := handO D 0 0 (1 + (((ms.map fun z => if z < 0 then -z else z).map V.int).length : Int)) 0) sm nh
      refine q hh (upd F0 D (.lst ((ms.map fun z => if z < 0 then -z else z).map V.int))) _ ⟨fun b o _ e => sm2 _ _ e, fun b hb z => ?_, ?_, ?_, ?_⟩ ⟨⟨D, _, 0, 0, _, 0, upd_same, upd_same, Int.le_refl _⟩, ?_⟩
      · cases e : H b with
        | none => exact hb e
        | some o => exact absurd ((sm2 _ _ e).symm.trans z) (by intro y; cases y)
      · exact same_new (Same.refl F0) (Same.free (hF.trans s1) nD)
      · intro b o e
        by_cases hb : b = D
        · subst hb
          rw [upd_same] at e
          rw [upd_ne hDh, h3]
          exact e
        · rw [upd_ne hb] at e
          exact sm2 _ _ (hF _ _ e)
      · intro b h1 h2
        by_cases hb : b = D
        · rw [hb]
          exact Same.free s1 nD
        · rw [upd_ne hb] at h1
          exact absurd h2 h1
      · rw [upd_ne hDh.symm]
        exact Same.free (hF.trans sm) nh

abbrev s__law_draw : Stmt := topS 75
abbrev sl__law_draw : List Str := ["_law_hand_here", "_law_many", "_law_cell", "_law_digit", "_law_number"]
theorem sc__law_draw : FnScope ["_law_hand_here", "_law_many", "_law_cell", "_law_digit", "_law_number"] ["_law_hand_here", "_law_many"] (defScope s__law_draw) := ⟨rfl, rfl, rfl, by decide +kernel, rfl, by decide +kernel, by decide +kernel⟩
theorem cells_at {cells : List Int} {i : Int} (h0 : 0 ≤ i) (h1 : i < (cells.length : Int)) : ∃ z, atI (cells.map V.int) i = some (.int z) := by
  obtain ⟨j, rfl⟩ : ∃ j : Nat, i = (j : Int) := ⟨i.toNat, by omega⟩
  have hj : j < cells.length := by omega
  exact ⟨cells[j], atI_nat (by rw [List.getElem?_map, List.getElem?_eq_getElem hj]; rfl)⟩
theorem cm1 {a b : Int} : CMul (a % 2147483647) b :=
  .inl ⟨Int.lt_of_lt_of_le (by decide) (Int.emod_nonneg a (by decide)), Int.lt_trans (Int.emod_lt_of_pos a (by decide)) (by decide)⟩
theorem ok__law_draw (B : Bt mg) (D0 : Df K mg "_law_draw" s__law_draw ["_law_hand_here", "_law_many"]) : Has P w K mg base "_law_draw" 1 ["_law_hand_here", "_law_many"] spDraw := by
  refine D0.has fun f fd F => F.ok sc__law_draw (fun vs H Q E h => ?_) (fun cdv A outer s H vs Q E hr h => ?_)
  · obtain ⟨h, m, F, rfl, _⟩ := h
    rfl
  · obtain ⟨h, m, F0, rfl, hm0, hml, hF, hA, q⟩ := h
    refine ⟨_, (C8.pss_cut (ps_if (PW.pt (pw_and (pt_cmpR op_eq (pe_ix (k_ixl (K := K) rfl) (pv 0) pe_int (fun _ _ => rfl)) pe_int (nomark _)) (pw_and1 (pt_cmpR op_lt (pe_ix (k_ixl (K := K) rfl) (pv 0) pe_int (fun _ _ => rfl)) (pe_callB (k_len (K := K) rfl) (by rfl) B.len bo_len (pa_cons (pe_ix (k_ixl (K := K) rfl) (pv 0) pe_int (fun _ _ => rfl)) pa_nil)) (nomark _)))))
    (pss_cons (ps_set (i := 2) sc__law_draw.nd rfl (.inl rfl) (pe_ix (k_ixl (K := K) rfl) (pe_ix (k_ixl (K := K) rfl) (pv 0) pe_int (fun _ _ => rfl)) (pe_ix (k_ixl (K := K) rfl) (pv 0) pe_int (fun _ _ => rfl)) (fun _ _ => rfl)))
  (pss_cons (ps_asg (pe_op op_add (pe_ix (k_ixl (K := K) rfl) (pv 0) pe_int (fun _ _ => rfl)) pe_int) (pg_sub (pv 0) pe_int set_list))
  (pss_cons (ps_asg (pe_op op_mod (pe_callTy call_int1 (by rfl) B.int bo_int (pa_cons (pe_op op_add (pe_op op_add (pe_op op_mul (pe_ix (k_ixl (K := K) rfl) (pv 0) pe_int (fun _ _ => rfl)) pe_int) (pv 2)) pe_int) pa_nil)) pe_int) (pg_sub (pv 0) pe_int set_list))
  (pss_one (ps_if (pt_cmpR op_ge (pv 2) (pe_op op_pow pe_int pe_int) (nomark _))
    (pss_one (ps_asg (pv 2) (pg_sub (pv 0) pe_int set_list)))
    pss_nil)))))
    pss_nil)
  (pss_cons (ps_if (pt_cmpR op_gt (pe_ix (k_ixl (K := K) rfl) (pv 0) pe_int (fun _ _ => rfl)) pe_int (nomark _))
    (pss_cons (ps_set (i := 3) sc__law_draw.nd rfl (.inl rfl) (pe_op op_mod (pe_callTy call_int1 (by rfl) B.int bo_int (pa_cons (pe_ix (k_ixl (K := K) rfl) (pv 0) pe_int (fun _ _ => rfl)) pa_nil)) (pv 1)))
  (pss_cons (ps_asg (pe_op op_fdivW (pe_ix (k_ixl (K := K) rfl) (pv 0) pe_int (fun _ _ => rfl)) (pv 1)) (pg_sub (pv 0) pe_int set_list))
  (pss_one (ps_ret (pv 3)))))
    pss_nil)
  (pss_cons (ps_asg (pe_op op_add (pe_ix (k_ixl (K := K) rfl) (pv 0) pe_int (fun _ _ => rfl)) pe_int) (pg_sub (pv 0) pe_int set_list))
  (pss_cons (ps_set (i := 4) sc__law_draw.nd rfl (.inl rfl) (pe_op op_mod (pe_callTy call_int1 (by rfl) B.int bo_int (pa_cons (pe_op op_mul (pe_callTy call_int1 (by rfl) B.int bo_int (pa_cons (pe_op op_add (pe_ix (k_ixl (K := K) rfl) (pv 0) pe_int (fun _ _ => rfl)) (pe_op op_mul pe_int (pe_ix (k_ixl (K := K) rfl) (pv 0) pe_int (fun _ _ => rfl)))) pa_nil)) pe_int) pa_nil)) pe_int))
  (pss_cons (ps_set (i := 4) sc__law_draw.nd rfl (.inl rfl) (pe_op op_mod (pe_callTy call_int1 (by rfl) B.int bo_int (pa_cons (pe_op op_mul (pv 4) (pe_op op_add (pe_op op_fdiv (pv 4) pe_int) pe_int)) pa_nil)) pe_int))
  (pss_cons (ps_set (i := 4) sc__law_draw.nd rfl (.inl rfl) (pe_op op_mod (pe_callTy call_int1 (by rfl) B.int bo_int (pa_cons (pe_op op_mul (pv 4) (pe_op op_add (pe_op op_fdiv (pv 4) pe_int) pe_int)) pa_nil)) pe_int))
  (pss_one (ps_ret (pe_op op_mod (pe_callTy call_int1 (by rfl) B.int bo_int (pa_cons (pe_op op_fdiv (pv 4) pe_int) pa_nil)) (pv 1)))))))))), ?_⟩
    refine ⟨fun σ H' => ∃ x2, σ = [some (.ref h), some (.int m), x2, none, none] ∧ HandAt F0 H' h ∧ Same F0 H' ∧ ∀ b, b ≠ h → H' b = H b, ?_, ?_⟩
    · obtain ⟨c, cells, i, r, s, k, hh, hc, hi⟩ := hA.ob
      have hcH : H c = some (.lst (cells.map V.int)) := hF _ _ hc
      have stay : ∃ x2, ([some (.ref h), some (.int m), none, none, none] : L2.St) = [some (.ref h), some (.int m), x2, none, none] ∧ HandAt F0 H h ∧ Same F0 H ∧ ∀ b, b ≠ h → H b = H b := ⟨none, rfl, hA, hF, fun _ _ => rfl⟩
      refine ⟨_, rfl, h, _, (2 : Nat), .int r, rfl, rfl, sql hh, atI_nat rfl, rfl, _, rfl, ?_⟩
      by_cases hr0 : r = 0
      · rw [hr0, decide_eq_true (rfl : V.int 0 = V.int 0)]
        refine iteT ⟨_, rfl, h, _, (1 : Nat), .int i, rfl, rfl, sql hh, atI_nat rfl, _, rfl, h, _, (0 : Nat), .ref c, rfl, rfl, sql hh, atI_nat rfl, c, _, rfl, .inl (sql hcH), _, _, rfl, rfl, _, rfl, ?_⟩
        rw [List.length_map]
        by_cases hic : i < (cells.length : Int)
        · rw [decide_eq_true hic]
          refine iteT ?_
          obtain ⟨z, hz⟩ := cells_at hi hic
          have nch : c ≠ h := fun e => by
            have := hA.nF
            rw [← e, hc] at this
            cases this
          refine ⟨_, rfl, h, _, (0 : Nat), .ref c, rfl, rfl, sql hh, atI_nat rfl, _, rfl, h, _, (1 : Nat), .int i, rfl, rfl, sql hh, atI_nat rfl, c, _, i, .int z, rfl, rfl, sql hcH, hz, ?_⟩
          refine ⟨_, rfl, h, _, (1 : Nat), .int i, rfl, rfl, sql hh, atI_nat rfl, _, _, rfl, rfl, _, rfl, h, _, (1 : Nat), 1, rfl, rfl, hh, ixN_nat (by show 1 < 5; decide), ?_⟩
          refine ⟨_, rfl, h, _, (3 : Nat), .int s, rfl, rfl, sql upd_same, atI_nat rfl, s, 69621, rfl, rfl, .inr ⟨by decide, by decide⟩, _, rfl, _, _, rfl, rfl, _, _, rfl, rfl, .inl ⟨_, rfl, _, _, rfl, rfl, (by show (0 : Int) < 2147483629; decide), _, rfl, h, _, (3 : Nat), 3, rfl, rfl, upd_same, ixN_nat (by show 3 < 5; decide), ?_⟩⟩
          rw [upd_upd]
          refine ⟨_, rfl, _, _, rfl, rfl, ⟨by decide, by decide, by decide⟩, _, _, rfl, rfl, _, rfl, ?_⟩
          by_cases hbig : (10 : Int) ^ (18 : Int).toNat ≤ z
          · rw [decide_eq_true hbig]
            refine iteT ?_
            refine ⟨_, rfl, _, rfl, h, _, (2 : Nat), 2, rfl, rfl, upd_same, ixN_nat (by show 2 < 5; decide), ?_⟩
            rw [upd_upd]
            exact ⟨_, rfl, (drew_upd hF hA.nF hc (by omega)).hand, same_mut hF hA.nF, fun b hb => upd_ne hb⟩
          · rw [decide_eq_false hbig]
            refine iteF ?_
            exact ⟨_, rfl, (drew_upd hF hA.nF hc (by omega)).hand, same_mut hF hA.nF, fun b hb => upd_ne hb⟩
        · rw [decide_eq_false hic]
          refine iteF ?_
          exact stay
      · have : ¬ V.int r = V.int 0 := fun z => hr0 (by injection z)
        rw [decide_eq_false this]
        refine iteF ?_
        exact iteF stay
    · rintro σ H1 ⟨x2, rfl, hA1, hF1, hk1⟩
      obtain ⟨c, cells, i, r, s, k, hh, hc, hi⟩ := hA1.ob
      refine ⟨_, rfl, h, _, (2 : Nat), .int r, rfl, rfl, sql hh, atI_nat rfl, _, _, rfl, rfl, _, rfl, ?_⟩
      by_cases hr0 : (0 : Int) < r
      · rw [decide_eq_true hr0]
        refine iteT ?_
        refine ⟨_, rfl, h, _, (2 : Nat), .int r, rfl, rfl, sql hh, atI_nat rfl, .inl ⟨_, rfl, _, rfl, _, _, rfl, rfl, hm0, ?_⟩⟩
        refine ⟨_, rfl, h, _, (2 : Nat), .int r, rfl, rfl, sql hh, atI_nat rfl, _, rfl, _, _, rfl, rfl, ⟨hm0, hml⟩, _, rfl, h, _, (2 : Nat), 2, rfl, rfl, hh, ixN_nat (by show 2 < 5; decide), ?_⟩
        refine ⟨_, rfl, q _ _ (Int.emod_nonneg _ (by omega)) (Int.emod_lt_of_pos _ hm0) ⟨(drew_upd hF1 hA1.nF hc hi).hand, fun b hb => (upd_ne hb).trans (hk1 b hb), same_mut hF1 hA1.nF⟩⟩
      · rw [decide_eq_false hr0]
        refine iteF ?_
        refine ⟨_, rfl, h, _, (4 : Nat), .int k, rfl, rfl, sql hh, atI_nat rfl, _, _, rfl, rfl, _, rfl, h, _, (4 : Nat), 4, rfl, rfl, hh, ixN_nat (by show 4 < 5; decide), ?_⟩
        refine ⟨_, rfl, h, _, (3 : Nat), .int s, rfl, rfl, sql upd_same, atI_nat rfl, _, rfl, h, _, (4 : Nat), .int (k + 1), rfl, rfl, sql upd_same, atI_nat rfl, _, _, rfl, rfl, .inl ⟨by decide, by decide⟩, _, _, rfl, rfl, .inl ⟨_, rfl, _, _, rfl, rfl, .inr ⟨by decide, by decide⟩, .inl ⟨_, rfl, _, _, rfl, rfl, (by show (0 : Int) < 2147483647; decide), ?_⟩⟩⟩
        refine ⟨_, rfl, _, rfl, _, _, rfl, rfl, ⟨by decide, by decide⟩, _, _, rfl, rfl, _, _, rfl, rfl, cm1, .inl ⟨_, rfl, _, _, rfl, rfl, (by show (0 : Int) < 2147483647; decide), ?_⟩⟩
        refine ⟨_, rfl, _, rfl, _, _, rfl, rfl, ⟨by decide, by decide⟩, _, _, rfl, rfl, _, _, rfl, rfl, cm1, .inl ⟨_, rfl, _, _, rfl, rfl, (by show (0 : Int) < 2147483399; decide), ?_⟩⟩
        refine ⟨_, rfl, _, _, rfl, rfl, ⟨by decide, by decide⟩, .inl ⟨_, rfl, _, rfl, _, _, rfl, rfl, hm0, ?_⟩⟩
        exact q _ _ (Int.emod_nonneg _ (by omega)) (Int.emod_lt_of_pos _ hm0) ⟨(drew_upd hF1 hA1.nF hc hi).hand, fun b hb => (upd_ne hb).trans (hk1 b hb), same_mut hF1 hA1.nF⟩

abbrev s__law_shuffled : Stmt := topS 76
abbrev sl__law_shuffled : List Str := ["_law_hand_here", "_law_things", "_law_left", "_law_found"]
theorem sc__law_shuffled : FnScope ["_law_hand_here", "_law_things", "_law_left", "_law_found"] ["_law_hand_here", "_law_things"] (defScope s__law_shuffled) := ⟨rfl, rfl, rfl, by decide +kernel, rfl, by decide +kernel, by decide +kernel⟩
def spShuffled (K : PySem.W.Frag) : Sp := fun vs H Q _ => ∃ (h a : Addr) (xs : List V) (F : Hp), vs = [.ref h, .ref a] ∧ SqX K H a xs ∧ xs.length ≤ 1000 ∧ Same F H ∧ HandAt F H h ∧
  ∀ p H' ys, ys.Perm xs → Dr F H H' h → H p = none → H' p = some (.lst ys) → Q (.ref p) H'
theorem perm_erase {y : V} : ∀ {zs : List V} {k : Nat}, zs[k]? = some y → (y :: zs.eraseIdx k).Perm zs
  | [], k, h => by simp at h
  | z :: r, 0, h => by
    cases h
    exact List.Perm.refl _
  | z :: r, k + 1, h => by
    have ih := perm_erase (zs := r) (k := k) (by simpa using h)
    rw [List.eraseIdx_cons_succ]
    exact (List.Perm.swap z y _).trans (ih.cons z)
theorem ok__law_shuffled (B : Bt mg) (h_law_draw : Has P w K mg base "_law_draw" 1 ["_law_hand_here", "_law_many"] spDraw) (D0 : Df K mg "_law_shuffled" s__law_shuffled ["_law_hand_here", "_law_things"]) : Has P w K mg base "_law_shuffled" 2 ["_law_hand_here", "_law_things"] (spShuffled K) := by
  refine D0.has fun f fd F => F.ok sc__law_shuffled (fun vs H Q E h => ?_) (fun cdv A outer s H vs Q E hr h => ?_)
  · obtain ⟨h, a, xs, F, rfl, _⟩ := h
    rfl
  · obtain ⟨h, a, xs, F0, rfl, hS, hl, hF, hA, q⟩ := h
    refine ⟨_, (pss_cons (ps_set (i := 2) sc__law_shuffled.nd rfl (.inl rfl) (pe_callTy (k_list (K := K) rfl) (by rfl) B.list bo_list (pa_cons (pv 1) pa_nil)))
  (pss_cons (ps_set (i := 3) sc__law_shuffled.nd rfl (.inl rfl) (pe_lst pa_nil))
  (pss_cons (ps_while PassesOwn.never (pt_cmpR op_gt (pe_callB (k_len (K := K) rfl) (by rfl) B.len bo_len (pa_cons (pv 2) pa_nil)) pe_int (nomark _))
    (pss_one (ps_expr (pe_bm PySem.F.plainAttrs_list PySem.F.slot_list_append PySem.F.type_list_append mt_append (pv 3) (pa_cons (pe_bm PySem.F.plainAttrs_list PySem.F.slot_list_pop PySem.F.type_list_pop mt_popAt (pv 2) (pa_cons (pcall h_law_draw hr (by decide) (by rfl) (pa_cons (pv 0) (pa_cons (pe_callB (k_len (K := K) rfl) (by rfl) B.len bo_len (pa_cons (pv 2) pa_nil)) pa_nil))) pa_nil)) pa_nil)))))
  (pss_one (ps_ret (pv 3)))))), ?_⟩
    refine ⟨_, rfl, a, xs, rfl, hS, fun l nl => ⟨Nat.zero_le _, fun p np => ?_⟩⟩
    have s1 := same_new (o := .lst xs) (Same.refl H) nl
    have s2 := same_new (o := .lst []) s1 np
    have nlh : l ≠ h := hA.ne nl
    have np0 : H p = none := Same.free s1 np
    have nph : p ≠ h := hA.ne np0
    have nlp : l ≠ p := ne_of_none upd_same np
    have nlF : F0 l = none := Same.free hF nl
    have npF : F0 p = none := Same.free hF np0
    refine ⟨fun m σ H' => ∃ (zs ys : List V), σ = [some (.ref h), some (.ref a), some (.ref l), some (.ref p)] ∧ Dr F0 H H' h ∧ H' l = some (.lst zs) ∧ H' p = some (.lst ys) ∧ (ys ++ zs).Perm xs ∧ m = zs.length,
      ⟨_, xs, [], rfl, Dr.of_same hA hF s2, by rw [upd_ne nlp, upd_same], upd_same, List.Perm.refl _, rfl⟩, ?_⟩
    rintro m σ H1 ⟨zs, ys, rfl, d1, hl1, hp1, hpm, rfl⟩
    refine ⟨_, rfl, l, zs, rfl, .inl (sql hl1), _, _, rfl, rfl, _, rfl, ?_⟩
    have hlen : ys.length + zs.length = xs.length := by
      have := hpm.length_eq
      rw [List.length_append] at this
      exact this
    cases hz : zs with
    | nil =>
      subst hz
      refine iteF ⟨_, rfl, q p H1 ys (by rw [List.append_nil] at hpm; exact hpm) d1 np0 hp1⟩
    | cons z0 zr =>
      rw [← hz]
      have hpos : 0 < zs.length := by rw [hz]; exact Nat.succ_pos _
      rw [decide_eq_true (show (0 : Int) < (zs.length : Int) by omega)]
      refine iteT ⟨_, fun σ' H' z => z, ?_⟩
      refine ⟨_, rfl, .inl ⟨rfl, _, sql hp1⟩, _, rfl, .inl ⟨rfl, _, sql hl1⟩, _, rfl, _, rfl, l, zs, rfl, .inl (sql hl1), h, (zs.length : Int), F0, rfl, by omega, small_log (by omega) (by omega), d1.sub, d1.hand, fun n H2 hn0 hn1 dd => ?_⟩
      have d2 := d1.trans dd.dr
      have hl2 : H2 l = some (.lst zs) := by rw [dd.rest l nlh]; exact hl1
      have hp2 : H2 p = some (.lst ys) := by rw [dd.rest p nph]; exact hp1
      obtain ⟨k, rfl⟩ : ∃ k : Nat, n = (k : Int) := ⟨n.toNat, by omega⟩
      have hk : k < zs.length := by omega
      refine ⟨l, zs, (k : Int), k, zs[k], rfl, rfl, hl2, by omega, by omega, seqIndex_of (by omega) (by omega), List.getElem?_eq_getElem hk, p, ys, _, rfl, rfl, by rw [upd_ne nlp.symm]; exact hp2, small_lt (by omega), ?_⟩
      refine ⟨_, ?_, zs.eraseIdx k, ys ++ [zs[k]], rfl, (d2.upd nl nlh nlF).upd np0 nph npF, by rw [upd_ne nlp, upd_same], upd_same, ?_, rfl⟩
      · rw [List.length_eraseIdx_of_lt hk]
        omega
      · rw [List.append_assoc]
        exact (List.Perm.append_left ys (perm_erase (List.getElem?_eq_getElem hk))).trans hpm

abbrev s__law_tail : Stmt := topS 78
abbrev sl__law_tail : List Str := ["_law_hand_here", "_law_pairs", "_law_goals", "_law_place", "_law_there", "_law_tail_here", "_law_head", "_law_one"]
theorem sc__law_tail : FnScope ["_law_hand_here", "_law_pairs", "_law_goals", "_law_place", "_law_there", "_law_tail_here", "_law_head", "_law_one"] ["_law_hand_here", "_law_pairs", "_law_goals", "_law_place"] (defScope s__law_tail) := ⟨rfl, rfl, rfl, by decide +kernel, rfl, by decide +kernel, by decide +kernel⟩
def spTail (K : PySem.W.Frag) : Sp := fun vs H Q _ => ∃ (h b g : Addr) (pl : Int) (pvs : List V) (es : Es) (gs : List Nat) (F : Hp), vs = [.ref h, .ref b, .ref g, .int pl] ∧ SqL K H b pvs ∧ Prs K H pvs es ∧ SqL K H g (gs.map nV) ∧ 0 ∉ gs ∧ es.length ≤ 1000 ∧ Same F H ∧ HandAt F H h ∧
  ∀ (v : Nat) H', (v = 0 ∨ ∃ e ∈ es, e.2 = v) → Dr F H H' h → Q (nV v) H'
theorem ok__law_tail (B : Bt mg) (h_law_draw : Has P w K mg base "_law_draw" 1 ["_law_hand_here", "_law_many"] spDraw) (D0 : Df K mg "_law_tail" s__law_tail ["_law_hand_here", "_law_pairs", "_law_goals", "_law_place"]) : Has P w K mg base "_law_tail" 2 ["_law_hand_here", "_law_pairs", "_law_goals", "_law_place"] (spTail K) := by
  refine D0.has fun f fd F => F.ok sc__law_tail (fun vs H Q E h => ?_) (fun cdv A outer s H vs Q E hr h => ?_)
  · obtain ⟨h, b, g, pl, pvs, es, gs, F, rfl, _⟩ := h
    rfl
  · obtain ⟨h, b, g, pl, pvs, es, gs, F0, rfl, hB, hP, hG, h0, hel, hF, hA, q⟩ := h
    refine ⟨_, (pss_cons (ps_set (i := 4) sc__law_tail.nd rfl (.inl rfl) (pe_op op_cat (pe_lst (pa_cons pe_int pa_nil)) (pe_lc (own := [("_law_tail_here", 5), ("_law_head", 6)]) (g := gTup K 2 (gCons (gName 5) (gCons (gName 6) gNil))) rfl sc__law_tail.nd (k_pil (K := K) rfl (pv 1)) (blkOk_by (N := sl__law_tail) (sc := defScope s__law_tail) (by decide +kernel)) (fun _ _ _ _ _ => (pg_tup rfl (pgs_cons (pg_name (i := 5) sc__law_tail.nd rfl (.inl rfl)) (pgs_cons (pg_name (i := 6) sc__law_tail.nd rfl (.inl rfl)) pgs_nil)))) (fun _ _ _ _ _ => pts_nil) (fun _ _ _ _ _ => (pv 6)))))
  (C8.pss_cut (ps_if (pt_cmpR op_gt (pcall h_law_draw hr (by decide) (by rfl) (pa_cons (pv 0) (pa_cons pe_int pa_nil))) pe_int (nomark _))
    (pss_one (ps_setLc (i := 4) (own := [("_law_one", 7)]) (g := gName 7) rfl sc__law_tail.nd rfl rfl (sw_true rfl rfl rfl (by decide +kernel)) (k_pil (K := K) rfl (pv 4)) (blkOk_by (N := sl__law_tail) (sc := defScope s__law_tail) (by decide +kernel)) (fun _ _ _ _ _ => (pg_name (i := 7) sc__law_tail.nd rfl (.inl rfl))) (fun _ _ _ _ _ => pts_one (pt_cmpR (k_notin (K := K) rfl) (pv 7) (pv 2) (by rfl))) (fun _ _ _ _ _ => (pv 7))))
    pss_nil)
  (pss_one (ps_ret (pe_ix (k_ixl (K := K) rfl) (pv 4) (pcall h_law_draw hr (by decide) (by rfl) (pa_cons (pv 0) (pa_cons (pe_callB (k_len (K := K) rfl) (by rfl) B.len bo_len (pa_cons (pv 4) pa_nil)) pa_nil))) (fun _ _ => rfl)))))), ?_⟩
    have hl := hP.len
    refine ⟨Nat.le_of_lt (small_lt (by decide : 1 ≤ 100000)), fun z nz => ?_⟩
    have s1 := same_new (o := .lst [.int 0]) (Same.refl H) nz
    refine ⟨_, rfl, b, rfl, ⟨_, Same.seq s1 hB⟩, fun D nD => ?_⟩
    refine lc_val walk_list calm_at (fun i => (es[i]?).bind fun e => some (nV e.2)) (by omega) nD (fun H3 s3 => Same.seq (Same.trans s1 s3) hB) ?_ fun H3 s3 h3 => ?_
    · rintro i v H3 H4 hi s3 ⟨rfl, hv⟩ Kt kt
      obtain ⟨e, hei, t, rfl, ht⟩ := hP.get hv
      have sm : Same H H4 := Same.trans s1 s3
      refine ⟨t, _, rfl, Same.sqt sm ht, rfl, _, _, rfl, _, _, rfl, rfl, rfl, tyes ?_⟩
      refine iteT ⟨_, rfl, ?_⟩
      have k0 := kt _ (Same.refl _)
      rw [hei] at k0
      exact k0
    rw [hl, fm_range, fm_some] at h3
    have s13 : Same H H3 := Same.trans s1 s3
    have hz3 : H3 z = some (.lst [.int 0]) := s3 _ _ upd_same
    have e3 : (es.map fun e => nV e.2) = (es.map (·.2)).map nV := by rw [List.map_map]; rfl
    rw [e3] at h3
    refine ⟨z, D, _, _, rfl, rfl, hz3, h3, by rw [List.length_map, List.length_map]; exact small_sz (by show 1 + es.length ≤ 100000; omega), fun th nth => ?_⟩
    have hcat : ([V.int 0] ++ (es.map (·.2)).map nV) = (0 :: es.map (·.2)).map nV := rfl
    rw [hcat]
    have s14 := same_new (o := .lst ((0 :: es.map (·.2)).map nV)) s13 nth
    have nthh : th ≠ h := hA.ne (Same.free s13 nth)
    -- if draw > 0
    refine ⟨fun σ H' => ∃ (th' : Addr) (ts : List Nat) (x : Option V), σ = [some (.ref h), some (.ref b), some (.ref g), some (.int pl), some (.ref th'), none, none, none] ∧ Dr F0 H H' h ∧ H' th' = some (.lst (ts.map nV)) ∧ th' ≠ h ∧ 0 ∈ ts ∧ ts.length ≤ 1001 ∧ (∀ v ∈ ts, v = 0 ∨ ∃ e ∈ es, e.2 = v), ?_, ?_⟩
    · have dA := Dr.of_same hA hF s14
      refine ⟨_, rfl, h, 4, F0, rfl, by decide, small_log (by decide) (by omega), dA.sub, dA.hand, fun n H5 hn0 hn1 dd => ⟨_, _, rfl, rfl, _, rfl, ?_⟩⟩
      have d5 := dA.trans dd.dr
      have hth5 : H5 th = some (.lst ((0 :: es.map (·.2)).map nV)) := by rw [dd.rest th nthh]; exact upd_same
      have hts : ∀ v ∈ (0 :: es.map (·.2)), v = 0 ∨ ∃ e ∈ es, e.2 = v := fun v hv => by
        rcases List.mem_cons.mp hv with hv | hv
        · exact .inl hv
        · obtain ⟨e, he, rfl⟩ := List.mem_map.mp hv
          exact .inr ⟨e, he, rfl⟩
      have htl : (0 :: es.map (·.2)).length ≤ 1001 := by rw [List.length_cons, List.length_map]; omega
      by_cases hn : (0 : Int) < n
      · rw [decide_eq_true hn]
        refine iteT ⟨_, rfl, th, rfl, ⟨_, sql hth5⟩, fun D2 nD2 => ?_⟩
        have hG5 : SqL K H5 g (gs.map nV) := by
          obtain ⟨c, cells, i, r, s', k, h1, _⟩ := hA.ob
          rcases hG with (hg | ⟨o, hg⟩) | hg
          · exact .inl (.inl (d5.same _ _ (fun e => by
              subst e
              rw [hg] at h1
              have h2 := Option.some.inj h1
              injection h2 with h2
              cases gs with
              | nil => cases h2
              | cons g0 gr => injection h2 with h2 _; cases h2) hg))
          · exact .inl (.inr ⟨o, d5.same _ _ (ne_of hg h1 (by intro z; cases z)) hg⟩)
          · exact .inr hg
        refine lc_val walk_list calm_at (fun i => ((0 :: es.map (·.2))[i]?).bind fun v => if v ∈ gs then none else some (nV v)) (by rw [List.length_map]; omega) nD2 (fun H6 s6 => sql (s6 _ _ hth5)) ?_ fun H6 s6 h6 => ?_
        · rintro i v H6 H7 hi s6 ⟨rfl, hv⟩ Kt kt
          obtain ⟨u, hui, rfl⟩ := getmap hv
          refine ⟨rfl, ?_⟩
          refine ⟨_, rfl, _, rfl, g, _, rfl, .inl (Same.seq s6 hG5), rfl, flat_nats _, _, rfl, ?_⟩
          rw [if_pos rfl, inV_nats]
          have k0 := kt _ (Same.refl _)
          rw [hui] at k0
          simp only [Option.bind_some] at k0
          by_cases hm : u ∈ gs
          · rw [decide_eq_true hm]
            rw [if_pos hm] at k0
            exact iteF k0
          · rw [decide_eq_false hm]
            rw [if_neg hm] at k0
            exact iteT ⟨_, rfl, k0⟩
        rw [List.length_map, fm_range] at h6
        have e6 : ((0 :: es.map (·.2)).filterMap fun v => if v ∈ gs then none else some (nV v)) = ((0 :: es.map (·.2)).filterMap fun v => if v ∈ gs then none else some v).map nV := by
          rw [List.map_filterMap]
          congr 1
          funext v
          split <;> rfl
        rw [e6] at h6
        have d6 := d5.trans (Dr.of_same d5.hand d5.sub s6)
        refine ⟨D2, _, none, rfl, d6, h6, hA.ne (d5.free nD2), ?_, Nat.le_trans (List.length_filterMap_le _ _) htl, fun v hv => ?_⟩
        · exact List.mem_filterMap.mpr ⟨0, List.mem_cons_self, if_neg h0⟩
        · obtain ⟨u, hu, e⟩ := List.mem_filterMap.mp hv
          split at e
          · cases e
          · cases e
            exact hts _ hu
      · rw [decide_eq_false hn]
        refine iteF ?_
        exact ⟨th, _, none, rfl, d5, hth5, nthh, List.mem_cons_self, htl, hts⟩
    · rintro σ H5 ⟨th', ts, x, rfl, d5, hth5, nth5, h0t, htl, hts⟩
      have hpos : 0 < ts.length := List.length_pos_of_mem h0t
      refine ⟨_, rfl, _, rfl, _, rfl, th', _, rfl, .inl (sql hth5), h, (ts.length : Int), F0, by rw [List.length_map]; rfl, by omega, small_log (by omega) (by omega), d5.sub, d5.hand, fun n H6 hn0 hn1 dd => ?_⟩
      obtain ⟨k, rfl⟩ : ∃ k : Nat, n = (k : Int) := ⟨n.toNat, by omega⟩
      have hk : k < ts.length := by omega
      have htk : ts[k]? = some ts[k] := List.getElem?_eq_getElem hk
      refine ⟨th', _, (k : Int), nV ts[k], rfl, rfl, sql (by rw [dd.rest th' nth5]; exact hth5), atI_nat (by rw [List.getElem?_map, htk]; rfl), q _ H6 (hts _ (List.mem_of_getElem? htk)) (d5.trans dd.dr)⟩

abbrev s__law_renamed : Stmt := topS 79
abbrev sl__law_renamed : List Str := ["_law_hand_here", "_law_many", "_law_pairs", "_law_goals", "_law_number", "_law_arrows", "_law_one", "_law_other", "_law_goal"]
theorem sc__law_renamed : FnScope ["_law_hand_here", "_law_many", "_law_pairs", "_law_goals", "_law_number", "_law_arrows", "_law_one", "_law_other", "_law_goal"] ["_law_hand_here", "_law_many", "_law_pairs", "_law_goals"] (defScope s__law_renamed) := ⟨rfl, rfl, rfl, by decide +kernel, rfl, by decide +kernel, by decide +kernel⟩
/-- pairs made since H0 -/
def PairN (H0 H : Hp) (v : V) (e : Nat × Nat) : Prop := ∃ t, v = .ref t ∧ H t = some (.tup [nV e.1, nV e.2]) ∧ H0 t = none
def RelN (H0 : Hp) (G : Nat × Nat → Nat × Nat) (es : Es) (i : Nat) (H : Hp) (o : Option V) : Prop := ∃ e v, es[i]? = some e ∧ o = some v ∧ PairN H0 H v (G e)
theorem RelN.stay {H0 : Hp} {G : Nat × Nat → Nat × Nat} {es : Es} {D : Addr} (i : Nat) (o : Option V) (H H' : Hp) (acc : List V) (hD : H D = some (.lst acc)) (h : RelN H0 G es i H o)
    (k : ∀ b u, b ≠ D → H b = some u → H' b = some u) : RelN H0 G es i H' o := by
  obtain ⟨e, v, he, h1, t, rfl, ht, hn⟩ := h
  exact ⟨e, _, he, h1, t, rfl, k _ _ (ne_of ht hD (by intro z; cases z)) ht, hn⟩
theorem relN_vals {H0 H : Hp} {G : Nat × Nat → Nat × Nat} {es : Es} {os : List (Option V)} (hl : os.length = es.length) (h : ∀ (i : Nat) (o : Option V), os[i]? = some o → RelN H0 G es i H o) :
    (os.filterMap id).length = es.length ∧ ∀ (i : Nat) (v : V) (e : Nat × Nat), (os.filterMap id)[i]? = some v → es[i]? = some e → PairN H0 H v (G e) := by
  have e1 : ∃ vs : List V, os = vs.map some := by
    refine ⟨os.map fun o => o.getD .non, ?_⟩
    rw [List.map_map]
    symm
    rw [show os = os.map id by rw [List.map_id]]
    rw [List.map_map]
    refine List.map_congr_left fun o ho => ?_
    obtain ⟨i, hi⟩ := List.getElem?_of_mem ho
    obtain ⟨e, v, _, rfl, _⟩ := h i o hi
    rfl
  obtain ⟨vs, rfl⟩ := e1
  have e2 : (vs.map some).filterMap id = vs := by
    rw [List.filterMap_map]
    exact List.filterMap_some
  rw [e2]
  rw [List.length_map] at hl
  refine ⟨hl, fun i v e hv he => ?_⟩
  obtain ⟨e', v', he', hv', hp⟩ := h i (some v) (by rw [List.getElem?_map, hv]; rfl)
  rw [he] at he'
  cases he'
  cases hv'
  exact hp
theorem nd_map {f : Nat → Nat} {l : List Nat} (h : ∀ a b, a ∈ l → b ∈ l → f a = f b → a = b) (nd : l.Nodup) : (l.map f).Nodup := by
  unfold List.Nodup
  rw [List.pairwise_map]
  exact List.Pairwise.imp_of_mem (fun {a b} ha hb hab e => hab (h a b ha hb e)) nd
/-- the numbers of the places anew -/
structure Num (n : Nat) (num : List Nat) : Prop where
  len : num.length = n
  nd : num.Nodup
  lt : ∀ v ∈ num, v < n
  z : num[0]? = some 0
def pi (num : List Nat) (v : Nat) : Nat := num[v]?.getD 0
theorem Num.at_ {n : Nat} {num : List Nat} (h : Num n num) {v : Nat} (hv : v < n) : num[v]? = some (pi num v) := by
  have h1 : v < num.length := by rw [h.len]; exact hv
  unfold pi
  rw [List.getElem?_eq_getElem h1]
  rfl
theorem Num.pilt {n : Nat} {num : List Nat} (h : Num n num) {v : Nat} (hv : v < n) : pi num v < n := h.lt _ (List.mem_of_getElem? (h.at_ hv))
theorem Num.inj {n : Nat} {num : List Nat} (h : Num n num) {u v : Nat} (hu : u < n) (hv : v < n) (e : pi num u = pi num v) : u = v :=
  (List.getElem?_inj (by rw [h.len]; exact hu) h.nd).mp (by rw [h.at_ hu, h.at_ hv, e])
theorem Num.pi0 {n : Nat} {num : List Nat} (h : Num n num) : pi num 0 = 0 := by
  unfold pi
  rw [h.z]
  rfl
def ren (num : List Nat) (e : Nat × Nat) : Nat × Nat := (pi num e.1, pi num e.2)
theorem Num.rch {n : Nat} {num : List Nat} (h : Num n num) {es : Es} {v : Nat} (hr : Rch es [0] v) : Rch (es.map (ren num)) [0] (pi num v) :=
  hr.ind (P := fun v => Rch (es.map (ren num)) [0] (pi num v)) (fun v hv => by
    rw [List.mem_singleton.mp hv, h.pi0]
    exact .base List.mem_cons_self) fun u v hu e => hu.edge (List.mem_map.mpr ⟨(u, v), e, rfl⟩)
theorem num_of {n : Nat} {ys : List Nat} (hn : 2 ≤ n) (h : ys.Perm ((List.range (n - 1)).map (· + 1))) : Num n (0 :: ys) where
  len := by
    rw [List.length_cons, h.length_eq, List.length_map, List.length_range]
    omega
  nd := by
    refine List.nodup_cons.mpr ⟨fun z => ?_, ?_⟩
    · obtain ⟨k, _, e⟩ := List.mem_map.mp (h.mem_iff.mp z)
      omega
    · refine h.nodup_iff.mpr ?_
      exact nd_map (fun a b _ _ hab => by omega) List.nodup_range
  lt := fun v hv => by
    rcases List.mem_cons.mp hv with rfl | hv
    · omega
    · obtain ⟨k, hk, rfl⟩ := List.mem_map.mp (h.mem_iff.mp hv)
      have := List.mem_range.mp hk
      omega
  z := rfl
theorem Prs.dr {K : PySem.W.Frag} {F H H' : Hp} {h : Addr} {vs : List V} {es : Es} (p : Prs K H vs es) (d : Dr F H H' h) (hA : HandAt F H h) : Prs K H' vs es :=
  ⟨p.len, fun i v e a b => (p.at_ i v e a b).elim fun t ⟨h1, h2⟩ => ⟨t, h1, d.sqt hA h2⟩⟩
/-- what can be renamed to a map -/
structure RawMap (n : Nat) (es : Es) (gs : List Nat) : Prop where
  n2 : 2 ≤ n
  n40 : n ≤ 40
  l60 : es.length ≤ 60
  ok : ∀ e ∈ es, e.1 < n ∧ e.2 < n ∧ e.1 ≠ e.2
  ne : gs ≠ []
  nd : gs.Nodup
  gl : ∀ g ∈ gs, g ≠ 0 ∧ g < n
  rch : ∀ g ∈ gs, Rch es [0] g
theorem good_of {n : Nat} {num : List Nat} (N : Num n num) {es : Es} {gs gs' : List Nat} (r : RawMap n es gs) (hp : gs'.Perm (gs.map (pi num))) (hs : gs'.Pairwise (· ≤ ·)) : GoodMap n (es.map (ren num)) gs' where
  n2 := r.n2
  n40 := r.n40
  l60 := by rw [List.length_map]; exact r.l60
  ok := fun e he => by
    obtain ⟨e0, h0, rfl⟩ := List.mem_map.mp he
    obtain ⟨h1, h2, h3⟩ := r.ok e0 h0
    exact ⟨N.pilt h1, N.pilt h2, fun z => h3 (N.inj h1 h2 z)⟩
  ne := fun z => by
    rw [z] at hp
    have := hp.length_eq
    rw [List.length_map] at this
    exact r.ne (List.length_eq_zero_iff.mp this.symm)
  pw := pw_lt hs (hp.nodup_iff.mpr (nd_map (fun a b ha hb e => N.inj (r.gl a ha).2 (r.gl b hb).2 e) r.nd))
  gl := fun g hg => by
    obtain ⟨g0, h0, rfl⟩ := List.mem_map.mp (hp.mem_iff.mp hg)
    obtain ⟨h1, h2⟩ := r.gl g0 h0
    exact ⟨fun z => h1 (N.inj h2 (by have := r.n2; omega) (by rw [z, N.pi0])), N.pilt h2⟩
  rch := fun g hg => by
    obtain ⟨g0, h0, rfl⟩ := List.mem_map.mp (hp.mem_iff.mp hg)
    exact N.rch (r.rch g0 h0)

def spRenamed (K : PySem.W.Frag) : Sp := fun vs H Q _ => ∃ (h b g : Addr) (n : Nat) (pvs : List V) (es : Es) (gs : List Nat) (F : Hp), vs = [.ref h, .int (n : Int), .ref b, .ref g] ∧ H b = some (.lst pvs) ∧ b ≠ h ∧ Prs K H pvs es ∧ H g = some (.lst (gs.map nV)) ∧ g ≠ h ∧ RawMap n es gs ∧ Same F H ∧ HandAt F H h ∧
  ∀ (t a c : Addr) (pvs' : List V) (es' : Es) (gs' : List Nat) (H' : Hp), Dr F H H' h → es'.length = es.length → PtsAt K (hv F H H') t n a pvs' es' c gs' → Q (.ref t) H'
theorem ok__law_renamed (B : Bt mg) (h_law_shuffled : Has P w K mg base "_law_shuffled" 2 ["_law_hand_here", "_law_things"] (spShuffled K)) (D0 : Df K mg "_law_renamed" s__law_renamed ["_law_hand_here", "_law_many", "_law_pairs", "_law_goals"]) : Has P w K mg base "_law_renamed" 3 ["_law_hand_here", "_law_many", "_law_pairs", "_law_goals"] (spRenamed K) := by
  refine D0.has fun f fd F => F.ok sc__law_renamed (fun vs H Q E h => ?_) (fun cdv A outer s H vs Q E hr h => ?_)
  · obtain ⟨h, b, g, n, pvs, es, gs, F, rfl, _⟩ := h
    rfl
  · obtain ⟨h, b, g, n, pvs, es, gs, F0, rfl, hB, nbh, hP, hG, ngh, rm, hF, hA, q⟩ := h
    refine ⟨_, (pss_cons (ps_set (i := 4) sc__law_renamed.nd rfl (.inr rfl) (pe_op op_cat (pe_lst (pa_cons pe_int pa_nil)) (pcall h_law_shuffled hr (by decide) (by rfl) (pa_cons (pv 0) (pa_cons (pe_listRg rfl (by rfl) B.list (prg_2 (by rfl) B.range pe_int (pv 1))) pa_nil)))))
  (pss_cons (ps_set (i := 5) sc__law_renamed.nd rfl (.inl rfl) (pe_callTy (k_tuple (K := K) rfl) (by rfl) B.tuple bo_tuple (pa_cons (pe_lc (own := [("_law_one", 6), ("_law_other", 7)]) (g := gTup K 2 (gCons (gName 6) (gCons (gName 7) gNil))) rfl sc__law_renamed.nd (k_pil (K := K) rfl (pv 2)) (blkOk_by (N := sl__law_renamed) (sc := defScope s__law_renamed) (by decide +kernel)) (fun _ _ _ _ _ => (pg_tup rfl (pgs_cons (pg_name (i := 6) sc__law_renamed.nd rfl (.inl rfl)) (pgs_cons (pg_name (i := 7) sc__law_renamed.nd rfl (.inl rfl)) pgs_nil)))) (fun _ _ _ _ _ => pts_nil) (fun _ _ _ _ _ => (pe_tup (pa_cons (pe_ix (k_ixl (K := K) rfl) (pv 4) (pv 6) (fun _ _ => rfl)) (pa_cons (pe_ix (k_ixl (K := K) rfl) (pv 4) (pv 7) (fun _ _ => rfl)) pa_nil))))) pa_nil)))
  (pss_one (ps_ret (pe_tup (pa_cons (pv 1) (pa_cons (pv 5) (pa_cons (pe_callTy (k_tuple (K := K) rfl) (by rfl) B.tuple bo_tuple (pa_cons (pe_callB (k_sorted (K := K) rfl) (by rfl) B.sorted bo_sorted (pa_cons (pe_lc (own := [("_law_goal", 8)]) (g := gName 8) rfl sc__law_renamed.nd (k_pil (K := K) rfl (pv 3)) (blkOk_by (N := sl__law_renamed) (sc := defScope s__law_renamed) (by decide +kernel)) (fun _ _ _ _ _ => (pg_name (i := 8) sc__law_renamed.nd rfl (.inl rfl))) (fun _ _ _ _ _ => pts_nil) (fun _ _ _ _ _ => (pe_ix (k_ixl (K := K) rfl) (pv 4) (pv 8) (fun _ _ => rfl)))) pa_nil)) pa_nil)) pa_nil)))))))), ?_⟩
    have hl := hP.len
    have rn2 := rm.n2
    have rn40 := rm.n40
    have r60 := rm.l60
    -- number
    refine ⟨Nat.le_of_lt (small_lt (by decide : 1 ≤ 100000)), fun z nz => ⟨_, rfl, _, rfl, _, (n : Int), rfl, rfl, ⟨by omega, by omega, by omega, by omega, by omega⟩, fun r nr => ?_⟩⟩
    have s1 := same_new (o := .lst [.int 0]) (Same.refl H) nz
    have s2 := same_new (o := .lst (rgV 1 (n : Int))) s1 nr
    have d2 := Dr.of_same hA hF s2
    have nzh : z ≠ h := hA.ne nz
    refine ⟨h, r, _, F0, rfl, .inl (sql upd_same), by rw [rgV_length]; omega, d2.sub, d2.hand, fun p H3 ysv hperm d3 np hp3 => ?_⟩
    have d23 := d2.trans d3
    rw [rgV1] at hperm
    obtain ⟨ys, rfl, hys⟩ := perm_nats hperm
    have N := num_of rn2 hys
    have hz3 : H3 z = some (.lst [.int 0]) := d3.same z _ nzh (by rw [upd_ne (ne_of_none upd_same nr), upd_same])
    refine ⟨z, p, _, _, rfl, rfl, hz3, hp3, by rw [List.length_map]; have := N.len; rw [List.length_cons] at this; exact small_sz (by show 1 + ys.length ≤ 100000; omega), fun nm nnm => ?_⟩
    have hcat : ([V.int 0] ++ ys.map nV) = (0 :: ys).map nV := rfl
    rw [hcat]
    generalize 0 :: ys = num at N ⊢
    have d4 := d23.trans (Dr.of_same d23.hand d23.sub (same_new (o := .lst (num.map nV)) (Same.refl H3) nnm))
    have nnm0 : H nm = none := d23.free nnm
    have nnmh : nm ≠ h := hA.ne nnm0
    generalize hH4 : upd H3 nm (.lst (num.map nV)) = H4 at d4
    have hnm4 : H4 nm = some (.lst (num.map nV)) := by rw [← hH4]; exact upd_same
    have hB4 := d4.same b _ nbh hB
    have hG4 := d4.same g _ ngh hG
    have hP4 := hP.dr d4 hA
    -- arrows
    refine ⟨_, rfl, b, rfl, ⟨_, sql hB4⟩, fun D nD => ?_⟩
    refine lc_rel walk_list calm_at (RelN H (ren num) es) RelN.stay (by omega) nD (fun H5 s5 => sql (s5 _ _ hB4)) ?_ fun H5 os s5 hol hos hD5 => ?_
    · rintro i v H5 H6 hi s5 ⟨rfl, hv⟩ Kt kt
      obtain ⟨e, hei, tt, rfl, ht⟩ := hP4.get hv
      obtain ⟨e1, e2⟩ := e
      obtain ⟨h1, h2, _⟩ := rm.ok _ (List.mem_of_getElem? hei)
      have hnm5 := s5 _ _ hnm4
      refine ⟨tt, _, rfl, Same.sqt s5 ht, rfl, _, _, rfl, _, _, rfl, rfl, rfl, tyes ?_⟩
      refine iteT ?_
      refine ⟨_, rfl, _, rfl, nm, _, (e1 : Int), nV (pi num e1), rfl, rfl, sql hnm5, atI_nat (by rw [List.getElem?_map, N.at_ h1]; rfl), _, rfl, _, rfl, nm, _, (e2 : Int), nV (pi num e2), rfl, rfl, sql hnm5, atI_nat (by rw [List.getElem?_map, N.at_ h2]; rfl), by show 2 ≤ sizeLine; decide, fun t2 nt2 => ?_⟩
      refine kt _ _ (same_new (Same.refl _) nt2) ⟨(e1, e2), _, hei, rfl, t2, rfl, upd_same, ?_⟩
      exact d4.free (Same.free s5 nt2)
    obtain ⟨hvl, hva⟩ := relN_vals (hol.trans hl) hos
    generalize os.filterMap id = pvs2 at hD5 hvl hva
    have d5 := d4.trans (Dr.of_same d4.hand d4.sub s5)
    refine ⟨D, _, rfl, .inl ⟨sql hD5, fun ar nar => ?_⟩⟩
    have nar0 : H ar = none := d5.free nar
    have s6 := same_new (o := .tup pvs2) (Same.refl H5) nar
    have d6 := d5.trans (Dr.of_same d5.hand d5.sub s6)
    generalize hH6 : upd H5 ar (.tup pvs2) = H6 at d6 s6
    have har6 : H6 ar = some (.tup pvs2) := by rw [← hH6]; exact upd_same
    have hG6 := d6.same g _ ngh hG
    have hnm6 : H6 nm = some (.lst (num.map nV)) := s6 _ _ (s5 _ _ hnm4)
    -- the goals, sorted
    refine ⟨_, rfl, _, rfl, _, rfl, g, rfl, ⟨_, sql hG6⟩, fun D2 nD2 => ?_⟩
    have hgl : gs.length ≤ n := nodup_le rm.nd fun x hx => (rm.gl x hx).2
    refine lc_val (walk_list (xs := gs.map nV)) calm_at (fun i => (gs[i]?).bind fun g => some (nV (pi num g))) (by rw [List.length_map]; omega) nD2 (fun H7 s7 => sql (s7 _ _ hG6)) ?_ fun H7 s7 h7 => ?_
    · rintro i v H7 H8 hi s7 ⟨rfl, hv⟩ Kt kt
      obtain ⟨x, hxi, rfl⟩ := getmap hv
      have hxn := (rm.gl x (List.mem_of_getElem? hxi)).2
      refine ⟨rfl, tyes ?_⟩
      refine iteT ?_
      refine ⟨_, rfl, _, rfl, nm, _, (x : Int), nV (pi num x), rfl, rfl, sql (s7 _ _ hnm6), atI_nat (by rw [List.getElem?_map, N.at_ hxn]; rfl), ?_⟩
      have k0 := kt _ (Same.refl _)
      rw [hxi] at k0
      exact k0
    rw [List.length_map, fm_range, fm_some] at h7
    refine ⟨D2, (gs.map (pi num)).map fun (n : Nat) => (n : Int), rfl, sql (by rw [h7, List.map_map, List.map_map]; rfl), fun ns so hpm hpw nso => ?_⟩
    obtain ⟨gs', hgs', hgp, hgw⟩ := sort_nats hpm hpw
    rw [hgs']
    refine ⟨so, _, rfl, .inl ⟨sql upd_same, fun c nc => ⟨Nat.le_of_lt (small_lt (by decide : 3 ≤ 100000)), fun t nt => ?_⟩⟩⟩
    have s8 := same_new (o := .tup [.int (n : Int), .ref ar, .ref c]) (same_new (o := .tup (gs'.map nV)) (same_new (o := .lst (gs'.map nV)) (Same.trans (Same.refl H6) s7) nso) nc) nt
    have d8 := d6.trans (Dr.of_same d6.hand d6.sub s8)
    have nc0 : H c = none := d6.free (Same.free s7 (Same.free (same_new (o := .lst (gs'.map nV)) (Same.refl H7) nso) nc))
    have nt0 : H t = none := d6.free (Same.free (same_new (o := .tup (gs'.map nV)) (same_new (o := .lst (gs'.map nV)) s7 nso) nc) nt)
    have nct : c ≠ t := ne_of_none upd_same nt
    refine q t ar c pvs2 (es.map (ren num)) gs' _ d8 (List.length_map _) ⟨?_, ?_, ⟨?_, fun i v e hv he => ?_⟩, ?_, good_of N rm hgp hgw⟩
    · exact sqt (hv_new hF nt0 upd_same)
    · exact sqt (hv_new hF nar0 (s8 _ _ har6))
    · rw [List.length_map, hvl]
    · rw [List.getElem?_map] at he
      cases he0 : es[i]? with
      | none => rw [he0] at he; cases he
      | some e0 =>
        rw [he0] at he
        cases he
        obtain ⟨tt, rfl, ht, hn⟩ := hva i v e0 hv he0
        exact ⟨tt, rfl, sqt (hv_new hF hn (s8 _ _ (s6 _ _ ht)))⟩
    · exact sqt (hv_new hF nc0 (by rw [upd_ne nct, upd_same]))

abbrev s__law_parts : Stmt := topS 77
abbrev sl__law_parts : List Str := ["_law_hand_here", "_law_places", "_law_arrows", "_law_many", "_law_goals", "_law_pairs", "_law_place", "_law_turn", "_law_way", "_law_one", "_law_other"]
theorem sc__law_parts : FnScope ["_law_hand_here", "_law_places", "_law_arrows", "_law_many", "_law_goals", "_law_pairs", "_law_place", "_law_turn", "_law_way", "_law_one", "_law_other"] ["_law_hand_here", "_law_places", "_law_arrows"] (defScope s__law_parts) := ⟨rfl, rfl, rfl, by decide +kernel, rfl, by decide +kernel, by decide +kernel⟩
/-- the pairs that are drawn so far; all heads are at most i, each head can be come to -/
structure Grown (n i : Nat) (es : Es) (gs : List Nat) : Prop where
  len : es.length ≤ i
  ok : ∀ e ∈ es, e.1 < n ∧ e.2 < n ∧ e.1 ≠ e.2
  hd : ∀ e ∈ es, e.2 ≤ i
  rch : ∀ e ∈ es, Rch es [0] e.2
  gl : ∀ g ∈ gs, g ≤ i → ∃ e ∈ es, e.2 = g
theorem Grown.add {n i v : Nat} {es : Es} {gs : List Nat} (g : Grown n i es gs) (hv : v = 0 ∨ ∃ e ∈ es, e.2 = v) (hi : i + 1 < n) : Grown n (i + 1) (es ++ [(v, i + 1)]) gs := by
  have hvr : Rch es [0] v := by
    rcases hv with rfl | ⟨e, he, rfl⟩
    · exact .base List.mem_cons_self
    · exact g.rch e he
  have hvi : v ≤ i := by
    rcases hv with rfl | ⟨e, he, rfl⟩
    · exact Nat.zero_le _
    · exact g.hd e he
  have sub : ∀ e ∈ es, e ∈ es ++ [(v, i + 1)] := fun e he => List.mem_append_left _ he
  refine ⟨by rw [List.length_append, List.length_singleton]; have := g.len; omega, fun e he => ?_, fun e he => ?_, fun e he => ?_, fun x hx hxi => ?_⟩
  · rcases List.mem_append.mp he with he | he
    · exact g.ok e he
    · rw [List.mem_singleton.mp he]
      exact ⟨by show v < n; omega, hi, by show v ≠ i + 1; omega⟩
  · rcases List.mem_append.mp he with he | he
    · exact Nat.le_succ_of_le (g.hd e he)
    · rw [List.mem_singleton.mp he]
      exact Nat.le_refl _
  · rcases List.mem_append.mp he with he | he
    · exact (g.rch e he).mono sub fun _ h => h
    · rw [List.mem_singleton.mp he]
      exact (hvr.mono sub fun _ h => h).edge (List.mem_append_right _ List.mem_cons_self)
  · by_cases h : x ≤ i
    · obtain ⟨e, he, h1⟩ := g.gl x hx h
      exact ⟨e, sub e he, h1⟩
    · exact ⟨_, List.mem_append_right _ List.mem_cons_self, by show i + 1 = x; omega⟩
theorem Grown.skip {n i : Nat} {es : Es} {gs : List Nat} (g : Grown n i es gs) (h : i + 1 ∉ gs) : Grown n (i + 1) es gs :=
  ⟨Nat.le_succ_of_le g.len, g.ok, fun e he => Nat.le_succ_of_le (g.hd e he), g.rch, fun x hx hxi => g.gl x hx (by
    have : x ≠ i + 1 := fun z => h (z ▸ hx)
    omega)⟩
theorem Prs.snoc {K : PySem.W.Frag} {H : Hp} {vs : List V} {es : Es} {v : V} {e : Nat × Nat} (p : Prs K H vs es) (h : PairAt K H v e) : Prs K H (vs ++ [v]) (es ++ [e]) where
  len := by rw [List.length_append, List.length_append, p.len]; rfl
  at_ := fun i x y a b => by
    by_cases hi : i < vs.length
    · rw [List.getElem?_append_left hi] at a
      rw [List.getElem?_append_left (by rw [← p.len]; exact hi)] at b
      exact p.at_ i x y a b
    · rw [List.getElem?_append_right (by omega)] at a
      rw [List.getElem?_append_right (by rw [← p.len]; omega)] at b
      have e0 : i - vs.length = 0 := by
        have := (List.getElem?_eq_some_iff.mp a).1
        simp at this
        omega
      rw [e0] at a
      rw [← p.len, e0] at b
      cases a
      cases b
      exact h
theorem Prs.keep {K : PySem.W.Frag} {H H' : Hp} {vs : List V} {es : Es} (p : Prs K H vs es) (k : ∀ t xs, SqT K H t xs → SqT K H' t xs) : Prs K H' vs es :=
  ⟨p.len, fun i v e a b => (p.at_ i v e a b).elim fun t ⟨h1, h2⟩ => ⟨t, h1, k _ _ h2⟩⟩
/-- a list is stored to, tuples stay -/
theorem sqt_upd {K : PySem.W.Frag} {H : Hp} {x t : Addr} {xs ys : List V} {o : HO} (hx : H x = some (.lst ys)) (s : SqT K H t xs) : SqT K (upd H x o) t xs := by
  rcases s with (s | ⟨o, s⟩) | s
  · exact .inl (.inl (by rw [upd_ne (ne_of s hx (by intro z; cases z))]; exact s))
  · exact .inl (.inr ⟨o, by rw [upd_ne (ne_of s hx (by intro z; cases z))]; exact s⟩)
  · exact .inr s
/-- values in another order are the pairs in another order -/
theorem prs_perm {K : PySem.W.Frag} {H : Hp} {vs ys : List V} {es : Es} (p : Prs K H vs es) (h : ys.Perm vs) : ∃ es' : Es, es'.Perm es ∧ Prs K H ys es' := by
  induction h generalizing es with
  | nil => exact ⟨es, List.Perm.refl _, p⟩
  | @cons x l1 l2 hp ih =>
    cases es with
    | nil => have := p.len; cases this
    | cons e er =>
      obtain ⟨es', h1, h2⟩ := ih (es := er) ⟨by have := p.len; simpa using this, fun i v e a b => p.at_ (i + 1) v e (by simpa using a) (by simpa using b)⟩
      refine ⟨e :: es', h1.cons e, by rw [List.length_cons, List.length_cons, h2.len], fun i v e' a b => ?_⟩
      cases i with
      | zero =>
        cases a
        cases b
        exact p.at_ 0 _ _ rfl rfl
      | succ i => exact h2.at_ i v e' (by simpa using a) (by simpa using b)
  | @swap x y l =>
    cases es with
    | nil => have := p.len; cases this
    | cons e er =>
      cases er with
      | nil => have := p.len; simp at this
      | cons e2 er =>
        refine ⟨e2 :: e :: er, List.Perm.swap e e2 er, by have := p.len; simpa using this, fun i v e' a b => ?_⟩
        match i, a, b with
        | 0, a, b => cases a; cases b; exact p.at_ 1 _ _ rfl rfl
        | 1, a, b => cases a; cases b; exact p.at_ 0 _ _ rfl rfl
        | i + 2, a, b => exact p.at_ (i + 2) v e' (by simpa using a) (by simpa using b)
  | trans _ _ ih1 ih2 =>
    obtain ⟨es1, h1, p1⟩ := ih2 p
    obtain ⟨es2, h2, p2⟩ := ih1 p1
    exact ⟨es2, h2.trans h1, p2⟩
theorem rgVn (a b : Nat) : rgV (a : Int) (b : Int) = ((List.range (b - a)).map (a + ·)).map nV := by
  unfold rgV
  rw [show ((b : Int) - (a : Int)).toNat = b - a by omega, List.map_map]
  refine List.map_congr_left fun i _ => ?_
  show V.int ((a : Int) + (i : Int)) = V.int ((a + i : Nat) : Int)
  congr 1
theorem mod_two {x n : Nat} (h : x < 2 * n) : (x : Int) % (n : Int) = ((if x < n then x else x - n : Nat) : Int) := by
  rw [← Int.natCast_emod]
  congr 1
  by_cases hx : x < n
  · rw [if_pos hx, Nat.mod_eq_of_lt hx]
  · rw [if_neg hx, Nat.mod_eq_sub_mod (by omega), Nat.mod_eq_of_lt (by omega)]
def spParts (K : PySem.W.Frag) : Sp := fun vs H Q _ => ∃ (h : Addr) (pl ar : Nat) (F : Hp), vs = [.ref h, .int (pl : Int), .int (ar : Int)] ∧ 2 ≤ pl ∧ pl ≤ 40 ∧ ar ≤ 60 ∧ Same F H ∧ HandAt F H h ∧
  ∀ t n a c pvs es gs H', n ≤ pl → es.length ≤ max pl ar → Dr F H H' h → PtsAt K (hv F H H') t n a pvs es c gs → Q (.ref t) H'
theorem ok__law_parts (B : Bt mg) (h_law_draw : Has P w K mg base "_law_draw" 1 ["_law_hand_here", "_law_many"] spDraw) (h_law_tail : Has P w K mg base "_law_tail" 2 ["_law_hand_here", "_law_pairs", "_law_goals", "_law_place"] (spTail K))
    (h_law_shuffled : Has P w K mg base "_law_shuffled" 2 ["_law_hand_here", "_law_things"] (spShuffled K)) (h_law_renamed : Has P w K mg base "_law_renamed" 3 ["_law_hand_here", "_law_many", "_law_pairs", "_law_goals"] (spRenamed K))
    (D0 : Df K mg "_law_parts" s__law_parts ["_law_hand_here", "_law_places", "_law_arrows"]) : Has P w K mg base "_law_parts" 4 ["_law_hand_here", "_law_places", "_law_arrows"] (spParts K) := by
  refine D0.has fun f fd F => F.ok sc__law_parts (fun vs H Q E h => ?_) (fun cdv A outer s H vs Q E hr h => ?_)
  · obtain ⟨h, pl, ar, F, rfl, _⟩ := h
    rfl
  · obtain ⟨h, pl, ar, F0, rfl, hp2, hp40, har, hF, hA, q⟩ := h
    refine ⟨_, (pss_cons (ps_set (i := 3) sc__law_parts.nd rfl (.inl rfl) (pe_op op_add pe_int (pcall h_law_draw hr (by decide) (by rfl) (pa_cons (pv 0) (pa_cons (pe_op op_sub (pv 1) pe_int) pa_nil)))))
  (pss_cons (ps_set (i := 4) sc__law_parts.nd rfl (.inl rfl) (pe_lst (pa_cons (pe_op op_sub (pv 3) pe_int) pa_nil)))
  (C8.pss_cut (ps_if (PW.pt (pw_and (pt_cmpR op_gt (pv 3) pe_int (nomark _)) (pw_and1 (pt_cmpR op_eq (pcall h_law_draw hr (by decide) (by rfl) (pa_cons (pv 0) (pa_cons pe_int pa_nil))) pe_int (nomark _)))))
    (pss_one (ps_set (i := 4) sc__law_parts.nd rfl (.inl rfl) (pe_listRg rfl (by rfl) B.list (prg_2 (by rfl) B.range (pe_op op_sub (pe_op op_sub (pv 3) pe_int) (pcall h_law_draw hr (by decide) (by rfl) (pa_cons (pv 0) (pa_cons (pe_callB (call_min2 rfl) (by rfl) B.min bo_min (pa_cons pe_int (pa_cons (pe_op op_sub (pv 3) pe_int) pa_nil))) pa_nil)))) (pv 3)))))
    pss_nil)
  (pss_cons (ps_set (i := 5) sc__law_parts.nd rfl (.inl rfl) (pe_lst pa_nil))
  (pss_cons (ps_for PassesOwn.never rfl (pi_range2 (by rfl) B.range (pa_cons pe_int (pa_cons (pv 3) pa_nil))) (pg_name (i := 6) sc__law_parts.nd rfl (.inl rfl))
    (pss_one (ps_if (PW.pt (pw_or (pt_cmpR (k_in (K := K) rfl) (pv 6) (pv 4) (by rfl)) (pw_or1 (pt_cmpR op_gt (pcall h_law_draw hr (by decide) (by rfl) (pa_cons (pv 0) (pa_cons pe_int pa_nil))) pe_int (nomark _)))))
    (pss_one (ps_expr (pe_bm PySem.F.plainAttrs_list PySem.F.slot_list_append PySem.F.type_list_append mt_append (pv 5) (pa_cons (pe_tup (pa_cons (pcall h_law_tail hr (by decide) (by rfl) (pa_cons (pv 0) (pa_cons (pv 5) (pa_cons (pv 4) (pa_cons (pv 6) pa_nil))))) (pa_cons (pv 6) pa_nil))) pa_nil))))
    pss_nil)))
  (pss_cons (ps_for PassesOwn.never rfl (pi_range1 (by rfl) B.range (pa_cons (pcall h_law_draw hr (by decide) (by rfl) (pa_cons (pv 0) (pa_cons (pe_op op_add (pe_callB (call_max2 rfl) (by rfl) B.max bo_max (pa_cons pe_int (pa_cons (pe_op op_sub (pv 2) (pe_callB (k_len (K := K) rfl) (by rfl) B.len bo_len (pa_cons (pv 5) pa_nil))) pa_nil))) pe_int) pa_nil))) pa_nil)) (pg_name (i := 7) sc__law_parts.nd rfl (.inl rfl))
    (pss_cons (ps_set (i := 8) sc__law_parts.nd rfl (.inl rfl) (pcall h_law_draw hr (by decide) (by rfl) (pa_cons (pv 0) (pa_cons pe_int pa_nil))))
  (pss_cons (ps_set (i := 9) sc__law_parts.nd rfl (.inl rfl) (pcall h_law_draw hr (by decide) (by rfl) (pa_cons (pv 0) (pa_cons (pv 3) pa_nil))))
  (pss_cons (ps_set (i := 10) sc__law_parts.nd rfl (.inl rfl) (pe_op op_mod (pe_op op_add (pe_op op_add (pv 9) pe_int) (pcall h_law_draw hr (by decide) (by rfl) (pa_cons (pv 0) (pa_cons (pe_op op_sub (pv 3) pe_int) pa_nil)))) (pv 3)))
  (C8.pss_cut (ps_if (pt_cmpR op_eq (pv 8) pe_int (nomark _))
    (pss_one (ps_asg (pe_ix (k_ixl (K := K) rfl) (pv 5) (pcall h_law_draw hr (by decide) (by rfl) (pa_cons (pv 0) (pa_cons (pe_callB (k_len (K := K) rfl) (by rfl) B.len bo_len (pa_cons (pv 5) pa_nil)) pa_nil))) (fun _ _ => rfl)) (pg_tup rfl (pgs_cons (pg_name (i := 9) sc__law_parts.nd rfl (.inl rfl)) (pgs_cons (pg_name (i := 10) sc__law_parts.nd rfl (.inl rfl)) pgs_nil)))))
    pss_nil)
  (C8.pss_cut (ps_if (pt_cmpR op_eq (pv 8) pe_int (nomark _))
    (pss_one (ps_asg (pe_ix (k_ixl (K := K) rfl) (pv 5) (pcall h_law_draw hr (by decide) (by rfl) (pa_cons (pv 0) (pa_cons (pe_callB (k_len (K := K) rfl) (by rfl) B.len bo_len (pa_cons (pv 5) pa_nil)) pa_nil))) (fun _ _ => rfl)) (pg_tup rfl (pgs_cons (pg_name (i := 10) sc__law_parts.nd rfl (.inl rfl)) (pgs_cons (pg_name (i := 9) sc__law_parts.nd rfl (.inl rfl)) pgs_nil)))))
    pss_nil)
  (pss_one (ps_expr (pe_bm PySem.F.plainAttrs_list PySem.F.slot_list_append PySem.F.type_list_append mt_append (pv 5) (pa_cons (pe_tup (pa_cons (pv 9) (pa_cons (pv 10) pa_nil))) pa_nil))))))))))
  (pss_one (ps_ret (pcall h_law_renamed hr (by decide) (by rfl) (pa_cons (pv 0) (pa_cons (pv 3) (pa_cons (pcall h_law_shuffled hr (by decide) (by rfl) (pa_cons (pv 0) (pa_cons (pv 5) pa_nil))) (pa_cons (pv 4) pa_nil))))))))))))), ?_⟩
    -- many
    refine ⟨_, rfl, _, rfl, _, _, rfl, rfl, h, (pl : Int) - 1, F0, rfl, by omega, small_log (by omega) (by omega), hF, hA, fun n0 H1 hn0 hn1 dd1 => ⟨_, _, rfl, rfl, ?_⟩⟩
    obtain ⟨k0, rfl⟩ : ∃ k : Nat, n0 = (k : Int) := ⟨n0.toNat, by omega⟩
    obtain ⟨n, hn⟩ : ∃ n : Nat, n = k0 + 2 := ⟨_, rfl⟩
    have hnv : (2 : Int) + (k0 : Int) = (n : Int) := by omega
    have hnpl : n ≤ pl := by omega
    change gName 3 (V.int ((2 : Int) + (k0 : Int))) _ _ _
    rw [hnv]
    have d1 := dd1.dr
    -- goals
    refine ⟨_, rfl, _, _, rfl, rfl, Nat.le_of_lt (small_lt (by decide : 1 ≤ 100000)), fun g ng => ?_⟩
    have ng0 : H g = none := d1.free ng
    have ngh : g ≠ h := hA.ne ng0
    have dg := d1.trans (Dr.of_same d1.hand d1.sub (same_new (o := .lst [.int ((n : Int) - 1)]) (Same.refl H1) ng))
    refine ⟨fun σ H' => ∃ (g : Addr) (gs : List Nat), σ = [some (.ref h), some (.int (pl : Int)), some (.int (ar : Int)), some (.int (n : Int)), some (.ref g), none, none, none, none, none, none] ∧ Dr F0 H H' h ∧ g ≠ h ∧ H g = none ∧ H' g = some (.lst (gs.map nV)) ∧ gs ≠ [] ∧ gs.Nodup ∧ (∀ x ∈ gs, x ≠ 0 ∧ x < n), ?_, ?_⟩
    · have e1 : V.int ((n : Int) - 1) = nV (n - 1) := by
        show V.int ((n : Int) - 1) = V.int ((n - 1 : Nat) : Int)
        congr 1
        omega
      have one : ∀ H2, Dr F0 (upd H1 g (.lst [.int ((n : Int) - 1)])) H2 h → ∃ (g' : Addr) (gs : List Nat), ([some (.ref h), some (.int (pl : Int)), some (.int (ar : Int)), some (.int (n : Int)), some (.ref g), none, none, none, none, none, none] : L2.St) = [some (.ref h), some (.int (pl : Int)), some (.int (ar : Int)), some (.int (n : Int)), some (.ref g'), none, none, none, none, none, none] ∧
          Dr F0 H H2 h ∧ g' ≠ h ∧ H g' = none ∧ H2 g' = some (.lst (gs.map nV)) ∧ gs ≠ [] ∧ gs.Nodup ∧ (∀ x ∈ gs, x ≠ 0 ∧ x < n) := fun H2 d2 =>
        ⟨g, [n - 1], rfl, dg.trans d2, ngh, ng0, by rw [List.map_cons, List.map_nil, ← e1]; exact d2.same g _ ngh upd_same, List.cons_ne_nil _ _, by simp, fun x hx => by rw [List.mem_singleton.mp hx]; omega⟩
      refine ⟨_, rfl, _, _, rfl, rfl, _, rfl, ?_⟩
      by_cases h3 : (3 : Int) < (n : Int)
      · rw [decide_eq_true h3]
        refine iteT ⟨_, rfl, h, 3, F0, rfl, by decide, small_log (by decide) (by omega), dg.sub, dg.hand, fun n1 H2 hn0 hn1 dd2 => ⟨rfl, _, rfl, ?_⟩⟩
        by_cases hz : n1 = 0
        · rw [hz, decide_eq_true (rfl : V.int 0 = V.int 0)]
          refine iteT ?_
          have d2 := dg.trans dd2.dr
          refine ⟨_, rfl, _, _, rfl, rfl, _, rfl, _, rfl, _, _, rfl, rfl, _, _, rfl, h, _, F0, rfl, ?_, ?_, d2.sub, d2.hand, fun n3 H3 hn30 hn31 dd3 => ?_⟩
          · show (0 : Int) < (if (n : Int) - 3 < 4 then (n : Int) - 3 else 4)
            split <;> omega
          · refine small_log ?_ ?_
            · show (0 : Int) < (if (n : Int) - 3 < 4 then (n : Int) - 3 else 4)
              split <;> omega
            · show (if (n : Int) - 3 < 4 then (n : Int) - 3 else 4) < 2 ^ 8999
              split <;> omega
          have hn32 : n3 < (n : Int) - 3 := by
            have : n3 < (if (n : Int) - 3 < 4 then (n : Int) - 3 else 4) := hn31
            split at this <;> omega
          obtain ⟨lo, hlo⟩ : ∃ lo : Nat, (n : Int) - 2 - n3 = (lo : Int) := ⟨((n : Int) - 2 - n3).toNat, by omega⟩
          refine ⟨_, _, rfl, rfl, _, rfl, _, _, rfl, rfl, ⟨by omega, by omega, by omega, by omega, by omega⟩, fun g2 ng2 => ?_⟩
          have d3 := d2.trans dd3.dr
          change gName 4 (.ref g2) _ (upd H3 g2 (.lst (rgV ((n : Int) - 2 - n3) (n : Int)))) _
          rw [hlo, rgVn]
          refine ⟨g2, (List.range (n - lo)).map (lo + ·), rfl, d3.trans (Dr.of_same d3.hand d3.sub (same_new (Same.refl H3) ng2)), hA.ne (d3.free ng2), d3.free ng2, upd_same, fun z => ?_, ?_, fun x hx => ?_⟩
          · have := congrArg List.length z
            rw [List.length_map, List.length_range] at this
            simp at this
            omega
          · exact nd_map (fun a b _ _ hab => by omega) List.nodup_range
          · obtain ⟨i, hi, rfl⟩ := List.mem_map.mp hx
            have := List.mem_range.mp hi
            omega
        · have : ¬ V.int n1 = V.int 0 := fun z => hz (by injection z)
          rw [decide_eq_false this]
          refine iteF ?_
          exact one H2 dd2.dr
      · rw [decide_eq_false h3]
        refine iteF ?_
        exact iteF (one _ (Dr.refl dg.hand dg.sub))
    · rintro σ H2 ⟨g, gs, rfl, d2, ngh, ng0, hg2, hne, hnd, hgn⟩
      -- pairs
      refine ⟨Nat.zero_le _, fun p np => ?_⟩
      have np0 : H p = none := d2.free np
      have nph : p ≠ h := hA.ne np0
      have npF : F0 p = none := Same.free hF np0
      have ngp : g ≠ p := ne_of_none hg2 np
      have ngF : F0 g = none := Same.free hF ng0
      have d3 := d2.trans (Dr.of_same d2.hand d2.sub (same_new (o := .lst []) (Same.refl H2) np))
      -- for place in range(1, many)
      refine ⟨_, rfl, 1, (n : Int), rfl, ⟨by omega, by omega, by omega, by omega⟩, ?_⟩
      refine for_range (lo := 1) (n := ((n : Int) - 1).toNat) (fun i σ H' => ∃ (x : Option V) (pvs : List V) (es : Es), σ = [some (.ref h), some (.int (pl : Int)), some (.int (ar : Int)), some (.int (n : Int)), some (.ref g), some (.ref p), x, none, none, none, none] ∧ Dr F0 H H' h ∧
        H' g = some (.lst (gs.map nV)) ∧ H' p = some (.lst pvs) ∧ Prs K H' pvs es ∧ Grown n i es gs)
        ⟨none, [], [], rfl, d3, by rw [upd_ne ngp]; exact hg2, upd_same, ⟨rfl, fun i v e a _ => by simp at a⟩, ⟨Nat.le_refl _, fun e he => (List.not_mem_nil he).elim, fun e he => (List.not_mem_nil he).elim, fun e he => (List.not_mem_nil he).elim, fun x hx hx0 => absurd (Nat.le_zero.mp hx0) (hgn x hx).1⟩⟩ ?_ ?_
      · rintro i σ H4 hi ⟨x, pvs, es, rfl, d4, hg4, hp4, hpr, gr⟩
        have hin : i + 1 < n := by omega
        have epl : V.int ((1 : Int) + (i : Int)) = nV (i + 1) := by
          show V.int ((1 : Int) + (i : Int)) = V.int ((i + 1 : Nat) : Int)
          congr 1
          omega
        refine ifs_split (fun H5 => Dr F0 H4 H5 h) (fun H5 => Dr F0 H4 H5 h ∧ i + 1 ∉ gs) (fun Kt kt kf => ?_) (fun H5 d45 => ?_) fun H5 ⟨d45, hng⟩ => ?_
        · refine ⟨_, rfl, _, rfl, g, _, rfl, .inl (sql hg4), rfl, flat_nats _, _, rfl, ?_⟩
          rw [if_neg Bool.false_ne_true, show V.int ((1 : Int) + (i : Int)) = nV (i + 1) from epl, inV_nats]
          by_cases hm : i + 1 ∈ gs
          · rw [decide_eq_true hm]
            exact iteT (kt _ (Dr.refl d4.hand d4.sub))
          · rw [decide_eq_false hm]
            refine iteF ⟨_, rfl, h, 6, F0, rfl, by decide, small_log (by decide) (by omega), d4.sub, d4.hand, fun n5 H5 hn50 hn51 dd5 => ⟨_, _, rfl, rfl, _, rfl, ?_⟩⟩
            by_cases h6 : (0 : Int) < n5
            · rw [decide_eq_true h6]
              exact kt _ dd5.dr
            · rw [decide_eq_false h6]
              exact kf _ ⟨dd5.dr, hm⟩
        · have d5 := d4.trans d45
          have hg5 := d45.same g _ ngh hg4
          have hp5 := d45.same p _ nph hp4
          have hpr5 := hpr.dr d45 d4.hand
          refine ⟨_, rfl, .inl ⟨rfl, _, sql hp5⟩, _, rfl, _, rfl, _, rfl, _, rfl, h, p, g, (1 : Int) + (i : Int), pvs, es, gs, F0, rfl, sql hp5, hpr5, sql hg5, fun z => (hgn 0 z).1 rfl, by have := gr.len; omega, d5.sub, d5.hand, fun v H6 hv d56 => ?_⟩
          have d6 := d5.trans d56
          have hg6 := d56.same g _ ngh hg5
          have hp6 := d56.same p _ nph hp5
          have hpr6 := hpr5.dr d56 d5.hand
          refine ⟨_, rfl, by show 2 ≤ sizeLine; decide, fun t nt => ⟨p, _, _, rfl, rfl, by rw [upd_ne (ne_of_none hp6 nt)]; exact hp6, ?_, ?_⟩⟩
          · have := hpr.len
            have := gr.len
            exact small_lt (by omega)
          have s7 := same_new (o := .tup [nV v, .int ((1 : Int) + (i : Int))]) (Same.refl H6) nt
          have npt : p ≠ t := ne_of_none hp6 nt
          have ngt : g ≠ t := ne_of_none hg6 nt
          have hp7 : (upd H6 t (.tup [nV v, .int ((1 : Int) + (i : Int))])) p = some (.lst pvs) := s7 _ _ hp6
          refine ⟨_, pvs ++ [.ref t], es ++ [(v, i + 1)], rfl, (d6.trans (Dr.of_same d6.hand d6.sub s7)).upd np0 nph npF, by rw [upd_ne ngp, upd_ne ngt]; exact hg6, upd_same, ?_, gr.add hv hin⟩
          · refine ((hpr6.same s7).keep fun t xs => sqt_upd hp7).snoc ⟨t, rfl, sqt ?_⟩
            rw [upd_ne npt.symm, upd_same, epl]
        · have hp5 := d45.same p _ nph hp4
          refine ⟨_, pvs, es, rfl, d4.trans d45, d45.same g _ ngh hg4, hp5, hpr.dr d45 d4.hand, gr.skip hng⟩
      · rintro σ H4 ⟨x, pvs, es, rfl, d4, hg4, hp4, hpr, gr⟩
        have hpl := hpr.len
        have hrch : ∀ g ∈ gs, Rch es [0] g := fun x hx => by
          obtain ⟨e, he, rfl⟩ := gr.gl x hx (by have := (hgn x hx).2; omega)
          exact gr.rch e he
        have hpos : 0 < es.length := by
          obtain ⟨x, hx⟩ := List.exists_mem_of_ne_nil gs hne
          obtain ⟨e, he, _⟩ := gr.gl x hx (by have := (hgn x hx).2; omega)
          exact List.length_pos_of_mem he
        have hlen0 : es.length ≤ n - 1 := by have := gr.len; omega
        generalize hL : es.length = L0 at hlen0 hpos
        have hmx : ∀ z : Int, (if z > (1 : Int) then z else 1) = max 1 z := fun z => by
          rw [Int.max_def]
          split <;> split <;> omega
        refine ⟨_, rfl, _, rfl, _, rfl, p, _, rfl, .inl (sql hp4), _, _, rfl, rfl, _, _, rfl, _, _, rfl, rfl, h, _, F0, rfl, ?_, ?_, d4.sub, d4.hand, fun nT H5 hT0 hT1 dd5 => ?_⟩
        · show (0 : Int) < (if (ar : Int) - (pvs.length : Int) > 1 then (ar : Int) - (pvs.length : Int) else 1) + 1
          split <;> omega
        · refine small_log ?_ ?_
          · show (0 : Int) < (if (ar : Int) - (pvs.length : Int) > 1 then (ar : Int) - (pvs.length : Int) else 1) + 1
            split <;> omega
          · show (if (ar : Int) - (pvs.length : Int) > 1 then (ar : Int) - (pvs.length : Int) else 1) + 1 < 2 ^ 8999
            split <;> omega
        have hT2 : nT.toNat + L0 ≤ max (L0 + 1) ar := by
          have h1 : nT < (if (ar : Int) - (pvs.length : Int) > 1 then (ar : Int) - (pvs.length : Int) else 1) + 1 := hT1
          rw [Nat.max_def]
          split at h1 <;> split <;> omega
        have hLa : max (L0 + 1) ar ≤ max pl ar := by
          rw [Nat.max_def, Nat.max_def]
          split <;> split <;> omega
        have hma : max pl ar ≤ 60 := by
          rw [Nat.max_def]
          split <;> omega
        refine ⟨nT, rfl, by omega, by omega, ?_⟩
        have d45 := dd5.dr
        have d5 := d4.trans d45
        refine for_range (lo := 0) (n := nT.toNat) (fun i σ H' => ∃ (x6 x7 x8 x9 x10 : Option V) (pvs : List V) (es : Es), σ = [some (.ref h), some (.int (pl : Int)), some (.int (ar : Int)), some (.int (n : Int)), some (.ref g), some (.ref p), x6, x7, x8, x9, x10] ∧ Dr F0 H H' h ∧
          H' g = some (.lst (gs.map nV)) ∧ H' p = some (.lst pvs) ∧ Prs K H' pvs es ∧ (∀ e ∈ es, e.1 < n ∧ e.2 < n ∧ e.1 ≠ e.2) ∧ es.length = L0 + i ∧ ∀ g ∈ gs, Rch es [0] g)
          ⟨_, _, _, _, _, pvs, es, rfl, d5, d45.same g _ ngh hg4, d45.same p _ nph hp4, hpr.dr d45 d4.hand, gr.ok, hL, hrch⟩ ?_ ?_
        · rintro i σ H6 hi ⟨x6, x7, x8, x9, x10, pvs, es, rfl, d6, hg6, hp6, hpr6, hok6, hel6, hrc6⟩
          have hpl6 := hpr6.len
          have hi' : i < nT.toNat := hi
          -- way, one, other
          refine ⟨_, rfl, h, 5, F0, rfl, by decide, small_log (by decide) (by omega), d6.sub, d6.hand, fun w H7 _ _ dd7 => ?_⟩
          have d7 := d6.trans dd7.dr
          refine ⟨_, rfl, _, rfl, h, _, F0, rfl, by omega, small_log (by omega) (by omega), d7.sub, d7.hand, fun u0 H8 hu0 hu1 dd8 => ?_⟩
          have d8 := d7.trans dd8.dr
          obtain ⟨u, rfl⟩ : ∃ u : Nat, u0 = (u : Int) := ⟨u0.toNat, by omega⟩
          refine ⟨_, rfl, _, _, rfl, rfl, _, rfl, _, rfl, _, _, rfl, rfl, h, _, F0, rfl, ?_, ?_, d8.sub, d8.hand, fun e0 H9 he0 he1 dd9 => ?_⟩
          · show (0 : Int) < (n : Int) - 1
            omega
          · exact small_log (by show (0 : Int) < (n : Int) - 1; omega) (by show (n : Int) - 1 < 2 ^ 8999; omega)
          have d9 := d8.trans dd9.dr
          have he2 : e0 < (n : Int) - 1 := he1
          obtain ⟨dd, rfl⟩ : ∃ dd : Nat, e0 = (dd : Int) := ⟨e0.toNat, by omega⟩
          refine ⟨_, _, rfl, rfl, _, rfl, _, _, rfl, rfl, by show (0 : Int) < (n : Int); omega, ?_⟩
          obtain ⟨v, hv⟩ : ∃ v : Nat, v = if u + 1 + dd < n then u + 1 + dd else u + 1 + dd - n := ⟨_, rfl⟩
          have hve : V.int (((u : Int) + 1 + (dd : Int)) % (n : Int)) = nV v := by
            show V.int _ = V.int (v : Int)
            congr 1
            rw [show (u : Int) + 1 + (dd : Int) = ((u + 1 + dd : Nat) : Int) by omega, mod_two (by omega), ← hv]
          have hv1 : v < n := by rw [hv]; split <;> omega
          have hv2 : u ≠ v := by rw [hv]; split <;> omega
          have dA : Dr F0 H6 H9 h := (dd7.dr.trans dd8.dr).trans dd9.dr
          change gName 10 (V.int (((u : Int) + 1 + (dd : Int)) % (n : Int))) _ _ _
          rw [hve]
          -- the arrow that is taken again
          have mid : ∀ (H' : Hp), Dr F0 H6 H' h → Dr F0 H H' h ∧ H' g = some (.lst (gs.map nV)) ∧ H' p = some (.lst pvs) ∧ Prs K H' pvs es := fun H' d =>
            ⟨d6.trans d, d.same g _ ngh hg6, d.same p _ nph hp6, hpr6.dr d d6.hand⟩
          have pick : ∀ (H' : Hp), Dr F0 H6 H' h → ∀ k : Nat, k < pvs.length → ∃ t e1 e2, pvs[k]? = some (.ref t) ∧ SqT K H' t [nV e1, nV e2] ∧ e1 < n ∧ e2 < n ∧ e1 ≠ e2 := fun H' d k hk => by
            obtain ⟨_, _, _, hpp⟩ := mid H' d
            obtain ⟨e, he, t, ht1, ht2⟩ := hpp.get (List.getElem?_eq_getElem hk)
            obtain ⟨o1, o2, o3⟩ := hok6 e (List.mem_of_getElem? he)
            exact ⟨t, e.1, e.2, by rw [← ht1]; exact List.getElem?_eq_getElem hk, ht2, o1, o2, o3⟩
          refine ⟨fun σ H' => ∃ (u v : Nat), σ = [some (.ref h), some (.int (pl : Int)), some (.int (ar : Int)), some (.int (n : Int)), some (.ref g), some (.ref p), x6, some (.int ((0 : Int) + (i : Int))), some (.int w), some (nV u), some (nV v)] ∧ Dr F0 H6 H' h ∧ u < n ∧ v < n ∧ u ≠ v, ?_, ?_⟩
          · refine ⟨_, rfl, rfl, _, rfl, ?_⟩
            by_cases hw : w = 0
            · rw [hw, decide_eq_true (rfl : V.int 0 = V.int 0)]
              refine iteT ?_
              obtain ⟨dm, _, hpm, _⟩ := mid H9 dA
              refine ⟨_, rfl, _, rfl, _, rfl, p, _, rfl, .inl (sql hpm), h, (pvs.length : Int), F0, rfl, by omega, small_log (by omega) (by omega), dm.sub, dm.hand, fun k0 H10 hk0 hk1 dd10 => ?_⟩
              obtain ⟨k, rfl⟩ : ∃ k : Nat, k0 = (k : Int) := ⟨k0.toNat, by omega⟩
              have dB := dA.trans dd10.dr
              obtain ⟨t, e1, e2, hk, ht, o1, o2, o3⟩ := pick H10 dB k (by omega)
              obtain ⟨_, _, hpm2, _⟩ := mid H10 dB
              refine ⟨p, pvs, (k : Int), _, rfl, rfl, sql hpm2, atI_nat hk, t, _, rfl, ht, rfl, _, _, rfl, _, _, rfl, rfl, ?_⟩
              exact ⟨e1, e2, rfl, dB, o1, o2, o3⟩
            · have : ¬ V.int w = V.int 0 := fun z => hw (by injection z)
              rw [decide_eq_false this]
              refine iteF ?_
              exact ⟨u, v, rfl, dA, by omega, hv1, hv2⟩
          rintro σ H10 ⟨u, v, rfl, dB, hu, hv, huv⟩
          refine ⟨fun σ H' => ∃ (u v : Nat), σ = [some (.ref h), some (.int (pl : Int)), some (.int (ar : Int)), some (.int (n : Int)), some (.ref g), some (.ref p), x6, some (.int ((0 : Int) + (i : Int))), some (.int w), some (nV u), some (nV v)] ∧ Dr F0 H6 H' h ∧ u < n ∧ v < n ∧ u ≠ v, ?_, ?_⟩
          · refine ⟨_, rfl, rfl, _, rfl, ?_⟩
            by_cases hw : w = 1
            · rw [hw, decide_eq_true (rfl : V.int 1 = V.int 1)]
              refine iteT ?_
              obtain ⟨dm, _, hpm, _⟩ := mid H10 dB
              refine ⟨_, rfl, _, rfl, _, rfl, p, _, rfl, .inl (sql hpm), h, (pvs.length : Int), F0, rfl, by omega, small_log (by omega) (by omega), dm.sub, dm.hand, fun k0 H11 hk0 hk1 dd11 => ?_⟩
              obtain ⟨k, rfl⟩ : ∃ k : Nat, k0 = (k : Int) := ⟨k0.toNat, by omega⟩
              have dC := dB.trans dd11.dr
              obtain ⟨t, e1, e2, hk, ht, o1, o2, o3⟩ := pick H11 dC k (by omega)
              obtain ⟨_, _, hpm2, _⟩ := mid H11 dC
              refine ⟨p, pvs, (k : Int), _, rfl, rfl, sql hpm2, atI_nat hk, t, _, rfl, ht, rfl, _, _, rfl, _, _, rfl, rfl, ?_⟩
              exact ⟨e2, e1, rfl, dC, o2, o1, o3.symm⟩
            · have : ¬ V.int w = V.int 1 := fun z => hw (by injection z)
              rw [decide_eq_false this]
              refine iteF ?_
              exact ⟨u, v, rfl, dB, hu, hv, huv⟩
          rintro σ H11 ⟨u, v, rfl, dC, hu, hv, huv⟩
          obtain ⟨d11, hg11, hp11, hpr11⟩ := mid H11 dC
          refine ⟨_, rfl, .inl ⟨rfl, _, sql hp11⟩, _, rfl, _, rfl, by show 2 ≤ sizeLine; decide, fun t nt => ⟨p, _, _, rfl, rfl, by rw [upd_ne (ne_of_none hp11 nt)]; exact hp11, small_lt (by omega), ?_⟩⟩
          have s12 := same_new (o := .tup [nV u, nV v]) (Same.refl H11) nt
          have npt : p ≠ t := ne_of_none hp11 nt
          have ngt : g ≠ t := ne_of_none hg11 nt
          have hp12 : (upd H11 t (.tup [nV u, nV v])) p = some (.lst pvs) := s12 _ _ hp11
          refine ⟨_, _, _, _, _, pvs ++ [.ref t], es ++ [(u, v)], rfl, (d11.trans (Dr.of_same d11.hand d11.sub s12)).upd np0 nph npF, by rw [upd_ne ngp, upd_ne ngt]; exact hg11, upd_same, ?_, fun e he => ?_, ?_, fun x hx => ?_⟩
          · refine ((hpr11.same s12).keep fun t xs => sqt_upd hp12).snoc ⟨t, rfl, sqt ?_⟩
            rw [upd_ne npt.symm, upd_same]
          · rcases List.mem_append.mp he with he | he
            · exact hok6 e he
            · rw [List.mem_singleton.mp he]
              exact ⟨hu, hv, huv⟩
          · rw [List.length_append, hel6]
            rfl
          · exact (hrc6 x hx).mono (fun e he => List.mem_append_left _ he) fun _ h => h
        · rintro σ H6 ⟨x6, x7, x8, x9, x10, pvs, es, rfl, d6, hg6, hp6, hpr6, hok6, hel6, hrc6⟩
          have hpl6 := hpr6.len
          have hel60 : es.length ≤ max pl ar := by omega
          refine ⟨_, rfl, _, rfl, _, rfl, _, rfl, h, p, pvs, F0, rfl, .inl (sql hp6), by omega, d6.sub, d6.hand, fun sh H7 ys hperm d67 nsh hsh => ?_⟩
          have d7 := d6.trans d67
          have hsh0 := d6.free nsh
          have hpr7 := hpr6.dr d67 d6.hand
          -- the pairs in their new order
          obtain ⟨es', hpe, hpr'⟩ := prs_perm hpr7 hperm
          refine ⟨_, rfl, h, sh, g, n, ys, es', gs, F0, rfl, hsh, hA.ne hsh0, hpr', d67.same g _ ngh hg6, ngh, ⟨by omega, by omega, by rw [hpe.length_eq]; omega, fun e he => hok6 e (hpe.mem_iff.mp he), hne, hnd, hgn, fun x hx => (hrc6 x hx).mono (fun e he => hpe.mem_iff.mpr he) fun _ h => h⟩, d7.sub, d7.hand, fun t a c pvs2 es2 gs2 H8 d78 hl2 pt => ?_⟩
          exact q t n a c pvs2 es2 gs2 H8 hnpl (by rw [hl2, hpe.length_eq]; exact hel60) (d7.trans d78) (pt.same (hv_sub fun b hb => d7.free hb))

theorem PtsAt.dr {K : PySem.W.Frag} {F H H' : Hp} {h t : Addr} {n : Nat} {a : Addr} {pvs : List V} {es : Es} {c : Addr} {gs : List Nat} (p : PtsAt K H t n a pvs es c gs) (d : Dr F H H' h) (hA : HandAt F H h) : PtsAt K H' t n a pvs es c gs :=
  ⟨d.sqt hA p.tp, d.sqt hA p.ar, p.pr.dr d hA, d.sqt hA p.go, p.gm⟩
theorem left_same {es : Es} {ls ls' : List Nat} (hl : ∀ x, x ∈ ls' ↔ x ∈ ls) {S : List Nat} {v : Nat} (h : Rch (left es ls) S v) : Rch (left es ls') S v :=
  h.mono (fun e he => by
    obtain ⟨k, h1, h2⟩ := mem_leftV.mp he
    exact mem_leftV.mpr ⟨k, h1, fun z => h2 ((hl k).mp z)⟩) fun _ h => h

abbrev s__law_standing : Stmt := topS 83
abbrev sl__law_standing : List Str := ["_law_hand_here", "_law_parts_here", "_law_many", "_law_arrows", "_law_goals", "_law_reached", "_law_turn", "_law_found", "_law_rotten", "_law_share", "_law_k", "_law_tail_here", "_law_head", "_law_place"]
theorem sc__law_standing : FnScope ["_law_hand_here", "_law_parts_here", "_law_many", "_law_arrows", "_law_goals", "_law_reached", "_law_turn", "_law_found", "_law_rotten", "_law_share", "_law_k", "_law_tail_here", "_law_head", "_law_place"] ["_law_hand_here", "_law_parts_here"] (defScope s__law_standing) := ⟨rfl, rfl, rfl, by decide +kernel, rfl, by decide +kernel, by decide +kernel⟩
theorem led_inner {es : Es} {rs ls rs' ls' : List Nat} (hr : ∀ x, x ∈ rs' ↔ x ∈ rs) (hl : ∀ x, x ∈ ls' ↔ x ∈ ls) (h0 : 0 ∈ rs) {v : Nat} (h : Rch (ledE es rs ls) [0] v) : v ∈ rs ∧ Rch (inner es rs' ls') [0] v :=
  h.ind (P := fun v => v ∈ rs ∧ Rch (inner es rs' ls') [0] v) (fun v hv => by
    rw [List.mem_singleton.mp hv]
    exact ⟨h0, .base List.mem_cons_self⟩) fun u v ⟨hu, hru⟩ e => by
    obtain ⟨k, h1, h2, h3⟩ := mem_ledE.mp e
    refine ⟨h3, hru.edge (List.mem_filterMap.mpr ⟨(u, v), mem_leftV.mpr ⟨k, h1, fun z => h2 ((hl k).mp z)⟩, ?_⟩)⟩
    unfold innG
    exact if_pos ⟨(hr u).mpr hu, (hr v).mpr h3⟩
theorem StdL.ok {n : Nat} {es : Es} {gs rs ls rs' ls' : List Nat} (s : StdL es gs rs ls) (hrn : ∀ r ∈ rs, r < n) (hln : ∀ l ∈ ls, l < es.length) (hr : ∀ x, x ∈ rs' ↔ x ∈ rs) (hl : ∀ x, x ∈ ls' ↔ x ∈ ls)
    (rp : rs'.Pairwise (· < ·)) (lp : ls'.Pairwise (· < ·)) : StdOk n es gs rs' ls' where
  rp := rp
  lp := lp
  rn := fun r h => hrn r ((hr r).mp h)
  ln := fun l h => hln l ((hl l).mp h)
  r0 := (hr 0).mpr s.r0
  tl := fun l h e he => (hr _).mpr (s.tl l ((hl l).mp h) e he)
  hold := fun r h => (led_inner hr hl s.r0 (s.hold r ((hr r).mp h))).2
  opn := fun g h => left_same hl (s.opn g h)
theorem led_more {es : Es} {rs ls : List Nat} {u v : Nat} (h : Rch (ledE es rs ls) [0] u) : Rch (ledE es (rs ++ [v]) ls) [0] u :=
  h.mono (fun e he => by
    obtain ⟨k, h1, h2, h3⟩ := mem_ledE.mp he
    exact mem_ledE.mpr ⟨k, h1, h2, List.mem_append_left _ h3⟩) fun _ h => h
theorem sqx_dr {F H H' : Hp} {h x : Addr} {xs : List V} {K : PySem.W.Frag} (d : Dr F H H' h) (hx : H x = some (.lst xs)) (nx : x ≠ h) : SqX K H' x xs := .inl (sql (d.same x _ nx hx))
def spStanding (K : PySem.W.Frag) : Sp := fun vs H Q _ => ∃ (h t : Addr) (n : Nat) (a : Addr) (pvs : List V) (es : Es) (c : Addr) (gs : List Nat) (F : Hp), vs = [.ref h, .ref t] ∧ PtsAt K H t n a pvs es c gs ∧ Same F H ∧ HandAt F H h ∧
  ∀ (v x y : Addr) (rs ls : List Nat) (H' : Hp), Dr F H H' h → StdAt K (hv F H H') v x y rs ls → StdOk n es gs rs ls → Q (.ref v) H'
theorem ok__law_standing (B : Bt mg) (h_law_draw : Has P w K mg base "_law_draw" 1 ["_law_hand_here", "_law_many"] spDraw) (h_law_shuffled : Has P w K mg base "_law_shuffled" 2 ["_law_hand_here", "_law_things"] (spShuffled K))
    (h_law_is_standing : Has P w K mg base "_law_is_standing" 3 ["_law_parts_here", "_law_reached", "_law_rotten"] (spIsStdL K)) (D0 : Df K mg "_law_standing" s__law_standing ["_law_hand_here", "_law_parts_here"]) : Has P w K mg base "_law_standing" 4 ["_law_hand_here", "_law_parts_here"] (spStanding K) := by
  refine D0.has fun f fd F => F.ok sc__law_standing (fun vs H Q E h => ?_) (fun cdv A outer s H vs Q E hr h => ?_)
  · obtain ⟨h, t, n, a, pvs, es, c, gs, F, rfl, _⟩ := h
    rfl
  · obtain ⟨h, t, n, a, pvs, es, c, gs, F0, rfl, pt, hF, hA, q⟩ := h
    refine ⟨_, (pss_cons (ps_asg (pv 1) (pg_tup rfl (pgs_cons (pg_name (i := 2) sc__law_standing.nd rfl (.inl rfl)) (pgs_cons (pg_name (i := 3) sc__law_standing.nd rfl (.inl rfl)) (pgs_cons (pg_name (i := 4) sc__law_standing.nd rfl (.inl rfl)) pgs_nil)))))
  (pss_cons (ps_set (i := 5) sc__law_standing.nd rfl (.inr rfl) (pe_lst (pa_cons pe_int pa_nil)))
  (pss_cons (ps_for PassesOwn.never rfl (pi_range1 (by rfl) B.range (pa_cons (pcall h_law_draw hr (by decide) (by rfl) (pa_cons (pv 0) (pa_cons (pv 2) pa_nil))) pa_nil)) (pg_name (i := 6) sc__law_standing.nd rfl (.inl rfl))
    (pss_cons (ps_setLc (i := 7) (own := [("_law_tail_here", 11), ("_law_head", 12)]) (g := gTup K 2 (gCons (gName 11) (gCons (gName 12) gNil))) rfl sc__law_standing.nd rfl rfl (sw_true rfl rfl rfl (by decide +kernel)) (k_pit (K := K) rfl (pv 3)) (blkOk_by (N := sl__law_standing) (sc := defScope s__law_standing) (by decide +kernel)) (fun _ _ _ _ _ => (pg_tup rfl (pgs_cons (pg_name (i := 11) sc__law_standing.nd rfl (.inl rfl)) (pgs_cons (pg_name (i := 12) sc__law_standing.nd rfl (.inl rfl)) pgs_nil)))) (fun _ _ _ _ _ => pts_one (pt_cmpR (k_in (K := K) rfl) (pv 11) (pv 5) (by rfl))) (fun _ _ _ _ _ => (pv 12)))
  (pss_cons (ps_setLc (i := 7) (own := [("_law_place", 13)]) (g := gName 13) rfl sc__law_standing.nd rfl rfl (sw_true rfl rfl rfl (by decide +kernel)) (k_pil (K := K) rfl (pv 7)) (blkOk_by (N := sl__law_standing) (sc := defScope s__law_standing) (by decide +kernel)) (fun _ _ _ _ _ => (pg_name (i := 13) sc__law_standing.nd rfl (.inl rfl))) (fun _ _ _ _ _ => pts_one (pt_cmpR (k_notin (K := K) rfl) (pv 13) (pv 5) (by rfl))) (fun _ _ _ _ _ => (pv 13)))
  (pss_one (ps_if (pt_cmpR op_gt (pe_callB (k_len (K := K) rfl) (by rfl) B.len bo_len (pa_cons (pv 7) pa_nil)) pe_int (nomark _))
    (pss_one (ps_expr (pe_bm PySem.F.plainAttrs_list PySem.F.slot_list_append PySem.F.type_list_append mt_append (pv 5) (pa_cons (pe_ix (k_ixl (K := K) rfl) (pv 7) (pcall h_law_draw hr (by decide) (by rfl) (pa_cons (pv 0) (pa_cons (pe_callB (k_len (K := K) rfl) (by rfl) B.len bo_len (pa_cons (pv 7) pa_nil)) pa_nil))) (fun _ _ => rfl)) pa_nil))))
    pss_nil)))))
  (pss_cons (ps_set (i := 8) sc__law_standing.nd rfl (.inl rfl) (pe_lst pa_nil))
  (pss_cons (ps_set (i := 9) sc__law_standing.nd rfl (.inl rfl) (pe_op op_add pe_int (pcall h_law_draw hr (by decide) (by rfl) (pa_cons (pv 0) (pa_cons pe_int pa_nil)))))
  (pss_cons (ps_for PassesOwn.never rfl (k_pil (K := K) rfl (pcall h_law_shuffled hr (by decide) (by rfl) (pa_cons (pv 0) (pa_cons (pe_listRg rfl (by rfl) B.list (prg_1 (by rfl) B.range (pe_callB (k_len (K := K) rfl) (by rfl) B.len bo_len (pa_cons (pv 3) pa_nil)))) pa_nil)))) (pg_name (i := 10) sc__law_standing.nd rfl (.inl rfl))
    (pss_one (ps_if (PW.pt (pw_and (pt_cmpR op_eq (pcall h_law_draw hr (by decide) (by rfl) (pa_cons (pv 0) (pa_cons (pv 9) pa_nil))) pe_int (nomark _)) (pw_and1 (pt_val (pcall h_law_is_standing hr (by decide) (by rfl) (pa_cons (pv 1) (pa_cons (pv 5) (pa_cons (pe_op op_cat (pv 8) (pe_lst (pa_cons (pv 10) pa_nil))) pa_nil))))))))
    (pss_one (ps_expr (pe_bm PySem.F.plainAttrs_list PySem.F.slot_list_append PySem.F.type_list_append mt_append (pv 8) (pa_cons (pv 10) pa_nil))))
    pss_nil)))
  (pss_one (ps_ret (pe_tup (pa_cons (pe_callTy (k_tuple (K := K) rfl) (by rfl) B.tuple bo_tuple (pa_cons (pe_callB (k_sorted (K := K) rfl) (by rfl) B.sorted bo_sorted (pa_cons (pv 5) pa_nil)) pa_nil)) (pa_cons (pe_callTy (k_tuple (K := K) rfl) (by rfl) B.tuple bo_tuple (pa_cons (pe_callB (k_sorted (K := K) rfl) (by rfl) B.sorted bo_sorted (pa_cons (pv 8) pa_nil)) pa_nil)) pa_nil))))))))))), ?_⟩
    have gn := pt.gm.n40
    have g2 := pt.gm.n2
    have g60 := pt.gm.l60
    have hl := pt.pr.len
    refine ⟨_, rfl, t, _, rfl, pt.tp, rfl, _, _, rfl, _, _, rfl, _, _, rfl, rfl, ?_⟩
    -- reached = [0]
    refine ⟨Nat.le_of_lt (small_lt (by decide : 1 ≤ 100000)), fun r nr => ?_⟩
    have nrh : r ≠ h := hA.ne nr
    have nrF : F0 r = none := Same.free hF nr
    have d1 := Dr.of_same hA hF (same_new (o := .lst [.int 0]) (Same.refl H) nr)
    refine ⟨_, rfl, _, rfl, h, (n : Int), F0, rfl, by omega, small_log (by omega) (by omega), d1.sub, d1.hand, fun nT H2 hT0 hT1 dd2 => ⟨nT, rfl, by omega, by omega, ?_⟩⟩
    have d2 := d1.trans dd2.dr
    refine for_range (lo := 0) (n := nT.toNat) (fun i σ H' => ∃ (x6 x7 : Option V) (rs : List Nat), σ = [some (.ref h), some (.ref t), some (nV n), some (.ref a), some (.ref c), some (.ref r), x6, x7, none, none, none, none, none, none] ∧ Dr F0 H H' h ∧ H' r = some (.lst (rs.map nV)) ∧ rs.Nodup ∧ 0 ∈ rs ∧ (∀ v ∈ rs, v < n) ∧ ∀ v ∈ rs, Rch (ledE es rs []) [0] v)
      ⟨none, none, [0], rfl, d2, by rw [dd2.rest r nrh]; exact upd_same, by simp, List.mem_cons_self, fun v hv => by rw [List.mem_singleton.mp hv]; omega, fun v hv => .base hv⟩ ?_ ?_
    · rintro i σ H3 hi ⟨x6, x7, rs, rfl, d3, hr3, rnd, r0, rn, rr⟩
      have pt3 := pt.dr d3 hA
      have rlen := nodup_le rnd rn
      -- found
      refine ⟨_, rfl, a, rfl, ⟨_, pt3.ar⟩, fun D nD => ?_⟩
      refine lc_val walk_tup calm_at (fun i => (es[i]?).bind fun e => if e.1 ∈ rs then some (nV e.2) else none) (by omega) nD (fun H4 s4 => Same.sqt s4 pt3.ar) ?_ fun H4 s4 h4 => ?_
      · rintro i v H4 H5 hi s4 ⟨rfl, hv⟩ Kt kt
        obtain ⟨e, hei, tt, rfl, ht⟩ := pt3.pr.get hv
        obtain ⟨e1, e2⟩ := e
        refine ⟨tt, _, rfl, Same.sqt s4 ht, rfl, _, _, rfl, _, _, rfl, rfl, rfl, ?_⟩
        refine ⟨_, rfl, _, rfl, r, _, rfl, .inl (sql (s4 _ _ hr3)), rfl, flat_nats _, _, rfl, ?_⟩
        rw [if_neg Bool.false_ne_true, inV_nats]
        have k0 := kt _ (Same.refl _)
        rw [hei] at k0
        simp only [Option.bind_some] at k0
        by_cases hm : e1 ∈ rs
        · rw [decide_eq_true hm]
          rw [if_pos hm] at k0
          exact iteT ⟨_, rfl, k0⟩
        · rw [decide_eq_false hm]
          rw [if_neg hm] at k0
          exact iteF k0
      rw [hl, fm_range] at h4
      obtain ⟨f1, hf1⟩ : ∃ f1 : List Nat, f1 = es.filterMap fun e => if e.1 ∈ rs then some e.2 else none := ⟨_, rfl⟩
      have e4 : (es.filterMap fun e => if e.1 ∈ rs then some (nV e.2) else none) = f1.map nV := by
        rw [hf1, List.map_filterMap]
        congr 1
        funext e
        split <;> rfl
      rw [e4] at h4
      have hf1m : ∀ v ∈ f1, ∃ e ∈ es, e.1 ∈ rs ∧ e.2 = v := fun v hv => by
        rw [hf1] at hv
        obtain ⟨e, he, h⟩ := List.mem_filterMap.mp hv
        split at h
        · rename_i hc
          exact ⟨e, he, hc, Option.some.inj h⟩
        · cases h
      have hf1l : f1.length ≤ es.length := by rw [hf1]; exact List.length_filterMap_le _ _
      have d4 := d3.trans (Dr.of_same d3.hand d3.sub s4)
      have hr4 := s4 _ _ hr3
      refine ⟨_, rfl, D, rfl, ⟨_, sql h4⟩, fun D2 nD2 => ?_⟩
      refine lc_val (walk_list (xs := f1.map nV)) calm_at (fun i => (f1[i]?).bind fun v => if v ∈ rs then none else some (nV v)) (by rw [List.length_map]; omega) nD2 (fun H5 s5 => sql (s5 _ _ h4)) ?_ fun H5 s5 h5 => ?_
      · rintro i v H5 H6 hi s5 ⟨rfl, hv⟩ Kt kt
        obtain ⟨u, hui, rfl⟩ := getmap hv
        refine ⟨rfl, ?_⟩
        refine ⟨_, rfl, _, rfl, r, _, rfl, .inl (sql (s5 _ _ hr4)), rfl, flat_nats _, _, rfl, ?_⟩
        rw [if_pos rfl, inV_nats]
        have k0 := kt _ (Same.refl _)
        rw [hui] at k0
        simp only [Option.bind_some] at k0
        by_cases hm : u ∈ rs
        · rw [decide_eq_true hm]
          rw [if_pos hm] at k0
          exact iteF k0
        · rw [decide_eq_false hm]
          rw [if_neg hm] at k0
          exact iteT ⟨_, rfl, k0⟩
      rw [List.length_map, fm_range] at h5
      obtain ⟨f2, hf2⟩ : ∃ f2 : List Nat, f2 = f1.filterMap fun v => if v ∈ rs then none else some v := ⟨_, rfl⟩
      have e5 : (f1.filterMap fun v => if v ∈ rs then none else some (nV v)) = f2.map nV := by
        rw [hf2, List.map_filterMap]
        congr 1
        funext v
        split <;> rfl
      rw [e5] at h5
      have hf2m : ∀ v ∈ f2, v ∉ rs ∧ ∃ e ∈ es, e.1 ∈ rs ∧ e.2 = v := fun v hv => by
        rw [hf2] at hv
        obtain ⟨u, hu, h⟩ := List.mem_filterMap.mp hv
        split at h
        · cases h
        · rename_i hc
          cases h
          exact ⟨hc, hf1m _ hu⟩
      have hf2l : f2.length ≤ es.length := by rw [hf2]; exact Nat.le_trans (List.length_filterMap_le _ _) hf1l
      have d5 := d4.trans (Dr.of_same d4.hand d4.sub s5)
      have hr5 := s5 _ _ hr4
      have nD2h : D2 ≠ h := hA.ne (d4.free nD2)
      -- if len(found) > 0
      refine ⟨_, rfl, D2, _, rfl, .inl (sql h5), _, _, rfl, rfl, _, rfl, ?_⟩
      rw [List.length_map]
      by_cases hpos : (0 : Int) < (f2.length : Int)
      · rw [decide_eq_true hpos]
        refine iteT ?_
        refine ⟨_, rfl, .inl ⟨rfl, _, sql hr5⟩, _, rfl, _, rfl, _, rfl, D2, _, rfl, .inl (sql h5), h, (f2.length : Int), F0, by rw [List.length_map]; rfl, hpos, small_log hpos (by omega), d5.sub, d5.hand, fun k0 H6 hk0 hk1 dd6 => ?_⟩
        obtain ⟨k, rfl⟩ : ∃ k : Nat, k0 = (k : Int) := ⟨k0.toNat, by omega⟩
        have hk : k < f2.length := by omega
        have hfk : f2[k]? = some f2[k] := List.getElem?_eq_getElem hk
        generalize f2[k] = v at hfk
        obtain ⟨hv1, e, he, hv2, hv3⟩ := hf2m v (List.mem_of_getElem? hfk)
        have hr6 : H6 r = some (.lst (rs.map nV)) := by rw [dd6.rest r nrh]; exact hr5
        refine ⟨D2, _, (k : Int), nV v, rfl, rfl, sql (by rw [dd6.rest D2 nD2h]; exact h5), atI_nat (by rw [List.getElem?_map, hfk]; rfl), r, _, _, rfl, rfl, hr6, by rw [List.length_map]; exact small_lt (by omega), ?_⟩
        refine ⟨_, _, rs ++ [v], rfl, (d5.trans dd6.dr).upd nr nrh nrF, by rw [upd_same, List.map_append]; rfl, ?_, List.mem_append_left _ r0, fun u hu => ?_, fun u hu => ?_⟩
        · rw [List.nodup_append]
          refine ⟨rnd, by simp, fun x hx y hy => ?_⟩
          rw [List.mem_singleton.mp hy]
          exact fun z => hv1 (z ▸ hx)
        · rcases List.mem_append.mp hu with hu | hu
          · exact rn u hu
          · rw [List.mem_singleton.mp hu, ← hv3]
            exact (pt.gm.ok e he).2.1
        · rcases List.mem_append.mp hu with hu | hu
          · exact led_more (rr u hu)
          · rw [List.mem_singleton.mp hu]
            obtain ⟨j, hj⟩ := List.getElem?_of_mem he
            exact (led_more (rr e.1 hv2)).edge (mem_ledE.mpr ⟨j, by rw [hj, ← hv3], List.not_mem_nil, List.mem_append_right _ List.mem_cons_self⟩)
      · rw [decide_eq_false hpos]
        refine iteF ?_
        exact ⟨_, _, rs, rfl, d5, hr5, rnd, r0, rn, rr⟩
    · rintro σ H3 ⟨x6, x7, rs, rfl, d3, hr3, rnd, r0, rn, rr⟩
      have pt3 := pt.dr d3 hA
      have rlen := nodup_le rnd rn
      -- rotten, share
      refine ⟨Nat.zero_le _, fun l nl => ?_⟩
      have nl0 := d3.free nl
      have nlh : l ≠ h := hA.ne nl0
      have nlF : F0 l = none := Same.free hF nl0
      have nrl : r ≠ l := ne_of_none hr3 nl
      have d4 := d3.trans (Dr.of_same d3.hand d3.sub (same_new (o := .lst []) (Same.refl H3) nl))
      refine ⟨_, rfl, h, 3, F0, rfl, by decide, small_log (by decide) (by omega), d4.sub, d4.hand, fun sh0 H5 hs0 hs1 dd5 => ⟨_, _, rfl, rfl, ?_⟩⟩
      have d5 := d4.trans dd5.dr
      have hr5 : H5 r = some (.lst (rs.map nV)) := by rw [dd5.rest r nrh, upd_ne nrl]; exact hr3
      have hl5 : H5 l = some (.lst ([] : List V)) := by rw [dd5.rest l nlh]; exact upd_same
      have pt5 := pt.dr d5 hA
      -- the arrows in a drawn order
      refine ⟨_, rfl, _, rfl, a, pvs, rfl, .inr pt5.ar, pvs.length, rfl, ⟨by omega, by omega, by omega, by omega, by omega⟩, fun rg nrg => ?_⟩
      have s6 := same_new (o := .lst (rgV 0 (pvs.length : Int))) (Same.refl H5) nrg
      have d6 := d5.trans (Dr.of_same d5.hand d5.sub s6)
      refine ⟨h, rg, _, F0, rfl, .inl (sql upd_same), by rw [rgV_length]; omega, d6.sub, d6.hand, fun sf H7 ksv hperm d67 nsf hsf => ?_⟩
      rw [rgV0] at hperm
      obtain ⟨ks, rfl, hks⟩ := perm_nats hperm
      have d7 := d6.trans d67
      have hsf0 := d6.free nsf
      have nsfh : sf ≠ h := hA.ne hsf0
      have hr7 := d67.same r _ nrh (s6 _ _ hr5)
      have hl7 := d67.same l _ nlh (s6 _ _ hl5)
      have nlsf : l ≠ sf := ne_of_none (s6 _ _ hl5) nsf
      have knd : ks.Nodup := hks.nodup_iff.mpr List.nodup_range
      have kn : ∀ k ∈ ks, k < es.length := fun k hk => by have := List.mem_range.mp (hks.mem_iff.mp hk); omega
      refine ⟨sf, rfl, ⟨_, sql hsf⟩, ?_⟩
      have st0 : StdL es gs rs [] := ⟨r0, fun l hl => (List.not_mem_nil hl).elim, rr, fun g hg => (pt.gm.rch g hg).mono (fun e he => by
        obtain ⟨k, hk⟩ := List.getElem?_of_mem he
        exact mem_leftV.mpr ⟨k, hk, List.not_mem_nil⟩) fun _ h => h⟩
      refine for_list (xs := ks.map nV) (fun i σ H' => ∃ (x10 : Option V) (ls : List Nat), σ = [some (.ref h), some (.ref t), some (nV n), some (.ref a), some (.ref c), some (.ref r), x6, x7, some (.ref l), some (.int ((2 : Int) + sh0)), x10, none, none, none] ∧ Dr F0 H H' h ∧ H' r = some (.lst (rs.map nV)) ∧ H' l = some (.lst (ls.map nV)) ∧ H' sf = some (.lst (ks.map nV)) ∧
        StdL es gs rs ls ∧ ls.Nodup ∧ (∀ x ∈ ls, x ∈ ks.take i) ∧ ls.length ≤ i)
        ⟨none, [], rfl, d7, hr7, hl7, hsf, st0, List.nodup_nil, fun x hx => (List.not_mem_nil hx).elim, Nat.zero_le _⟩ ?_ ?_ ?_
      · rintro i σ H' _ ⟨x10, ls, rfl, _, _, _, h5, _⟩
        exact sql h5
      · rintro i v σ H8 hv ⟨x10, ls, rfl, d8, hr8, hl8, hsf8, st8, lnd, lks, lll⟩
        obtain ⟨k, hki, rfl⟩ := getmap hv
        have hkn := kn k (List.mem_of_getElem? hki)
        have hilt := (List.getElem?_eq_some_iff.mp hki).1
        have hkl : ks.length = es.length := by rw [hks.length_eq, List.length_range]; exact hl
        have hnk : k ∉ ls := fun z => by
          obtain ⟨j, hj⟩ := List.getElem?_of_mem (lks k z)
          have hji : j < i := by
            have := (List.getElem?_eq_some_iff.mp hj).1
            rw [List.length_take] at this
            omega
          rw [List.getElem?_take_of_lt hji] at hj
          have := (List.getElem?_inj (by omega) knd).mp (by rw [hj, hki])
          omega
        refine ifs_split (fun H9 => Dr F0 H8 H9 h ∧ StdL es gs rs (ls ++ [k])) (fun H9 => Dr F0 H8 H9 h) (fun Kt kt kf => ?_) (fun H9 ⟨d89, st9⟩ => ?_) fun H9 d89 => ?_
        · refine ⟨_, rfl, _, rfl, h, _, F0, rfl, by omega, small_log (by omega) (by omega), d8.sub, d8.hand, fun n0 H9 hn0 hn1 dd9 => ⟨rfl, _, rfl, ?_⟩⟩
          by_cases hz : n0 = 0
          · rw [hz, decide_eq_true (rfl : V.int 0 = V.int 0)]
            have d9 := d8.trans dd9.dr
            have hr9 : H9 r = some (.lst (rs.map nV)) := by rw [dd9.rest r nrh]; exact hr8
            have hl9 : H9 l = some (.lst (ls.map nV)) := by rw [dd9.rest l nlh]; exact hl8
            have pt9 := pt.dr d9 hA
            refine iteT ⟨_, rfl, _, rfl, _, rfl, _, rfl, Nat.le_of_lt (small_lt (by decide : 1 ≤ 100000)), fun z nz => ?_⟩
            have s10 := same_new (o := .lst [nV k]) (Same.refl H9) nz
            refine ⟨l, z, _, _, rfl, rfl, s10 _ _ hl9, upd_same, by rw [List.length_map]; exact small_sz (by show ls.length + 1 ≤ 100000; omega), fun lz nlz => ?_⟩
            have hcat : (ls.map nV ++ [nV k]) = (ls ++ [k]).map nV := by rw [List.map_append]; rfl
            rw [hcat]
            have s11 := same_new (o := .lst ((ls ++ [k]).map nV)) s10 nlz
            refine ⟨t, n, a, pvs, es, c, gs, r, lz, rs, ls ++ [k], rfl, pt9.same s11, .inl (sql (s11 _ _ hr9)), .inl (sql upd_same), rnd, rn, fun x hx => ?_, by rw [List.length_append, List.length_singleton]; omega, fun H12 ok s12 hok => ⟨_, rfl, ?_⟩⟩
            · rcases List.mem_append.mp hx with hx | hx
              · exact kn x (List.mem_of_mem_take (lks x hx))
              · rw [List.mem_singleton.mp hx]
                exact hkn
            · have dA : Dr F0 H8 H12 h := dd9.dr.trans ((Dr.of_same dd9.hand dd9.sub s11).trans (Dr.of_same (Dr.of_same dd9.hand dd9.sub s11).hand (Dr.of_same dd9.hand dd9.sub s11).sub s12))
              cases ok with
              | true => exact kt _ ⟨dA, hok.mp rfl⟩
              | false => exact kf _ dA
          · have : ¬ V.int n0 = V.int 0 := fun z => hz (by injection z)
            rw [decide_eq_false this]
            exact iteF (kf _ dd9.dr)
        · have hl9 := d89.same l _ nlh hl8
          have d9 := d8.trans d89
          refine ⟨_, rfl, .inl ⟨rfl, _, sql hl9⟩, _, rfl, l, _, _, rfl, rfl, hl9, by rw [List.length_map]; exact small_lt (by omega), ?_⟩
          refine ⟨_, ls ++ [k], rfl, d9.upd nl0 nlh nlF, by rw [upd_ne nrl]; exact d89.same r _ nrh hr8, by rw [upd_same, List.map_append]; rfl, by rw [upd_ne nlsf.symm]; exact d89.same sf _ nsfh hsf8, st9, ?_, fun x hx => ?_, by rw [List.length_append, List.length_singleton]; omega⟩
          · rw [List.nodup_append]
            refine ⟨lnd, by simp, fun x hx y hy => ?_⟩
            rw [List.mem_singleton.mp hy]
            exact fun z => hnk (z ▸ hx)
          · rw [take_snoc_of hki]
            rcases List.mem_append.mp hx with hx | hx
            · exact List.mem_append_left _ (lks x hx)
            · exact List.mem_append_right _ hx
        · refine ⟨_, ls, rfl, d8.trans d89, d89.same r _ nrh hr8, d89.same l _ nlh hl8, d89.same sf _ nsfh hsf8, st8, lnd, fun x hx => ?_, by omega⟩
          rw [take_snoc_of hki]
          exact List.mem_append_left _ (lks x hx)
      · rintro σ H8 ⟨x10, ls, rfl, d8, hr8, hl8, hsf8, st8, lnd, lks, lll⟩
        -- the two sorted tuples
        refine ⟨_, rfl, r, rs.map fun (n : Nat) => (n : Int), rfl, sql (by rw [hr8, List.map_map]; rfl), fun ns1 p1 hp1 hw1 np1 => ?_⟩
        obtain ⟨rs', e1, hpr, hwr⟩ := sort_nats hp1 hw1
        rw [e1]
        refine ⟨p1, _, rfl, .inl ⟨sql upd_same, fun tx ntx => ?_⟩⟩
        have s9 := same_new (o := .tup (rs'.map nV)) (same_new (o := .lst (rs'.map nV)) (Same.refl H8) np1) ntx
        have hl9 := s9 _ _ hl8
        generalize hH9 : upd (upd H8 p1 (.lst (rs'.map nV))) tx (.tup (rs'.map nV)) = H9 at s9 hl9
        have htx9 : H9 tx = some (.tup (rs'.map nV)) := by rw [← hH9]; exact upd_same
        have ntx0 : H tx = none := d8.free (Same.free (same_new (o := .lst (rs'.map nV)) (Same.refl H8) np1) ntx)
        refine ⟨_, rfl, l, ls.map fun (n : Nat) => (n : Int), rfl, sql (by rw [hl9, List.map_map]; rfl), fun ns2 p2 hp2 hw2 np2 => ?_⟩
        obtain ⟨ls', e2, hpl, hwl⟩ := sort_nats hp2 hw2
        rw [e2]
        refine ⟨p2, _, rfl, .inl ⟨sql upd_same, fun ty nty => ⟨Nat.le_of_lt (small_lt (by decide : 2 ≤ 100000)), fun tv ntv => ?_⟩⟩⟩
        have s10 := same_new (o := .lst (ls'.map nV)) s9 np2
        have s11 := same_new (o := .tup (ls'.map nV)) s10 nty
        have s12 := same_new (o := .tup [.ref tx, .ref ty]) s11 ntv
        have nty0 : H ty = none := d8.free (Same.free s10 nty)
        have ntv0 : H tv = none := d8.free (Same.free s11 ntv)
        have d12 := d8.trans (Dr.of_same d8.hand d8.sub s12)
        have nxy : tx ≠ ty := ne_of_none (same_new (o := .lst (ls'.map nV)) (Same.refl H9) np2 _ _ htx9) nty
        have nxv : tx ≠ tv := ne_of_none (by rw [upd_ne nxy]; exact same_new (o := .lst (ls'.map nV)) (Same.refl H9) np2 _ _ htx9) ntv
        have nyv : ty ≠ tv := ne_of_none upd_same ntv
        refine q tv tx ty rs' ls' _ d12 ⟨sqt (hv_new hF ntv0 upd_same), sqt (hv_new hF ntx0 ?_), sqt (hv_new hF nty0 ?_)⟩
          (st8.ok rn (fun x hx => kn x (List.mem_of_mem_take (lks x hx))) (fun x => hpr.mem_iff) (fun x => hpl.mem_iff) (pw_lt hwr (hpr.nodup_iff.mpr rnd)) (pw_lt hwl (hpl.nodup_iff.mpr lnd)))
        · rw [upd_ne nxv, upd_ne nxy]
          exact same_new (o := .lst (ls'.map nV)) (Same.refl H9) np2 _ _ htx9
        · rw [upd_ne nyv, upd_same]

/-- where a goal is not reached, an arrow is worth a try -/
theorem worth_ex {n : Nat} {es : Es} {gs rs ls : List Nat} (o : StdOk n es gs rs ls) {g : Nat} (hg : g ∈ gs) (hn : g ∉ rs) : Alive es gs rs ls g ∧ ∃ i, i ∈ triesL es rs ls ∧ ∃ e, es[i]? = some e ∧ Alive es gs rs ls e.2 := by
  have h0 : Alive es gs rs ls g := .base (mem_openG.mpr ⟨hg, hn⟩)
  refine ⟨h0, ?_⟩
  have key : g ∈ rs ∨ (Alive es gs rs ls g → ∃ i, i ∈ triesL es rs ls ∧ ∃ e, es[i]? = some e ∧ Alive es gs rs ls e.2) := by
    refine (o.opn g hg).ind (P := fun v => v ∈ rs ∨ (Alive es gs rs ls v → ∃ i, i ∈ triesL es rs ls ∧ ∃ e, es[i]? = some e ∧ Alive es gs rs ls e.2)) (fun v hv => ?_) fun u v ih e => ?_
    · rw [List.mem_singleton.mp hv]
      exact .inl o.r0
    · by_cases hv : v ∈ rs
      · exact .inl hv
      · refine .inr fun ha => ?_
        obtain ⟨k, hk, hkl⟩ := mem_leftV.mp e
        by_cases hu : u ∈ rs
        · exact ⟨k, mem_tries.mpr ⟨_, hk, hkl, hu, hv⟩, _, hk, ha⟩
        · rcases ih with ih | ih
          · exact absurd ih hu
          · refine ih (Rch.edge ha (List.mem_filterMap.mpr ⟨(u, v), List.mem_filterMap.mpr ⟨(u, v), e, ?_⟩, rfl⟩))
            unfold unrG
            exact if_pos ⟨hu, hv⟩
  rcases key with h | h
  · exact absurd h hn
  · exact h h0

theorem dp_prs {K : PySem.W.Frag} {H : Hp} : ∀ {pvs : List V} {es : Es}, Prs K H pvs es → DpAll K H pvs (es.map dE)
  | [], [], _ => .nil
  | [], _ :: _, p => absurd p.len (by simp)
  | _ :: _, [], p => absurd p.len (by simp)
  | v :: vs, e :: es, p => by
    obtain ⟨t, rfl, ht⟩ := p.at_ 0 v e rfl rfl
    refine .cons (.tup ht (.cons (.int _) (.cons (.int _) .nil))) (dp_prs ⟨?_, fun i v e a b => p.at_ (i + 1) v e ?_ ?_⟩)
    · have := p.len
      simpa using this
    · simpa using a
    · simpa using b
theorem MapOk.of {K : PySem.W.Frag} {C : Addr} {H : Hp} {p : Addr} {n : Nat} {a : Addr} {pvs : List V} {es : Es} {c : Addr} {gs : List Nat} (m : MapAt K C H p n a pvs c gs) (pr : Prs K H pvs es) (g : GoodMap n es gs) : MapOk K C H p n a pvs es c gs :=
  ⟨m, pr, by have := g.n2; omega, by have := g.n40; omega, by have := g.l60; omega, by have := g.gl2; have := g.n40; omega, fun e he => ⟨(g.ok e he).1, (g.ok e he).2.1⟩, fun x hx => (g.gl x hx).2⟩
theorem MapOk.dr {K : PySem.W.Frag} {C : Addr} {F H H' : Hp} {h p : Addr} {n : Nat} {a : Addr} {pvs : List V} {es : Es} {c : Addr} {gs : List Nat} (m : MapOk K C H p n a pvs es c gs) (d : Dr F H H' h) (hA : HandAt F H h) : MapOk K C H' p n a pvs es c gs := by
  obtain ⟨⟨dx, hp⟩, har, hgo⟩ := m.at_
  obtain ⟨cc, cells, i, r, s, k, h1, _⟩ := hA.ob
  exact ⟨⟨⟨dx, d.same _ _ (ne_of hp h1 (by intro z; cases z)) hp⟩, d.sqt hA har, d.sqt hA hgo⟩, m.pr.dr d hA, m.n0, m.n1, m.el, m.gn, m.ok, m.gl⟩

theorem StdAt.dr {K : PySem.W.Frag} {F H H' : Hp} {h t x y : Addr} {rs ls : List Nat} (s : StdAt K H t x y rs ls) (d : Dr F H H' h) (hA : HandAt F H h) : StdAt K H' t x y rs ls := ⟨d.sqt hA s.t, d.sqt hA s.x, d.sqt hA s.y⟩
theorem StdAt.upd {K : PySem.W.Frag} {H : Hp} {t x y p : Addr} {rs ls : List Nat} {ys : List V} {o : HO} (hp : H p = some (.lst ys)) (s : StdAt K H t x y rs ls) : StdAt K (upd H p o) t x y rs ls := ⟨sqt_upd hp s.t, sqt_upd hp s.x, sqt_upd hp s.y⟩
/-- a value that is a standing of the map -/
def IsSt (K : PySem.W.Frag) (H : Hp) (n : Nat) (es : Es) (gs : List Nat) (v : V) : Prop := ∃ (u x y : Addr) (rs ls : List Nat), v = .ref u ∧ StdAt K H u x y rs ls ∧ StdOk n es gs rs ls
theorem IsSt.same {K : PySem.W.Frag} {H H' : Hp} {n : Nat} {es : Es} {gs : List Nat} {v : V} (s : Same H H') (h : IsSt K H n es gs v) : IsSt K H' n es gs v := by
  obtain ⟨u, x, y, rs, ls, e, S, o⟩ := h
  exact ⟨u, x, y, rs, ls, e, S.same s, o⟩
theorem begin_ok {n : Nat} {es : Es} {gs : List Nat} (g : GoodMap n es gs) : StdOk n es gs [0] [] where
  rp := by simp
  lp := List.Pairwise.nil
  rn := fun r hr => by rw [List.mem_singleton.mp hr]; have := g.n2; omega
  ln := fun l hl => (List.not_mem_nil hl).elim
  r0 := List.mem_cons_self
  tl := fun l hl => (List.not_mem_nil hl).elim
  hold := fun r hr => .base hr
  opn := fun x hx => (g.rch x hx).mono (fun e he => by
    obtain ⟨k, hk⟩ := List.getElem?_of_mem he
    exact mem_leftV.mpr ⟨k, hk, List.not_mem_nil⟩) fun _ h => h

/-! what changes lists alone -/
def NotL (o : HO) : Prop := (∀ ys, o ≠ .lst ys) ∧ ∀ ps, o ≠ .tbl ps
/-- all but the lists (and the tables of code objects) stays -/
def Nl (H H' : Hp) : Prop := ∀ b o, NotL o → H b = some o → H' b = some o
theorem Same.nl {H H' : Hp} (s : Same H H') : Nl H H' := fun b o _ e => s b o e
theorem Nl.trans {H H1 H2 : Hp} (a : Nl H H1) (b : Nl H1 H2) : Nl H H2 := fun x o h e => b x o h (a x o h e)
theorem Nl.refl (H : Hp) : Nl H H := fun _ _ _ e => e
theorem notL_tup {xs : List V} : NotL (.tup xs) := ⟨fun _ z => (by cases z), fun _ z => (by cases z)⟩
theorem notL_ins {C dx : Addr} {fs : List (Str × V)} : NotL (.ins C dx fs) := ⟨fun _ z => (by cases z), fun _ z => (by cases z)⟩
theorem nl_upd {H : Hp} {p : Addr} {ys : List V} {o : HO} (hp : H p = some (.lst ys)) : Nl H (upd H p o) := fun b u n e => by
  rw [upd_ne fun z => n.1 ys (by rw [z, hp] at e; exact (Option.some.inj e).symm)]
  exact e
theorem Dr.nl {F H H' : Hp} {h : Addr} (d : Dr F H H' h) (hA : HandAt F H h) : Nl H H' := fun b o n e => by
  obtain ⟨c, cells, i, r, s, k, h1, _⟩ := hA.ob
  exact d.same b o (fun z => n.1 _ (by rw [z, h1] at e; exact (Option.some.inj e).symm)) e
theorem Nl.sqt {K : PySem.W.Frag} {H H' : Hp} {a : Addr} {xs : List V} (n : Nl H H') (h : SqT K H a xs) : SqT K H' a xs := by
  rcases h with (h | ⟨o, h⟩) | h
  · exact .inl (.inl (n _ _ notL_tup h))
  · exact .inl (.inr ⟨o, n _ _ ⟨fun _ z => (by cases z), fun _ z => (by cases z)⟩ h⟩)
  · exact .inr h
section
variable {K : PySem.W.Frag} {H H' : Hp} (s : Nl H H')
include s
theorem MapAt.nl {C p : Addr} {n : Nat} {a : Addr} {pvs : List V} {c : Addr} {gs : List Nat} (m : MapAt K C H p n a pvs c gs) : MapAt K C H' p n a pvs c gs :=
  ⟨m.ob.elim fun dx h => ⟨dx, s _ _ notL_ins h⟩, s.sqt m.ar, s.sqt m.go⟩
theorem Prs.nl {vs : List V} {es : Es} (p : Prs K H vs es) : Prs K H' vs es := ⟨p.len, fun i v e a b => (p.at_ i v e a b).elim fun t ⟨h1, h2⟩ => ⟨t, h1, s.sqt h2⟩⟩
theorem MapOk.nl {C p : Addr} {n : Nat} {a : Addr} {pvs : List V} {es : Es} {c : Addr} {gs : List Nat} (m : MapOk K C H p n a pvs es c gs) : MapOk K C H' p n a pvs es c gs :=
  ⟨m.at_.nl s, m.pr.nl s, m.n0, m.n1, m.el, m.gn, m.ok, m.gl⟩
theorem StdAt.nl {t x y : Addr} {rs ls : List Nat} (h : StdAt K H t x y rs ls) : StdAt K H' t x y rs ls := ⟨s.sqt h.t, s.sqt h.x, s.sqt h.y⟩
theorem PtsAt.nl {t : Addr} {n : Nat} {a : Addr} {pvs : List V} {es : Es} {c : Addr} {gs : List Nat} (p : PtsAt K H t n a pvs es c gs) : PtsAt K H' t n a pvs es c gs := ⟨s.sqt p.tp, s.sqt p.ar, p.pr.nl s, s.sqt p.go, p.gm⟩
end
/-- all but some objects stays -/
structure Kp (L : List Addr) (H H' : Hp) : Prop where
  same : ∀ b o, b ∉ L → H b = some o → H' b = some o
  live : ∀ b, H b ≠ none → H' b ≠ none
theorem Same.live {H H' : Hp} (s : Same H H') {b : Addr} (h : H b ≠ none) : H' b ≠ none := by
  cases e : H b with
  | none => exact absurd e h
  | some o =>
    rw [s b o e]
    exact fun z => by cases z
theorem Same.kp {L : List Addr} {H H' : Hp} (s : Same H H') : Kp L H H' := ⟨fun b o _ e => s b o e, fun _ h => Same.live s h⟩
theorem Kp.trans {L : List Addr} {H H1 H2 : Hp} (a : Kp L H H1) (b : Kp L H1 H2) : Kp L H H2 := ⟨fun x o h e => b.same x o h (a.same x o h e), fun x h => b.live x (a.live x h)⟩
theorem kp_upd {L : List Addr} {H : Hp} {p : Addr} {o : HO} (hp : p ∈ L) : Kp L H (upd H p o) where
  same := fun b u n e => by rw [upd_ne (fun z => n (by rw [z]; exact hp))]; exact e
  live := fun b h => by
    by_cases z : b = p
    · rw [z, upd_same]
      exact fun z => by cases z
    · rw [upd_ne z]
      exact h
theorem Kp.nl {L : List Addr} {H H' : Hp} (k : Kp L H H') (hl : ∀ b ∈ L, ∃ ys, H b = some (.lst ys)) : Nl H H' := fun b o n e => by
  refine k.same b o (fun z => ?_) e
  obtain ⟨ys, h⟩ := hl b z
  rw [h] at e
  exact n.1 ys (Option.some.inj e).symm
/-- what was new when a draw's account began may be changed -/
theorem Dr.kp {F H0 H H' : Hp} {h : Addr} {L : List Addr} (d : Dr F H0 H h) (k : Kp L H H') (hn : ∀ b ∈ L, H0 b = none) (nh : h ∉ L) (hF : Same F H0) : Dr F H0 H' h where
  hand := by
    obtain ⟨c, cells, i, r, s, k', h1, h2, h3⟩ := d.hand.ob
    exact ⟨⟨c, cells, i, r, s, k', k.same _ _ nh h1, h2, h3⟩, d.hand.nF⟩
  same := fun b o nb e => k.same b o (fun z => by rw [hn b z] at e; cases e) (d.same b o nb e)
  sub := fun b o e => k.same b o (fun z => by
    have := hF b o e
    rw [hn b z] at this
    cases this) (d.sub b o e)

/-! how many lives are left: parts of what is left, in an order, and their greatest excess -/
def inK (es : Es) (B R : List Nat) (v k : Nat) : Bool := decide (k ∉ B) && match es[k]? with
  | some e => decide (e.1 ∈ R) && decide (e.2 = v)
  | none => false
theorem inK_iff {es : Es} {B R : List Nat} {v k : Nat} : inK es B R v k = true ↔ k ∉ B ∧ ∃ u, es[k]? = some (u, v) ∧ u ∈ R := by
  unfold inK
  cases h : es[k]? with
  | none => simp
  | some e =>
    simp only [Bool.and_eq_true, decide_eq_true_eq]
    constructor
    · rintro ⟨h1, h2, h3⟩
      exact ⟨h1, e.1, by rw [← h3], h2⟩
    · rintro ⟨h1, u, h2, h3⟩
      cases h2
      exact ⟨h1, h3, rfl⟩
/-- how many arrows, none of B, lead from places of R to v -/
def inn (es : Es) (B R : List Nat) (v : Nat) : Nat := (List.range es.length).countP (inK es B R v)
/-- an arrow, none of B -/
def Arr (es : Es) (B : List Nat) (u w : Nat) : Prop := ∃ k, k ∉ B ∧ es[k]? = some (u, w)
theorem get_lt {es : Es} {k : Nat} {e : Nat × Nat} (h : es[k]? = some e) : k ∈ List.range es.length := List.mem_range.mpr (List.getElem?_eq_some_iff.mp h).1
theorem cp_lt {l : List Nat} {P Q : Nat → Bool} (h : ∀ x ∈ l, P x = true → Q x = true) {k : Nat} (hk : k ∈ l) (h1 : P k = false) (h2 : Q k = true) : l.countP P + 1 ≤ l.countP Q := by
  obtain ⟨a, b, rfl⟩ := List.append_of_mem hk
  rw [List.countP_append, List.countP_append, List.countP_cons, List.countP_cons, h1, h2]
  have a1 : a.countP P ≤ a.countP Q := List.countP_mono_left fun x hx => h x (List.mem_append_left _ hx)
  have a2 : b.countP P ≤ b.countP Q := List.countP_mono_left fun x hx => h x (List.mem_append_right _ (List.mem_cons_of_mem _ hx))
  simp
  omega
theorem cp_one {P Q : Nat → Bool} {k : Nat} (h2 : Q k = true) : ∀ {l : List Nat}, l.Nodup → k ∈ l → (∀ x ∈ l, P x = (Q x && decide (x ≠ k))) → l.countP Q = l.countP P + 1 := by
  intro l nd hk h
  obtain ⟨a, b, rfl⟩ := List.append_of_mem hk
  have nd2 := List.nodup_append.mp nd
  have nb := (List.nodup_cons.mp nd2.2.1).1
  have a1 : a.countP P = a.countP Q := List.countP_congr fun x hx => by
    rw [h x (List.mem_append_left _ hx)]
    have : x ≠ k := fun z => nd2.2.2 x hx k List.mem_cons_self z
    simp [this]
  have a2 : b.countP P = b.countP Q := List.countP_congr fun x hx => by
    rw [h x (List.mem_append_right _ (List.mem_cons_of_mem _ hx))]
    have : x ≠ k := fun z => nb (z ▸ hx)
    simp [this]
  have hPk : P k = false := by rw [h k hk]; simp
  rw [List.countP_append, List.countP_append, List.countP_cons, List.countP_cons, h2, hPk, a1, a2]
  simp
  omega
section
variable {es : Es} {gs B R : List Nat}
theorem inn_pos {v : Nat} : 0 < inn es B R v ↔ ∃ u ∈ R, Arr es B u v := by
  unfold inn
  rw [List.countP_pos_iff]
  constructor
  · rintro ⟨k, _, h⟩
    obtain ⟨h1, u, h2, h3⟩ := inK_iff.mp h
    exact ⟨u, h3, k, h1, h2⟩
  · rintro ⟨u, h3, k, h1, h2⟩
    exact ⟨k, get_lt h2, inK_iff.mpr ⟨h1, u, h2, h3⟩⟩
theorem inn_mono {R' : List Nat} {v : Nat} (h : ∀ u ∈ R, u ∈ R') : inn es B R v ≤ inn es B R' v := List.countP_mono_left fun k _ hk => by
  obtain ⟨h1, u, h2, h3⟩ := inK_iff.mp hk
  exact inK_iff.mpr ⟨h1, u, h2, h _ h3⟩
theorem inn_congr {R' B' : List Nat} {v : Nat} (h : ∀ u, Arr es B u v ∨ Arr es B' u v → (u ∈ R ↔ u ∈ R')) (hB : ∀ k u, es[k]? = some (u, v) → (k ∈ B ↔ k ∈ B')) : inn es B R v = inn es B' R' v := List.countP_congr fun k _ => by
  rw [inK_iff, inK_iff]
  constructor
  · rintro ⟨h1, u, h2, h3⟩
    exact ⟨fun z => h1 ((hB k u h2).mpr z), u, h2, (h u (.inl ⟨k, h1, h2⟩)).mp h3⟩
  · rintro ⟨h1, u, h2, h3⟩
    exact ⟨fun z => h1 ((hB k u h2).mp z), u, h2, (h u (.inr ⟨k, h1, h2⟩)).mpr h3⟩
theorem inn_more {R' : List Nat} {u v : Nat} (h : ∀ u ∈ R, u ∈ R') (a : Arr es B u v) (h1 : u ∈ R') (h2 : u ∉ R) : inn es B R v + 1 ≤ inn es B R' v := by
  obtain ⟨k, k1, k2⟩ := a
  refine cp_lt (fun x _ hx => ?_) (get_lt k2) (Bool.eq_false_iff.mpr fun z => ?_) (inK_iff.mpr ⟨k1, u, k2, h1⟩)
  · obtain ⟨a1, w, a2, a3⟩ := inK_iff.mp hx
    exact inK_iff.mpr ⟨a1, w, a2, h _ a3⟩
  · obtain ⟨a1, w, a2, a3⟩ := inK_iff.mp z
    rw [k2] at a2
    cases a2
    exact h2 a3
theorem inn_cut {k u v : Nat} (k1 : k ∉ B) (k2 : es[k]? = some (u, v)) (k3 : u ∈ R) : inn es B R v = inn es (k :: B) R v + 1 := by
  refine cp_one (inK_iff.mpr ⟨k1, u, k2, k3⟩) List.nodup_range (get_lt k2) fun x _ => ?_
  rw [Bool.eq_iff_iff, Bool.and_eq_true, inK_iff, inK_iff, decide_eq_true_eq, List.mem_cons, not_or]
  constructor
  · rintro ⟨⟨a, b⟩, c⟩
    exact ⟨⟨b, c⟩, a⟩
  · rintro ⟨⟨b, c⟩, a⟩
    exact ⟨⟨a, b⟩, c⟩
theorem inn_other {k u v x : Nat} (k2 : es[k]? = some (u, v)) (hx : x ≠ v) : inn es (k :: B) R x = inn es B R x := inn_congr (fun _ _ => Iff.rfl) fun j w hj => by
  rw [List.mem_cons]
  refine ⟨fun h => h.elim (fun z => ?_) id, .inr⟩
  rw [z, k2] at hj
  cases hj
  exact absurd rfl hx
/-- o: an order of places beyond R, each with an arrow from before, each but goals with one to behind; m: by how many the arrows are more than the places -/
inductive PO (es : Es) (gs B : List Nat) : List Nat → List Nat → Nat → Prop
  | nil {R : List Nat} : (∀ g ∈ gs, g ∈ R) → PO es gs B R [] 0
  | cons {R : List Nat} {v : Nat} {o : List Nat} {m m' : Nat} : v ∉ R → 0 < inn es B R v → (v ∈ gs ∨ ∃ w ∈ o, Arr es B v w) → PO es gs B (v :: R) o m → m' + 1 = m + inn es B R v → PO es gs B R (v :: o) m'
variable {o : List Nat} {m : Nat}
theorem PO.congr {R' : List Nat} (h : PO es gs B R o m) (e : ∀ x, x ∈ R ↔ x ∈ R') : PO es gs B R' o m := by
  induction h generalizing R' with
  | nil h => exact .nil fun g hg => (e g).mp (h g hg)
  | @cons R v o m m' h1 h2 h3 h4 h5 ih =>
    have q : inn es B R v = inn es B R' v := inn_congr (fun u _ => e u) fun _ _ _ => Iff.rfl
    exact .cons (fun z => h1 ((e v).mpr z)) (q ▸ h2) h3 (ih fun x => by rw [List.mem_cons, List.mem_cons, e x]) (q ▸ h5)
theorem PO.out (h : PO es gs B R o m) : ∀ v ∈ o, v ∉ R := by
  induction h with
  | nil => exact fun v hv => (List.not_mem_nil hv).elim
  | cons h1 h2 h3 h4 h5 ih =>
    intro x hx
    rcases List.mem_cons.mp hx with rfl | hx
    · exact h1
    · exact fun z => ih x hx (List.mem_cons_of_mem _ z)
theorem PO.goal (h : PO es gs B R o m) {g : Nat} (hg : g ∈ gs) : g ∈ R ∨ g ∈ o := by
  induction h with
  | nil h => exact .inl (h g hg)
  | cons h1 h2 h3 h4 h5 ih =>
    rcases ih with z | z
    · rcases List.mem_cons.mp z with rfl | z
      · exact .inr List.mem_cons_self
      · exact .inl z
    · exact .inr (List.mem_cons_of_mem _ z)
theorem PO.nd (h : PO es gs B R o m) : o.Nodup := by
  induction h with
  | nil => exact .nil
  | cons h1 h2 h3 h4 h5 ih => exact List.nodup_cons.mpr ⟨fun z => h4.out _ z List.mem_cons_self, ih⟩
/-- with one more place ahead -/
theorem PO.grow (h : PO es gs B R o m) {v : Nat} (hv : v ∉ o) : ∃ m', m ≤ m' ∧ PO es gs B (v :: R) o m' ∧ (v ∉ R → (∃ w ∈ o, Arr es B v w) → m + 1 ≤ m') := by
  induction h with
  | nil h => exact ⟨0, Nat.le_refl _, .nil fun g hg => List.mem_cons_of_mem _ (h g hg), fun _ ⟨w, hw, _⟩ => (List.not_mem_nil hw).elim⟩
  | @cons R x o m m' h1 h2 h3 h4 h5 ih =>
    rw [List.mem_cons, not_or] at hv
    obtain ⟨m1, l1, p1, s1⟩ := ih hv.2
    have q : inn es B R x ≤ inn es B (v :: R) x := inn_mono fun u hu => List.mem_cons_of_mem _ hu
    refine ⟨m1 + inn es B (v :: R) x - 1, by omega, .cons ?_ (by omega) h3 (p1.congr fun z => ?_) (by omega), fun nv ⟨w, hw, a⟩ => ?_⟩
    · rw [List.mem_cons, not_or]
      exact ⟨fun z => hv.1 z.symm, h1⟩
    · simp only [List.mem_cons]
      exact or_left_comm
    · rcases List.mem_cons.mp hw with rfl | hw
      · have := inn_more (R := R) (R' := v :: R) (fun u hu => List.mem_cons_of_mem _ hu) a List.mem_cons_self nv
        omega
      · have := s1 (by rw [List.mem_cons, not_or]; exact ⟨hv.1, nv⟩) ⟨w, hw, a⟩
        omega
/-- an arrow to a place that is not in the order is no matter -/
theorem PO.cut (h : PO es gs B R o m) {k u v : Nat} (k2 : es[k]? = some (u, v)) (hv : v ∉ o) : PO es gs (k :: B) R o m := by
  induction h with
  | nil h => exact .nil h
  | @cons R x o m m' h1 h2 h3 h4 h5 ih =>
    rw [List.mem_cons, not_or] at hv
    have q := inn_other (B := B) (R := R) k2 (x := x) (fun z => hv.1 z.symm)
    refine .cons h1 (q ▸ h2) (h3.imp id fun ⟨w, hw, j, j1, j2⟩ => ⟨w, hw, j, ?_, j2⟩) (ih hv.2) (q ▸ h5)
    rw [List.mem_cons, not_or]
    refine ⟨fun z => ?_, j1⟩
    rw [z, k2] at j2
    cases j2
    exact hv.2 hw
theorem PO.uncut {k u v : Nat} (h : PO es gs (k :: B) R o m) (k2 : es[k]? = some (u, v)) (hv : v ∉ o) : PO es gs B R o m := by
  generalize hB : k :: B = B' at h
  induction h with
  | nil h => exact .nil h
  | @cons R x o m m' h1 h2 h3 h4 h5 ih =>
    subst hB
    rw [List.mem_cons, not_or] at hv
    have q := inn_other (B := B) (R := R) k2 (x := x) (fun z => hv.1 z.symm)
    exact .cons h1 (q ▸ h2) (h3.imp id fun ⟨w, hw, j, j1, j2⟩ => ⟨w, hw, j, fun z => j1 (List.mem_cons_of_mem _ z), j2⟩) (ih hv.2) (q ▸ h5)
/-- it is found sound, and not in the way -/
theorem PO.sound {v : Nat} (h : PO es gs B (v :: R) o m) (h1 : v ∉ R) (h2 : 0 < inn es B R v) : ∃ o' m', m ≤ m' ∧ PO es gs B R o' m' := by
  by_cases z : v ∈ gs ∨ ∃ w ∈ o, Arr es B v w
  · exact ⟨v :: o, m + inn es B R v - 1, by omega, .cons h1 h2 z h (by omega)⟩
  · rw [not_or] at z
    refine ⟨o, m, Nat.le_refl _, ?_⟩
    have key : ∀ {S o m}, PO es gs B S o m → (∀ w ∈ o, ¬ Arr es B v w) → ∀ S', (∀ x, x ∈ S ↔ x = v ∨ x ∈ S') → PO es gs B S' o m := by
      intro S o m h
      induction h with
      | nil h => exact fun _ S' e => .nil fun g hg => ((e g).mp (h g hg)).elim (fun y => absurd (y ▸ hg) z.1) id
      | @cons S x o m m' h1 h2 h3 h4 h5 ih =>
        intro na S' e
        have q : inn es B S x = inn es B S' x := inn_congr (fun u hu => ⟨fun y => ((e u).mp y).elim (fun w => by
          subst w
          exact (na x List.mem_cons_self (hu.elim id id)).elim) id, fun y => (e u).mpr (.inr y)⟩) fun _ _ _ => Iff.rfl
        refine .cons (fun y => h1 ((e x).mpr (.inr y))) (q ▸ h2) h3 (ih (fun w hw => na w (List.mem_cons_of_mem _ hw)) _ fun y => ?_) (q ▸ h5)
        rw [List.mem_cons, List.mem_cons, e y]
        exact or_left_comm
    exact key h (fun w hw a => z.2 ⟨w, hw, a⟩) R fun x => by rw [List.mem_cons]
/-- a way of d arrows from v to a goal, through places beyond R -/
inductive Al (es : Es) (gs B R : List Nat) : Nat → Nat → Prop
  | goal {v : Nat} : v ∈ gs → v ∉ R → Al es gs B R 0 v
  | step {v w d : Nat} : v ∉ R → Arr es B v w → Al es gs B R d w → Al es gs B R (d + 1) v
theorem Al.out {d v : Nat} (h : Al es gs B R d v) : v ∉ R := by
  cases h with
  | goal _ h => exact h
  | step h => exact h
theorem Al.min {v : Nat} : ∀ {d : Nat}, Al es gs B R d v → ∃ e, Al es gs B R e v ∧ ∀ j, j < e → ¬ Al es gs B R j v := by
  intro d
  induction d using Nat.strongRecOn with
  | ind d ih =>
    intro h
    by_cases z : ∃ j, j < d ∧ Al es gs B R j v
    · obtain ⟨j, j1, j2⟩ := z
      exact ih j j1 j2
    · exact ⟨d, h, fun j j1 j2 => z ⟨j, j1, j2⟩⟩
theorem Al.avoid {d w v : Nat} (h : Al es gs B R d w) (no : ∀ j, j ≤ d → ¬ Al es gs B R j v) : Al es gs B (v :: R) d w := by
  induction h with
  | @goal w h1 h2 =>
    refine .goal h1 ?_
    rw [List.mem_cons, not_or]
    refine ⟨fun z => ?_, h2⟩
    subst z
    exact no 0 (Nat.le_refl _) (.goal h1 h2)
  | @step w x d h1 h2 h3 ih =>
    refine .step ?_ h2 (ih fun j hj => no j (by omega))
    rw [List.mem_cons, not_or]
    refine ⟨fun z => ?_, h1⟩
    subst z
    exact no _ (Nat.le_refl _) (.step h1 h2 h3)
/-- a way that is not in the order gives one more arrow -/
theorem PO.path : ∀ {d : Nat} {R o : List Nat} {m v : Nat}, PO es gs B R o m → v ∉ o → 0 < inn es B R v → Al es gs B R d v → ∃ o' m', m + 1 ≤ m' ∧ v ∈ o' ∧ PO es gs B R o' m' := by
  intro d
  induction d using Nat.strongRecOn with
  | ind d ih =>
    intro R o m v h hv hi ha
    have nv := ha.out
    by_cases z : ∃ j, j < d ∧ Al es gs B R j v
    · obtain ⟨j, j1, j2⟩ := z
      exact ih j j1 h hv hi j2
    · cases ha with
      | goal h1 h2 => exact ((h.goal h1).elim h2 hv).elim
      | @step v p d h1 h2 h3 =>
        have hp := h3.avoid (v := v) fun j hj y => z ⟨j, by omega, y⟩
        obtain ⟨m1, l1, p1, s1⟩ := h.grow hv
        by_cases hpo : p ∈ o
        · have := s1 nv ⟨p, hpo, h2⟩
          exact ⟨v :: o, m1 + inn es B R v - 1, by omega, List.mem_cons_self, .cons nv hi (.inr ⟨p, hpo, h2⟩) p1 (by omega)⟩
        · obtain ⟨o2, m2, l2, q2, p2⟩ := ih d (Nat.lt_succ_self d) p1 hpo (inn_pos.mpr ⟨v, List.mem_cons_self, h2⟩) hp
          exact ⟨v :: o2, m2 + inn es B R v - 1, by omega, List.mem_cons_self, .cons nv hi (.inr ⟨p, q2, h2⟩) p2 (by omega)⟩
/-- one that is worth a try is found rotten -/
theorem PO.rotten {k u v d : Nat} (h : PO es gs (k :: B) R o m) (k1 : k ∉ B) (k2 : es[k]? = some (u, v)) (k3 : u ∈ R) (a : Al es gs B R d v) : ∃ o' m', m + 1 ≤ m' ∧ PO es gs B R o' m' := by
  by_cases hv : v ∈ o
  · refine ⟨o, ?_⟩
    generalize hB : k :: B = B' at h
    clear a
    induction h with
    | nil h => exact (List.not_mem_nil hv).elim
    | @cons R x o m m' h1 h2 h3 h4 h5 ih =>
      subst hB
      have h3' : x ∈ gs ∨ ∃ w ∈ o, Arr es B x w := h3.imp id fun ⟨w, hw, j, j1, j2⟩ => ⟨w, hw, j, fun z => j1 (List.mem_cons_of_mem _ z), j2⟩
      by_cases hx : x = v
      · subst hx
        have q := inn_cut k1 k2 k3
        have nx : x ∉ o := fun z => h4.out _ z List.mem_cons_self
        exact ⟨m + inn es B R x - 1, by omega, .cons h1 (by omega) h3' (h4.uncut k2 nx) (by omega)⟩
      · have q := inn_other (B := B) (R := R) k2 hx
        obtain ⟨m1, l1, p1⟩ := ih (List.mem_cons_of_mem _ k3) ((List.mem_cons.mp hv).resolve_left fun z => hx z.symm)
        exact ⟨m1 + inn es B R x - 1, by omega, .cons h1 (q ▸ h2) h3' p1 (by omega)⟩
  · exact (PO.path (h.uncut k2 hv) hv (inn_pos.mpr ⟨u, k3, k, k1, k2⟩) a).elim fun o' ⟨m', l, _, p⟩ => ⟨o', m', l, p⟩
/-- what a foe answers: rotten takes one, sound takes nothing -/
theorem PO.two (h : PO es gs B R o m) {k u v : Nat} (k1 : k ∉ B) (k2 : es[k]? = some (u, v)) (k3 : u ∈ R) (hv : v ∈ o) :
    (∃ m', m ≤ m' + 1 ∧ PO es gs (k :: B) R o m') ∨ ∃ o' m', m ≤ m' ∧ PO es gs B (v :: R) o' m' ∧ (∀ w ∈ o, w ≠ v → w ∈ o') ∧ ∀ j x, j ∉ B → es[j]? = some (x, v) → x ∈ R → j = k := by
  induction h with
  | nil => exact (List.not_mem_nil hv).elim
  | @cons R x o m m' h1 h2 h3 h4 h5 ih =>
    have nx : x ∉ o := fun z => h4.out _ z List.mem_cons_self
    by_cases hx : x = v
    · subst hx
      have q := inn_cut k1 k2 k3
      by_cases h0 : 0 < inn es (k :: B) R x
      · refine .inl ⟨m + inn es (k :: B) R x - 1, by omega, .cons h1 h0 (h3.imp id fun ⟨w, hw, j, j1, j2⟩ => ⟨w, hw, j, ?_, j2⟩) (h4.cut k2 nx) (by omega)⟩
        rw [List.mem_cons, not_or]
        refine ⟨fun z => ?_, j1⟩
        rw [z, k2] at j2
        cases j2
        exact nx hw
      · refine .inr ⟨o, m, by omega, h4, fun w hw ne => (List.mem_cons.mp hw).resolve_left ne, fun j y j1 j2 j3 => ?_⟩
        refine Classical.byContradiction fun ne => h0 (inn_pos.mpr ⟨y, j3, j, ?_, j2⟩)
        rw [List.mem_cons, not_or]
        exact ⟨ne, j1⟩
    · have hv' : v ∈ o := (List.mem_cons.mp hv).resolve_left fun z => hx z.symm
      have nv : v ∉ R := fun z => (PO.out h4 v hv') (List.mem_cons_of_mem _ z)
      have ux : u ≠ x := fun z => h1 (z ▸ k3)
      rcases ih (List.mem_cons_of_mem _ k3) hv' with ⟨m1, l1, p1⟩ | ⟨o1, m1, l1, p1, s1, t1⟩
      · have q := inn_other (B := B) (R := R) k2 hx
        refine .inl ⟨m1 + inn es (k :: B) R x - 1, by omega, .cons h1 (q ▸ h2) (h3.imp id fun ⟨w, hw, j, j1, j2⟩ => ⟨w, hw, j, ?_, j2⟩) p1 (by omega)⟩
        rw [List.mem_cons, not_or]
        refine ⟨fun z => ?_, j1⟩
        rw [z, k2] at j2
        cases j2
        exact ux rfl
      · have q : inn es B R x ≤ inn es B (v :: R) x := inn_mono fun y hy => List.mem_cons_of_mem _ hy
        have rf : ∀ w, Arr es B x w → w ≠ v := fun w ⟨j, j1, j2⟩ z => by
          subst z
          have e := t1 j x j1 j2 List.mem_cons_self
          rw [e, k2] at j2
          cases j2
          exact ux rfl
        refine .inr ⟨x :: o1, m1 + inn es B (v :: R) x - 1, by omega, .cons ?_ (by omega) (h3.imp id fun ⟨w, hw, a⟩ => ⟨w, s1 w hw (rf w a), a⟩) (p1.congr fun y => ?_) (by omega), fun w hw ne => ?_, fun j y j1 j2 j3 => t1 j y j1 j2 (List.mem_cons_of_mem _ j3)⟩
        · rw [List.mem_cons, not_or]
          exact ⟨hx, h1⟩
        · simp only [List.mem_cons]
          exact or_left_comm
        · rcases List.mem_cons.mp hw with rfl | hw
          · exact List.mem_cons_self
          · exact List.mem_cons_of_mem _ (s1 w hw ne)
theorem cp_two {P Q S : Nat → Bool} : ∀ {l : List Nat}, (∀ x ∈ l, (if P x then 1 else 0) + (if Q x then 1 else 0) ≤ (if S x then (1 : Nat) else 0)) → l.countP P + l.countP Q ≤ l.countP S
  | [], _ => Nat.le_refl _
  | x :: l, h => by
    have a := h x List.mem_cons_self
    have b := cp_two fun y hy => h y (List.mem_cons_of_mem _ hy)
    rw [List.countP_cons, List.countP_cons, List.countP_cons]
    omega
def hdN (es : Es) (R : List Nat) (k : Nat) : Bool := match es[k]? with
  | some e => decide (e.2 ∉ R)
  | none => false
/-- no more than there are arrows -/
theorem PO.le (h : PO es gs B R o m) : m + o.length ≤ (List.range es.length).countP (hdN es R) := by
  induction h with
  | nil => exact Nat.zero_le _
  | @cons R x o m m' h1 h2 h3 h4 h5 ih =>
    have : inn es B R x + (List.range es.length).countP (hdN es (x :: R)) ≤ (List.range es.length).countP (hdN es R) := by
      refine cp_two fun k _ => ?_
      unfold inK hdN
      cases es[k]? with
      | none => simp
      | some e =>
        by_cases z : e.2 = x
        · subst z
          simp [h1]
          split <;> omega
        · simp [z]
    rw [List.length_cons]
    omega
theorem PO.le_len (h : PO es gs B R o m) : m ≤ es.length := by
  have := h.le
  have := List.countP_le_length (p := hdN es R) (l := List.range es.length)
  rw [List.length_range] at this
  omega
theorem PO.done (h : PO es gs B R o m) (hd : ∀ g ∈ gs, g ∈ R) : o = [] ∧ m = 0 := by
  induction h with
  | nil => exact ⟨rfl, rfl⟩
  | @cons R x o m m' h1 h2 h3 h4 h5 ih =>
    obtain ⟨rfl, _⟩ := ih fun g hg => List.mem_cons_of_mem _ (hd g hg)
    rcases h3 with h3 | ⟨w, hw, _⟩
    · exact absurd (hd x h3) h1
    · exact (List.not_mem_nil hw).elim
/-- all of it is come to -/
theorem PO.rch (h : PO es gs B R o m) {S : List Nat} {T : List Nat} (hS : ∀ x ∈ R, Rch (leftV es B) S x) : ∀ x ∈ o, Rch (leftV es B) S x := by
  induction h with
  | nil => exact fun x hx => (List.not_mem_nil hx).elim
  | @cons R v o m m' h1 h2 h3 h4 h5 ih =>
    obtain ⟨u, hu, k, k1, k2⟩ := inn_pos.mp h2
    have hv : Rch (leftV es B) S v := (hS u hu).edge (mem_leftV.mpr ⟨k, k2, k1⟩)
    have hR : ∀ x ∈ v :: R, Rch (leftV es B) S x := fun x hx => (List.mem_cons.mp hx).elim (fun e => e ▸ hv) (hS x)
    intro x hx
    rcases List.mem_cons.mp hx with rfl | hx
    · exact hv
    · exact ih hR x hx
/-- there is one, where all goals can be come to -/
theorem PO.ex {n : Nat} (ok : ∀ e ∈ es, e.2 < n) : ∀ (d : Nat) (R : List Nat), (List.range n).countP (fun v => decide (v ∉ R)) ≤ d → (∀ g ∈ gs, Rch (leftV es B) R g) → ∃ o m, PO es gs B R o m := by
  intro d
  induction d with
  | zero =>
    intro R hd hg
    refine ⟨[], 0, .nil fun g hgs => ?_⟩
    refine (hg g hgs).ind (P := fun v => v ∈ R) (fun v h => h) fun u v hu e => Classical.byContradiction fun hv => ?_
    have : 0 < (List.range n).countP (fun v => decide (v ∉ R)) := List.countP_pos_iff.mpr ⟨v, List.mem_range.mpr (ok (u, v) (by obtain ⟨k, h, _⟩ := mem_leftV.mp e; exact List.mem_of_getElem? h)), decide_eq_true hv⟩
    omega
  | succ d ih =>
    intro R hd hg
    by_cases z : ∀ g ∈ gs, g ∈ R
    · exact ⟨[], 0, .nil z⟩
    · obtain ⟨v, nv, u, hu, a⟩ : ∃ v, v ∉ R ∧ ∃ u ∈ R, Arr es B u v := by
        refine Classical.byContradiction fun no => z fun g hgs => ?_
        refine (hg g hgs).ind (P := fun v => v ∈ R) (fun v h => h) fun u v hu e => Classical.byContradiction fun hv => no ⟨v, hv, u, hu, ?_⟩
        obtain ⟨k, h1, h2⟩ := mem_leftV.mp e
        exact ⟨k, h2, h1⟩
      obtain ⟨k, k1, k2⟩ := a
      have hvn : v ∈ List.range n := List.mem_range.mpr (ok (u, v) (List.mem_of_getElem? k2))
      have lt : (List.range n).countP (fun x => decide (x ∉ v :: R)) + 1 ≤ (List.range n).countP (fun x => decide (x ∉ R)) := by
        refine cp_lt (fun x _ hx => ?_) hvn (by simp) (decide_eq_true nv)
        rw [decide_eq_true_eq] at hx ⊢
        exact fun y => hx (List.mem_cons_of_mem _ y)
      obtain ⟨o, m, p⟩ := ih (v :: R) (by omega) fun g hgs => (hg g hgs).mono (fun _ h => h) fun _ h => List.mem_cons_of_mem _ h
      obtain ⟨o', m', _, p'⟩ := p.sound nv (inn_pos.mpr ⟨u, hu, k, k1, k2⟩)
      exact ⟨o', m', p'⟩
/-- m is the greatest excess of what is left -/
structure IsLft (es : Es) (gs B R : List Nat) (m : Nat) : Prop where
  ex : ∃ o, PO es gs B R o m
  top : ∀ o m', PO es gs B R o m' → m' ≤ m
theorem IsLft.uniq {m m' : Nat} (h : IsLft es gs B R m) (h' : IsLft es gs B R m') : m = m' := by
  obtain ⟨o, p⟩ := h.ex
  obtain ⟨o', p'⟩ := h'.ex
  exact Nat.le_antisymm (h'.top o m p) (h.top o' m' p')
theorem IsLft.of (h : ∃ o m, PO es gs B R o m) : ∃ m, IsLft es gs B R m := by
  have key : ∀ d m o, PO es gs B R o m → es.length ≤ m + d → ∃ m, IsLft es gs B R m := by
    intro d
    induction d with
    | zero => exact fun m o p hd => ⟨m, ⟨o, p⟩, fun o' m' p' => by have := p'.le_len; omega⟩
    | succ d ih =>
      intro m o p hd
      by_cases z : ∃ o' m', m < m' ∧ PO es gs B R o' m'
      · obtain ⟨o', m', lt, p'⟩ := z
        exact ih m' o' p' (by omega)
      · exact ⟨m, ⟨o, p⟩, fun o' m' p' => Nat.le_of_not_lt fun lt => z ⟨o', m', lt, p'⟩⟩
  obtain ⟨o, m, p⟩ := h
  exact key es.length m o p (by omega)
/-- it is a matter of the lots alone -/
theorem PO.sets {B' R' : List Nat} (h : PO es gs B R o m) (eR : ∀ x, x ∈ R ↔ x ∈ R') (eB : ∀ x, x ∈ B ↔ x ∈ B') : PO es gs B' R' o m := by
  refine PO.congr (R := R) ?_ eR
  clear eR
  induction h with
  | nil h => exact .nil h
  | @cons R v o m m' h1 h2 h3 h4 h5 ih =>
    have q : inn es B R v = inn es B' R v := inn_congr (fun _ _ => Iff.rfl) fun k _ _ => eB k
    exact .cons h1 (q ▸ h2) (h3.imp id fun ⟨w, hw, j, j1, j2⟩ => ⟨w, hw, j, fun z => j1 ((eB j).mpr z), j2⟩) ih (q ▸ h5)
theorem IsLft.sets {m : Nat} {B' R' : List Nat} (h : IsLft es gs B R m) (eR : ∀ x, x ∈ R ↔ x ∈ R') (eB : ∀ x, x ∈ B ↔ x ∈ B') : IsLft es gs B' R' m :=
  ⟨h.ex.elim fun o p => ⟨o, p.sets eR eB⟩, fun o m' p => h.top o m' (p.sets (fun x => (eR x).symm) fun x => (eB x).symm)⟩
/-! what news do to it -/
theorem IsLft.done {m : Nat} (h : IsLft es gs B R m) (hd : ∀ g ∈ gs, g ∈ R) : m = 0 := by
  obtain ⟨o, p⟩ := h.ex
  exact (p.done hd).2
theorem IsLft.yes {m m' u v : Nat} (h : IsLft es gs B R m) (h' : IsLft es gs B (v :: R) m') (hu : u ∈ R) (a : Arr es B u v) : m' ≤ m := by
  obtain ⟨o, p⟩ := h'.ex
  by_cases hv : v ∈ R
  · exact h.top o m' (p.congr fun x => by rw [List.mem_cons]; exact ⟨fun z => z.elim (fun e => e ▸ hv) id, .inr⟩)
  · obtain ⟨o1, m1, l1, p1⟩ := p.sound hv (inn_pos.mpr ⟨u, hu, a⟩)
    have := h.top o1 m1 p1
    omega
theorem IsLft.no {m m' k u v d : Nat} (h : IsLft es gs B R m) (h' : IsLft es gs (k :: B) R m') (k1 : k ∉ B) (k2 : es[k]? = some (u, v)) (hu : u ∈ R) (a : Al es gs B R d v) : m' + 1 ≤ m := by
  obtain ⟨o, p⟩ := h'.ex
  obtain ⟨o1, m1, l1, p1⟩ := p.rotten k1 k2 hu a
  have := h.top o1 m1 p1
  omega
/-- a foe's answer to a try -/
theorem IsLft.foe {m k u v : Nat} (h : IsLft es gs B R m) (k1 : k ∉ B) (k2 : es[k]? = some (u, v)) (hu : u ∈ R) : (∃ o m', m ≤ m' + 1 ∧ PO es gs (k :: B) R o m') ∨ ∃ o m', m ≤ m' ∧ PO es gs B (v :: R) o m' := by
  obtain ⟨o, p⟩ := h.ex
  by_cases hv : v ∈ o
  · exact (p.two k1 k2 hu hv).imp (fun ⟨m', z⟩ => ⟨o, m', z⟩) fun ⟨o', m', l, q, _⟩ => ⟨o', m', l, q⟩
  · obtain ⟨m', l, q, _⟩ := p.grow hv
    exact .inr ⟨o, m', l, q⟩
end

/-! the places that count, as spots; sets of spots as numbers -/
abbrev turnE (es : Es) : Es := es.filterMap fun e => some (swp e)
theorem mem_turnE {es : Es} {u v : Nat} : (u, v) ∈ turnE es ↔ (v, u) ∈ es := by
  unfold turnE
  rw [List.mem_filterMap]
  constructor
  · rintro ⟨e, h, z⟩
    cases z
    exact h
  · intro h
    exact ⟨(v, u), h, rfl⟩
structure Cps (n : Nat) (es : Es) (gs cps : List Nat) : Prop where
  pw : cps.Pairwise (· < ·)
  mem : ∀ v, v ∈ cps ↔ v < n ∧ Rch es [0] v ∧ Rch (turnE es) gs v
/-- the places of a set of spots -/
def plF (cps : List Nat) (F : Nat) : List Nat := (bitsL F).filterMap fun i => cps[i]?
theorem mem_plF {cps : List Nat} {F v : Nat} : v ∈ plF cps F ↔ ∃ i, F.testBit i = true ∧ cps[i]? = some v := by
  unfold plF
  rw [List.mem_filterMap]
  constructor
  · rintro ⟨i, h1, h2⟩
    exact ⟨i, mem_bitsL.mp h1, h2⟩
  · rintro ⟨i, h1, h2⟩
    exact ⟨i, mem_bitsL.mpr h1, h2⟩
/-- what the spots, their goals, the arrows between them are -/
structure Cor (es : Es) (gs cps : List Nat) (en : Nat) (om im : Nat → Nat) : Prop where
  nd : cps.Nodup
  zero : cps[0]? = some 0
  few : cps.length ≤ 9
  en : ∀ i, en.testBit i = true ↔ ∃ g ∈ gs, cps[i]? = some g
  gin : ∀ g ∈ gs, g ∈ cps
  g0 : ∀ g ∈ gs, g ≠ 0
  om : ∀ t v, cps[t]? = some v → ∀ h, (om t).testBit h = true ↔ ∃ w, cps[h]? = some w ∧ Arr es [] v w
  im : ∀ t v, cps[t]? = some v → ∀ h, (im t).testBit h = true ↔ ∃ w, cps[h]? = some w ∧ Arr es [] w v
  no : ∀ u, ¬ Arr es [] u u
theorem nd_ix {cps : List Nat} (nd : cps.Nodup) {i j v : Nat} (h1 : cps[i]? = some v) (h2 : cps[j]? = some v) : i = j := by
  obtain ⟨a, b⟩ := List.getElem?_eq_some_iff.mp h1
  obtain ⟨c, d⟩ := List.getElem?_eq_some_iff.mp h2
  rcases Nat.lt_trichotomy i j with z | z | z
  · exact absurd (b.trans d.symm) (List.pairwise_iff_getElem.mp nd i j a c z)
  · exact z
  · exact absurd (d.trans b.symm) (List.pairwise_iff_getElem.mp nd j i c a z)
theorem lt_of_bits {F n : Nat} (h : ∀ i, F.testBit i = true → i < n) : F < 2 ^ n := Nat.lt_pow_two_of_testBit F fun i hi => by
  cases e : F.testBit i with
  | false => rfl
  | true => have := h i e; omega
theorem bit_lt {F n i : Nat} (h : F < 2 ^ n) (b : F.testBit i = true) : i < n := Nat.lt_of_not_le fun z => by
  have := Nat.testBit_lt_two_pow (Nat.lt_of_lt_of_le h (Nat.pow_le_pow_right (by decide) z))
  rw [b] at this
  cases this

abbrev s_is_flag : Stmt := topS 15
abbrev sl_is_flag : List Str := ["thing"]
theorem sc_is_flag : FnScope ["thing"] ["thing"] (defScope s_is_flag) := ⟨rfl, rfl, rfl, by decide +kernel, rfl, by decide +kernel, by decide +kernel⟩
def spFlag : Sp := fun vs H Q _ => ∃ b : Bool, vs = [.bl b] ∧ Q (.bl true) H
theorem ok_is_flag (B : Bt mg) (D0 : Df K mg "is_flag" s_is_flag ["thing"]) : Has P w K mg base "is_flag" 1 ["thing"] spFlag := by
  refine D0.has fun f fd F => F.ok sc_is_flag (fun vs H Q E h => ?_) (fun cdv A outer s H vs Q E hr h => ?_)
  · obtain ⟨b, rfl, _⟩ := h
    rfl
  · obtain ⟨b, rfl, q⟩ := h
    refine ⟨_, (pss_one (ps_ret (pe_callB (k_isi (K := K) rfl) (by rfl) B.isinstance bo_isinstance (pa_cons (pv 0) (pa_cons (pe_bltn (v := .ty "bool") (by rfl) B.bool bo_bool rfl) pa_nil))))), ?_⟩
    exact ⟨_, rfl, _, .ty "bool", _, _, _, rfl, .ty "bool", (kn_of_bl (b := b)).ty, kit_bool (kn_of_bl (K := K) (H := H) (b := b)).mem, q⟩

abbrev s_with_item : Stmt := topS 19
abbrev sl_with_item : List Str := ["lot", "item"]
theorem sc_with_item : FnScope ["lot", "item"] ["lot", "item"] (defScope s_with_item) := ⟨rfl, rfl, rfl, by decide +kernel, rfl, by decide +kernel, by decide +kernel⟩
def spWith (K : PySem.W.Frag) : Sp := fun vs H Q _ => ∃ (a : Addr) (ls : List Nat) (k : Nat), vs = [.ref a, nV k] ∧ SqT K H a (ls.map nV) ∧ ls.length ≤ 1000 ∧ ls.Pairwise (· < ·) ∧ k ∉ ls ∧
  ∀ (z : Addr) (os : List Nat) (H' : Hp), Same H H' → H z = none → H' z = some (.tup (os.map nV)) → os.Pairwise (· < ·) → (∀ x, x ∈ os ↔ x ∈ ls ∨ x = k) → Q (.ref z) H'
theorem ok_with_item (B : Bt mg) (D0 : Df K mg "with_item" s_with_item ["lot", "item"]) : Has P w K mg base "with_item" 1 ["lot", "item"] (spWith K) := by
  refine D0.has fun f fd F => F.ok sc_with_item (fun vs H Q E h => ?_) (fun cdv A outer s H vs Q E hr h => ?_)
  · obtain ⟨a, ls, k, rfl, _⟩ := h
    rfl
  · obtain ⟨a, ls, k, rfl, hS, hl, hpw, hk, q⟩ := h
    refine ⟨_, (pss_one (ps_ret (pe_callTy (k_tuple (K := K) rfl) (by rfl) B.tuple bo_tuple (pa_cons (pe_callB (k_sorted (K := K) rfl) (by rfl) B.sorted bo_sorted (pa_cons (pe_lst (StX.pa_star (pv 0) (pa_cons (pv 1) pa_nil))) pa_nil)) pa_nil)))), ?_⟩
    have e1 : ls.map nV ++ [nV k] = ((ls ++ [k]).map fun (n : Nat) => (n : Int)).map V.int := by
      rw [List.map_map, List.map_append]
      rfl
    refine ⟨_, rfl, a, _, rfl, .inl hS, _, rfl, by rw [List.length_append, List.length_map]; exact small_sz (by show ls.length + 1 ≤ 100000; omega), fun l nl => ⟨l, (ls ++ [k]).map fun (n : Nat) => (n : Int), rfl, sql (by rw [← e1]; exact upd_same), fun ns' z hperm hsrt nz => ?_⟩⟩
    obtain ⟨os, e5, hos, hpo⟩ := sort_nats hperm hsrt
    have s1 := same_new (o := .lst (ls.map nV ++ [nV k])) (Same.refl H) nl
    have s2 := same_new (o := .lst (ns'.map V.int)) s1 nz
    refine ⟨z, _, rfl, .inl ⟨sql upd_same, fun z2 nz2 => ?_⟩⟩
    have nd : (ls ++ [k]).Nodup := by
      rw [List.nodup_append]
      refine ⟨hpw.imp fun h => Nat.ne_of_lt h, by simp, fun x hx y hy => ?_⟩
      rw [List.mem_singleton.mp hy]
      exact fun z => hk (z ▸ hx)
    refine q z2 os _ (same_new s2 nz2) (Same.free s2 nz2) (by rw [upd_same, e5]) (pw_lt hpo (hos.nodup_iff.mpr nd)) fun x => ?_
    rw [hos.mem_iff, List.mem_append, List.mem_singleton]

abbrev s__check_unreached : Stmt := topS 58
abbrev sl__check_unreached : List Str := ["chart", "standing", "place", "reached", "_"]
theorem sc__check_unreached : FnScope ["chart", "standing", "place", "reached", "_"] ["chart", "standing", "place"] (defScope s__check_unreached) := ⟨rfl, rfl, rfl, by decide +kernel, rfl, by decide +kernel, by decide +kernel⟩
def spUnrch (K : PySem.W.Frag) (C : Addr) : Sp := fun vs H Q _ => ∃ (p : Addr) (n : Nat) (a : Addr) (pvs : List V) (es : Es) (c : Addr) (gs : List Nat) (t x y : Addr) (rs ls : List Nat) (v : Nat), vs = [.ref p, .ref t, nV v] ∧ At K C H p n a pvs es c gs t x y rs ls ∧ v < n ∧ v ∉ rs ∧ ∀ H', Same H H' → Q .non H'
theorem ok__check_unreached {CMap : Addr} (C : MapC K mg CMap) (h_check_standing : Has P w K mg base "check_standing" 5 ["chart", "thing"] (spCheck K CMap)) (h_is_index : Has P w K mg base "is_index" 2 ["thing", "many"] (spIsIndex K)) (h_many : HasM P w K mg base CMap "many" 1 ["self"] (spMany K CMap))
    (D0 : Df K mg "_check_unreached" s__check_unreached ["chart", "standing", "place"]) : Has P w K mg base "_check_unreached" 6 ["chart", "standing", "place"] (spUnrch K CMap) := by
  refine D0.has fun f fd F => F.ok sc__check_unreached (fun vs H Q E h => ?_) (fun cdv A outer s H vs Q E hr h => ?_)
  · obtain ⟨p, n, a, pvs, es, c, gs, t, x, y, rs, ls, v, rfl, _⟩ := h
    rfl
  · obtain ⟨p, n, a, pvs, es, c, gs, t, x, y, rs, ls, v, rfl, hh, hv, hvr, q⟩ := h
    refine ⟨_, (pss_cons (ps_expr (pcall h_check_standing hr (by decide) (by rfl) (pa_cons (pv 0) (pa_cons (pv 1) pa_nil))))
  (pss_cons (ps_asg (pv 1) (pg_tup rfl (pgs_cons (pg_name (i := 3) sc__check_unreached.nd rfl (.inl rfl)) (pgs_cons (pg_name (i := 4) sc__check_unreached.nd rfl (.inl rfl)) pgs_nil))))
  (pss_one (ps_if (PW.pt (pw_or (pt_not (pt_val (pcall h_is_index hr (by decide) (by rfl) (pa_cons (pv 2) (pa_cons (pe_meth0 (pv 0) C.cl h_many.mt h_many.F (hr.mono (by decide)) h_many.b .nil pass0) pa_nil))))) (pw_or1 (pt_cmpR (k_in (K := K) rfl) (pv 2) (pv 3) (by rfl)))))
    (pss_one ps_never)
    pss_nil)))), ?_⟩
    refine ⟨_, rfl, _, rfl, p, n, a, pvs, es, c, gs, t, x, y, rs, ls, rfl, hh.m, hh.S, hh.o, fun H1 s1 => ?_⟩
    have h1 := hh.same s1
    obtain ⟨dx, hp⟩ := h1.m.at_.ob
    refine ⟨_, rfl, t, _, rfl, h1.S.t, rfl, _, _, rfl, _, _, rfl, rfl, ?_⟩
    refine ⟨_, rfl, _, rfl, p, dx, _, rfl, hp, mapF_many _ _ _, p, n, a, pvs, c, gs, rfl, h1.m.at_, nV v, "int", (n : Int), rfl, kn_of_int, _, rfl, ?_⟩
    have e1 : idxV (nV v) (n : Int) = true := by
      show (decide (0 ≤ (v : Int)) && decide ((v : Int) < (n : Int))) = true
      rw [Bool.and_eq_true, decide_eq_true_eq, decide_eq_true_eq]
      omega
    rw [e1]
    refine iteF ?_
    refine ⟨_, rfl, _, rfl, x, _, rfl, .inr h1.S.x, rfl, flat_nats _, _, rfl, ?_⟩
    rw [if_neg Bool.false_ne_true, inV_nats, decide_eq_false hvr]
    refine iteF ?_
    exact q H1 s1

abbrev s_check_try : Stmt := topS 50
abbrev sl_check_try : List Str := ["chart", "standing", "thing"]
theorem sc_check_try : FnScope ["chart", "standing", "thing"] ["chart", "standing", "thing"] (defScope s_check_try) := ⟨rfl, rfl, rfl, by decide +kernel, rfl, by decide +kernel, by decide +kernel⟩
/-- check_try, where it is a try -/
def spCheckTry (K : PySem.W.Frag) (C : Addr) : Sp := fun vs H Q _ => ∃ (p : Addr) (n : Nat) (a : Addr) (pvs : List V) (es : Es) (c : Addr) (gs : List Nat) (t x y : Addr) (rs ls : List Nat) (k : Nat), vs = [.ref p, .ref t, nV k] ∧ At K C H p n a pvs es c gs t x y rs ls ∧
  k ∈ triesL es rs ls ∧ ∀ H', Same H H' → Q .non H'
theorem ok_check_try {CMap : Addr} (B : Bt mg) (C : MapC K mg CMap) (h_is_index : Has P w K mg base "is_index" 2 ["thing", "many"] (spIsIndex K)) (h_tries_at : Has P w K mg base "tries_at" 3 ["chart", "standing"] (spOf K CMap RTries)) (h_arrows : HasM P w K mg base CMap "arrows" 1 ["self"] (spArrows K CMap))
    (D0 : Df K mg "check_try" s_check_try ["chart", "standing", "thing"]) : Has P w K mg base "check_try" 4 ["chart", "standing", "thing"] (spCheckTry K CMap) := by
  refine D0.has fun f fd F => F.ok sc_check_try (fun vs H Q E h => ?_) (fun cdv A outer s H vs Q E hr h => ?_)
  · obtain ⟨p, n, a, pvs, es, c, gs, t, x, y, rs, ls, k, rfl, _⟩ := h
    rfl
  · obtain ⟨p, n, a, pvs, es, c, gs, t, x, y, rs, ls, k, rfl, h1, hk, q⟩ := h
    refine ⟨_, (pss_one (ps_if (PW.pt (pw_or (pt_not (pt_val (pcall h_is_index hr (by decide) (by rfl) (pa_cons (pv 2) (pa_cons (pe_callB (k_len (K := K) rfl) (by rfl) B.len bo_len (pa_cons (pe_meth0 (pv 0) C.cl h_arrows.mt h_arrows.F (hr.mono (by decide)) h_arrows.b .nil pass0) pa_nil)) pa_nil))))) (pw_or1 (pt_cmpR (k_notin (K := K) rfl) (pv 2) (pcall h_tries_at hr (by decide) (by rfl) (pa_cons (pv 0) (pa_cons (pv 1) pa_nil))) (by rfl)))))
    (pss_one ps_never)
    pss_nil)), ?_⟩
    have hl := h1.m.pr.len
    obtain ⟨e, hke, hkl, he1, he2⟩ := mem_tries.mp hk
    have hkn := (List.getElem?_eq_some_iff.mp hke).1
    obtain ⟨dx, hp⟩ := h1.m.at_.ob
    refine ⟨_, rfl, _, rfl, p, dx, _, rfl, hp, mapF_arrows _ _ _, p, n, a, pvs, c, gs, rfl, h1.m.at_, a, pvs, rfl, .inr h1.m.at_.ar, nV k, "int", (pvs.length : Int), rfl, kn_of_int, _, rfl, ?_⟩
    have e1 : idxV (nV k) (pvs.length : Int) = true := by
      show (decide (0 ≤ (k : Int)) && decide ((k : Int) < (pvs.length : Int))) = true
      rw [Bool.and_eq_true, decide_eq_true_eq, decide_eq_true_eq]
      omega
    rw [e1]
    refine iteF ?_
    refine ⟨_, rfl, _, rfl, _, rfl, p, n, a, pvs, es, c, gs, t, x, y, rs, ls, rfl, h1, fun v H1 s1 hv => ?_⟩
    obtain ⟨tr, rfl, ntr, htr⟩ := hv
    refine ⟨tr, _, rfl, .inr (sqt htr), rfl, flat_nats _, _, rfl, ?_⟩
    rw [if_pos rfl, inV_nats, decide_eq_true hk]
    refine iteF ?_
    exact q H1 s1

abbrev s_news_at : Stmt := topS 51
abbrev sl_news_at : List Str := ["chart", "standing", "arrow", "sound", "reached", "rotten", "_", "head", "lost"]
theorem sc_news_at : FnScope ["chart", "standing", "arrow", "sound", "reached", "rotten", "_", "head", "lost"] ["chart", "standing", "arrow", "sound"] (defScope s_news_at) := ⟨rfl, rfl, rfl, by decide +kernel, rfl, by decide +kernel, by decide +kernel⟩
/-- the standing behind the news -/
structure NewsR (es : Es) (rs ls : List Nat) (k : Nat) (b : Bool) (rs' ls' : List Nat) : Prop where
  rp : rs'.Pairwise (· < ·)
  lp : ls'.Pairwise (· < ·)
  yes : b = true → (∀ e, es[k]? = some e → ∀ v, v ∈ rs' ↔ v ∈ rs ∨ v = e.2) ∧ ls' = ls
  no : b = false → rs' = rs ∧ ∀ l, l ∈ ls' ↔ l ∈ ls ∨ l = k
/-- what news_at tells: of a try k -/
def spNewsAt (K : PySem.W.Frag) (C : Addr) : Sp := fun vs H Q _ => ∃ (p : Addr) (n : Nat) (a : Addr) (pvs : List V) (es : Es) (c : Addr) (gs : List Nat) (t x y : Addr) (rs ls : List Nat) (k : Nat) (b : Bool), vs = [.ref p, .ref t, nV k, .bl b] ∧ At K C H p n a pvs es c gs t x y rs ls ∧
  k ∈ triesL es rs ls ∧ (∀ (z x' y' : Addr) (rs' ls' : List Nat) (H' : Hp), Same H H' → StdAt K H' z x' y' rs' ls' → NewsR es rs ls k b rs' ls' → (b = false → ∀ g ∈ gs, Rch (left es (ls ++ [k])) [0] g) → Q (.ref z) H') ∧
  (b = false → (¬ ∀ g ∈ gs, Rch (left es (ls ++ [k])) [0] g) → ∀ H', Same H H' → Q .non H')
theorem ok_news_at {CMap : Addr} (C : MapC K mg CMap) (h_with_item : Has P w K mg base "with_item" 1 ["lot", "item"] (spWith K)) (h_goals_are_open : Has P w K mg base "goals_are_open" 3 ["chart", "rotten"] (spOpen K CMap)) (h_arrows : HasM P w K mg base CMap "arrows" 1 ["self"] (spArrows K CMap))
    (D0 : Df K mg "news_at" s_news_at ["chart", "standing", "arrow", "sound"]) : Has P w K mg base "news_at" 4 ["chart", "standing", "arrow", "sound"] (spNewsAt K CMap) := by
  refine D0.has fun f fd F => F.ok sc_news_at (fun vs H Q E h => ?_) (fun cdv A outer s H vs Q E hr h => ?_)
  · obtain ⟨p, n, a, pvs, es, c, gs, t, x, y, rs, ls, k, b, rfl, _⟩ := h
    rfl
  · obtain ⟨p, n, a, pvs, es, c, gs, t, x, y, rs, ls, k, b, rfl, h1, hk, q, qn⟩ := h
    refine ⟨_, (pss_cons (ps_asg (pv 1) (pg_tup rfl (pgs_cons (pg_name (i := 4) sc_news_at.nd rfl (.inl rfl)) (pgs_cons (pg_name (i := 5) sc_news_at.nd rfl (.inl rfl)) pgs_nil))))
  (pss_cons (ps_if (pt_val (pv 3))
    (pss_cons (ps_asg (pe_ix (k_ixt (K := K) rfl) (pe_meth0 (pv 0) C.cl h_arrows.mt h_arrows.F (hr.mono (by decide)) h_arrows.b .nil pass0) (pv 2) (fun _ _ => rfl)) (pg_tup rfl (pgs_cons (pg_name (i := 6) sc_news_at.nd rfl (.inl rfl)) (pgs_cons (pg_name (i := 7) sc_news_at.nd rfl (.inl rfl)) pgs_nil))))
  (pss_one (ps_ret (pe_tup (pa_cons (pcall h_with_item hr (by decide) (by rfl) (pa_cons (pv 4) (pa_cons (pv 7) pa_nil))) (pa_cons (pv 5) pa_nil))))))
    pss_nil)
  (pss_cons (ps_set (i := 8) sc_news_at.nd rfl (.inl rfl) (pcall h_with_item hr (by decide) (by rfl) (pa_cons (pv 5) (pa_cons (pv 2) pa_nil))))
  (pss_one (ps_ret (pe_ifExp (pt_val (pcall h_goals_are_open hr (by decide) (by rfl) (pa_cons (pv 0) (pa_cons (pv 8) pa_nil)))) (pe_tup (pa_cons (pv 4) (pa_cons (pv 8) pa_nil))) pe_non)))))), ?_⟩
    have hl := h1.m.pr.len
    obtain ⟨e, hke, hkl, he1, he2⟩ := mem_tries.mp hk
    have hkn := (List.getElem?_eq_some_iff.mp hke).1
    obtain ⟨dx, hp⟩ := h1.m.at_.ob
    refine ⟨_, rfl, t, _, rfl, h1.S.t, rfl, _, _, rfl, _, _, rfl, rfl, ?_⟩
    refine ⟨_, rfl, _, rfl, ?_⟩
    cases b with
    | true =>
      refine iteT ?_
      have hkv : pvs[k]? = some (pvs[k]'(by omega)) := List.getElem?_eq_getElem _
      obtain ⟨tt, htt, ht⟩ := h1.m.pr.at_ k _ _ hkv hke
      refine ⟨_, rfl, p, dx, _, rfl, hp, mapF_arrows _ _ _, p, n, a, pvs, c, gs, rfl, h1.m.at_, _, rfl, a, pvs, (k : Int), _, rfl, rfl, h1.m.at_.ar, atI_nat hkv, tt, _, htt, ht, rfl, _, _, rfl, _, _, rfl, rfl, ?_⟩
      refine ⟨_, rfl, _, rfl, x, rs, e.2, rfl, h1.S.x, h1.rl, h1.o.rp, he2, fun z os H2 s2 nz hz hpw hmem => ?_⟩
      have h2 := h1.same s2
      refine ⟨_, rfl, by show 2 ≤ sizeLine; decide, fun r nr => ?_⟩
      have s3 := same_new (o := .tup [.ref z, .ref y]) (Same.refl H2) nr
      refine q r z y os ls _ (s2.trans s3) ⟨sqt upd_same, sqt (s3 _ _ hz), Same.sqt s3 h2.S.y⟩ ⟨hpw, h1.o.lp, fun _ => ⟨fun e' he' v => ?_, rfl⟩, fun z => by cases z⟩ fun z => Bool.noConfusion z
      rw [hke] at he'
      cases he'
      exact hmem v
    | false =>
      refine iteF ?_
      refine ⟨_, rfl, _, rfl, y, ls, k, rfl, h1.S.y, h1.ll, h1.o.lp, hkl, fun z os H2 s2 nz hz hpw hmem => ?_⟩
      have h2 := h1.same s2
      have hiff : ∀ x, x ∈ os ↔ x ∈ ls ++ [k] := fun x => by rw [hmem, List.mem_append, List.mem_singleton]
      refine ⟨_, rfl, _, rfl, p, n, a, pvs, es, c, gs, z, os, rfl, h2.m, sqt hz, fun l hl => ?_, fun H3 ok s3 hok => ⟨_, rfl, ?_⟩⟩
      · rcases (hmem l).mp hl with hl | hl
        · exact h1.o.ln l hl
        · rw [hl]
          exact hkn
      cases ok with
      | true =>
        refine iteT ?_
        refine ⟨_, rfl, _, rfl, by show 2 ≤ sizeLine; decide, fun r nr => ?_⟩
        have s4 := same_new (o := .tup [.ref x, .ref z]) s3 nr
        refine q r x z rs os _ (s2.trans s4) ⟨sqt upd_same, Same.sqt s4 h2.S.x, sqt (s4 _ _ hz)⟩ ⟨h1.o.rp, hpw, fun z => (by cases z), fun _ => ⟨rfl, hmem⟩⟩ fun _ g hg => left_same (fun x => (hiff x).symm) (hok.mp rfl g hg)
      | false =>
        refine iteF ?_
        exact qn rfl (fun hf => Bool.noConfusion (hok.mpr fun g hg => left_same hiff (hf g hg))) H3 (s2.trans s3)

abbrev s_checked_news_at : Stmt := topS 49
abbrev sl_checked_news_at : List Str := ["chart", "standing", "arrow", "sound", "behind"]
theorem sc_checked_news_at : FnScope ["chart", "standing", "arrow", "sound", "behind"] ["chart", "standing", "arrow", "sound"] (defScope s_checked_news_at) := ⟨rfl, rfl, rfl, by decide +kernel, rfl, by decide +kernel, by decide +kernel⟩
def spNews (K : PySem.W.Frag) (C : Addr) : Sp := fun vs H Q _ => ∃ (p : Addr) (n : Nat) (a : Addr) (pvs : List V) (es : Es) (c : Addr) (gs : List Nat) (t x y : Addr) (rs ls : List Nat) (k : Nat) (b : Bool), vs = [.ref p, .ref t, nV k, .bl b] ∧ At K C H p n a pvs es c gs t x y rs ls ∧
  k ∈ triesL es rs ls ∧ (b = false → ∀ g ∈ gs, Rch (left es (ls ++ [k])) [0] g) ∧ ∀ (z x' y' : Addr) (rs' ls' : List Nat) (H' : Hp), Same H H' → StdAt K H' z x' y' rs' ls' → NewsR es rs ls k b rs' ls' → Q (.ref z) H'
theorem ok_checked_news_at {CMap : Addr} (h_check_try : Has P w K mg base "check_try" 4 ["chart", "standing", "thing"] (spCheckTry K CMap)) (h_is_flag : Has P w K mg base "is_flag" 1 ["thing"] spFlag)
    (h_news_at : Has P w K mg base "news_at" 4 ["chart", "standing", "arrow", "sound"] (spNewsAt K CMap)) (D0 : Df K mg "checked_news_at" s_checked_news_at ["chart", "standing", "arrow", "sound"]) : Has P w K mg base "checked_news_at" 6 ["chart", "standing", "arrow", "sound"] (spNews K CMap) := by
  refine D0.has fun f fd F => F.ok sc_checked_news_at (fun vs H Q E h => ?_) (fun cdv A outer s H vs Q E hr h => ?_)
  · obtain ⟨p, n, a, pvs, es, c, gs, t, x, y, rs, ls, k, b, rfl, _⟩ := h
    rfl
  · obtain ⟨p, n, a, pvs, es, c, gs, t, x, y, rs, ls, k, b, rfl, h1, hk, hb, q⟩ := h
    refine ⟨_, (pss_cons (ps_expr (pcall h_check_try hr (by decide) (by rfl) (pa_cons (pv 0) (pa_cons (pv 1) (pa_cons (pv 2) pa_nil)))))
  (pss_cons (ps_if (pt_not (pt_val (pcall h_is_flag hr (by decide) (by rfl) (pa_cons (pv 3) pa_nil))))
    (pss_one ps_never)
    pss_nil)
  (pss_cons (ps_set (i := 4) sc_checked_news_at.nd rfl (.inl rfl) (pcall h_news_at hr (by decide) (by rfl) (pa_cons (pv 0) (pa_cons (pv 1) (pa_cons (pv 2) (pa_cons (pv 3) pa_nil))))))
  (pss_cons (ps_if (pt_cmpR op_isN (pv 4) pe_non (nomark _))
    (pss_one ps_never)
    pss_nil)
  (pss_one (ps_ret (pv 4))))))), ?_⟩
    refine ⟨_, rfl, _, rfl, _, rfl, p, n, a, pvs, es, c, gs, t, x, y, rs, ls, k, rfl, h1, hk, fun H2 s2 => ?_⟩
    have h2 := h1.same s2
    refine ⟨_, rfl, b, rfl, _, rfl, iteF ?_⟩
    refine ⟨_, rfl, _, rfl, _, rfl, _, rfl, p, n, a, pvs, es, c, gs, t, x, y, rs, ls, k, b, rfl, h2, hk, fun z x' y' rs' ls' H3 s3 S3 R3 _ => ?_, fun e hn => absurd (hb e) hn⟩
    refine ⟨_, rfl, rfl, _, rfl, iteF ?_⟩
    exact ⟨_, rfl, q z x' y' rs' ls' H3 (s2.trans s3) S3 R3⟩

abbrev s_news : Stmt := topS 48
abbrev sl_news : List Str := ["chart", "standing", "arrow", "sound"]
theorem sc_news : FnScope ["chart", "standing", "arrow", "sound"] ["chart", "standing", "arrow", "sound"] (defScope s_news) := ⟨rfl, rfl, rfl, by decide +kernel, rfl, by decide +kernel, by decide +kernel⟩
theorem ok_news {CMap : Addr} (h_check_standing : Has P w K mg base "check_standing" 5 ["chart", "thing"] (spCheck K CMap)) (h_checked_news_at : Has P w K mg base "checked_news_at" 6 ["chart", "standing", "arrow", "sound"] (spNews K CMap))
    (D0 : Df K mg "news" s_news ["chart", "standing", "arrow", "sound"]) : Has P w K mg base "news" 7 ["chart", "standing", "arrow", "sound"] (spNews K CMap) := by
  refine D0.has fun f fd F => F.ok sc_news (fun vs H Q E h => ?_) (fun cdv A outer s H vs Q E hr h => ?_)
  · obtain ⟨p, n, a, pvs, es, c, gs, t, x, y, rs, ls, k, b, rfl, _⟩ := h
    rfl
  · obtain ⟨p, n, a, pvs, es, c, gs, t, x, y, rs, ls, k, b, rfl, hh, hk, hb, q⟩ := h
    refine ⟨_, (pss_cons (ps_expr (pcall h_check_standing hr (by decide) (by rfl) (pa_cons (pv 0) (pa_cons (pv 1) pa_nil))))
  (pss_one (ps_ret (pcall h_checked_news_at hr (by decide) (by rfl) (pa_cons (pv 0) (pa_cons (pv 1) (pa_cons (pv 2) (pa_cons (pv 3) pa_nil)))))))), ?_⟩
    refine ⟨_, rfl, _, rfl, p, n, a, pvs, es, c, gs, t, x, y, rs, ls, rfl, hh.m, hh.S, hh.o, fun H1 s1 => ?_⟩
    refine ⟨_, rfl, _, rfl, _, rfl, _, rfl, p, n, a, pvs, es, c, gs, t, x, y, rs, ls, k, b, rfl, hh.same s1, hk, hb, fun z x' y' rs' ls' H3 s3 S3 R3 => q z x' y' rs' ls' H3 (s1.trans s3) S3 R3⟩

abbrev s__one_into_each : Stmt := topS 61
abbrev sl__one_into_each : List Str := ["chart", "rotten", "steps", "gone", "into", "arrow", "tail", "head"]
theorem sc__one_into_each : FnScope ["chart", "rotten", "steps", "gone", "into", "arrow", "tail", "head"] ["chart", "rotten"] (defScope s__one_into_each) := ⟨rfl, rfl, rfl, by decide +kernel, rfl, by decide +kernel, by decide +kernel⟩
/-! ### one arrow into each place -/
/-- the pairs of these arrows -/
def pick (es : Es) (as : List Nat) : Es := as.filterMap fun k => es[k]?
theorem mem_pick {es : Es} {as : List Nat} {e : Nat × Nat} : e ∈ pick es as ↔ ∃ k ∈ as, es[k]? = some e := List.mem_filterMap
/-- the arrow leads from a place to one that is farther off by one -/
def Farther (es : Es) (ls : List Nat) (st : Nat → Option Nat) (k h : Nat) : Prop := k ∉ ls ∧ ∃ t d, es[k]? = some (t, h) ∧ st t = some d ∧ st h = some (d + 1)
/-- what the dict holds when i arrows were looked at -/
structure IntoN (es : Es) (ls : List Nat) (st : Nat → Option Nat) (i : Nat) (hs : List (Nat × Nat)) : Prop where
  pw : (hs.map (·.2)).Pairwise (· < ·)
  lt : ∀ x ∈ hs, x.2 < i
  ok : ∀ x ∈ hs, Farther es ls st x.2 x.1
  all : ∀ k h, k < i → Farther es ls st k h → ∃ a, (h, a) ∈ hs
theorem IntoN.start {es : Es} {ls : List Nat} {st : Nat → Option Nat} : IntoN es ls st 0 [] := ⟨List.Pairwise.nil, fun _ h => absurd h List.not_mem_nil, fun _ h => absurd h List.not_mem_nil, fun _ _ h => absurd h (Nat.not_lt_zero _)⟩
theorem IntoN.skip {es : Es} {ls : List Nat} {st : Nat → Option Nat} {i : Nat} {hs : List (Nat × Nat)} (h : IntoN es ls st i hs) (n : ∀ v, Farther es ls st i v → ∃ a, (v, a) ∈ hs) : IntoN es ls st (i + 1) hs :=
  ⟨h.pw, fun x hx => Nat.lt_succ_of_lt (h.lt x hx), h.ok, fun k v hk f => by
    rcases Nat.lt_succ_iff_lt_or_eq.mp hk with z | z
    · exact h.all k v z f
    · subst z
      exact n v f⟩
theorem IntoN.snoc {es : Es} {ls : List Nat} {st : Nat → Option Nat} {i v : Nat} {hs : List (Nat × Nat)} (h : IntoN es ls st i hs) (f : Farther es ls st i v) : IntoN es ls st (i + 1) (hs ++ [(v, i)]) where
  pw := by
    rw [List.map_append, List.pairwise_append]
    refine ⟨h.pw, by simp, fun x hx y hy => ?_⟩
    obtain ⟨z, hz, rfl⟩ := List.mem_map.mp hx
    rw [List.map_cons, List.map_nil, List.mem_singleton] at hy
    rw [hy]
    exact h.lt z hz
  lt := fun x hx => by
    rcases List.mem_append.mp hx with hx | hx
    · exact Nat.lt_succ_of_lt (h.lt x hx)
    · rw [List.mem_singleton.mp hx]
      exact Nat.lt_succ_self _
  ok := fun x hx => by
    rcases List.mem_append.mp hx with hx | hx
    · exact h.ok x hx
    · rw [List.mem_singleton.mp hx]
      exact f
  all := fun k u hk g => by
    rcases Nat.lt_succ_iff_lt_or_eq.mp hk with z | z
    · obtain ⟨a, ha⟩ := h.all k u z g
      exact ⟨a, List.mem_append_left _ ha⟩
    · subst z
      obtain ⟨_, t, d, e, _⟩ := f
      obtain ⟨_, t', d', e', _⟩ := g
      rw [e] at e'
      cases e'
      exact ⟨k, List.mem_append_right _ List.mem_cons_self⟩
theorem IntoN.len {es : Es} {ls : List Nat} {st : Nat → Option Nat} {i : Nat} {hs : List (Nat × Nat)} (h : IntoN es ls st i hs) : hs.length ≤ i := by
  have := pw_len (l := 0) h.pw fun z hz => ⟨Nat.zero_le _, by
    obtain ⟨x, hx, rfl⟩ := List.mem_map.mp hz
    exact h.lt x hx⟩
  rw [List.length_map] at this
  omega
/-- the arrows of the dict lead wherever one comes -/
theorem IntoN.leads {n : Nat} {es : Es} {ls : List Nat} {st : Nat → Option Nat} {hs : List (Nat × Nat)} (h : IntoN es ls st es.length hs) (ok : ∀ e ∈ es, e.1 < n ∧ e.2 < n) (h0 : 0 < n) (hst : ∀ v, v < n → (∀ d, st v = some d ↔ Dst (left es ls) [0] v d) ∧ (st v = none ↔ ¬ Rch (left es ls) [0] v)) :
    ∀ d v, v < n → Dst (left es ls) [0] v d → Rch (pick es (hs.map (·.2))) [0] v
  | 0, v, hv, hd => .base hd.1
  | d + 1, v, hv, hd => by
    obtain ⟨u, hu, e⟩ := hd.pred
    obtain ⟨k, hk, hkl⟩ := mem_leftV.mp e
    have hun := (ok _ (List.mem_of_getElem? hk)).1
    obtain ⟨a, ha⟩ := h.all k v (List.getElem?_eq_some_iff.mp hk).1 ⟨hkl, u, d, hk, ((hst u hun).1 d).mpr hu, ((hst v hv).1 _).mpr hd⟩
    obtain ⟨_, t, d', he, ht, hv'⟩ := h.ok _ ha
    have e1 : d' + 1 = d + 1 := (((hst v hv).1 _).mp hv').inj hd
    have e2 : d' = d := by omega
    subst e2
    have htn := (ok _ (List.mem_of_getElem? he)).1
    exact (h.leads ok h0 hst d' t htn (((hst t htn).1 _).mp ht)).edge (mem_pick.mpr ⟨a, List.mem_map.mpr ⟨_, ha, rfl⟩, he⟩)
def spOneInto (K : PySem.W.Frag) (C : Addr) : Sp := fun vs H Q _ => ∃ (p : Addr) (n : Nat) (a : Addr) (pvs : List V) (es : Es) (c : Addr) (gs : List Nat) (y : Addr) (ls : List Nat), vs = [.ref p, .ref y] ∧ MapOk K C H p n a pvs es c gs ∧ SqT K H y (ls.map nV) ∧ (∀ l ∈ ls, l < es.length) ∧
  ∀ (D : Addr) (as : List Nat) (H' : Hp), Same H H' → H D = none → H' D = some (.lst (as.map nV)) → as.Pairwise (· < ·) → (∀ k ∈ as, k < es.length ∧ k ∉ ls) → (∀ v, v < n → Rch (left es ls) [0] v → Rch (pick es as) [0] v) → Q (.ref D) H'
theorem ok__one_into_each {CMap : Addr} (B : Bt mg) (C : MapC K mg CMap) (h_marks : Has P w K mg base "marks" 1 ["many", "lot"] (spMarks K)) (h_pairs_left : Has P w K mg base "pairs_left" 2 ["arrows", "rotten"] (spPairsLeft K))
    (h_steps_from : Has P w K mg base "steps_from" 1 ["many", "pairs", "sources"] (spSteps K)) (h_many : HasM P w K mg base CMap "many" 1 ["self"] (spMany K CMap)) (h_arrows : HasM P w K mg base CMap "arrows" 1 ["self"] (spArrows K CMap))
    (D0 : Df K mg "_one_into_each" s__one_into_each ["chart", "rotten"]) : Has P w K mg base "_one_into_each" 3 ["chart", "rotten"] (spOneInto K CMap) := by
  refine D0.has fun f fd F => F.ok sc__one_into_each (fun vs H Q E h => ?_) (fun cdv A outer s H vs Q E hr h => ?_)
  · obtain ⟨p, n, a, pvs, es, c, gs, y, ls, rfl, _⟩ := h
    rfl
  · obtain ⟨p, n, a, pvs, es, c, gs, y, ls, rfl, m, hy, hls, q⟩ := h
    refine ⟨_, (pss_cons (ps_set (i := 2) sc__one_into_each.nd rfl (.inl rfl) (pcall h_steps_from hr (by decide) (by rfl) (pa_cons (pe_meth0 (pv 0) C.cl h_many.mt h_many.F (hr.mono (by decide)) h_many.b .nil pass0) (pa_cons (pcall h_pairs_left hr (by decide) (by rfl) (pa_cons (pe_meth0 (pv 0) C.cl h_arrows.mt h_arrows.F (hr.mono (by decide)) h_arrows.b .nil pass0) (pa_cons (pv 1) pa_nil))) (pa_cons (pe_tup (pa_cons pe_int pa_nil)) pa_nil)))))
  (pss_cons (ps_set (i := 3) sc__one_into_each.nd rfl (.inl rfl) (pcall h_marks hr (by decide) (by rfl) (pa_cons (pe_callB (k_len (K := K) rfl) (by rfl) B.len bo_len (pa_cons (pe_meth0 (pv 0) C.cl h_arrows.mt h_arrows.F (hr.mono (by decide)) h_arrows.b .nil pass0) pa_nil)) (pa_cons (pv 1) pa_nil))))
  (pss_cons (ps_set (i := 4) sc__one_into_each.nd rfl (.inl rfl) pe_dnewK)
  (pss_cons (ps_for PassesOwn.never rfl (pi_enumT (by rfl) B.enumerate (pa_cons (pe_meth0 (pv 0) C.cl h_arrows.mt h_arrows.F (hr.mono (by decide)) h_arrows.b .nil pass0) pa_nil)) (pg_tup rfl (pgs_cons (pg_name (i := 5) sc__one_into_each.nd rfl (.inl rfl)) (pgs_cons (pg_tup rfl (pgs_cons (pg_name (i := 6) sc__one_into_each.nd rfl (.inl rfl)) (pgs_cons (pg_name (i := 7) sc__one_into_each.nd rfl (.inl rfl)) pgs_nil))) pgs_nil)))
    (pss_one (ps_if (PW.pt (pw_and (pt_not (pt_val (pe_ix (k_ixl (K := K) rfl) (pv 3) (pv 5) (fun _ _ => rfl)))) (pw_and (pt_cmpR op_notN (pe_ix (k_ixl (K := K) rfl) (pv 2) (pv 6) (fun _ _ => rfl)) pe_non (nomark _)) (pw_and1 (pt_cmpR op_eq (pe_ix (k_ixl (K := K) rfl) (pv 2) (pv 7) (fun _ _ => rfl)) (pe_op op_add (pe_ix (k_ixl (K := K) rfl) (pv 2) (pv 6) (fun _ _ => rfl)) pe_int) (nomark _))))))
    (pss_one (ps_expr (pe_dsetd (pv 4) (pv 7) (pv 5) ⟨rfl, by rfl, rfl, rfl⟩)))
    pss_nil)))
  (pss_one (ps_ret (pe_sortedVals rfl (by rfl) B.sorted (pv 4)))))))), ?_⟩
    obtain ⟨dx, hp⟩ := m.at_.ob
    have hl := m.pr.len
    have hel := m.el
    refine ⟨_, rfl, p, dx, _, rfl, hp, mapF_many _ _ _, p, n, a, pvs, c, gs, rfl, m.at_, ?_⟩
    refine ⟨_, rfl, p, dx, _, rfl, hp, mapF_arrows _ _ _, p, n, a, pvs, c, gs, rfl, m.at_, _, rfl, ?_⟩
    refine ⟨a, y, pvs, ls, rfl, m.at_.ar, hy, fun z hz => by rw [hl]; exact hls z hz, by omega, fun d H1 s1 nd hd => ?_⟩
    refine ⟨by show 1 ≤ sizeLine; decide, fun t1 nt1 => ?_⟩
    have s2 := same_new (o := .tup [.int 0]) (Same.refl H1) nt1
    have m1 := m.same s1
    refine ⟨n, d, t1, leftV pvs ls, left es ls, [0], rfl, .inl (sql (s2 _ _ hd)), (m1.pr.left ls).same s2, .inr (sqt upd_same), left_ok m.ok, fun s hs => by rw [List.mem_singleton.mp hs]; exact m.n0, m.n1, Nat.le_trans leftV_len hel, fun r H3 st s3 nr hr3 hst => ?_⟩
    have s13 := (s1.trans s2).trans s3
    have m3 := m.same s13
    obtain ⟨dx3, hp3⟩ := m3.at_.ob
    refine ⟨_, rfl, p, dx3, _, rfl, hp3, mapF_arrows _ _ _, p, n, a, pvs, c, gs, rfl, m3.at_, a, pvs, rfl, .inr m3.at_.ar, _, rfl, pvs.length, y, ls, rfl, Same.sqt s13 hy, fun z hz => by rw [hl]; exact hls z hz, by omega, fun g H4 s4 ng hg => ?_⟩
    have s14 := s13.trans s4
    have m4 := m.same s14
    obtain ⟨dx4, hp4⟩ := m4.at_.ob
    have hr4 := s4 _ _ hr3
    intro D nD
    have s5 := same_new (o := .dK []) (Same.refl H4) nD
    obtain ⟨dx5, hp5⟩ := (m4.same s5).at_.ob
    refine ⟨_, rfl, p, dx5, _, rfl, hp5, mapF_arrows _ _ _, p, n, a, pvs, c, gs, rfl, (m4.same s5).at_, a, pvs, rfl, (m4.same s5).at_.ar, ?_⟩
    refine for_it walkT (fun i σ H' => Same H4 H' ∧ ∃ hs o1 o2 o3, σ = [some (.ref p), some (.ref y), some (.ref r), some (.ref g), some (.ref D), o1, o2, o3] ∧ H' D = some (.dK (kvN hs)) ∧ IntoN es ls st i hs) ⟨s5, [], none, none, none, rfl, upd_same, .start⟩ (fun i σ H' hi ⟨sm, _⟩ => Same.sqt sm m4.at_.ar) ?_ ?_
    · rintro i x σ H5 H6 hi ⟨sm, hs, o1, o2, o3, rfl, hD, hI⟩ ⟨T, x1, x2, rfl, nT, rfl, e1, e2⟩
      cases e1
      have s6 := same_new (o := .tup [.int (i : Nat), x2]) (Same.refl H5) nT
      obtain ⟨e, hei, tt, rfl, ht⟩ := m4.pr.get (show pvs[i]? = some x2 from e2)
      obtain ⟨e1, e2⟩ := e
      have hok := m.ok _ (List.mem_of_getElem? hei)
      have s46 := sm.trans s6
      refine ⟨T, _, rfl, sqt upd_same, rfl, _, _, rfl, _, _, rfl, ⟨tt, _, rfl, Same.sqt s46 ht, rfl, _, _, rfl, _, _, rfl, rfl, rfl, ?_⟩⟩
      have hg6 := s46 _ _ hg
      have hr6 := s46 _ _ hr4
      have hD6 := s6 _ _ hD
      refine ⟨_, rfl, _, rfl, g, _, (i : Int), _, rfl, rfl, sql hg6, atI_nat (mks_get hi), _, rfl, ?_⟩
      by_cases hil : i ∈ ls
      · rw [decide_eq_true hil]
        refine iteF ?_
        refine iteF ?_
        exact ⟨s46, hs, _, _, _, rfl, hD6, hI.skip fun v f => absurd hil f.1⟩
      rw [decide_eq_false hil]
      refine iteT ⟨_, rfl, _, rfl, r, _, (e1 : Int), oV (st e1), rfl, rfl, sql hr6, atI_nat (stV_get hok.1), rfl, _, rfl, ?_⟩
      cases ea : st e1 with
      | none =>
        refine iteF ?_
        refine iteF ?_
        exact ⟨s46, hs, _, _, _, rfl, hD6, hI.skip fun v f => by
          obtain ⟨_, t, d', f1, f2, _⟩ := f
          rw [hei] at f1
          cases f1
          rw [ea] at f2
          cases f2⟩
      | some d1 =>
        refine iteT ⟨_, rfl, _, rfl, r, _, (e2 : Int), oV (st e2), rfl, rfl, sql hr6, atI_nat (stV_get hok.2), _, rfl, _, rfl, r, _, (e1 : Int), nV d1, rfl, rfl, sql hr6, atI_nat (by rw [stV_get hok.1, ea]; rfl), (d1 : Int), 1, rfl, rfl, by cases st e2 <;> rfl, _, rfl, ?_⟩
        by_cases hf : st e2 = some (d1 + 1)
        · rw [decide_eq_true (by rw [hf]; rfl)]
          have hF : Farther es ls st i e2 := ⟨hil, e1, d1, hei, ea, hf⟩
          refine iteT ?_
          have hlen := hI.len
          refine ⟨_, rfl, D, rfl, .inl ⟨_, Rd.of hD6⟩, _, rfl, _, rfl, kvN hs, Sum.inl (e2 : Int), hD6, rfl, by unfold kvN; rw [List.length_map]; exact small_lt (by omega), fun v hv => ?_, fun hv => ?_⟩
          · obtain ⟨b, hb⟩ := kvN_has hv
            exact ⟨s46, hs, _, _, _, rfl, hD6, hI.skip fun v f => by
              obtain ⟨_, t, d', f1, _⟩ := f
              rw [hei] at f1
              cases f1
              exact ⟨b, hb⟩⟩
          · refine ⟨fun b u hb => ?_, hs ++ [(e2, i)], _, _, _, rfl, ?_, hI.snoc hF⟩
            · rw [upd_ne (ne_of_none hb nD)]
              exact s46 _ _ hb
            · rw [upd_same, putK_no hv]
              unfold kvN
              rw [List.map_append]
              rfl
        · rw [decide_eq_false (fun z => hf (by
            cases eb : st e2 with
            | none => rw [eb] at z; cases z
            | some d2 =>
              rw [eb] at z
              injection z with z
              congr 1
              omega))]
          refine iteF ?_
          exact ⟨s46, hs, _, _, _, rfl, hD6, hI.skip fun v f => by
            obtain ⟨_, t, d', f1, f2, f3⟩ := f
            rw [hei] at f1
            cases f1
            rw [ea] at f2
            cases f2
            exact absurd f3 hf⟩
    · rintro σ H' ⟨sm, hs, o1, o2, o3, rfl, hD, hI⟩
      rw [hl] at hI
      have hnn : ((hs.map (·.2)).map fun (k : Nat) => (k : Int)).map V.int = (kvN hs).map (·.2) := by
        unfold kvN
        rw [List.map_map, List.map_map, List.map_map]
        rfl
      refine ⟨_, rfl, D, kvN hs, (hs.map (·.2)).map fun (k : Nat) => (k : Int), rfl, hD, hnn.symm, fun ys z hperm hsrt nz => ?_⟩
      obtain ⟨os, e5, hos, hpo⟩ := sort_nats hperm hsrt
      have nd2 : (hs.map (·.2)).Nodup := hI.pw.imp fun h => Nat.ne_of_lt h
      have sm2 : Same H H' := s14.trans sm
      have hmem : ∀ k, k ∈ os ↔ k ∈ hs.map (·.2) := fun k => hos.mem_iff
      refine q z os _ (same_new sm2 nz) (Same.free sm2 nz) (by rw [upd_same, e5]) (pw_lt hpo (hos.nodup_iff.mpr nd2)) (fun k hk => ?_) fun v hv hrv => ?_
      · obtain ⟨x, hx, rfl⟩ := List.mem_map.mp ((hmem k).mp hk)
        obtain ⟨h1, t, d', h2, _⟩ := hI.ok x hx
        exact ⟨(List.getElem?_eq_some_iff.mp h2).1, h1⟩
      · obtain ⟨d', hd'⟩ := rch_iff.mp hrv
        exact (hI.leads m.ok m.n0 hst d' v hv hd').mono (fun e he => by
          obtain ⟨k, hk, h2⟩ := mem_pick.mp he
          exact mem_pick.mpr ⟨k, (hmem k).mpr hk, h2⟩) fun _ h => h

abbrev s_sure : Stmt := topS 55
abbrev sl_sure : List Str := ["chart", "standing", "_", "rotten", "enough", "arrow"]
theorem sc_sure : FnScope ["chart", "standing", "_", "rotten", "enough", "arrow"] ["chart", "standing"] (defScope s_sure) := ⟨rfl, rfl, rfl, by decide +kernel, rfl, by decide +kernel, by decide +kernel⟩
/-- without this arrow some goal can't be come to -/
noncomputable def shutB (es : Es) (gs ls : List Nat) (k : Nat) : Bool := @decide (¬ ∀ g ∈ gs, Rch (left es (ls ++ [k])) [0] g) (Classical.propDecidable _)
theorem shutB_iff {es : Es} {gs ls : List Nat} {k : Nat} : shutB es gs ls k = true ↔ ¬ ∀ g ∈ gs, Rch (left es (ls ++ [k])) [0] g := by
  unfold shutB
  exact @decide_eq_true_iff _ (Classical.propDecidable _)
/-- an arrow that is sure -/
def Sure (es : Es) (gs ls : List Nat) (k : Nat) : Prop := k < es.length ∧ k ∉ ls ∧ ¬ ∀ g ∈ gs, Rch (left es (ls ++ [k])) [0] g
def RSure : Nat → Es → List Nat → List Nat → List Nat → Hp → V → Hp → Prop := fun n es gs rs ls H v H' => ∃ (q : Addr) (as : List Nat), v = .ref q ∧ H q = none ∧ H' q = some (.tup (as.map nV)) ∧ as.Pairwise (· < ·) ∧ ∀ k, k ∈ as ↔ Sure es gs ls k
theorem ok_sure {CMap : Addr} (B : Bt mg) (C : MapC K mg CMap) (h_check_standing : Has P w K mg base "check_standing" 5 ["chart", "thing"] (spCheck K CMap)) (h_one_into_each : Has P w K mg base "_one_into_each" 3 ["chart", "rotten"] (spOneInto K CMap))
    (h_with_item : Has P w K mg base "with_item" 1 ["lot", "item"] (spWith K)) (h_goals_are_open : Has P w K mg base "goals_are_open" 3 ["chart", "rotten"] (spOpen K CMap)) (D0 : Df K mg "sure" s_sure ["chart", "standing"]) : Has P w K mg base "sure" 6 ["chart", "standing"] (spOf K CMap RSure) := by
  refine D0.has fun f fd F => F.ok sc_sure (fun vs H Q E h => ?_) (fun cdv A outer s H vs Q E hr h => ?_)
  · obtain ⟨p, n, a, pvs, es, c, gs, t, x, y, rs, ls, rfl, _⟩ := h
    rfl
  · obtain ⟨p, n, a, pvs, es, c, gs, t, x, y, rs, ls, rfl, hh, q⟩ := h
    refine ⟨_, (pss_cons (ps_expr (pcall h_check_standing hr (by decide) (by rfl) (pa_cons (pv 0) (pa_cons (pv 1) pa_nil))))
  (pss_cons (ps_asg (pv 1) (pg_tup rfl (pgs_cons (pg_name (i := 2) sc_sure.nd rfl (.inl rfl)) (pgs_cons (pg_name (i := 3) sc_sure.nd rfl (.inr rfl)) pgs_nil))))
  (pss_cons (ps_set (i := 4) sc_sure.nd rfl (.inl rfl) (pcall h_one_into_each hr (by decide) (by rfl) (pa_cons (pv 0) (pa_cons (pv 3) pa_nil))))
  (pss_one (ps_ret (pe_callTy (k_tuple (K := K) rfl) (by rfl) B.tuple bo_tuple (pa_cons (pe_lc (own := [("arrow", 5)]) (g := gName 5) rfl sc_sure.nd (k_pil (K := K) rfl (pv 4)) (blkOk_by (N := sl_sure) (sc := defScope s_sure) (by decide +kernel)) (fun _ _ _ _ _ => (pg_name (i := 5) sc_sure.nd rfl (.inl rfl))) (fun _ _ _ _ _ => pts_one (pt_not (pt_val (pcall h_goals_are_open hr (by decide) (by rfl) (pa_cons (pv 0) (pa_cons (pcall h_with_item hr (by decide) (by rfl) (pa_cons (pv 3) (pa_cons (pv 5) pa_nil))) pa_nil)))))) (fun _ _ _ _ _ => (pv 5))) pa_nil))))))), ?_⟩
    refine ⟨_, rfl, _, rfl, p, n, a, pvs, es, c, gs, t, x, y, rs, ls, rfl, hh.m, hh.S, hh.o, fun H1 s1 => ?_⟩
    have h1 := hh.same s1
    refine ⟨_, rfl, t, _, rfl, h1.S.t, rfl, _, _, rfl, _, _, rfl, rfl, ?_⟩
    refine ⟨_, rfl, _, rfl, p, n, a, pvs, es, c, gs, y, ls, rfl, h1.m, h1.S.y, h1.o.ln, fun D as H2 s2 nD hD hpw hak hlead => ?_⟩
    have h2 := h1.same s2
    have hal : as.length ≤ es.length - 0 := pw_len hpw fun z hz => ⟨Nat.zero_le _, (hak z hz).1⟩
    have hel := hh.m.el
    refine ⟨_, rfl, D, rfl, ⟨_, sql hD⟩, fun D1 nD1 => ?_⟩
    refine lc_val walk_list calm_at (fun i => (as[i]?).bind fun k => if shutB es gs ls k = true then some (nV k) else none) (by rw [List.length_map]; omega) nD1 (fun H3 s3 => sql (s3 _ _ hD)) ?_ fun H3 s3 h3 => ?_
    · rintro i v H3 H4 hi s3 ⟨rfl, hv⟩ Kt kt
      obtain ⟨k, hki, rfl⟩ := getmap hv
      obtain ⟨hkn, hkl⟩ := hak k (List.mem_of_getElem? hki)
      have h3 := h2.same s3
      refine ⟨rfl, ?_⟩
      refine ⟨_, rfl, _, rfl, _, rfl, y, ls, k, rfl, h3.S.y, h3.ll, h3.o.lp, hkl, fun z os H5 s5 nz hz hpw5 hmem => ?_⟩
      have hiff : ∀ x, x ∈ os ↔ x ∈ ls ++ [k] := fun x => by rw [hmem, List.mem_append, List.mem_singleton]
      refine ⟨p, n, a, pvs, es, c, gs, z, os, rfl, h3.m.same s5, sqt hz, fun l hl => ?_, fun H6 ok s6 hok => ⟨_, rfl, ?_⟩⟩
      · rcases (hmem l).mp hl with hl | hl
        · exact hh.o.ln l hl
        · rw [hl]
          exact hkn
      have k0 := kt _ (s5.trans s6)
      rw [hki] at k0
      simp only [Option.bind_some] at k0
      cases ok with
      | true =>
        have e : shutB es gs ls k = false := by
          rw [Bool.eq_false_iff, Ne, shutB_iff]
          exact fun z => z fun g hg => left_same (fun x => (hiff x).symm) (hok.mp rfl g hg)
        rw [e] at k0
        exact iteF k0
      | false =>
        have e : shutB es gs ls k = true := by
          rw [shutB_iff]
          exact fun hf => Bool.noConfusion (hok.mpr fun g hg => left_same hiff (hf g hg))
        rw [e] at k0
        exact iteT ⟨_, rfl, k0⟩
    · rw [List.length_map, fm_range] at h3
      have e1 : (as.filterMap fun k => if shutB es gs ls k = true then some (nV k) else none) = (as.filter fun k => shutB es gs ls k).map nV := by
        rw [← List.filterMap_eq_filter, List.map_filterMap]
        congr 1
        funext k
        cases h9 : shutB es gs ls k <;> simp [Option.guard, h9]
      rw [e1] at h3
      refine ⟨D1, _, rfl, .inl ⟨sql h3, fun q1 nq1 => ?_⟩⟩
      have sm : Same H H3 := (s1.trans s2).trans s3
      refine q _ _ (same_new sm nq1) ⟨q1, _, rfl, Same.free sm nq1, upd_same, hpw.filter _, fun k => ?_⟩
      rw [List.mem_filter, shutB_iff]
      constructor
      · rintro ⟨hk, hn⟩
        exact ⟨(hak k hk).1, (hak k hk).2, hn⟩
      · rintro ⟨hk, hkl, hn⟩
        refine ⟨Classical.byContradiction fun hka => hn fun g hg => ?_, hn⟩
        refine (hlead g (hh.m.gl g hg) (hh.o.opn g hg)).mono (fun e he => ?_) fun _ h => h
        obtain ⟨j, hj, hje⟩ := mem_pick.mp he
        refine mem_leftV.mpr ⟨j, hje, fun z => ?_⟩
        rcases List.mem_append.mp z with z | z
        · exact (hak j hj).2 z
        · rw [List.mem_singleton.mp z] at hj
          exact hka hj

abbrev s_world_with : Stmt := topS 54
abbrev sl_world_with : List Str := ["chart", "standing", "arrow", "sound", "reached", "rotten", "lost"]
theorem sc_world_with : FnScope ["chart", "standing", "arrow", "sound", "reached", "rotten", "lost"] ["chart", "standing", "arrow", "sound"] (defScope s_world_with) := ⟨rfl, rfl, rfl, by decide +kernel, rfl, by decide +kernel, by decide +kernel⟩
/-- whether the lot of arrows leaves the standing and the map as they must be -/
def FitW (es : Es) (gs rs ls : List Nat) : Prop := (∀ r ∈ rs, Rch (inner es rs ls) [0] r) ∧ ∀ g ∈ gs, Rch (left es ls) [0] g
theorem FitW.congr {es : Es} {gs rs ls ls' : List Nat} (hm : ∀ x, x ∈ ls' ↔ x ∈ ls) (h : FitW es gs rs ls) : FitW es gs rs ls' :=
  ⟨fun r hr => (h.1 r hr).mono (fun e he => by
    obtain ⟨e1, h1, h2⟩ := List.mem_filterMap.mp he
    obtain ⟨k, h3, h4⟩ := mem_leftV.mp h1
    exact List.mem_filterMap.mpr ⟨e1, mem_leftV.mpr ⟨k, h3, fun z => h4 ((hm k).mp z)⟩, h2⟩) fun _ h => h, fun g hg => left_same hm (h.2 g hg)⟩
/-- the answer of world_with: y is where the rotten arrows of the standing stand -/
inductive WWR (K : PySem.W.Frag) (es : Es) (gs rs ls : List Nat) (y : Addr) (k : Nat) (H' : Hp) : Bool → V → Prop
  | old (b : Bool) (h : (k ∈ ls) ↔ b = false) : WWR K es gs rs ls y k H' b (.ref y)
  | no (h : k ∈ ls) : WWR K es gs rs ls y k H' true .non
  | lost {z : Addr} {os : List Nat} (h : k ∉ ls) (hz : SqT K H' z (os.map nV)) (hp : os.Pairwise (· < ·)) (hm : ∀ x, x ∈ os ↔ x ∈ ls ∨ x = k) (hf : FitW es gs rs os) : WWR K es gs rs ls y k H' false (.ref z)
  | none (h : k ∉ ls) (hf : ¬ FitW es gs rs (ls ++ [k])) : WWR K es gs rs ls y k H' false .non
def spWWG (K : PySem.W.Frag) (C : Addr) : Sp := fun vs H Q _ => ∃ (p : Addr) (n : Nat) (a : Addr) (pvs : List V) (es : Es) (c : Addr) (gs : List Nat) (t x y : Addr) (rs ls : List Nat) (k : Nat) (b : Bool), vs = [.ref p, .ref t, nV k, .bl b] ∧ At K C H p n a pvs es c gs t x y rs ls ∧
  k < es.length ∧ ∀ r H', Same H H' → WWR K es gs rs ls y k H' b r → Q r H'
theorem ok_world_with {CMap : Addr} (B : Bt mg) (C : MapC K mg CMap) (h_check_standing : Has P w K mg base "check_standing" 5 ["chart", "thing"] (spCheck K CMap)) (h_is_index : Has P w K mg base "is_index" 2 ["thing", "many"] (spIsIndex K))
    (h_is_flag : Has P w K mg base "is_flag" 1 ["thing"] spFlag) (h_with_item : Has P w K mg base "with_item" 1 ["lot", "item"] (spWith K)) (h_holds_together : Has P w K mg base "holds_together" 3 ["chart", "reached", "rotten"] (spHolds K CMap))
    (h_goals_are_open : Has P w K mg base "goals_are_open" 3 ["chart", "rotten"] (spOpen K CMap)) (h_arrows : HasM P w K mg base CMap "arrows" 1 ["self"] (spArrows K CMap)) (D0 : Df K mg "world_with" s_world_with ["chart", "standing", "arrow", "sound"]) : Has P w K mg base "world_with" 6 ["chart", "standing", "arrow", "sound"] (spWWG K CMap) := by
  refine D0.has fun f fd F => F.ok sc_world_with (fun vs H Q E h => ?_) (fun cdv A outer s H vs Q E hr h => ?_)
  · obtain ⟨p, n, a, pvs, es, c, gs, t, x, y, rs, ls, k, b, rfl, _⟩ := h
    rfl
  · obtain ⟨p, n, a, pvs, es, c, gs, t, x, y, rs, ls, k, b, rfl, hh, hk, q⟩ := h
    refine ⟨_, (pss_cons (ps_expr (pcall h_check_standing hr (by decide) (by rfl) (pa_cons (pv 0) (pa_cons (pv 1) pa_nil))))
  (pss_cons (ps_if (pt_not (pt_val (pcall h_is_index hr (by decide) (by rfl) (pa_cons (pv 2) (pa_cons (pe_callB (k_len (K := K) rfl) (by rfl) B.len bo_len (pa_cons (pe_meth0 (pv 0) C.cl h_arrows.mt h_arrows.F (hr.mono (by decide)) h_arrows.b .nil pass0) pa_nil)) pa_nil)))))
    (pss_one ps_never)
    pss_nil)
  (pss_cons (ps_if (pt_not (pt_val (pcall h_is_flag hr (by decide) (by rfl) (pa_cons (pv 3) pa_nil))))
    (pss_one ps_never)
    pss_nil)
  (pss_cons (ps_asg (pv 1) (pg_tup rfl (pgs_cons (pg_name (i := 4) sc_world_with.nd rfl (.inl rfl)) (pgs_cons (pg_name (i := 5) sc_world_with.nd rfl (.inl rfl)) pgs_nil))))
  (pss_cons (ps_if (pt_cmpR (k_in (K := K) rfl) (pv 2) (pv 5) (by rfl))
    (pss_one (ps_ret (pe_ifExp (pt_val (pv 3)) pe_non (pv 5))))
    pss_nil)
  (pss_cons (ps_if (pt_val (pv 3))
    (pss_one (ps_ret (pv 5)))
    pss_nil)
  (pss_cons (ps_set (i := 6) sc_world_with.nd rfl (.inl rfl) (pcall h_with_item hr (by decide) (by rfl) (pa_cons (pv 5) (pa_cons (pv 2) pa_nil))))
  (pss_cons (ps_if (PW.pt (pw_and (pt_val (pcall h_holds_together hr (by decide) (by rfl) (pa_cons (pv 0) (pa_cons (pv 4) (pa_cons (pv 6) pa_nil))))) (pw_and1 (pt_val (pcall h_goals_are_open hr (by decide) (by rfl) (pa_cons (pv 0) (pa_cons (pv 6) pa_nil)))))))
    (pss_one (ps_ret (pv 6)))
    pss_nil)
  (pss_one (ps_ret pe_non)))))))))), ?_⟩
    have hl := hh.m.pr.len
    refine ⟨_, rfl, _, rfl, p, n, a, pvs, es, c, gs, t, x, y, rs, ls, rfl, hh.m, hh.S, hh.o, fun H1 s1 => ?_⟩
    have h1 := hh.same s1
    obtain ⟨dx, hp⟩ := h1.m.at_.ob
    refine ⟨_, rfl, _, rfl, p, dx, _, rfl, hp, mapF_arrows _ _ _, p, n, a, pvs, c, gs, rfl, h1.m.at_, a, pvs, rfl, .inr h1.m.at_.ar, nV k, "int", (pvs.length : Int), rfl, kn_of_int, _, rfl, ?_⟩
    have e1 : idxV (nV k) (pvs.length : Int) = true := by
      show (decide (0 ≤ (k : Int)) && decide ((k : Int) < (pvs.length : Int))) = true
      rw [Bool.and_eq_true, decide_eq_true_eq, decide_eq_true_eq]
      omega
    rw [e1]
    refine iteF ?_
    refine ⟨_, rfl, b, rfl, _, rfl, iteF ?_⟩
    refine ⟨_, rfl, t, _, rfl, h1.S.t, rfl, _, _, rfl, _, _, rfl, rfl, ?_⟩
    refine ⟨_, rfl, _, rfl, y, _, rfl, .inr h1.S.y, rfl, flat_nats _, _, rfl, ?_⟩
    rw [if_neg Bool.false_ne_true, inV_nats]
    by_cases hkl : k ∈ ls
    · rw [decide_eq_true hkl]
      refine iteT ?_
      refine ⟨_, rfl, _, rfl, ?_⟩
      cases b with
      | true =>
        refine iteT ?_
        exact q _ H1 s1 (.no hkl)
      | false =>
        refine iteF ?_
        exact ⟨_, rfl, q _ H1 s1 (.old false ⟨fun _ => rfl, fun _ => hkl⟩)⟩
    · rw [decide_eq_false hkl]
      refine iteF ?_
      refine ⟨_, rfl, _, rfl, ?_⟩
      cases b with
      | true =>
        refine iteT ?_
        exact ⟨_, rfl, q _ H1 s1 (.old true ⟨fun z => absurd z hkl, fun z => Bool.noConfusion z⟩)⟩
      | false =>
        refine iteF ?_
        refine ⟨_, rfl, _, rfl, y, ls, k, rfl, h1.S.y, h1.ll, h1.o.lp, hkl, fun z os H2 s2 nz hz hpw hmem => ?_⟩
        have h2 := h1.same s2
        have hos : ∀ l ∈ os, l < es.length := fun l hl => by
          rcases (hmem l).mp hl with hl | hl
          · exact hh.o.ln l hl
          · rw [hl]
            exact hk
        have hiff : ∀ x, x ∈ os ↔ x ∈ ls ++ [k] := fun x => by rw [hmem, List.mem_append, List.mem_singleton]
        refine ⟨_, rfl, _, rfl, _, rfl, p, n, a, pvs, es, c, gs, x, z, rs, os, rfl, h2.m, h2.S.x, h2.o.rn, h2.rl, sqt hz, hos, fun H3 ok3 s3 hok3 => ⟨_, rfl, ?_⟩⟩
        cases ok3 with
        | false =>
          refine iteF ?_
          refine iteF ?_
          exact q _ H3 ((s1.trans s2).trans s3) (.none hkl fun hf => Bool.noConfusion (hok3.mpr (hf.congr hiff).1))
        | true =>
          refine iteT ?_
          refine ⟨_, rfl, _, rfl, p, n, a, pvs, es, c, gs, z, os, rfl, h2.m.same s3, Same.sqt s3 (sqt hz), hos, fun H4 ok4 s4 hok4 => ⟨_, rfl, ?_⟩⟩
          have s14 := ((s1.trans s2).trans s3).trans s4
          cases ok4 with
          | false =>
            refine iteF ?_
            exact q _ H4 s14 (.none hkl fun hf => Bool.noConfusion (hok4.mpr (hf.congr hiff).2))
          | true =>
            refine iteT ?_
            exact ⟨_, rfl, q _ H4 s14 (.lost hkl (Same.sqt (s3.trans s4) (sqt hz)) hpw hmem ⟨hok3.mp rfl, hok4.mp rfl⟩)⟩

theorem mem_inner {es : Es} {rs ls : List Nat} {e : Nat × Nat} : e ∈ inner es rs ls ↔ ∃ k, es[k]? = some e ∧ k ∉ ls ∧ e.1 ∈ rs ∧ e.2 ∈ rs := by
  constructor
  · intro h
    obtain ⟨e1, h1, h2⟩ := List.mem_filterMap.mp h
    unfold innG at h2
    split at h2
    · rename_i hc
      cases h2
      obtain ⟨k, h3, h4⟩ := mem_leftV.mp h1
      exact ⟨k, h3, h4, hc⟩
    · cases h2
  · rintro ⟨k, h1, h2, h3⟩
    refine List.mem_filterMap.mpr ⟨e, mem_leftV.mpr ⟨k, h1, h2⟩, ?_⟩
    unfold innG
    exact if_pos h3

theorem NewsR.std {n : Nat} {es : Es} {gs rs ls rs' ls' : List Nat} {k : Nat} {b : Bool} (h : NewsR es rs ls k b rs' ls') (o : StdOk n es gs rs ls) (ok : ∀ e ∈ es, e.1 < n ∧ e.2 < n) (hk : k ∈ triesL es rs ls) (hb : b = false → ∀ g ∈ gs, Rch (left es (ls ++ [k])) [0] g) :
    StdOk n es gs rs' ls' := by
  obtain ⟨e, hke, hkl, he1, he2⟩ := mem_tries.mp hk
  cases b with
  | true =>
    obtain ⟨h1, rfl⟩ := h.yes rfl
    have hm := h1 e hke
    have hold0 : ∀ r ∈ rs, Rch (inner es rs' ls') [0] r := fun r hr => (o.hold r hr).mono (fun x hx => by
      obtain ⟨j, a1, a2, a3, a4⟩ := mem_inner.mp hx
      exact mem_inner.mpr ⟨j, a1, a2, (hm _).mpr (.inl a3), (hm _).mpr (.inl a4)⟩) fun _ h => h
    refine ⟨h.rp, h.lp, fun r hr => ?_, o.ln, (hm _).mpr (.inl o.r0), fun l hl x hx => (hm _).mpr (.inl (o.tl l hl x hx)), fun r hr => ?_, o.opn⟩
    · rcases (hm r).mp hr with hr | hr
      · exact o.rn r hr
      · rw [hr]
        exact (ok e (List.mem_of_getElem? hke)).2
    · rcases (hm r).mp hr with hr | hr
      · exact hold0 r hr
      · rw [hr]
        exact (hold0 e.1 he1).edge (mem_inner.mpr ⟨k, hke, hkl, (hm _).mpr (.inl he1), (hm _).mpr (.inr rfl)⟩)
  | false =>
    obtain ⟨rfl, hm⟩ := h.no rfl
    refine ⟨h.rp, h.lp, o.rn, fun l hl => ?_, o.r0, fun l hl x hx => ?_, fun r hr => ?_, fun g hg => ?_⟩
    · rcases (hm l).mp hl with hl | hl
      · exact o.ln l hl
      · rw [hl]
        exact (List.getElem?_eq_some_iff.mp hke).1
    · rcases (hm l).mp hl with hl | hl
      · exact o.tl l hl x hx
      · rw [hl, hke] at hx
        cases hx
        exact he1
    · refine (o.hold r hr).mono (fun x hx => ?_) fun _ h => h
      obtain ⟨j, a1, a2, a3, a4⟩ := mem_inner.mp hx
      refine mem_inner.mpr ⟨j, a1, fun z => ?_, a3, a4⟩
      rcases (hm j).mp z with z | z
      · exact a2 z
      · rw [z, hke] at a1
        cases a1
        exact he2 a4
    · exact left_same (fun x => by rw [hm, List.mem_append, List.mem_singleton]) (hb rfl g hg)

/-- values of known kinds, no tuples -/
inductive Kn0 (K : PySem.W.Frag) (H : Hp) : V → Prop
  | non : Kn0 K H .non
  | bl (b : Bool) : Kn0 K H (.bl b)
  | int (i : Int) : Kn0 K H (.int i)
  | str (x : Str) : Kn0 K H (.str x)
  | lst {a : Addr} {xs : List V} (e : H a = some (.lst xs)) : Kn0 K H (.ref a)
  | dic {a : Addr} {kvs : List (Key × V)} (e : H a = some (.dK kvs)) : Kn0 K H (.ref a)
theorem Kn0.kn {K : PySem.W.Frag} {H : Hp} {v : V} (h : Kn0 K H v) : ∃ s, Kn K H v s ∧ (s == "tuple") = false := by
  cases h with
  | non => exact ⟨"NoneType", ⟨.base .non, by simp⟩, by decide⟩
  | bl b => exact ⟨"bool", ⟨.base (.bl b), by simp⟩, by decide⟩
  | int i => exact ⟨"int", ⟨.base (.int i), by simp⟩, by decide⟩
  | str x => exact ⟨"str", ⟨.base (.str x), by simp⟩, by decide⟩
  | lst e => exact ⟨"list", ⟨.base (.lst e), by simp⟩, by decide⟩
  | dic e => exact ⟨"dict", ⟨.base (.dK e), by simp⟩, by decide⟩
theorem Kn0.same {K : PySem.W.Frag} {H H' : Hp} {v : V} (s : Same H H') (h : Kn0 K H v) : Kn0 K H' v := by
  cases h with
  | non => exact .non
  | bl b => exact .bl b
  | int i => exact .int i
  | str x => exact .str x
  | lst e => exact .lst (s _ _ e)
  | dic e => exact .dic (s _ _ e)
/-- an item of a tuple: of a known kind -/
def KnI (K : PySem.W.Frag) (H : Hp) (v : V) : Prop := Kn0 K H v ∨ ∃ a xs, v = .ref a ∧ SqT K H a xs
theorem KnI.kn {K : PySem.W.Frag} {H : Hp} {v : V} (h : KnI K H v) : ∃ s, Kn K H v s := by
  rcases h with h | ⟨a, xs, rfl, h⟩
  · obtain ⟨s, h1, _⟩ := h.kn
    exact ⟨s, h1⟩
  · exact ⟨"tuple", kn_of_tup h⟩
theorem KnI.same {K : PySem.W.Frag} {H H' : Hp} {v : V} (s : Same H H') (h : KnI K H v) : KnI K H' v := by
  rcases h with h | ⟨a, xs, rfl, h⟩
  · exact .inl (h.same s)
  · exact .inr ⟨a, xs, rfl, Same.sqt s h⟩
theorem knI_nat {K : PySem.W.Frag} {H : Hp} {ls : List Nat} : ∀ x ∈ ls.map nV, KnI K H x := fun x hx => by
  obtain ⟨z, _, rfl⟩ := List.mem_map.mp hx
  exact .inl (.int _)
/-- what may be handed in as a lot -/
def Thing (K : PySem.W.Frag) (H : Hp) (v : V) : Prop := (∃ a xs, v = .ref a ∧ SqT K H a xs ∧ xs.length ≤ 1000 ∧ ∀ x ∈ xs, KnI K H x) ∨ Kn0 K H v
theorem Thing.same {K : PySem.W.Frag} {H H' : Hp} {v : V} (s : Same H H') (h : Thing K H v) : Thing K H' v := by
  rcases h with ⟨a, xs, rfl, h1, h2, h3⟩ | h
  · exact .inl ⟨a, xs, rfl, Same.sqt s h1, h2, fun x hx => (h3 x hx).same s⟩
  · exact .inr (h.same s)
/-- the items are a lot of numbers below m -/
def LotX (m : Nat) (xs : List V) : Prop := ∃ ls : List Nat, xs = ls.map nV ∧ ls.Pairwise (· < ·) ∧ ∀ l ∈ ls, l < m
theorem lotX_iff {m : Nat} {xs : List V} : LotX m xs ↔ lotFrom (m : Int) (-1) xs = true := by
  constructor
  · rintro ⟨ls, rfl, h1, h2⟩
    exact lot_of (fun g hg => ⟨by have := h2 g hg; omega, by omega⟩) h1
  · intro h
    obtain ⟨ls, e, h1, h2⟩ := lot_nat (by omega) h
    exact ⟨ls, e, h2, fun l hl => by have := (h1 l hl).1; omega⟩
theorem map_nV_inj {as bs : List Nat} (h : as.map nV = bs.map nV) : as = bs :=
  (List.map_inj_right fun x y z => by
    have z' : V.int (x : Int) = V.int (y : Int) := z
    injection z' with z'
    omega).mp h
def WorldX (es : Es) (gs : List Nat) (xs : List V) : Prop := ∃ ls : List Nat, xs = ls.map nV ∧ ls.Pairwise (· < ·) ∧ (∀ l ∈ ls, l < es.length) ∧ ∀ g ∈ gs, Rch (left es ls) [0] g

/-- a tuple of at most n items of known kinds -/
def TupK (K : PySem.W.Frag) (H : Hp) (v : V) (n : Nat) : Prop := ∃ a xs, v = .ref a ∧ SqT K H a xs ∧ xs.length ≤ n ∧ ∀ x ∈ xs, KnI K H x
theorem TupK.same {K : PySem.W.Frag} {H H' : Hp} {v : V} {n : Nat} (h : TupK K H v n) (s : Same H H') : TupK K H' v n := by
  obtain ⟨a, xs, rfl, h1, h2, h3⟩ := h
  exact ⟨a, xs, rfl, Same.sqt s h1, h2, fun x hx => (h3 x hx).same s⟩
theorem TupK.thing {K : PySem.W.Frag} {H : Hp} {v : V} {n : Nat} (h : TupK K H v n) (hn : n ≤ 1000) : Thing K H v := by
  obtain ⟨a, xs, rfl, h1, h2, h3⟩ := h
  exact .inl ⟨a, xs, rfl, h1, by omega, h3⟩
theorem Kn0.updl {K : PySem.W.Frag} {H : Hp} {l : Addr} {ys zs : List V} {v : V} (hl : H l = some (.lst ys)) (h : Kn0 K H v) : Kn0 K (upd H l (.lst zs)) v := by
  cases h with
  | non => exact .non
  | bl b => exact .bl b
  | int i => exact .int i
  | str x => exact .str x
  | @lst a xs e =>
    by_cases ha : a = l
    · subst ha
      exact .lst upd_same
    · exact .lst (by rw [upd_ne ha]; exact e)
  | @dic a kvs e => exact .dic (by rw [upd_ne (ne_of e hl (by intro z; cases z))]; exact e)
theorem KnI.updl {K : PySem.W.Frag} {H : Hp} {l : Addr} {ys zs : List V} {v : V} (hl : H l = some (.lst ys)) (h : KnI K H v) : KnI K (upd H l (.lst zs)) v := by
  rcases h with h | ⟨a, xs, rfl, h⟩
  · exact .inl (h.updl hl)
  · exact .inr ⟨a, xs, rfl, sqt_upd hl h⟩
theorem TupK.updl {K : PySem.W.Frag} {H : Hp} {l : Addr} {ys zs : List V} {v : V} {n : Nat} (hl : H l = some (.lst ys)) (h : TupK K H v n) : TupK K (upd H l (.lst zs)) v n := by
  obtain ⟨a, xs, rfl, h1, h2, h3⟩ := h
  exact ⟨a, xs, rfl, sqt_upd hl h1, h2, fun x hx => (h3 x hx).updl hl⟩
theorem Thing.updl {K : PySem.W.Frag} {H : Hp} {l : Addr} {ys zs : List V} {v : V} (hl : H l = some (.lst ys)) (h : Thing K H v) : Thing K (upd H l (.lst zs)) v := by
  rcases h with h | h
  · exact .inl (TupK.updl hl h)
  · exact .inr (h.updl hl)
theorem Kn0.dr {K : PySem.W.Frag} {F H H' : Hp} {h : Addr} {v : V} (d : Dr F H H' h) (hA : HandAt F H h) (k : Kn0 K H v) : Kn0 K H' v := by
  obtain ⟨c, cells, i, r, s', k', h1, _⟩ := hA.ob
  cases k with
  | non => exact .non
  | bl b => exact .bl b
  | int i => exact .int i
  | str x => exact .str x
  | @lst a xs e =>
    by_cases ha : a = h
    · obtain ⟨c, cells, i, r, s', k', h2, _⟩ := d.hand.ob
      rw [ha]
      exact .lst h2
    · exact .lst (d.same _ _ ha e)
  | @dic a kvs e => exact .dic (d.same _ _ (ne_of e h1 (by intro z; cases z)) e)
theorem KnI.dr {K : PySem.W.Frag} {F H H' : Hp} {h : Addr} {v : V} (d : Dr F H H' h) (hA : HandAt F H h) (k : KnI K H v) : KnI K H' v := by
  rcases k with k | ⟨a, xs, rfl, k⟩
  · exact .inl (k.dr d hA)
  · exact .inr ⟨a, xs, rfl, d.sqt hA k⟩
theorem TupK.dr {K : PySem.W.Frag} {F H H' : Hp} {h : Addr} {v : V} {n : Nat} (d : Dr F H H' h) (hA : HandAt F H h) (k : TupK K H v n) : TupK K H' v n := by
  obtain ⟨a, xs, rfl, h1, h2, h3⟩ := k
  exact ⟨a, xs, rfl, d.sqt hA h1, h2, fun x hx => (h3 x hx).dr d hA⟩
theorem Thing.dr {K : PySem.W.Frag} {F H H' : Hp} {h : Addr} {v : V} (d : Dr F H H' h) (hA : HandAt F H h) (k : Thing K H v) : Thing K H' v := by
  rcases k with k | k
  · exact .inl (TupK.dr d hA k)
  · exact .inr (k.dr d hA)
theorem sl_tk {K : PySem.W.Frag} {H : Hp} {v : V} {n : Nat} {lo hi : Option Int} {Q : VK} (h : TupK K H v n) (q : ∀ d H', Same H H' → TupK K H' d n → Q d H') : rSlA K v lo hi H Q := by
  obtain ⟨a, xs, rfl, h1, h2, h3⟩ := h
  refine ⟨a, xs, rfl, h1, fun _ => q _ H (Same.refl H) ⟨a, xs, rfl, h1, h2, h3⟩, fun _ p np => ?_⟩
  have s := same_new (o := .tup (cutV xs lo hi)) (Same.refl H) np
  refine q _ _ s ⟨p, _, rfl, sqt upd_same, ?_, fun x hx => (h3 x ?_).same s⟩
  · unfold cutV
    rw [List.length_take, List.length_drop]
    omega
  · unfold cutV at hx
    first
      | exact List.mem_of_mem_drop (List.mem_of_mem_take hx)
      | exact List.mem_of_mem_take (List.mem_of_mem_drop hx)
theorem cat_tk {K : PySem.W.Frag} {H : Hp} {x y : V} {n m : Nat} {Q : VK} (hx : TupK K H x n) (hy : TupK K H y m) (hl : n + m ≤ 1000) (q : ∀ d H', Same H H' → TupK K H' d (n + m) → Q d H') : rCatA K x y H Q := by
  obtain ⟨a, xs, rfl, h1, h2, h3⟩ := hx
  obtain ⟨b, ys, rfl, k1, k2, k3⟩ := hy
  refine ⟨a, b, xs, ys, rfl, rfl, h1, k1, small_sz (by omega), fun e => q _ H (Same.refl H) ⟨b, ys, rfl, k1, by omega, k3⟩, fun _ e => q _ H (Same.refl H) ⟨a, xs, rfl, h1, by omega, h3⟩, fun _ _ p np => ?_⟩
  have s := same_new (o := .tup (xs ++ ys)) (Same.refl H) np
  refine q _ _ s ⟨p, _, rfl, sqt upd_same, by rw [List.length_append]; omega, fun z hz => ?_⟩
  rcases List.mem_append.mp hz with hz | hz
  · exact (h3 z hz).same s
  · exact (k3 z hz).same s
theorem tup1_tk {K : PySem.W.Frag} {H : Hp} {p : Addr} {x : V} (np : H p = none) (hx : KnI K H x) : TupK K (upd H p (.tup [x])) (.ref p) 1 :=
  ⟨p, _, rfl, sqt upd_same, Nat.le_refl _, fun z hz => by rw [List.mem_singleton.mp hz]; exact hx.same (same_new (Same.refl H) np)⟩
theorem tup2_tk {K : PySem.W.Frag} {H : Hp} {p : Addr} {x y : V} (np : H p = none) (hx : KnI K H x) (hy : KnI K H y) : TupK K (upd H p (.tup [x, y])) (.ref p) 2 :=
  ⟨p, _, rfl, sqt upd_same, Nat.le_refl _, fun z hz => by
    have s := same_new (o := .tup [x, y]) (Same.refl H) np
    rcases List.mem_cons.mp hz with rfl | hz
    · exact hx.same s
    · rw [List.mem_singleton.mp hz]
      exact hy.same s⟩
theorem TupK.kni {K : PySem.W.Frag} {H : Hp} {v : V} {n : Nat} (h : TupK K H v n) : KnI K H v := by
  obtain ⟨a, xs, rfl, h1, _⟩ := h
  exact .inr ⟨a, xs, rfl, h1⟩
/-- all of them may be handed in -/
def Ths (K : PySem.W.Frag) (H : Hp) (vs : List V) : Prop := ∀ v ∈ vs, Thing K H v
theorem Ths.same {K : PySem.W.Frag} {H H' : Hp} {vs : List V} (h : Ths K H vs) (s : Same H H') : Ths K H' vs := fun v hv => (h v hv).same s
theorem Ths.cons {K : PySem.W.Frag} {H : Hp} {v : V} {vs : List V} (h : Thing K H v) (hs : Ths K H vs) : Ths K H (v :: vs) := fun x hx => by
  rcases List.mem_cons.mp hx with rfl | hx
  · exact h
  · exact hs x hx
theorem Ths.snoc {K : PySem.W.Frag} {H : Hp} {v : V} {vs : List V} (hs : Ths K H vs) (h : Thing K H v) : Ths K H (vs ++ [v]) := fun x hx => by
  rcases List.mem_append.mp hx with hx | hx
  · exact hs x hx
  · rw [List.mem_singleton.mp hx]
    exact h
theorem Ths.app {K : PySem.W.Frag} {H : Hp} {vs ws : List V} (h : Ths K H vs) (hs : Ths K H ws) : Ths K H (vs ++ ws) := fun x hx => by
  rcases List.mem_append.mp hx with hx | hx
  · exact h x hx
  · exact hs x hx
theorem ths_nil {K : PySem.W.Frag} {H : Hp} : Ths K H [] := fun _ h => (List.not_mem_nil h).elim
theorem log_small {n : Nat} (h : n < 2 ^ 1000) : n.log2 < 1920 := by
  by_cases h0 : n = 0
  · subst h0
    decide
  · have := (Nat.log2_lt h0).mpr h
    omega

abbrev s_is_world : Stmt := topS 31
abbrev sl_is_world : List Str := ["chart", "thing"]
theorem sc_is_world : FnScope ["chart", "thing"] ["chart", "thing"] (defScope s_is_world) := ⟨rfl, rfl, rfl, by decide +kernel, rfl, by decide +kernel, by decide +kernel⟩
def spWorldG (K : PySem.W.Frag) (C : Addr) : Sp := fun vs H Q _ => ∃ (p : Addr) (n : Nat) (a : Addr) (pvs : List V) (es : Es) (c : Addr) (gs : List Nat) (v : V), vs = [.ref p, v] ∧ MapOk K C H p n a pvs es c gs ∧
  ((∃ b xs, v = .ref b ∧ SqT K H b xs ∧ (∀ x ∈ xs, KnI K H x) ∧ ∀ H' (ok : Bool), Same H H' → (ok = true ↔ WorldX es gs xs) → Q (.bl ok) H') ∨ (Kn0 K H v ∧ ∀ H', Same H H' → Q (.bl false) H'))
theorem ok_is_world {CMap : Addr} (B : Bt mg) (C : MapC K mg CMap) (h_is_lot : Has P w K mg base "is_lot" 3 ["thing", "many"] (spIsLot K)) (h_goals_are_open : Has P w K mg base "goals_are_open" 3 ["chart", "rotten"] (spOpen K CMap))
    (h_arrows : HasM P w K mg base CMap "arrows" 1 ["self"] (spArrows K CMap)) (D0 : Df K mg "is_world" s_is_world ["chart", "thing"]) : Has P w K mg base "is_world" 4 ["chart", "thing"] (spWorldG K CMap) := by
  refine D0.has fun f fd F => F.ok sc_is_world (fun vs H Q E h => ?_) (fun cdv A outer s H vs Q E hr h => ?_)
  · obtain ⟨p, n, a, pvs, es, c, gs, v, rfl, _⟩ := h
    rfl
  · obtain ⟨p, n, a, pvs, es, c, gs, v, rfl, m, h⟩ := h
    refine ⟨_, (pss_one (ps_ret (pe_and (pcall h_is_lot hr (by decide) (by rfl) (pa_cons (pv 1) (pa_cons (pe_callB (k_len (K := K) rfl) (by rfl) B.len bo_len (pa_cons (pe_meth0 (pv 0) C.cl h_arrows.mt h_arrows.F (hr.mono (by decide)) h_arrows.b .nil pass0) pa_nil)) pa_nil))) (pe_one (pcall h_goals_are_open hr (by decide) (by rfl) (pa_cons (pv 0) (pa_cons (pv 1) pa_nil))))))), ?_⟩
    obtain ⟨dx, hp⟩ := m.at_.ob
    have hl := m.pr.len
    refine ⟨_, rfl, _, rfl, p, dx, _, rfl, hp, mapF_arrows _ _ _, p, n, a, pvs, c, gs, rfl, m.at_, a, pvs, rfl, .inr m.at_.ar, v, (pvs.length : Int), rfl, ?_⟩
    rcases h with ⟨b, xs, rfl, hb, hk, q⟩ | ⟨h0, q⟩
    · refine .inl ⟨b, xs, rfl, hb, fun x hx => (hk x hx).kn, _, rfl, ?_⟩
      rw [hl]
      cases e : lotFrom (es.length : Int) (-1) xs with
      | false =>
        refine iteF ?_
        refine q H false (Same.refl H) ⟨fun z => Bool.noConfusion z, fun ⟨ls, e1, e2, e3, _⟩ => ?_⟩
        rw [lotX_iff.mp ⟨ls, e1, e2, e3⟩] at e
        cases e
      | true =>
        refine iteT ?_
        obtain ⟨ls, rfl, e2, e3⟩ := lotX_iff.mpr e
        refine ⟨_, rfl, _, rfl, p, n, a, pvs, es, c, gs, b, ls, rfl, m, hb, e3, fun H' ok s' hok => q H' ok s' ?_⟩
        rw [hok]
        exact ⟨fun z => ⟨ls, rfl, e2, e3, z⟩, fun ⟨ls', e1', _, _, z⟩ => by rw [map_nV_inj e1']; exact z⟩
    · obtain ⟨s0, k1, k2⟩ := h0.kn
      refine .inr ⟨s0, k1, k2, _, rfl, ?_⟩
      exact iteF (q H (Same.refl H))

theorem ix_ex {xs : List V} {k : Int} (h0 : 0 ≤ k) (h1 : k < (xs.length : Int)) : ∃ v, atI xs k = some v ∧ v ∈ xs := by
  obtain ⟨j, rfl⟩ : ∃ j : Nat, k = (j : Int) := ⟨k.toNat, by omega⟩
  have hj : j < xs.length := by omega
  exact ⟨xs[j], atI_nat (List.getElem?_eq_getElem hj), List.getElem_mem hj⟩
theorem Kn0.kns {K : PySem.W.Frag} {H : Hp} {v : V} (h : Kn0 K H v) : ∃ s, (s == "tuple") = false ∧ ((∀ b, v ≠ .bl b) → (s == "bool") = false) ∧ ∀ H', Same H H' → Kn K H' v s := by
  cases h with
  | non => exact ⟨"NoneType", by decide, fun _ => by decide, fun H' _ => ⟨.base .non, by simp⟩⟩
  | bl b => exact ⟨"bool", by decide, fun z => absurd rfl (z b), fun H' _ => ⟨.base (.bl b), by simp⟩⟩
  | int i => exact ⟨"int", by decide, fun _ => by decide, fun H' _ => ⟨.base (.int i), by simp⟩⟩
  | str x => exact ⟨"str", by decide, fun _ => by decide, fun H' _ => ⟨.base (.str x), by simp⟩⟩
  | lst e => exact ⟨"list", by decide, fun _ => by decide, fun H' s => ⟨.base (.lst (s _ _ e)), by simp⟩⟩
  | dic e => exact ⟨"dict", by decide, fun _ => by decide, fun H' s => ⟨.base (.dK (s _ _ e)), by simp⟩⟩
theorem KnI.kns {K : PySem.W.Frag} {H : Hp} {v : V} (h : KnI K H v) : ∃ s, ((∀ b, v ≠ .bl b) → (s == "bool") = false) ∧ ∀ H', Same H H' → Kn K H' v s := by
  rcases h with h | ⟨a, xs, rfl, h⟩
  · obtain ⟨s, _, h1, h2⟩ := h.kns
    exact ⟨s, h1, h2⟩
  · exact ⟨"tuple", fun _ => by decide, fun H' s => kn_of_tup (Same.sqt s h)⟩
theorem idx_hi {i m : Int} (h : m ≤ i) : idxV (.int i) m = false := by
  show (decide (0 ≤ i) && decide (i < m)) = false
  rw [decide_eq_false (p := i < m) (by omega), Bool.and_false]
theorem idx_lo {i m : Int} (h : i < 0) : idxV (.int i) m = false := by
  show (decide (0 ≤ i) && decide (i < m)) = false
  rw [decide_eq_false (p := 0 ≤ i) (by omega), Bool.false_and]
theorem idx_in {i m : Int} (h0 : 0 ≤ i) (h1 : i < m) : idxV (.int i) m = true := by
  show (decide (0 ≤ i) && decide (i < m)) = true
  rw [decide_eq_true h0, decide_eq_true h1, Bool.and_true]
theorem upd_of_same {X : Hp} {p : Addr} {o : HO} (_ : Same X (upd X p o)) : upd X p o p = some o := upd_same

abbrev s_arrows_nearer : Stmt := topS 57
abbrev sl_arrows_nearer : List Str := ["chart", "standing", "steps", "_", "rotten", "gone", "onward", "arrow", "tail", "head", "both"]
theorem sc_arrows_nearer : FnScope ["chart", "standing", "steps", "_", "rotten", "gone", "onward", "arrow", "tail", "head", "both"] ["chart", "standing", "steps"] (defScope s_arrows_nearer) := ⟨rfl, rfl, rfl, by decide +kernel, rfl, by decide +kernel, by decide +kernel⟩
/-- the arrow leads from a place to one that is nearer by one -/
def Near (es : Es) (ls : List Nat) (st : Nat → Option Nat) (k v : Nat) : Prop := k ∉ ls ∧ ∃ h d, es[k]? = some (v, h) ∧ st v = some (d + 1) ∧ st h = some d
def StFacts (n : Nat) (es : Es) (gs rs ls : List Nat) (st : Nat → Option Nat) : Prop := ∀ u, u < n → (∀ d, st u = some d ↔ Dst (backE es rs ls) (openG gs rs) u d) ∧ (st u = none ↔ ¬ Rch (backE es rs ls) (openG gs rs) u)
def spNearer (K : PySem.W.Frag) (C : Addr) : Sp := fun vs H Q _ => ∃ (p : Addr) (n : Nat) (a : Addr) (pvs : List V) (es : Es) (c : Addr) (gs : List Nat) (t x y : Addr) (rs ls : List Nat) (S : Addr) (st : Nat → Option Nat), vs = [.ref p, .ref t, .ref S] ∧ At K C H p n a pvs es c gs t x y rs ls ∧ H S = some (.lst (stV n st)) ∧
  ∀ (D : Addr) (hs : List (Nat × Nat)) (H' : Hp), Same H H' → H D = none → H' D = some (.dK (kvN hs)) → FirstN (Near es ls st) es.length hs → Q (.ref D) H'
theorem ok_arrows_nearer {CMap : Addr} (B : Bt mg) (C : MapC K mg CMap) (h_marks : Has P w K mg base "marks" 1 ["many", "lot"] (spMarks K)) (h_arrows : HasM P w K mg base CMap "arrows" 1 ["self"] (spArrows K CMap))
    (D0 : Df K mg "arrows_nearer" s_arrows_nearer ["chart", "standing", "steps"]) : Has P w K mg base "arrows_nearer" 2 ["chart", "standing", "steps"] (spNearer K CMap) := by
  refine D0.has fun f fd F => F.ok sc_arrows_nearer (fun vs H Q E h => ?_) (fun cdv A outer s H vs Q E hr h => ?_)
  · obtain ⟨p, n, a, pvs, es, c, gs, t, x, y, rs, ls, S, st, rfl, _⟩ := h
    rfl
  · obtain ⟨p, n, a, pvs, es, c, gs, t, x, y, rs, ls, S, st, rfl, hh, hS, q⟩ := h
    refine ⟨_, (pss_cons (ps_asg (pv 1) (pg_tup rfl (pgs_cons (pg_name (i := 3) sc_arrows_nearer.nd rfl (.inl rfl)) (pgs_cons (pg_name (i := 4) sc_arrows_nearer.nd rfl (.inl rfl)) pgs_nil))))
  (pss_cons (ps_set (i := 5) sc_arrows_nearer.nd rfl (.inl rfl) (pcall h_marks hr (by decide) (by rfl) (pa_cons (pe_callB (k_len (K := K) rfl) (by rfl) B.len bo_len (pa_cons (pe_meth0 (pv 0) C.cl h_arrows.mt h_arrows.F (hr.mono (by decide)) h_arrows.b .nil pass0) pa_nil)) (pa_cons (pv 4) pa_nil))))
  (pss_cons (ps_set (i := 6) sc_arrows_nearer.nd rfl (.inl rfl) pe_dnewK)
  (pss_cons (ps_for PassesOwn.never rfl (pi_enumT (by rfl) B.enumerate (pa_cons (pe_meth0 (pv 0) C.cl h_arrows.mt h_arrows.F (hr.mono (by decide)) h_arrows.b .nil pass0) pa_nil)) (pg_tup rfl (pgs_cons (pg_name (i := 7) sc_arrows_nearer.nd rfl (.inl rfl)) (pgs_cons (pg_tup rfl (pgs_cons (pg_name (i := 8) sc_arrows_nearer.nd rfl (.inl rfl)) (pgs_cons (pg_name (i := 9) sc_arrows_nearer.nd rfl (.inl rfl)) pgs_nil))) pgs_nil)))
    (pss_cons (ps_set (i := 10) sc_arrows_nearer.nd rfl (.inl rfl) (pe_and (pe_cmpR op_notN (pe_ix (k_ixl (K := K) rfl) (pv 2) (pv 8) (fun _ _ => rfl)) pe_non (nomark _)) (pe_one (pe_cmpR op_notN (pe_ix (k_ixl (K := K) rfl) (pv 2) (pv 9) (fun _ _ => rfl)) pe_non (nomark _)))))
  (pss_one (ps_if (PW.pt (pw_and (pt_val (pv 10)) (pw_and (pt_not (pt_val (pe_ix (k_ixl (K := K) rfl) (pv 5) (pv 7) (fun _ _ => rfl)))) (pw_and1 (pt_cmpR op_eq (pe_ix (k_ixl (K := K) rfl) (pv 2) (pv 9) (fun _ _ => rfl)) (pe_op op_sub (pe_ix (k_ixl (K := K) rfl) (pv 2) (pv 8) (fun _ _ => rfl)) pe_int) (nomark _))))))
    (pss_one (ps_expr (pe_dsetd (pv 6) (pv 8) (pv 7) ⟨rfl, by rfl, rfl, rfl⟩)))
    pss_nil))))
  (pss_one (ps_ret (pv 6))))))), ?_⟩
    have hl := hh.m.pr.len
    have hel := hh.m.el
    obtain ⟨dx, hp⟩ := hh.m.at_.ob
    refine ⟨_, rfl, t, _, rfl, hh.S.t, rfl, _, _, rfl, _, _, rfl, rfl, ?_⟩
    refine ⟨_, rfl, p, dx, _, rfl, hp, mapF_arrows _ _ _, p, n, a, pvs, c, gs, rfl, hh.m.at_, a, pvs, rfl, .inr hh.m.at_.ar, _, rfl, pvs.length, y, ls, rfl, hh.S.y, fun z hz => by rw [hl]; exact hh.o.ln z hz, by omega, fun g H4 s4 ng hg => ?_⟩
    have h4 := hh.same s4
    have hS4 := s4 _ _ hS
    intro D nD
    have s5 := same_new (o := .dK []) (Same.refl H4) nD
    obtain ⟨dx5, hp5⟩ := (h4.m.same s5).at_.ob
    refine ⟨_, rfl, p, dx5, _, rfl, hp5, mapF_arrows _ _ _, p, n, a, pvs, c, gs, rfl, (h4.m.same s5).at_, a, pvs, rfl, (h4.m.same s5).at_.ar, ?_⟩
    refine for_it walkT (fun i σ H' => Same H4 H' ∧ ∃ hs o1 o2 o3 o4, σ = [some (.ref p), some (.ref t), some (.ref S), some (.ref x), some (.ref y), some (.ref g), some (.ref D), o1, o2, o3, o4] ∧ H' D = some (.dK (kvN hs)) ∧ FirstN (Near es ls st) i hs) ⟨s5, [], none, none, none, none, rfl, upd_same, .start⟩ (fun i σ H' hi ⟨sm, _⟩ => Same.sqt sm h4.m.at_.ar) ?_ ?_
    · rintro i v σ H5 H6 hi ⟨sm, hs, o1, o2, o3, o4, rfl, hD, hI⟩ ⟨T, x1, x2, rfl, nT, rfl, e1, e2⟩
      cases e1
      have s6 := same_new (o := .tup [.int (i : Nat), x2]) (Same.refl H5) nT
      obtain ⟨e, hei, tt, rfl, ht⟩ := h4.m.pr.get (show pvs[i]? = some x2 from e2)
      obtain ⟨e1, e2⟩ := e
      have hok := hh.m.ok _ (List.mem_of_getElem? hei)
      have s46 := sm.trans s6
      refine ⟨T, _, rfl, sqt upd_same, rfl, _, _, rfl, _, _, rfl, ⟨tt, _, rfl, Same.sqt s46 ht, rfl, _, _, rfl, _, _, rfl, rfl, rfl, ?_⟩⟩
      have hg6 := s46 _ _ hg
      have hr6 := s46 _ _ hS4
      have hD6 := s6 _ _ hD
      have no : (∀ v, ¬ Near es ls st i v) → FirstN (Near es ls st) (i + 1) hs := fun z => hI.skip fun v f => absurd f (z v)
      have uni : ∀ v, Near es ls st i v → v = e1 := fun v f => by
        obtain ⟨_, h, d, f1, _⟩ := f
        rw [hei] at f1
        cases f1
        rfl
      refine ⟨_, rfl, _, rfl, S, _, (e1 : Int), oV (st e1), rfl, rfl, sql hr6, atI_nat (stV_get hok.1), rfl, _, rfl, ?_⟩
      cases ea : st e1 with
      | none =>
        refine iteF ?_
        refine ⟨_, rfl, _, rfl, ?_⟩
        refine iteF ?_
        refine iteF ?_
        exact ⟨s46, hs, _, _, _, _, rfl, hD6, no fun v f => by
          have e9 := uni v f
          subst e9
          obtain ⟨_, h, d, _, f2, _⟩ := f
          rw [ea] at f2
          cases f2⟩
      | some d1 =>
        refine iteT ⟨_, rfl, _, rfl, S, _, (e2 : Int), oV (st e2), rfl, rfl, sql hr6, atI_nat (stV_get hok.2), rfl, ?_⟩
        cases eb : st e2 with
        | none =>
          refine ⟨_, rfl, _, rfl, ?_⟩
          refine iteF ?_
          refine iteF ?_
          exact ⟨s46, hs, _, _, _, _, rfl, hD6, no fun v f => by
            obtain ⟨_, h, d, f1, _, f3⟩ := f
            rw [hei] at f1
            cases f1
            rw [eb] at f3
            cases f3⟩
        | some d2 =>
          refine ⟨_, rfl, _, rfl, ?_⟩
          refine iteT ?_
          refine ⟨_, rfl, _, rfl, g, _, (i : Int), _, rfl, rfl, sql hg6, atI_nat (mks_get hi), _, rfl, ?_⟩
          by_cases hil : i ∈ ls
          · rw [decide_eq_true hil]
            refine iteF ?_
            refine iteF ?_
            exact ⟨s46, hs, _, _, _, _, rfl, hD6, no fun v f => f.1 hil⟩
          rw [decide_eq_false hil]
          refine iteT ⟨_, rfl, _, rfl, S, _, (e2 : Int), nV d2, rfl, rfl, sql hr6, atI_nat (by rw [stV_get hok.2, eb]; rfl), _, rfl, _, rfl, S, _, (e1 : Int), nV d1, rfl, rfl, sql hr6, atI_nat (by rw [stV_get hok.1, ea]; rfl), (d1 : Int), 1, rfl, rfl, rfl, _, rfl, ?_⟩
          by_cases hf : d1 = d2 + 1
          · rw [decide_eq_true (p := nV d2 = V.int ((d1 : Int) - 1)) (by
              show V.int (d2 : Int) = V.int ((d1 : Int) - 1)
              congr 1
              omega)]
            have hF : Near es ls st i e1 := ⟨hil, e2, d2, hei, by rw [ea, hf], eb⟩
            refine iteT ?_
            have hlen := hI.len
            refine ⟨_, rfl, D, rfl, .inl ⟨_, Rd.of hD6⟩, _, rfl, _, rfl, kvN hs, Sum.inl (e1 : Int), hD6, rfl, by unfold kvN; rw [List.length_map]; exact small_lt (by omega), fun v hv => ?_, fun hv => ?_⟩
            · obtain ⟨b, hb⟩ := kvN_has hv
              exact ⟨s46, hs, _, _, _, _, rfl, hD6, hI.skip fun v f => by
                rw [uni v f]
                exact ⟨b, hb⟩⟩
            · refine ⟨fun b u hb => ?_, hs ++ [(e1, i)], _, _, _, _, rfl, ?_, hI.snoc hF uni⟩
              · rw [upd_ne (ne_of_none hb nD)]
                exact s46 _ _ hb
              · rw [upd_same, putK_no hv]
                unfold kvN
                rw [List.map_append]
                rfl
          · rw [decide_eq_false (p := nV d2 = V.int ((d1 : Int) - 1)) (fun z => hf (by
              have z' : V.int (d2 : Int) = V.int ((d1 : Int) - 1) := z
              injection z' with z'
              omega))]
            refine iteF ?_
            exact ⟨s46, hs, _, _, _, _, rfl, hD6, no fun v f => by
              obtain ⟨_, h, d, f1, f2, f3⟩ := f
              rw [hei] at f1
              cases f1
              rw [ea] at f2
              rw [eb] at f3
              cases f3
              have := Option.some.inj f2
              omega⟩
    · rintro σ H' ⟨sm, hs, o1, o2, o3, o4, rfl, hD, hI⟩
      rw [hl] at hI
      exact ⟨_, rfl, q D hs H' (s4.trans sm) (s4.free nD) hD hI⟩

abbrev s_way_on : Stmt := topS 52
abbrev sl_way_on : List Str := ["chart", "standing", "place", "steps", "onward", "way", "at", "arrow", "_"]
theorem sc_way_on : FnScope ["chart", "standing", "place", "steps", "onward", "way", "at", "arrow", "_"] ["chart", "standing", "place"] (defScope s_way_on) := ⟨rfl, rfl, rfl, by decide +kernel, rfl, by decide +kernel, by decide +kernel⟩
/-- the arrows lead on from the place, through unreached ones, to an unreached goal -/
inductive WayFrom (es : Es) (gs rs ls : List Nat) : Nat → List Nat → Prop
  | home {v : Nat} (h : v ∈ gs) (hr : v ∉ rs) : WayFrom es gs rs ls v []
  | step {v u k : Nat} {ks : List Nat} (hk : es[k]? = some (v, u)) (hl : k ∉ ls) (hu : u ∉ rs) (h : WayFrom es gs rs ls u ks) : WayFrom es gs rs ls v (k :: ks)
def spWayOn (K : PySem.W.Frag) (C : Addr) : Sp := fun vs H Q _ => ∃ (p : Addr) (n : Nat) (a : Addr) (pvs : List V) (es : Es) (c : Addr) (gs : List Nat) (t x y : Addr) (rs ls : List Nat) (v : Nat), vs = [.ref p, .ref t, nV v] ∧ At K C H p n a pvs es c gs t x y rs ls ∧ v < n ∧ v ∉ rs ∧
  (∀ H', Same H H' → ¬ Alive es gs rs ls v → Q .non H') ∧
  ∀ (z : Addr) (ks : List Nat) (H' : Hp), Same H H' → H' z = some (.tup (ks.map nV)) → WayFrom es gs rs ls v ks → Dst (backE es rs ls) (openG gs rs) v ks.length → Q (.ref z) H'
theorem dst_lt {n : Nat} {es : Es} {S : List Nat} (hS : ∀ s ∈ S, s < n) (he : ∀ e ∈ es, e.1 < n ∧ e.2 < n) : ∀ {d v : Nat}, Dst es S v d → ∃ ps : List Nat, ps.length = d + 1 ∧ (∀ p ∈ ps, p < n) ∧ ps.Nodup ∧ (∀ p ∈ ps, ∃ d', d' ≤ d ∧ Dst es S p d')
  | 0, v, h => ⟨[v], rfl, fun p hp => by rw [List.mem_singleton.mp hp]; exact hS v h.1, by simp, fun p hp => by rw [List.mem_singleton.mp hp]; exact ⟨0, Nat.le_refl _, h⟩⟩
  | d + 1, v, h => by
    obtain ⟨u, hu, e⟩ := h.pred
    obtain ⟨ps, h1, h2, h3, h4⟩ := dst_lt hS he hu
    refine ⟨v :: ps, by rw [List.length_cons, h1], fun p hp => ?_, List.nodup_cons.mpr ⟨fun z => ?_, h3⟩, fun p hp => ?_⟩
    · rcases List.mem_cons.mp hp with rfl | hp
      · exact (he _ e).2
      · exact h2 p hp
    · obtain ⟨d', a, b⟩ := h4 v z
      have := b.inj h
      omega
    · rcases List.mem_cons.mp hp with rfl | hp
      · exact ⟨d + 1, Nat.le_refl _, h⟩
      · obtain ⟨d', a, b⟩ := h4 p hp
        exact ⟨d', by omega, b⟩
theorem ok_way_on {CMap : Addr} (B : Bt mg) (C : MapC K mg CMap) (h_check_unreached : Has P w K mg base "_check_unreached" 6 ["chart", "standing", "place"] (spUnrch K CMap)) (h_steps_to_go : Has P w K mg base "steps_to_go" 4 ["chart", "standing"] (spOf K CMap RGo))
    (h_arrows_nearer : Has P w K mg base "arrows_nearer" 2 ["chart", "standing", "steps"] (spNearer K CMap)) (h_arrows : HasM P w K mg base CMap "arrows" 1 ["self"] (spArrows K CMap))
    (D0 : Df K mg "way_on" s_way_on ["chart", "standing", "place"]) : Has P w K mg base "way_on" 7 ["chart", "standing", "place"] (spWayOn K CMap) := by
  refine D0.has fun f fd F => F.ok sc_way_on (fun vs H Q E h => ?_) (fun cdv A outer s H vs Q E hr h => ?_)
  · obtain ⟨p, n, a, pvs, es, c, gs, t, x, y, rs, ls, v, rfl, _⟩ := h
    rfl
  · obtain ⟨p, n, a, pvs, es, c, gs, t, x, y, rs, ls, v, rfl, hh, hv, hvr, q1, q2⟩ := h
    refine ⟨_, (pss_cons (ps_expr (pcall h_check_unreached hr (by decide) (by rfl) (pa_cons (pv 0) (pa_cons (pv 1) (pa_cons (pv 2) pa_nil)))))
  (pss_cons (ps_set (i := 3) sc_way_on.nd rfl (.inl rfl) (pcall h_steps_to_go hr (by decide) (by rfl) (pa_cons (pv 0) (pa_cons (pv 1) pa_nil))))
  (pss_cons (ps_if (pt_cmpR op_isN (pe_ix (k_ixl (K := K) rfl) (pv 3) (pv 2) (fun _ _ => rfl)) pe_non (nomark _))
    (pss_one (ps_ret pe_non))
    pss_nil)
  (pss_cons (ps_set (i := 4) sc_way_on.nd rfl (.inl rfl) (pcall h_arrows_nearer hr (by decide) (by rfl) (pa_cons (pv 0) (pa_cons (pv 1) (pa_cons (pv 3) pa_nil)))))
  (pss_cons (ps_set (i := 5) sc_way_on.nd rfl (.inl rfl) (pe_lst pa_nil))
  (pss_cons (ps_set (i := 6) sc_way_on.nd rfl (.inl rfl) (pv 2))
  (pss_cons (ps_while PassesOwn.never (pt_cmpR op_gt (pe_ix (k_ixl (K := K) rfl) (pv 3) (pv 6) (fun _ _ => rfl)) pe_int (nomark _))
    (pss_cons (ps_set (i := 7) sc_way_on.nd rfl (.inl rfl) (pe_dget (hu_of hr) (pv 4) (pv 6) (fun _ _ => rfl)))
  (pss_cons (ps_expr (pe_bm PySem.F.plainAttrs_list PySem.F.slot_list_append PySem.F.type_list_append mt_append (pv 5) (pa_cons (pv 7) pa_nil)))
  (pss_one (ps_asg (pe_ix (k_ixt (K := K) rfl) (pe_meth0 (pv 0) C.cl h_arrows.mt h_arrows.F (hr.mono (by decide)) h_arrows.b .nil pass0) (pv 7) (fun _ _ => rfl)) (pg_tup rfl (pgs_cons (pg_name (i := 8) sc_way_on.nd rfl (.inl rfl)) (pgs_cons (pg_name (i := 6) sc_way_on.nd rfl (.inl rfl)) pgs_nil))))))))
  (pss_one (ps_ret (pe_callTy (k_tuple (K := K) rfl) (by rfl) B.tuple bo_tuple (pa_cons (pv 5) pa_nil))))))))))), ?_⟩
    have hl := hh.m.pr.len
    have hn1 := hh.m.n1
    refine ⟨_, rfl, _, rfl, _, rfl, p, n, a, pvs, es, c, gs, t, x, y, rs, ls, v, rfl, hh, hv, hvr, fun H1 s1 => ?_⟩
    have h1 := hh.same s1
    refine ⟨_, rfl, _, rfl, p, n, a, pvs, es, c, gs, t, x, y, rs, ls, rfl, h1, fun r H2 s2 hr2 => ?_⟩
    obtain ⟨S, st, rfl, nS, hS, hst⟩ := hr2
    have h2 := h1.same s2
    have s12 := s1.trans s2
    refine ⟨_, rfl, _, rfl, S, _, (v : Int), oV (st v), rfl, rfl, sql hS, atI_nat (stV_get hv), rfl, _, rfl, ?_⟩
    cases ev : st v with
    | none =>
      refine iteT ?_
      exact q1 H2 s12 ((hst v hv).2.mp ev)
    | some d0 =>
    refine iteF ?_
    refine ⟨_, rfl, _, rfl, _, rfl, p, n, a, pvs, es, c, gs, t, x, y, rs, ls, S, st, rfl, h2, hS, fun D hs H3 s3 nD hD hN => ?_⟩
    have h3 := h2.same s3
    have hS3 := s3 _ _ hS
    refine ⟨Nat.zero_le _, fun W nW => ?_⟩
    have s4 := same_new (o := .lst []) (Same.refl H3) nW
    have hok : ∀ e ∈ backE es rs ls, e.1 < n ∧ e.2 < n := fun e he => by
      obtain ⟨e0, h6, h7⟩ := List.mem_filterMap.mp he
      cases h7
      have h8 := fmG_ok (Pq := fun e => e.1 < n ∧ e.2 < n) (fun e e' => unr_ok (Pq := fun e => e.1 < n ∧ e.2 < n)) (left_ok h1.m.ok) e0 h6
      exact ⟨h8.2, h8.1⟩
    have hd0n : d0 ≤ n := by
      obtain ⟨ps, h5, h6, h7, _⟩ := dst_lt (S := openG gs rs) (fun g hg => h1.m.gl g (mem_openG.mp hg).1) hok (((hst v hv).1 d0).mp ev)
      have := nodup_le h7 h6
      omega
    refine ⟨_, rfl, ?_⟩
    have hlt : ∀ {u d}, u < n → st u = some d → d ≤ n := fun {u d} hu e => by
      obtain ⟨ps, h5, h6, h7, _⟩ := dst_lt (S := openG gs rs) (fun g hg => h1.m.gl g (mem_openG.mp hg).1) hok (((hst u hu).1 d).mp e)
      have := nodup_le h7 h6
      omega
    have hW : upd H3 W (.lst []) W = some (.lst (([] : List Nat).map nV)) := upd_same
    have h34 : Same H2 (upd H3 W (.lst [])) := same_new s3 nW
    have nW2 : H2 W = none := Same.free s3 nW
    have nWS : W ≠ S := fun e => by
      rw [e, hS] at nW2
      cases nW2
    have nWD : W ≠ D := fun e => by
      rw [e, hD] at nW
      cases nW
    have hS4 : upd H3 W (.lst []) S = some (.lst (stV n st)) := h34 _ _ hS
    have hD4 : upd H3 W (.lst []) D = some (.dK (kvN hs)) := by rw [upd_ne nWD.symm]; exact hD
    generalize upd H3 W (.lst []) = H4 at hW h34 hS4 hD4
    refine ⟨fun m σ H' => ∃ (ks : List Nat) (u : Nat) (x7 x8 : Option V), st u = some m ∧ u < n ∧ ks.length + m = d0 ∧ (∀ js, WayFrom es gs rs ls u js → WayFrom es gs rs ls v (ks ++ js)) ∧
        σ = [some (.ref p), some (.ref t), some (nV v), some (.ref S), some (.ref D), some (.ref W), some (nV u), x7, x8] ∧ Same H2 H' ∧ H' W = some (.lst (ks.map nV)) ∧ H' S = some (.lst (stV n st)) ∧ H' D = some (.dK (kvN hs)),
      ⟨d0, [], v, none, none, ev, hv, Nat.zero_add _, fun js h => h, rfl, h34, hW, hS4, hD4⟩, ?_⟩
    rintro m σ H5 ⟨ks, u, x7, x8, eu, hun, hlen, hway, rfl, s5, hW5, hS5, hD5⟩
    have h5 := h2.same s5
    obtain ⟨dx5, hp5⟩ := h5.m.at_.ob
    refine ⟨_, rfl, _, rfl, S, _, (u : Int), nV m, rfl, rfl, sql hS5, atI_nat (by rw [stV_get hun, eu]; rfl), _, _, rfl, rfl, _, rfl, ?_⟩
    have hD0 := ((hst u hun).1 m).mp eu
    cases m with
    | zero =>
      rw [decide_eq_false (show ¬ (0 : Int) < ((0 : Nat) : Int) by omega)]
      refine iteF ?_
      refine ⟨_, rfl, W, _, rfl, .inl ⟨sql hW5, fun z nz => ?_⟩⟩
      have hg := mem_openG.mp hD0.1
      have s6 : Same H (upd H5 z (.tup (ks.map nV))) := same_new (s12.trans s5) nz
      refine q2 z ks _ s6 upd_same (by have := hway [] (.home hg.1 hg.2); rwa [List.append_nil] at this) ?_
      have e1 : ks.length = d0 := by omega
      rw [e1]
      exact ((hst v hv).1 d0).mp ev
    | succ d =>
      rw [decide_eq_true (show (0 : Int) < ((d + 1 : Nat) : Int) by omega)]
      refine iteT ?_
      obtain ⟨w', hw', e⟩ := hD0.pred
      obtain ⟨k, hk, hkl, hwr, hur⟩ := mem_backE.mp e
      have hwn := (hok _ e).1
      obtain ⟨a0, ha0⟩ := hN.all k u (List.getElem?_eq_some_iff.mp hk).1 ⟨hkl, w', d, hk, eu, ((hst w' hwn).1 d).mpr hw'⟩
      obtain ⟨b, hb, hval⟩ := kvN_get ha0
      obtain ⟨hbl, h', d', hbe, hu', hh'⟩ := hN.ok _ hb
      have hd' : d' = d := by
        rw [eu] at hu'
        have := Option.some.inj hu'
        omega
      subst hd'
      have hh'n := (hh.m.ok _ (List.mem_of_getElem? hbe)).2
      have hh'r : h' ∉ rs := alive_out (es := es) (gs := gs) (ls := ls) ⟨d', (((hst h' hh'n).1 d').mp hh').1⟩
      have hbn := (List.getElem?_eq_some_iff.mp hbe).1
      have hbv : pvs[b]? = some (pvs[b]'(by omega)) := List.getElem?_eq_getElem _
      refine ⟨fun σ' H' => ∃ (ks : List Nat) (u : Nat) (x7 x8 : Option V), st u = some d' ∧ u < n ∧ ks.length + d' = d0 ∧ (∀ js, WayFrom es gs rs ls u js → WayFrom es gs rs ls v (ks ++ js)) ∧
        σ' = [some (.ref p), some (.ref t), some (nV v), some (.ref S), some (.ref D), some (.ref W), some (nV u), x7, x8] ∧ Same H2 H' ∧ H' W = some (.lst (ks.map nV)) ∧ H' S = some (.lst (stV n st)) ∧ H' D = some (.dK (kvN hs)), fun σ' H' z => ⟨d', Nat.lt_succ_self _, z⟩, ?_⟩
      have hdg := DGet.k (k := Sum.inl (u : Int)) hD5
      rw [hval] at hdg
      refine ⟨_, rfl, _, rfl, D, nV b, rfl, hdg, ?_⟩
      refine ⟨_, rfl, .inl ⟨rfl, _, .inl (.inl hW5)⟩, _, rfl, W, _, _, rfl, rfl, hW5, by rw [List.length_map]; exact small_lt (by omega), ?_⟩
      have s6 : Same H2 (upd H5 W (.lst (ks.map nV ++ [nV b]))) := same_mut s5 nW2
      have h6 := h2.same s6
      obtain ⟨dx6, hp6⟩ := h6.m.at_.ob
      obtain ⟨tt, htt, ht⟩ := h6.m.pr.at_ b _ _ hbv hbe
      refine ⟨_, rfl, p, dx6, _, rfl, hp6, mapF_arrows _ _ _, p, n, a, pvs, c, gs, rfl, h6.m.at_, _, rfl, a, pvs, (b : Int), _, rfl, rfl, h6.m.at_.ar, atI_nat hbv, tt, _, htt, ht, rfl, _, _, rfl, _, _, rfl, rfl, ?_⟩
      refine ⟨ks ++ [b], h', _, _, hh', hh'n, by rw [List.length_append, List.length_singleton]; omega, fun js hjs => ?_, rfl, s6, by rw [upd_same, List.map_append]; rfl, by rw [upd_ne nWS.symm]; exact hS5, by rw [upd_ne nWD.symm]; exact hD5⟩
      have := hway (b :: js) (.step hbe hbl hh'r hjs)
      rwa [List.append_assoc]

abbrev s_dead_end : Stmt := topS 53
abbrev sl_dead_end : List Str := ["chart", "standing", "place", "many", "around", "places", "arrows", "other", "arrow", "tail", "head"]
theorem sc_dead_end : FnScope ["chart", "standing", "place", "many", "around", "places", "arrows", "other", "arrow", "tail", "head"] ["chart", "standing", "place"] (defScope s_dead_end) := ⟨rfl, rfl, rfl, by decide +kernel, rfl, by decide +kernel, by decide +kernel⟩
def spDead5 (K : PySem.W.Frag) (C : Addr) : Sp := fun vs H Q _ => ∃ (p : Addr) (n : Nat) (a : Addr) (pvs : List V) (es : Es) (c : Addr) (gs : List Nat) (t x y : Addr) (rs ls : List Nat) (v : Nat), vs = [.ref p, .ref t, nV v] ∧ At K C H p n a pvs es c gs t x y rs ls ∧ v < n ∧ v ∉ rs ∧
  (∀ H', Same H H' → Alive es gs rs ls v → Q .non H') ∧
  ∀ (z zp za : Addr) (ps ks : List Nat) (H' : Hp), Same H H' → ¬ Alive es gs rs ls v → H' z = some (.tup [.ref zp, .ref za]) → H' zp = some (.tup (ps.map nV)) → H' za = some (.tup (ks.map nV)) → ps.Pairwise (· < ·) → (∀ u, u ∈ ps ↔ u < n ∧ Rch (unr es rs ls) [v] u) →
    ks.Pairwise (· < ·) → (∀ k, k ∈ ks ↔ ∃ e, es[k]? = some e ∧ Rch (unr es rs ls) [v] e.1 ∧ ¬ Rch (unr es rs ls) [v] e.2) → Q (.ref z) H'
theorem ok_dead_end {CMap : Addr} (B : Bt mg) (C : MapC K mg CMap) (h_check_unreached : Has P w K mg base "_check_unreached" 6 ["chart", "standing", "place"] (spUnrch K CMap)) (h_steps_to_go : Has P w K mg base "steps_to_go" 4 ["chart", "standing"] (spOf K CMap RGo))
    (h_steps_from : Has P w K mg base "steps_from" 1 ["many", "pairs", "sources"] (spSteps K)) (h_unreached_pairs : Has P w K mg base "_unreached_pairs" 3 ["chart", "standing"] (spUnr K CMap))
    (h_many : HasM P w K mg base CMap "many" 1 ["self"] (spMany K CMap)) (h_arrows : HasM P w K mg base CMap "arrows" 1 ["self"] (spArrows K CMap)) (D0 : Df K mg "dead_end" s_dead_end ["chart", "standing", "place"]) : Has P w K mg base "dead_end" 7 ["chart", "standing", "place"] (spDead5 K CMap) := by
  refine D0.has fun f fd F => F.ok sc_dead_end (fun vs H Q E h => ?_) (fun cdv A outer s H vs Q E hr h => ?_)
  · obtain ⟨p, n, a, pvs, es, c, gs, t, x, y, rs, ls, v, rfl, _⟩ := h
    rfl
  · obtain ⟨p, n, a, pvs, es, c, gs, t, x, y, rs, ls, v, rfl, hh, hv, hvr, q1, q2⟩ := h
    refine ⟨_, (pss_cons (ps_expr (pcall h_check_unreached hr (by decide) (by rfl) (pa_cons (pv 0) (pa_cons (pv 1) (pa_cons (pv 2) pa_nil)))))
  (pss_cons (ps_if (pt_cmpR op_notN (pe_ix (k_ixl (K := K) rfl) (pcall h_steps_to_go hr (by decide) (by rfl) (pa_cons (pv 0) (pa_cons (pv 1) pa_nil))) (pv 2) (fun _ _ => rfl)) pe_non (nomark _))
    (pss_one (ps_ret pe_non))
    pss_nil)
  (pss_cons (ps_set (i := 3) sc_dead_end.nd rfl (.inl rfl) (pe_meth0 (pv 0) C.cl h_many.mt h_many.F (hr.mono (by decide)) h_many.b .nil pass0))
  (pss_cons (ps_set (i := 4) sc_dead_end.nd rfl (.inr rfl) (pcall h_steps_from hr (by decide) (by rfl) (pa_cons (pv 3) (pa_cons (pcall h_unreached_pairs hr (by decide) (by rfl) (pa_cons (pv 0) (pa_cons (pv 1) pa_nil))) (pa_cons (pe_tup (pa_cons (pv 2) pa_nil)) pa_nil)))))
  (pss_cons (ps_set (i := 5) sc_dead_end.nd rfl (.inl rfl) (pe_callTy (k_tuple (K := K) rfl) (by rfl) B.tuple bo_tuple (pa_cons (pe_lc (own := [("other", 7)]) (g := gName 7) rfl sc_dead_end.nd (pi_range1 (by rfl) B.range (pa_cons (pv 3) pa_nil)) (blkOk_by (N := sl_dead_end) (sc := defScope s_dead_end) (by decide +kernel)) (fun _ _ _ _ _ => (pg_name (i := 7) sc_dead_end.nd rfl (.inl rfl))) (fun _ _ _ _ _ => pts_one (pt_cmpR op_notN (pe_ix (k_ixl (K := K) rfl) (pv 4) (pv 7) (fun _ _ => rfl)) pe_non (nomark _))) (fun _ _ _ _ _ => (pv 7))) pa_nil)))
  (pss_cons (ps_set (i := 6) sc_dead_end.nd rfl (.inl rfl) (pe_callTy (k_tuple (K := K) rfl) (by rfl) B.tuple bo_tuple (pa_cons (pe_lc (own := [("arrow", 8), ("tail", 9), ("head", 10)]) (g := gTup K 2 (gCons (gName 8) (gCons (gTup K 2 (gCons (gName 9) (gCons (gName 10) gNil))) gNil))) rfl sc_dead_end.nd (pi_enumT (by rfl) B.enumerate (pa_cons (pe_meth0 (pv 0) C.cl h_arrows.mt h_arrows.F (hr.mono (by decide)) h_arrows.b .nil pass0) pa_nil)) (blkOk_by (N := sl_dead_end) (sc := defScope s_dead_end) (by decide +kernel)) (fun _ _ _ _ _ => (pg_tup rfl (pgs_cons (pg_name (i := 8) sc_dead_end.nd rfl (.inl rfl)) (pgs_cons (pg_tup rfl (pgs_cons (pg_name (i := 9) sc_dead_end.nd rfl (.inl rfl)) (pgs_cons (pg_name (i := 10) sc_dead_end.nd rfl (.inl rfl)) pgs_nil))) pgs_nil)))) (fun _ _ _ _ _ => pts_one (PW.pt (pw_and (pt_cmpR op_notN (pe_ix (k_ixl (K := K) rfl) (pv 4) (pv 9) (fun _ _ => rfl)) pe_non (nomark _)) (pw_and1 (pt_cmpR op_isN (pe_ix (k_ixl (K := K) rfl) (pv 4) (pv 10) (fun _ _ => rfl)) pe_non (nomark _)))))) (fun _ _ _ _ _ => (pv 8))) pa_nil)))
  (pss_one (ps_ret (pe_tup (pa_cons (pv 5) (pa_cons (pv 6) pa_nil))))))))))), ?_⟩
    have hl := hh.m.pr.len
    have hn1 := hh.m.n1
    have hel := hh.m.el
    refine ⟨_, rfl, _, rfl, _, rfl, p, n, a, pvs, es, c, gs, t, x, y, rs, ls, v, rfl, hh, hv, hvr, fun H1 s1 => ?_⟩
    have h1 := hh.same s1
    refine ⟨_, rfl, _, rfl, p, n, a, pvs, es, c, gs, t, x, y, rs, ls, rfl, h1, fun r H2 s2 hr2 => ?_⟩
    obtain ⟨d, st, rfl, nd, hd, hst⟩ := hr2
    have h2 := h1.same s2
    have s12 := s1.trans s2
    refine ⟨_, rfl, d, _, (v : Int), oV (st v), rfl, rfl, sql hd, atI_nat (stV_get hv), rfl, _, rfl, ?_⟩
    cases e : st v with
    | some dd =>
      refine iteT ?_
      exact q1 H2 s12 (Classical.byContradiction fun z => by
        rw [(hst v hv).2.mpr z] at e
        cases e)
    | none =>
      refine iteF ?_
      have hna : ¬ Alive es gs rs ls v := (hst v hv).2.mp e
      obtain ⟨dx, hp⟩ := h2.m.at_.ob
      refine ⟨_, rfl, p, dx, _, rfl, hp, mapF_many _ _ _, p, n, a, pvs, c, gs, rfl, h2.m.at_, ?_⟩
      refine ⟨_, rfl, _, rfl, _, rfl, p, n, a, pvs, es, c, gs, t, x, y, rs, ls, rfl, h2.m, h2.S, h2.o.rn, h2.o.ln, fun D H3 xs s3 nD hD hpr => ?_⟩
      refine ⟨_, rfl, by show 1 ≤ sizeLine; decide, fun t1 nt1 => ?_⟩
      have s4 := same_new (o := .tup [nV v]) (Same.refl H3) nt1
      have hok : ∀ e ∈ unr es rs ls, e.1 < n ∧ e.2 < n := fun e he => by
        exact fmG_ok (Pq := fun e => e.1 < n ∧ e.2 < n) (fun e e' => unr_ok (Pq := fun e => e.1 < n ∧ e.2 < n)) (left_ok h1.m.ok) e he
      refine ⟨n, D, t1, _, unr es rs ls, [v], rfl, .inl (sql (s4 _ _ hD)), hpr.same s4, .inr (sqt upd_same), hok, fun g hg => by rw [List.mem_singleton.mp hg]; exact hv, hn1, Nat.le_trans (List.length_filterMap_le _ _) (Nat.le_trans leftV_len hel), fun r H5 st5 s5 nr hr5 hst5 => ?_⟩
      have s25 := (s3.trans s4).trans s5
      have h5 := h2.same s25
      -- places
      refine ⟨_, rfl, n, rfl, by omega, by omega, fun D1 nD1 => ?_⟩
      refine lc_val walk_range calm_fn (fun i => if (st5 i).isSome then some (nV i) else none) (by show n ≤ 100000; omega) nD1 (fun _ _ => trivial) ?_ fun H6 s6 h6 => ?_
      · rintro i v' H3' H4' hi s3' ⟨rfl, rfl⟩ Kt kt
        have hin : i < n := hi
        have e0 : (0 : Int) + (i : Int) = (i : Int) := Int.zero_add _
        refine ⟨rfl, ?_⟩
        refine ⟨_, rfl, _, rfl, r, _, _, oV (st5 i), rfl, rfl, sql (s3' _ _ hr5), by rw [e0]; exact atI_nat (stV_get hin), rfl, _, rfl, ?_⟩
        have k0 := kt _ (Same.refl _)
        cases e : st5 i with
        | none =>
          rw [e] at k0
          exact iteF k0
        | some dd =>
          rw [e] at k0
          refine iteT ⟨_, rfl, ?_⟩
          show Kt (some (V.int ((0 : Int) + (i : Int)))) _
          rw [e0]
          exact k0
      refine ⟨D1, _, rfl, .inl ⟨sql h6, fun q1 nq1 => ?_⟩⟩
      have s7 := same_new (o := .tup ((List.range ((n : Nat) : Int).toNat).filterMap fun i => if (st5 i).isSome then some (nV i) else none)) s6 nq1
      have h7 := h5.same s7
      have hr7 := s7 _ _ hr5
      obtain ⟨dx7, hp7⟩ := h7.m.at_.ob
      -- arrows
      refine ⟨_, rfl, p, dx7, _, rfl, hp7, mapF_arrows _ _ _, p, n, a, pvs, c, gs, rfl, h7.m.at_, a, pvs, rfl, h7.m.at_.ar, fun D2 nD2 => ?_⟩
      refine lc_val walkT calm_pair (fun i => (es[i]?).bind fun e => if (st5 e.1).isSome ∧ st5 e.2 = none then some (nV i) else none) (by omega) nD2 (fun H4 s4 => Same.sqt s4 h7.m.at_.ar) ?_ fun H8 s8 h8 => ?_
      · rintro i v' H4' H5' hi s4' ⟨T, x1, x2, rfl, nT, rfl, e1, e2⟩ Kt kt
        cases e1
        have s5' := same_new (o := .tup [.int (i : Nat), x2]) (Same.refl H4') nT
        obtain ⟨e, hei, tt, rfl, ht⟩ := hh.m.pr.get (show pvs[i]? = some x2 from e2)
        obtain ⟨e1, e2⟩ := e
        have hok := hh.m.ok _ (List.mem_of_getElem? hei)
        have sm : Same H (upd H4' T (.tup [.int (i : Nat), .ref tt])) := (((s12.trans s25).trans s7).trans s4').trans s5'
        have hr9 := s5' _ _ (s4' _ _ hr7)
        have k0 := kt _ (Same.refl _)
        rw [hei] at k0
        simp only [Option.bind_some] at k0
        refine ⟨T, _, rfl, sqt upd_same, rfl, _, _, rfl, _, _, rfl, ⟨tt, _, rfl, Same.sqt sm ht, rfl, _, _, rfl, _, _, rfl, rfl, rfl, rfl, ?_⟩⟩
        refine ⟨_, rfl, _, rfl, r, _, (e1 : Int), oV (st5 e1), rfl, rfl, sql hr9, atI_nat (stV_get hok.1), rfl, _, rfl, ?_⟩
        cases ea : st5 e1 with
        | none =>
          rw [if_neg (fun z => by rw [ea] at z; cases z.1)] at k0
          refine iteF ?_
          exact iteF k0
        | some d1 =>
          refine iteT ⟨_, rfl, _, rfl, r, _, (e2 : Int), oV (st5 e2), rfl, rfl, sql hr9, atI_nat (stV_get hok.2), rfl, _, rfl, ?_⟩
          cases eb : st5 e2 with
          | none =>
            rw [if_pos ⟨by rw [ea]; rfl, eb⟩] at k0
            exact iteT ⟨_, rfl, k0⟩
          | some d2 =>
            rw [if_neg (fun z => by rw [eb] at z; cases z.2)] at k0
            exact iteF k0
      refine ⟨D2, _, rfl, .inl ⟨sql h8, fun q2' nq2 => ?_⟩⟩
      have s9 := same_new (o := .tup ((List.range pvs.length).filterMap fun i => (es[i]?).bind fun e => if (st5 e.1).isSome ∧ st5 e.2 = none then some (nV i) else none)) s8 nq2
      refine ⟨_, rfl, _, rfl, by show 2 ≤ sizeLine; decide, fun q3 nq3 => ?_⟩
      have hsome : ∀ u, u < n → ((st5 u).isSome = true ↔ Rch (unr es rs ls) [v] u) := fun u hu => by
        constructor
        · intro z
          refine Classical.byContradiction fun q => ?_
          rw [(hst5 u hu).2.mpr q] at z
          cases z
        · intro z
          cases e : st5 u with
          | none => exact absurd z ((hst5 u hu).2.mp e)
          | some d => rfl
      have e1 : ((List.range ((n : Nat) : Int).toNat).filterMap fun i => if (st5 i).isSome then some (nV i) else none) = ((List.range n).filterMap fun i => if (st5 i).isSome then some i else none).map nV := by
        rw [List.map_filterMap]
        congr 1
        funext k
        split <;> rfl
      have e2 : ((List.range pvs.length).filterMap fun i => (es[i]?).bind fun e => if (st5 e.1).isSome ∧ st5 e.2 = none then some (nV i) else none) = ((List.range pvs.length).filterMap fun i => (es[i]?).bind fun e => if (st5 e.1).isSome ∧ st5 e.2 = none then some i else none).map nV := by
        rw [List.map_filterMap]
        congr 1
        funext k
        cases es[k]? with
        | none => rfl
        | some e =>
          simp only [Option.bind_some]
          split <;> rfl
      have hq1 : upd H6 q1 (.tup ((List.range ((n : Nat) : Int).toNat).filterMap fun i => if (st5 i).isSome then some (nV i) else none)) q1 = some (.tup (((List.range n).filterMap fun i => if (st5 i).isSome then some i else none).map nV)) := by rw [← e1]; exact upd_same
      have hF1 : ∀ (i j : Nat), (if (st5 i).isSome then some i else none) = some j → j = i := fun i j h => by
        split at h
        · exact (Option.some.inj h).symm
        · cases h
      have hF2 : ∀ (i j : Nat), ((es[i]?).bind fun (e : Nat × Nat) => if (st5 e.1).isSome ∧ st5 e.2 = none then some i else none) = some j → j = i := fun i j h => by
        cases e : es[i]? with
        | none => rw [e] at h; cases h
        | some e0 =>
          rw [e] at h
          simp only [Option.bind_some] at h
          split at h
          · exact (Option.some.inj h).symm
          · cases h
      refine q2 q3 q1 q2' ((List.range n).filterMap fun i => if (st5 i).isSome then some i else none) ((List.range pvs.length).filterMap fun i => (es[i]?).bind fun (e : Nat × Nat) => if (st5 e.1).isSome ∧ st5 e.2 = none then some i else none) _ (((s12.trans s25).trans s7).trans (same_new s9 nq3)) hna upd_same ?_ ?_ (fm_pw hF1) (fun u => ?_) (fm_pw hF2) (fun k => ?_)
      · exact (same_new s9 nq3) _ _ hq1
      · refine (same_new (Same.refl _) nq3) _ _ ?_
        rw [← e2]
        exact upd_same
      · rw [List.mem_filterMap]
        constructor
        · rintro ⟨i, hi, h⟩
          have e3 := hF1 i u h
          subst e3
          have hu := List.mem_range.mp hi
          refine ⟨hu, (hsome u hu).mp ?_⟩
          split at h
          · rename_i hc
            exact hc
          · cases h
        · rintro ⟨hu, h⟩
          exact ⟨u, List.mem_range.mpr hu, if_pos ((hsome u hu).mpr h)⟩
      · rw [List.mem_filterMap]
        constructor
        · rintro ⟨i, hi, h⟩
          have e3 := hF2 i k h
          subst e3
          cases e : es[k]? with
          | none => rw [e] at h; cases h
          | some e0 =>
            rw [e] at h
            simp only [Option.bind_some] at h
            have hok := hh.m.ok _ (List.mem_of_getElem? e)
            split at h
            · rename_i hc
              exact ⟨e0, rfl, (hsome _ hok.1).mp hc.1, (hst5 _ hok.2).2.mp hc.2⟩
            · cases h
        · rintro ⟨e0, e, h1', h2'⟩
          have hok := hh.m.ok _ (List.mem_of_getElem? e)
          refine ⟨k, List.mem_range.mpr (by rw [hl]; exact (List.getElem?_eq_some_iff.mp e).1), ?_⟩
          rw [e]
          exact if_pos ⟨(hsome _ hok.1).mpr h1', (hst5 _ hok.2).2.mpr h2'⟩

/-- a try of the standing -/
def TryOk (es : Es) (rs ls : List Nat) (va : V) : Prop := ∃ k : Nat, va = nV k ∧ k ∈ triesL es rs ls
def spTryBad (K : PySem.W.Frag) (C CT : Addr) : Sp := fun vs H Q E => ∃ (p : Addr) (n : Nat) (a : Addr) (pvs : List V) (es : Es) (c : Addr) (gs : List Nat) (t x y : Addr) (rs ls : List Nat) (va : V) (sa : String), vs = [.ref p, .ref t, va] ∧ At K C H p n a pvs es c gs t x y rs ls ∧
  (∀ H', Same H H' → Kn K H' va sa) ∧ ¬ TryOk es rs ls va ∧ ∀ H', Same H H' → E (.ref CT) none H'
theorem okx_check_try {CMap CNoTry : Addr} (B : Bt mg) (C : MapC K mg CMap) (T_NoTry : Ex K mg "NoTry" CNoTry) (h_check_try : Has P w K mg base "check_try" 4 ["chart", "standing", "thing"] (spCheckTry K CMap)) (h_is_index : Has P w K mg base "is_index" 2 ["thing", "many"] (spIsIndex K))
    (h_tries_at : Has P w K mg base "tries_at" 3 ["chart", "standing"] (spOf K CMap RTries)) (h_arrows : HasM P w K mg base CMap "arrows" 1 ["self"] (spArrows K CMap)) (D0 : Df K mg "check_try" s_check_try ["chart", "standing", "thing"]) : HasX P w K mg base "check_try" 4 ["chart", "standing", "thing"] (spOr (spCheckTry K CMap) (spTryBad K CMap CNoTry)) := by
  refine h_check_try.or (D0.hasX fun f fd F => F.okX sc_check_try (fun vs H Q E h => ?_) (fun cdv A outer s H vs Q E hr h => ?_))
  · obtain ⟨p, n, a, pvs, es, c, gs, t, x, y, rs, ls, va, sa, rfl, _⟩ := h
    rfl
  · obtain ⟨p, n, a, pvs, es, c, gs, t, x, y, rs, ls, va, sa, rfl, h1, hka, hno, q⟩ := h
    refine ⟨_, (pss_one (ps_if (PW.pt (pw_or (pt_not (pt_val (pcall h_is_index hr (by decide) (by rfl) (pa_cons (pv 2) (pa_cons (pe_callB (k_len (K := K) rfl) (by rfl) B.len bo_len (pa_cons (pe_meth0 (pv 0) C.cl h_arrows.mt h_arrows.F (hr.mono (by decide)) h_arrows.b .nil pass0) pa_nil)) pa_nil))))) (pw_or1 (pt_cmpR (k_notin (K := K) rfl) (pv 2) (pcall h_tries_at hr (by decide) (by rfl) (pa_cons (pv 0) (pa_cons (pv 1) pa_nil))) (by rfl)))))
    (pss_one (ps_raise0 T_NoTry rfl (takes_of rfl rfl rfl rfl) (by rfl)))
    pss_nil)), ?_⟩
    have hl := h1.m.pr.len
    obtain ⟨dx, hp⟩ := h1.m.at_.ob
    refine ⟨_, rfl, _, rfl, p, dx, _, rfl, hp, mapF_arrows _ _ _, p, n, a, pvs, c, gs, rfl, h1.m.at_, a, pvs, rfl, .inr h1.m.at_.ar, va, sa, (pvs.length : Int), rfl, hka H (Same.refl H), _, rfl, ?_⟩
    cases e1 : idxV va (pvs.length : Int) with
    | false => exact iteT (iteT (q H (Same.refl H)))
    | true =>
      refine iteF ?_
      cases va with
      | int i =>
        have e2 : (decide (0 ≤ i) && decide (i < (pvs.length : Int))) = true := e1
        rw [Bool.and_eq_true, decide_eq_true_eq, decide_eq_true_eq] at e2
        obtain ⟨k, rfl⟩ : ∃ k : Nat, i = (k : Int) := ⟨i.toNat, by omega⟩
        have hk : k ∉ triesL es rs ls := fun z => hno ⟨k, rfl, z⟩
        refine ⟨_, rfl, _, rfl, _, rfl, p, n, a, pvs, es, c, gs, t, x, y, rs, ls, rfl, h1, fun v H1 s1 hv => ?_⟩
        obtain ⟨tr, rfl, ntr, htr⟩ := hv
        refine ⟨tr, _, rfl, .inr (sqt htr), rfl, flat_nats _, _, rfl, ?_⟩
        rw [if_pos rfl, show V.int (k : Int) = nV k from rfl, inV_nats, decide_eq_false hk]
        exact iteT (q H1 s1)
      | _ => cases e1

/-! the course of a run, as objects -/
def f3 (f g k : Str) (u v z : V) : List (Str × V) := putF k z (putF g v (putF f u []))
theorem f3_0 {f g k : Str} {u v z : V} (h1 : ¬ f = g) (h2 : ¬ f = k) : (f3 f g k u v z).lookup f = some u := by
  unfold f3
  rw [lookup_putF, if_neg h2, lookup_putF, if_neg h1, lookup_putF, if_pos rfl]
theorem f3_1 {f g k : Str} {u v z : V} (h2 : ¬ g = k) : (f3 f g k u v z).lookup g = some v := by
  unfold f3
  rw [lookup_putF, if_neg h2, lookup_putF, if_pos rfl]
theorem f3_2 {f g k : Str} {u v z : V} : (f3 f g k u v z).lookup k = some z := by
  unfold f3
  rw [lookup_putF, if_pos rfl]
theorem f3_no {f g k m : Str} {u v z : V} (h0 : ¬ m = f) (h1 : ¬ m = g) (h2 : ¬ m = k) : (f3 f g k u v z).lookup m = none := by
  unfold f3
  rw [lookup_putF, if_neg h2, lookup_putF, if_neg h1, lookup_putF, if_neg h0]
  rfl
abbrev Stg := List Nat × List Nat
abbrev Evn := List (Nat × Bool)
/-- an evening with its answers, as a value -/
def EvAt (K : PySem.W.Frag) (H : Hp) (v : V) (ev : Evn) : Prop := ∃ (e : Addr) (pts : List V), v = .ref e ∧ SqT K H e pts ∧ pts.length = ev.length ∧ ∀ (i : Nat) (pt : V) (kb : Nat × Bool), pts[i]? = some pt → ev[i]? = some kb → ∃ t, pt = .ref t ∧ SqT K H t [nV kb.1, .bl kb.2]
def EvsAt (K : PySem.W.Frag) (H : Hp) (vs : List V) (evs : List Evn) : Prop := vs.length = evs.length ∧ ∀ (i : Nat) (v : V) (ev : Evn), vs[i]? = some v → evs[i]? = some ev → EvAt K H v ev
def StsAt (K : PySem.W.Frag) (H : Hp) (vs : List V) (sts : List Stg) : Prop := vs.length = sts.length ∧ ∀ (i : Nat) (v : V) (st : Stg), vs[i]? = some v → sts[i]? = some st → ∃ u x y, v = .ref u ∧ StdAt K H u x y st.1 st.2
section
variable {K : PySem.W.Frag} {H H' : Hp} (s : Nl H H')
include s
theorem EvAt.nl {v : V} {ev : Evn} (h : EvAt K H v ev) : EvAt K H' v ev := by
  obtain ⟨e, pts, h1, h2, h3, h4⟩ := h
  exact ⟨e, pts, h1, s.sqt h2, h3, fun i pt kb a b => (h4 i pt kb a b).elim fun t ⟨x, y⟩ => ⟨t, x, s.sqt y⟩⟩
theorem EvsAt.nl {vs : List V} {evs : List Evn} (h : EvsAt K H vs evs) : EvsAt K H' vs evs := ⟨h.1, fun i v ev a b => (h.2 i v ev a b).nl s⟩
theorem StsAt.nl {vs : List V} {sts : List Stg} (h : StsAt K H vs sts) : StsAt K H' vs sts := ⟨h.1, fun i v st a b => by
  obtain ⟨u, x, y, e, h⟩ := h.2 i v st a b
  exact ⟨u, x, y, e, h.nl s⟩⟩
end
theorem EvsAt.snoc {K : PySem.W.Frag} {H : Hp} {vs : List V} {evs : List Evn} {v : V} {ev : Evn} (h : EvsAt K H vs evs) (h2 : EvAt K H v ev) : EvsAt K H (vs ++ [v]) (evs ++ [ev]) := by
  refine ⟨by rw [List.length_append, List.length_append, h.1]; rfl, fun i u e a b => ?_⟩
  rcases Nat.lt_trichotomy i vs.length with z | z | z
  · rw [List.getElem?_append_left z] at a
    rw [List.getElem?_append_left (h.1 ▸ z)] at b
    exact h.2 i u e a b
  · rw [z, List.getElem?_concat_length] at a
    rw [z, h.1, List.getElem?_concat_length] at b
    cases a
    cases b
    exact h2
  · rw [List.getElem?_eq_none (by rw [List.length_append]; show vs.length + 1 ≤ i; omega)] at a
    cases a
theorem StsAt.snoc {K : PySem.W.Frag} {H : Hp} {vs : List V} {sts : List Stg} {u x y : Addr} {st : Stg} (h : StsAt K H vs sts) (h2 : StdAt K H u x y st.1 st.2) : StsAt K H (vs ++ [.ref u]) (sts ++ [st]) := by
  refine ⟨by rw [List.length_append, List.length_append, h.1]; rfl, fun i w e a b => ?_⟩
  rcases Nat.lt_trichotomy i vs.length with z | z | z
  · rw [List.getElem?_append_left z] at a
    rw [List.getElem?_append_left (h.1 ▸ z)] at b
    exact h.2 i w e a b
  · rw [z, List.getElem?_concat_length] at a
    rw [z, h.1, List.getElem?_concat_length] at b
    cases a
    cases b
    exact ⟨u, x, y, rfl, h2⟩
  · rw [List.getElem?_eq_none (by rw [List.length_append]; show vs.length + 1 ≤ i; omega)] at a
    cases a
theorem EvsAt.front {K : PySem.W.Frag} {H : Hp} {vs : List V} {evs : List Evn} {ev : Evn} (h : EvsAt K H vs (evs ++ [ev])) : EvsAt K H vs.dropLast evs := by
  have hl := h.1
  rw [List.length_append, List.length_singleton] at hl
  refine ⟨by rw [List.length_dropLast]; omega, fun i v e a b => h.2 i v e ?_ ?_⟩
  · rw [List.getElem?_dropLast] at a
    split at a
    · exact a
    · cases a
  · rw [List.getElem?_append_left (List.getElem?_eq_some_iff.mp b).1]
    exact b
theorem StsAt.front {K : PySem.W.Frag} {H : Hp} {vs : List V} {sts : List Stg} {st : Stg} (h : StsAt K H vs (sts ++ [st])) : StsAt K H vs.dropLast sts := by
  have hl := h.1
  rw [List.length_append, List.length_singleton] at hl
  refine ⟨by rw [List.length_dropLast]; omega, fun i v e a b => h.2 i v e ?_ ?_⟩
  · rw [List.getElem?_dropLast] at a
    split at a
    · exact a
    · cases a
  · rw [List.getElem?_append_left (List.getElem?_eq_some_iff.mp b).1]
    exact b
/-- what a course holds: the map, the evenings with the standing at the begin of each, the standing of now -/
structure CS where
  p : Addr
  tl : Addr
  sl : Addr
  n : Nat
  a : Addr
  pvs : List V
  es : Es
  c : Addr
  gs : List Nat
  hist : List (Stg × Evn)
  cur : Stg
abbrev crsF (p tl sl : Addr) : List (Str × V) := f3 "_chart" "_told" "_stood" (.ref p) (.ref tl) (.ref sl)
structure CrsAt (K : PySem.W.Frag) (C CC : Addr) (H : Hp) (q : Addr) (s : CS) : Prop where
  ob : ∃ dx, H q = some (.ins CC dx (crsF s.p s.tl s.sl))
  m : MapOk K C H s.p s.n s.a s.pvs s.es s.c s.gs
  told : ∃ tvs, H s.tl = some (.lst tvs) ∧ EvsAt K H tvs (s.hist.map (·.2))
  stood : ∃ svs, H s.sl = some (.lst svs) ∧ StsAt K H svs (s.hist.map (·.1) ++ [s.cur])
  ne : s.tl ≠ s.sl
  ok : StdOk s.n s.es s.gs s.cur.1 s.cur.2
  oks : ∀ x ∈ s.hist, StdOk s.n s.es s.gs x.1.1 x.1.2
  n62 : s.n ≤ 62
  e62 : s.es.length ≤ 62
  few : s.hist.length ≤ 1000
  evs : ∀ x ∈ s.hist, x.2.length ≤ 1000
theorem CrsAt.keep {K : PySem.W.Frag} {C CC : Addr} {H H' : Hp} {q : Addr} {s : CS} (h : CrsAt K C CC H q s) (n : Nl H H') (k1 : ∀ o, H s.tl = some o → H' s.tl = some o) (k2 : ∀ o, H s.sl = some o → H' s.sl = some o) : CrsAt K C CC H' q s where
  ob := h.ob.elim fun dx e => ⟨dx, n _ _ notL_ins e⟩
  m := h.m.nl n
  told := h.told.elim fun tvs ⟨e, t⟩ => ⟨tvs, k1 _ e, t.nl n⟩
  stood := h.stood.elim fun svs ⟨e, t⟩ => ⟨svs, k2 _ e, t.nl n⟩
  ne := h.ne
  ok := h.ok
  oks := h.oks
  n62 := h.n62
  e62 := h.e62
  few := h.few
  evs := h.evs
theorem CrsAt.same {K : PySem.W.Frag} {C CC : Addr} {H H' : Hp} {q : Addr} {s : CS} (h : CrsAt K C CC H q s) (n : Same H H') : CrsAt K C CC H' q s := h.keep (Same.nl n) (fun o e => n _ o e) fun o e => n _ o e
/-- the objects of a course that change -/
abbrev CS.L (s : CS) : List Addr := [s.tl, s.sl]
theorem CrsAt.lists {K : PySem.W.Frag} {C CC : Addr} {H : Hp} {q : Addr} {s : CS} (h : CrsAt K C CC H q s) : ∀ b ∈ s.L, ∃ ys, H b = some (.lst ys) := fun b hb => by
  rcases List.mem_cons.mp hb with rfl | hb
  · exact h.told.elim fun _ e => ⟨_, e.1⟩
  · rw [List.mem_singleton.mp hb]
    exact h.stood.elim fun _ e => ⟨_, e.1⟩
/-- the standing behind an evening -/
structure BehindR (es : Es) (rs ls : List Nat) (ev : Evn) (rs' ls' : List Nat) : Prop where
  rp : rs'.Pairwise (· < ·)
  lp : ls'.Pairwise (· < ·)
  rm : ∀ v, v ∈ rs' ↔ v ∈ rs ∨ ∃ k e, (k, true) ∈ ev ∧ es[k]? = some e ∧ e.2 = v
  lm : ∀ l, l ∈ ls' ↔ l ∈ ls ∨ (l, false) ∈ ev
/-- the lost ones of an evening -/
def lostL (ev : Evn) : List Nat := ev.filterMap fun kb => if kb.2 then none else some kb.1
theorem mem_lost {ev : Evn} {k : Nat} : k ∈ lostL ev ↔ (k, false) ∈ ev := by
  unfold lostL
  rw [List.mem_filterMap]
  constructor
  · rintro ⟨⟨j, b⟩, h1, h2⟩
    cases b with
    | true => cases h2
    | false =>
      cases h2
      exact h1
  · intro h
    exact ⟨_, h, rfl⟩
theorem BehindR.std {n : Nat} {es : Es} {gs rs ls rs' ls' : List Nat} {ev : Evn} (h : BehindR es rs ls ev rs' ls') (o : StdOk n es gs rs ls) (ok : ∀ e ∈ es, e.1 < n ∧ e.2 < n) (ht : ∀ kb ∈ ev, kb.1 ∈ triesL es rs ls) (hu : ∀ k, (k, true) ∈ ev → (k, false) ∈ ev → False)
    (ho : ∀ g ∈ gs, Rch (left es (ls ++ lostL ev)) [0] g) : StdOk n es gs rs' ls' := by
  have sub : ∀ v ∈ rs, v ∈ rs' := fun v hv => (h.rm v).mpr (.inl hv)
  -- a sound arrow is not found rotten
  have snd : ∀ k, (k, true) ∈ ev → k ∉ ls' := fun k hk hl => by
    rcases (h.lm k).mp hl with z | z
    · obtain ⟨e, _, hkl, _⟩ := mem_tries.mp (ht _ hk)
      exact hkl z
    · exact hu k hk z
  have hold0 : ∀ r ∈ rs, Rch (inner es rs' ls') [0] r := fun r hr => (o.hold r hr).mono (fun x hx => by
    obtain ⟨j, a1, a2, a3, a4⟩ := mem_inner.mp hx
    refine mem_inner.mpr ⟨j, a1, fun z => ?_, sub _ a3, sub _ a4⟩
    rcases (h.lm j).mp z with z | z
    · exact a2 z
    · obtain ⟨e, he, _, _, h2⟩ := mem_tries.mp (ht _ z)
      rw [a1] at he
      cases he
      exact h2 a4) fun _ h => h
  refine ⟨h.rp, h.lp, fun r hr => ?_, fun l hl => ?_, sub _ o.r0, fun l hl x hx => ?_, fun r hr => ?_, fun g hg => left_same (fun x => by rw [h.lm, List.mem_append, mem_lost]) (ho g hg)⟩
  · rcases (h.rm r).mp hr with z | ⟨k, e, _, he, rfl⟩
    · exact o.rn r z
    · exact (ok e (List.mem_of_getElem? he)).2
  · rcases (h.lm l).mp hl with z | z
    · exact o.ln l z
    · obtain ⟨e, he, _⟩ := mem_tries.mp (ht _ z)
      exact (List.getElem?_eq_some_iff.mp he).1
  · rcases (h.lm l).mp hl with z | z
    · exact sub _ (o.tl l z x hx)
    · obtain ⟨e, he, _, h1, _⟩ := mem_tries.mp (ht _ z)
      rw [hx] at he
      cases he
      exact sub _ h1
  · rcases (h.rm r).mp hr with z | ⟨k, e, hk, he, rfl⟩
    · exact hold0 r z
    · obtain ⟨e', he', _, h1, _⟩ := mem_tries.mp (ht _ hk)
      rw [he] at he'
      cases he'
      exact (hold0 e.1 h1).edge (mem_inner.mpr ⟨k, he, snd k hk, sub _ h1, hr⟩)
/-- what a world answers to a lot -/
def evOf (W lot : List Nat) : Evn := lot.map fun k => (k, decide (k ∉ W))
theorem mem_evOf {W lot : List Nat} {kb : Nat × Bool} : kb ∈ evOf W lot ↔ kb.1 ∈ lot ∧ kb.2 = decide (kb.1 ∉ W) := by
  unfold evOf
  rw [List.mem_map]
  constructor
  · rintro ⟨k, h, rfl⟩
    exact ⟨h, rfl⟩
  · rintro ⟨h1, h2⟩
    exact ⟨kb.1, h1, by rw [← h2]⟩
theorem f3_meth {u v z : V} {m : Str} (h0 : ¬ m = "_chart") (h1 : ¬ m = "_told") (h2 : ¬ m = "_stood") : (f3 "_chart" "_told" "_stood" u v z).lookup m = none := f3_no h0 h1 h2

abbrev s_begin : Stmt := topS 37
abbrev sl_begin : List Str := ["chart"]
theorem sc_begin : FnScope ["chart"] ["chart"] (defScope s_begin) := ⟨rfl, rfl, rfl, by decide +kernel, rfl, by decide +kernel, by decide +kernel⟩
def spBegin (K : PySem.W.Frag) : Sp := fun vs H Q _ => ∃ v, vs = [v] ∧ ∀ (u x y : Addr) (H' : Hp), Same H H' → H u = none → StdAt K H' u x y [0] [] → Q (.ref u) H'
theorem ok_begin (D0 : Df K mg "begin" s_begin ["chart"]) : Has P w K mg base "begin" 1 ["chart"] (spBegin K) := by
  refine D0.has fun f fd F => F.ok sc_begin (fun vs H Q E h => ?_) (fun cdv A outer s H vs Q E hr h => ?_)
  · obtain ⟨v, rfl, _⟩ := h
    rfl
  · obtain ⟨v, rfl, q⟩ := h
    refine ⟨_, (pss_one (ps_ret (pe_tup (pa_cons (pe_tup (pa_cons pe_int pa_nil)) (pa_cons (pe_tup pa_nil) pa_nil))))), ?_⟩
    refine ⟨by show 1 ≤ sizeLine; decide, fun x nx => ⟨Nat.zero_le _, fun y ny => ⟨by show 2 ≤ sizeLine; decide, fun u nu => ?_⟩⟩⟩
    have s1 := same_new (o := .tup [.int 0]) (Same.refl H) nx
    have s2 := same_new (o := .tup []) (Same.refl _) ny
    have s3 := same_new (o := .tup [.ref x, .ref y]) (Same.refl _) nu
    exact q u x y _ ((s1.trans s2).trans s3) (Same.free (s1.trans s2) nu) ⟨sqt upd_same, sqt (s3 _ _ (s2 _ _ upd_same)), sqt (s3 _ _ upd_same)⟩

abbrev s_are_tries : Stmt := topS 63
abbrev sl_are_tries : List Str := ["chart", "standing", "thing", "tried", "arrow"]
theorem sc_are_tries : FnScope ["chart", "standing", "thing", "tried", "arrow"] ["chart", "standing", "thing"] (defScope s_are_tries) := ⟨rfl, rfl, rfl, by decide +kernel, rfl, by decide +kernel, by decide +kernel⟩
/-- are_tries, of a lot of one or more tries -/
def spAreTries (K : PySem.W.Frag) (C : Addr) : Sp := fun vs H Q _ => ∃ (p : Addr) (n : Nat) (a : Addr) (pvs : List V) (es : Es) (c : Addr) (gs : List Nat) (t x y : Addr) (rs ls : List Nat) (b : Addr) (lot : List Nat), vs = [.ref p, .ref t, .ref b] ∧ At K C H p n a pvs es c gs t x y rs ls ∧
  SqT K H b (lot.map nV) ∧ lot.Pairwise (· < ·) ∧ lot ≠ [] ∧ (∀ k ∈ lot, k ∈ triesL es rs ls) ∧ ∀ H', Same H H' → Q (.bl true) H'
theorem ok_are_tries {CMap : Addr} (B : Bt mg) (C : MapC K mg CMap) (h_is_lot : Has P w K mg base "is_lot" 3 ["thing", "many"] (spIsLot K)) (h_tries_at : Has P w K mg base "tries_at" 3 ["chart", "standing"] (spOf K CMap RTries))
    (h_arrows : HasM P w K mg base CMap "arrows" 1 ["self"] (spArrows K CMap)) (D0 : Df K mg "are_tries" s_are_tries ["chart", "standing", "thing"]) : Has P w K mg base "are_tries" 4 ["chart", "standing", "thing"] (spAreTries K CMap) := by
  refine D0.has fun f fd F => F.ok sc_are_tries (fun vs H Q E h => ?_) (fun cdv A outer s H vs Q E hr h => ?_)
  · obtain ⟨p, n, a, pvs, es, c, gs, t, x, y, rs, ls, b, lot, rfl, _⟩ := h
    rfl
  · obtain ⟨p, n, a, pvs, es, c, gs, t, x, y, rs, ls, b, lot, rfl, h1, hb, hp, hne, ht, q⟩ := h
    refine ⟨_, (pss_cons (ps_if (PW.pt (pw_or (pt_not (pt_val (pcall h_is_lot hr (by decide) (by rfl) (pa_cons (pv 2) (pa_cons (pe_callB (k_len (K := K) rfl) (by rfl) B.len bo_len (pa_cons (pe_meth0 (pv 0) C.cl h_arrows.mt h_arrows.F (hr.mono (by decide)) h_arrows.b .nil pass0) pa_nil)) pa_nil))))) (pw_or1 (pt_cmpR op_eq (pe_callB (k_len (K := K) rfl) (by rfl) B.len bo_len (pa_cons (pv 2) pa_nil)) pe_int (nomark _)))))
    (pss_one (ps_ret pe_bl))
    pss_nil)
  (pss_cons (ps_set (i := 3) sc_are_tries.nd rfl (.inr rfl) (pcall h_tries_at hr (by decide) (by rfl) (pa_cons (pv 0) (pa_cons (pv 1) pa_nil))))
  (pss_one (ps_ret (pe_callB (k_all (K := K) rfl rfl) (by rfl) B.all bo_all (pa_cons (pe_lc (own := [("arrow", 4)]) (g := gName 4) rfl sc_are_tries.nd (k_pit (K := K) rfl (pv 2)) (blkOk_by (N := sl_are_tries) (sc := defScope s_are_tries) (by decide +kernel)) (fun _ _ _ _ _ => (pg_name (i := 4) sc_are_tries.nd rfl (.inl rfl))) (fun _ _ _ _ _ => pts_nil) (fun _ _ _ _ _ => (pe_cmpR (k_in (K := K) rfl) (pv 4) (pv 3) (by rfl)))) pa_nil)))))), ?_⟩
    obtain ⟨dx, hob⟩ := h1.m.at_.ob
    have hl := h1.m.pr.len
    have hln : ∀ k ∈ lot, k < es.length := fun k hk => by
      obtain ⟨e, he, _⟩ := mem_tries.mp (ht k hk)
      exact (List.getElem?_eq_some_iff.mp he).1
    refine ⟨_, rfl, _, rfl, p, dx, _, rfl, hob, mapF_arrows _ _ _, p, n, a, pvs, c, gs, rfl, h1.m.at_, a, pvs, rfl, .inr h1.m.at_.ar, .ref b, (pvs.length : Int), rfl, .inl ⟨b, _, rfl, hb, fun z hz => ?_, _, rfl, ?_⟩⟩
    · obtain ⟨k, _, rfl⟩ := List.mem_map.mp hz
      exact ⟨"int", kn_of_int⟩
    rw [lot_of (gs := lot) (fun k hk => ⟨by have := hln k hk; omega, by omega⟩) hp]
    refine iteF ?_
    refine ⟨_, rfl, b, _, rfl, .inr hb, rfl, _, rfl, ?_⟩
    have e0 : decide (V.int ((lot.map nV).length : Int) = V.int 0) = false := decide_eq_false fun z => by
      injection z with z
      rw [List.length_map] at z
      cases lot with
      | nil => exact hne rfl
      | cons _ _ => rw [List.length_cons] at z; omega
    rw [e0]
    refine iteF ?_
    refine ⟨_, rfl, _, rfl, p, n, a, pvs, es, c, gs, t, x, y, rs, ls, rfl, h1, fun v H1 s1 hv => ?_⟩
    obtain ⟨tr, rfl, ntr, htr⟩ := hv
    have hll : lot.length ≤ es.length - 0 := pw_len hp fun z hz => ⟨Nat.zero_le _, hln z hz⟩
    have := h1.m.el
    refine ⟨_, rfl, b, rfl, ⟨_, Same.sqt s1 hb⟩, fun D nD => ?_⟩
    refine lc_val walk_tup calm_at (fun i => (lot[i]?).bind fun _ => some (V.bl true)) (by rw [List.length_map]; omega) nD (fun H3 s3 => Same.sqt (s1.trans s3) hb) ?_ fun H3 s3 h3 => ?_
    · rintro i v H3 H4 hi s3 ⟨rfl, hv⟩ Kt kt
      obtain ⟨k, hki, rfl⟩ := getmap hv
      have k0 := kt _ (Same.refl _)
      rw [hki] at k0
      refine ⟨rfl, tyes ?_⟩
      refine iteT ?_
      refine ⟨_, rfl, _, rfl, tr, _, rfl, .inr (sqt (s3 _ _ htr)), rfl, flat_nats _, ?_⟩
      rw [if_neg Bool.false_ne_true, inV_nats, decide_eq_true (ht k (List.mem_of_getElem? hki))]
      exact k0
    · rw [List.length_map, fm_range, fm_some] at h3
      refine ⟨D, lot.map fun _ => true, rfl, sql (by rw [h3, List.map_map]; rfl), ?_⟩
      rw [show (lot.map fun _ => true).all id = true by rw [List.all_map]; exact List.all_eq_true.mpr fun _ _ => rfl]
      exact q H3 (s1.trans s3)

abbrev s_Course___init__ : Stmt := inClass (topS 67) 0
abbrev sl_Course___init__ : List Str := ["self", "chart"]
theorem sc_Course___init__ : FnScope ["self", "chart"] ["self", "chart"] (defScope s_Course___init__) := ⟨rfl, rfl, rfl, by decide +kernel, rfl, by decide +kernel, by decide +kernel⟩
def spCrsInit (K : PySem.W.Frag) (C CC : Addr) : Sp := fun vs H Q _ => ∃ (q dx p : Addr) (n : Nat) (a : Addr) (pvs : List V) (es : Es) (c : Addr) (gs : List Nat), vs = [.ref q, .ref p] ∧ H q = some (.ins CC dx []) ∧ MapOk K C H p n a pvs es c gs ∧ n ≤ 62 ∧ es.length ≤ 62 ∧ StdOk n es gs [0] [] ∧
  ∀ (tl sl : Addr) (H' : Hp), (∀ b o, b ≠ q → H b = some o → H' b = some o) → H tl = none → H sl = none → CrsAt K C CC H' q ⟨p, tl, sl, n, a, pvs, es, c, gs, [], ([0], [])⟩ → Q .non H'
theorem ok_Course_init {CMap CCourse : Addr} (C_Course : ClsC K mg "Course" CCourse ["_chart", "_told", "_stood"]) (h_begin : Has P w K mg base "begin" 1 ["chart"] (spBegin K)) (D0 : DfI K CCourse "Course.__init__" s_Course___init__ ["self", "chart"]) : HasI P w K mg base CCourse 2 ["self", "chart"] (spCrsInit K CMap CCourse) := by
  refine D0.has fun f fd F => F.ok sc_Course___init__ (fun vs H Q E h => ?_) (fun cdv A outer s H vs Q E hr h => ?_)
  · obtain ⟨q, dx, p, n, a, pvs, es, c, gs, rfl, _⟩ := h
    rfl
  · obtain ⟨q, dx, p, n, a, pvs, es, c, gs, rfl, hq, m, n62, e62, o, k⟩ := h
    refine ⟨_, (pss_cons (ps_fld (pv 0) (pv 1) rfl)
  (pss_cons (ps_fld (pv 0) (pe_lst pa_nil) rfl)
  (pss_one (ps_fld (pv 0) (pe_lst (pa_cons (pcall h_begin hr (by decide) (by rfl) (pa_cons (pv 1) pa_nil)) pa_nil)) rfl)))), ?_⟩
    refine ⟨_, rfl, _, rfl, q, CCourse, dx, _, rfl, hq, C_Course.cl, C_Course.n0, by show 0 < 1000; decide, ?_⟩
    refine ⟨Nat.zero_le _, fun tl ntl => ?_⟩
    have t0 : H tl = none := by
      by_cases z : tl = q
      · rw [z, upd_same] at ntl
        cases ntl
      · rw [upd_ne z] at ntl
        exact ntl
    have tq : tl ≠ q := fun z => by
      rw [z, upd_same] at ntl
      cases ntl
    refine ⟨_, rfl, q, CCourse, dx, _, rfl, by rw [upd_ne tq.symm]; exact upd_same, C_Course.cl, C_Course.n1, by show 1 < 1000; decide, ?_⟩
    refine ⟨_, rfl, _, rfl, fun u x y H3 s3 nu S3 => ?_⟩
    refine ⟨Nat.le_of_lt (small_lt (by decide : 1 ≤ 100000)), fun sl nsl => ?_⟩
    have sq : sl ≠ q := fun z => by
      have e := s3 q _ upd_same
      rw [← z, nsl] at e
      cases e
    have s0 : H sl = none := by
      cases e : H sl with
      | none => rfl
      | some o =>
        have e1 := s3 sl o (by rw [upd_ne sq, upd_ne (ne_of_none e t0), upd_ne sq]; exact e)
        rw [nsl] at e1
        cases e1
    have st : tl ≠ sl := fun z => by
      have e := s3 tl (.lst []) (by rw [upd_ne tq]; exact upd_same)
      rw [z, nsl] at e
      cases e
    have hq3 := s3 q _ upd_same
    refine ⟨_, rfl, q, CCourse, dx, _, rfl, by rw [upd_ne sq.symm]; exact hq3, C_Course.cl, C_Course.n2, Nat.lt_of_le_of_lt (putF_len _ _ _) (by show 1 + 1 < 1000; decide), ?_⟩
    have kp : ∀ b o, b ≠ q → H b = some o → upd (upd H3 sl (.lst [.ref u])) q (.ins CCourse dx (crsF p tl sl)) b = some o := fun b o nb e => by
      rw [upd_ne nb, upd_ne (ne_of_none e s0)]
      exact s3 b o (by rw [upd_ne nb, upd_ne (ne_of_none e t0), upd_ne nb]; exact e)
    have nl : Nl (upd H3 sl (.lst [.ref u])) (upd (upd H3 sl (.lst [.ref u])) q (.ins CCourse dx (crsF p tl sl))) → True := fun _ => trivial
    have kt : ∀ {b : Addr} {xs : List V}, SqT K H3 b xs → SqT K (upd (upd H3 sl (.lst [.ref u])) q (.ins CCourse dx (crsF p tl sl))) b xs := fun {b xs} h => by
      rcases h with (h | ⟨o, h⟩) | h
      · exact .inl (.inl (by rw [upd_ne (ne_of h hq3 (by intro z; cases z)), upd_ne (ne_of_none h nsl)]; exact h))
      · exact .inl (.inr ⟨o, by rw [upd_ne (ne_of h hq3 (by intro z; cases z)), upd_ne (ne_of_none h nsl)]; exact h⟩)
      · exact .inr h
    have hk : ∀ {b : Addr} {xs : List V}, SqT K H b xs → SqT K (upd (upd H3 sl (.lst [.ref u])) q (.ins CCourse dx (crsF p tl sl))) b xs := fun {b xs} h => by
      rcases h with (h | ⟨o, h⟩) | h
      · exact .inl (.inl (kp _ _ (ne_of h hq (by intro z; cases z)) h))
      · exact .inl (.inr ⟨o, kp _ _ (ne_of h hq (by intro z; cases z)) h⟩)
      · exact .inr h
    have mm : MapOk K CMap (upd (upd H3 sl (.lst [.ref u])) q (.ins CCourse dx (crsF p tl sl))) p n a pvs es c gs := by
      obtain ⟨d1, hd1⟩ := m.at_.ob
      have npq : p ≠ q := fun z => by
        rw [z, hq] at hd1
        have hd1 := Option.some.inj hd1
        injection hd1 with _ _ e3
        have e4 := mapF_m n a c
        rw [← e3] at e4
        cases e4
      exact ⟨⟨⟨d1, kp _ _ npq hd1⟩, hk m.at_.ar, hk m.at_.go⟩, ⟨m.pr.len, fun i v e g1 g2 => (m.pr.at_ i v e g1 g2).elim fun t ⟨h1, h2⟩ => ⟨t, h1, hk h2⟩⟩, m.n0, m.n1, m.el, m.gn, m.ok, m.gl⟩
    refine k tl sl _ kp t0 s0 ⟨⟨dx, upd_same⟩, mm, ⟨[], ?_, rfl, fun i v ev h => by simp at h⟩, ⟨[.ref u], ?_, rfl, fun i v st h1 h2 => ?_⟩, st, o, fun x hx => (List.not_mem_nil hx).elim, n62, e62, Nat.zero_le _, fun x hx => (List.not_mem_nil hx).elim⟩
    · show upd (upd H3 sl (.lst [.ref u])) q (.ins CCourse dx (crsF p tl sl)) tl = some (.lst [])
      rw [upd_ne tq, upd_ne st]
      exact s3 tl _ (by rw [upd_ne tq]; exact upd_same)
    · show upd (upd H3 sl (.lst [.ref u])) q (.ins CCourse dx (crsF p tl sl)) sl = some (.lst [.ref u])
      rw [upd_ne sq, upd_same]
    · cases i with
      | zero =>
        cases h1
        cases h2
        exact ⟨u, x, y, rfl, kt S3.t, kt S3.x, kt S3.y⟩
      | succ i => simp at h1

abbrev s_Party___init__ : Stmt := inClass (topS 69) 0
abbrev sl_Party___init__ : List Str := ["self", "chart", "world"]
theorem sc_Party___init__ : FnScope ["self", "chart", "world"] ["self", "chart", "world"] (defScope s_Party___init__) := ⟨rfl, rfl, rfl, by decide +kernel, rfl, by decide +kernel, by decide +kernel⟩
/-- a party in its world -/
structure PtyAt (K : PySem.W.Frag) (C CC CP : Addr) (H : Hp) (P w : Addr) (W : List Nat) (q : Addr) (s : CS) : Prop where
  ob : ∃ dx, H P = some (.ins CP dx (f3 "_chart" "_world" "_course" (.ref s.p) (.ref w) (.ref q)))
  wd : SqT K H w (W.map nV)
  crs : CrsAt K C CC H q s
  wl : W.length ≤ 1000
  opn : ∀ g ∈ s.gs, Rch (left s.es W) [0] g
  inw : ∀ l ∈ s.cur.2, l ∈ W
  inws : ∀ x ∈ s.hist, ∀ l ∈ x.1.2, l ∈ W
  ans : ∀ x ∈ s.hist, ∀ kb ∈ x.2, kb.2 = decide (kb.1 ∉ W)
theorem PtyAt.keep {K : PySem.W.Frag} {C CC CP : Addr} {H H' : Hp} {P w : Addr} {W : List Nat} {q : Addr} {s : CS} (h : PtyAt K C CC CP H P w W q s) (n : Nl H H') (k1 : ∀ o, H s.tl = some o → H' s.tl = some o) (k2 : ∀ o, H s.sl = some o → H' s.sl = some o) : PtyAt K C CC CP H' P w W q s :=
  ⟨h.ob.elim fun dx e => ⟨dx, n _ _ notL_ins e⟩, n.sqt h.wd, h.crs.keep n k1 k2, h.wl, h.opn, h.inw, h.inws, h.ans⟩
theorem PtyAt.same {K : PySem.W.Frag} {C CC CP : Addr} {H H' : Hp} {P w : Addr} {W : List Nat} {q : Addr} {s : CS} (h : PtyAt K C CC CP H P w W q s) (n : Same H H') : PtyAt K C CC CP H' P w W q s := h.keep (Same.nl n) (fun o e => n _ o e) fun o e => n _ o e
def spPtyInit (K : PySem.W.Frag) (C CC CP : Addr) : Sp := fun vs H Q _ => ∃ (P dx p : Addr) (n : Nat) (a : Addr) (pvs : List V) (es : Es) (c : Addr) (gs : List Nat) (w : Addr) (W : List Nat), vs = [.ref P, .ref p, .ref w] ∧ H P = some (.ins CP dx []) ∧ MapOk K C H p n a pvs es c gs ∧ n ≤ 62 ∧ es.length ≤ 62 ∧ StdOk n es gs [0] [] ∧
  SqT K H w (W.map nV) ∧ W.Pairwise (· < ·) ∧ (∀ l ∈ W, l < es.length) ∧ (∀ g ∈ gs, Rch (left es W) [0] g) ∧
  ∀ (q tl sl : Addr) (H' : Hp), (∀ b o, b ≠ P → H b = some o → H' b = some o) → H tl = none → H sl = none → PtyAt K C CC CP H' P w W q ⟨p, tl, sl, n, a, pvs, es, c, gs, [], ([0], [])⟩ → Q .non H'
theorem ok_Party_init {CMap CCourse CParty : Addr} (C_Course : ClsC K mg "Course" CCourse ["_chart", "_told", "_stood"]) (C_Party : ClsC K mg "Party" CParty ["_chart", "_world", "_course"]) (h_is_world : Has P w K mg base "is_world" 4 ["chart", "thing"] (spWorldG K CMap))
    (h_Course_init : HasI P w K mg base CCourse 2 ["self", "chart"] (spCrsInit K CMap CCourse)) (D0 : DfI K CParty "Party.__init__" s_Party___init__ ["self", "chart", "world"]) : HasI P w K mg base CParty 5 ["self", "chart", "world"] (spPtyInit K CMap CCourse CParty) := by
  refine D0.has fun f fd F => F.ok sc_Party___init__ (fun vs H Q E h => ?_) (fun cdv A outer s H vs Q E hr h => ?_)
  · obtain ⟨P, dx, p, n, a, pvs, es, c, gs, w, W, rfl, _⟩ := h
    rfl
  · obtain ⟨P, dx, p, n, a, pvs, es, c, gs, w, W, rfl, hP, m, n62, e62, o, hw, wp, wn, wo, k⟩ := h
    refine ⟨_, (pss_cons (ps_if (pt_not (pt_val (pcall h_is_world hr (by decide) (by rfl) (pa_cons (pv 1) (pa_cons (pv 2) pa_nil)))))
    (pss_one ps_never)
    pss_nil)
  (pss_cons (ps_fld (pv 0) (pv 1) rfl)
  (pss_cons (ps_fld (pv 0) (pv 2) rfl)
  (pss_one (ps_fld (pv 0) (pe_make h_Course_init.m h_Course_init.F (hr.mono (by decide)) (by rfl) C_Course.mg h_Course_init.b .nil pass0 (pa_cons (pv 1) pa_nil)) rfl))))), ?_⟩
    refine ⟨_, rfl, _, rfl, p, n, a, pvs, es, c, gs, .ref w, rfl, m, .inl ⟨w, _, rfl, hw, knI_nat, fun H1 ok s1 hok => ⟨_, rfl, ?_⟩⟩⟩
    rw [hok.mpr ⟨W, rfl, wp, wn, wo⟩]
    refine iteF ?_
    have hP1 := s1 _ _ hP
    refine ⟨_, rfl, _, rfl, P, CParty, dx, _, rfl, hP1, C_Party.cl, C_Party.n0, by show 0 < 1000; decide, ?_⟩
    refine ⟨_, rfl, _, rfl, P, CParty, dx, _, rfl, upd_same, C_Party.cl, C_Party.n1, by show 1 < 1000; decide, ?_⟩
    rw [upd_upd]
    refine ⟨_, rfl, fun q dq nq ndq neq => ?_⟩
    -- all but the party's own object stays
    have st : ∀ {H3 : Hp}, (∀ b o, b ≠ P → H1 b = some o → H3 b = some o) → ∀ {b : Addr} {xs : List V}, SqT K H b xs → SqT K H3 b xs := fun {H3} kk {b xs} h => by
      have h := Same.sqt s1 h
      rcases h with (h | ⟨o, h⟩) | h
      · exact .inl (.inl (kk _ _ (ne_of h hP1 (by intro z; cases z)) h))
      · exact .inl (.inr ⟨o, kk _ _ (ne_of h hP1 (by intro z; cases z)) h⟩)
      · exact .inr h
    have sm : ∀ {H3 : Hp}, (∀ b o, b ≠ P → H1 b = some o → H3 b = some o) → MapOk K CMap H3 p n a pvs es c gs := fun {H3} kk => by
      obtain ⟨d1, hd1⟩ := (m.same s1).at_.ob
      have npP : p ≠ P := fun z => by
        rw [z, hP1] at hd1
        have hd1 := Option.some.inj hd1
        injection hd1 with _ _ e3
        have e4 := mapF_m n a c
        rw [← e3] at e4
        cases e4
      exact ⟨⟨⟨d1, kk _ _ npP hd1⟩, st kk m.at_.ar, st kk m.at_.go⟩, ⟨m.pr.len, fun i v e g1 g2 => (m.pr.at_ i v e g1 g2).elim fun t ⟨h1, h2⟩ => ⟨t, h1, st kk h2⟩⟩, m.n0, m.n1, m.el, m.gn, m.ok, m.gl⟩
    have qP : q ≠ P := fun z => by
      rw [z, upd_same] at nq
      cases nq
    have dP : dq ≠ P := fun z => by
      rw [z, upd_same] at ndq
      cases ndq
    have nq1 : H1 q = none := by
      rw [upd_ne qP] at nq
      exact nq
    have nd1 : H1 dq = none := by
      rw [upd_ne dP] at ndq
      exact ndq
    have k2 : ∀ b o, b ≠ P → H1 b = some o → upd (upd (upd H1 P (.ins CParty dx (putF "_world" (.ref w) (putF "_chart" (.ref p) [])))) dq (.own q)) q (.ins CCourse dq []) b = some o := fun b o nb e => by
      rw [upd_ne (ne_of_none e nq1), upd_ne (ne_of_none e nd1), upd_ne nb]
      exact e
    refine ⟨q, dq, p, n, a, pvs, es, c, gs, rfl, upd_same, sm k2, n62, e62, o, fun tl sl H3 k3 ntl nsl h3 => ⟨rfl, ?_⟩⟩
    have P3 : H3 P = some (.ins CParty dx (putF "_world" (.ref w) (putF "_chart" (.ref p) []))) := k3 P _ qP.symm (by rw [upd_ne qP.symm, upd_ne dP.symm, upd_same])
    refine ⟨_, rfl, P, CParty, dx, _, rfl, P3, C_Party.cl, C_Party.n2, Nat.lt_of_le_of_lt (putF_len _ _ _) (by show 1 + 1 < 1000; decide), ?_⟩
    have gone : ∀ {b : Addr}, upd (upd (upd H1 P (.ins CParty dx (putF "_world" (.ref w) (putF "_chart" (.ref p) [])))) dq (.own q)) q (.ins CCourse dq []) b = none → H b = none := fun {b} e => by
      cases e1 : H b with
      | none => rfl
      | some u =>
        by_cases z : b = P
        · rw [z, upd_ne qP.symm, upd_ne dP.symm, upd_same] at e
          cases e
        · rw [k2 b u z (s1 _ _ e1)] at e
          cases e
    have tP : tl ≠ P := fun z => by
      rw [z, upd_ne qP.symm, upd_ne dP.symm, upd_same] at ntl
      cases ntl
    have sP : sl ≠ P := fun z => by
      rw [z, upd_ne qP.symm, upd_ne dP.symm, upd_same] at nsl
      cases nsl
    have k4 : ∀ b o, b ≠ P → H1 b = some o → upd H3 P (.ins CParty dx (f3 "_chart" "_world" "_course" (.ref p) (.ref w) (.ref q))) b = some o := fun b o nb e => by
      rw [upd_ne nb]
      exact k3 b o (ne_of_none e nq1) (k2 b o nb e)
    have hn : ∀ b o, b ≠ P → H3 b = some o → upd H3 P (.ins CParty dx (f3 "_chart" "_world" "_course" (.ref p) (.ref w) (.ref q))) b = some o := fun b o nb e => by
      rw [upd_ne nb]
      exact e
    have sq3 : ∀ {b : Addr} {xs : List V}, SqT K H3 b xs → SqT K (upd H3 P (.ins CParty dx (f3 "_chart" "_world" "_course" (.ref p) (.ref w) (.ref q)))) b xs := fun {b xs} h => by
      rcases h with (h | ⟨o, h⟩) | h
      · exact .inl (.inl (hn _ _ (ne_of h P3 (by intro z; cases z)) h))
      · exact .inl (.inr ⟨o, hn _ _ (ne_of h P3 (by intro z; cases z)) h⟩)
      · exact .inr h
    refine k q tl sl _ (fun b o nb e => k4 b o nb (s1 _ _ e)) (gone ntl) (gone nsl) ⟨⟨dx, upd_same⟩, st k4 hw, ?_, ?_, wo, fun l hl => (List.not_mem_nil hl).elim, fun x hx => (List.not_mem_nil hx).elim, fun x hx => (List.not_mem_nil hx).elim⟩
    · obtain ⟨dq3, hq3⟩ := h3.ob
      obtain ⟨tvs, t1, t2⟩ := h3.told
      obtain ⟨svs, u1, u2⟩ := h3.stood
      refine ⟨⟨dq3, hn _ _ qP hq3⟩, sm k4, ⟨tvs, hn _ _ tP t1, t2.1, fun i v ev _ h => (by simp at h)⟩, ⟨svs, hn _ _ sP u1, u2.1, fun i v st0 a1 a2 => ?_⟩, h3.ne, h3.ok, h3.oks, n62, e62, h3.few, h3.evs⟩
      obtain ⟨u, x, y, hu, S⟩ := u2.2 i v st0 a1 a2
      exact ⟨u, x, y, hu, sq3 S.t, sq3 S.x, sq3 S.y⟩
    · have := pw_len wp (l := 0) fun z hz => ⟨Nat.zero_le _, wn z hz⟩
      omega

/-! what laws of parties share -/
theorem law_size3 {t1 t2 t3 : Addr} {H : Hp} {p1 a1 p2 a2 p3 a3 : Nat} (h1 : H t1 = some (.tup [.int (p1 : Int), .int (a1 : Int)])) (h2 : H t2 = some (.tup [.int (p2 : Int), .int (a2 : Int)])) (h3 : H t3 = some (.tup [.int (p3 : Int), .int (a3 : Int)]))
    (b : (2 ≤ p1 ∧ p1 ≤ 40 ∧ a1 ≤ 60) ∧ (2 ≤ p2 ∧ p2 ≤ 40 ∧ a2 ≤ 60) ∧ (2 ≤ p3 ∧ p3 ≤ 40 ∧ a3 ≤ 60)) {k : Int} (k0 : 0 ≤ k) (k3 : k < 3) :
    ∃ (t : Addr) (pl ar : Nat), atI [V.ref t1, .ref t2, .ref t3] k = some (.ref t) ∧ H t = some (.tup [.int (pl : Int), .int (ar : Int)]) ∧ 2 ≤ pl ∧ pl ≤ 40 ∧ ar ≤ 60 := by
  obtain ⟨j, rfl⟩ : ∃ j : Nat, k = (j : Int) := ⟨k.toNat, by omega⟩
  have hj : j = 0 ∨ j = 1 ∨ j = 2 := by omega
  rcases hj with rfl | rfl | rfl
  · exact ⟨t1, p1, a1, atI_nat rfl, h1, b.1⟩
  · exact ⟨t2, p2, a2, atI_nat rfl, h2, b.2.1⟩
  · exact ⟨t3, p3, a3, atI_nat rfl, h3, b.2.2⟩
def dS (rs ls : List Nat) : PyData := .tuple [.tuple (rs.map dN), .tuple (ls.map dN)]
theorem shp_std {rs ls : List Nat} : SeqAt.shaped (dS rs ls) = true := by
  unfold SeqAt.shaped dS
  simp only [PyData.canLay0, PyData.canLayAll0, PyData.depth, PyData.depthAll, lay_nats, dep_nats]
  rfl
theorem StdAt.dp {K : PySem.W.Frag} {H : Hp} {u x y : Addr} {rs ls : List Nat} (S : StdAt K H u x y rs ls) : Dp K H (.ref u) (dS rs ls) := .tup S.t (.cons (.tup S.x dp_nats) (.cons (.tup S.y dp_nats) .nil))
theorem BehindR.uniq {es : Es} {rs ls rs1 ls1 rs2 ls2 : List Nat} {ev : Evn} (h1 : BehindR es rs ls ev rs1 ls1) (h2 : BehindR es rs ls ev rs2 ls2) : rs1 = rs2 ∧ ls1 = ls2 :=
  ⟨lot_eq h1.rp h2.rp fun v => by rw [h1.rm, h2.rm], lot_eq h1.lp h2.lp fun v => by rw [h1.lm, h2.lm]⟩
theorem BehindR.nil {es : Es} {rs ls : List Nat} (hr : rs.Pairwise (· < ·)) (hl : ls.Pairwise (· < ·)) : BehindR es rs ls [] rs ls :=
  ⟨hr, hl, fun v => ⟨.inl, fun h => h.elim id fun ⟨_, _, z, _⟩ => (List.not_mem_nil z).elim⟩, fun l => ⟨.inl, fun h => h.elim id fun z => (List.not_mem_nil z).elim⟩⟩
theorem BehindR.snoc {es : Es} {rs ls rs1 ls1 rs2 ls2 : List Nat} {ev : Evn} {kb : Nat × Bool} (h1 : BehindR es rs ls ev rs1 ls1) (h2 : BehindR es rs1 ls1 [kb] rs2 ls2) : BehindR es rs ls (ev ++ [kb]) rs2 ls2 where
  rp := h2.rp
  lp := h2.lp
  rm := fun v => by
    rw [h2.rm, h1.rm]
    constructor
    · rintro ((h | ⟨k, e, a, b⟩) | ⟨k, e, a, b⟩)
      · exact .inl h
      · exact .inr ⟨k, e, List.mem_append_left _ a, b⟩
      · exact .inr ⟨k, e, List.mem_append_right _ a, b⟩
    · rintro (h | ⟨k, e, a, b⟩)
      · exact .inl (.inl h)
      · rcases List.mem_append.mp a with a | a
        · exact .inl (.inr ⟨k, e, a, b⟩)
        · exact .inr ⟨k, e, a, b⟩
  lm := fun l => by
    rw [h2.lm, h1.lm, List.mem_append]
    exact or_assoc

/-- no tuple: of a plain kind, or an instance -/
inductive NoT (K : PySem.W.Frag) (H : Hp) : V → Prop
  | k0 {v : V} (h : Kn0 K H v) : NoT K H v
  | ins {a C dx : Addr} {fs : List (Str × V)} (e : H a = some (.ins C dx fs)) (o : OwnC K C) : NoT K H (.ref a)
/-- what isinstance tells of it -/
structure KnW (K : PySem.W.Frag) (H : Hp) (v : V) (s : String) : Prop where
  ex : ∃ T, TyX K H v T ∧ PySem.W.kitOne K T (.type "tuple") = some (s == "tuple") ∧ PySem.W.kitOne K T (.type "int") = some (s == "int" || s == "bool") ∧ PySem.W.kitOne K T (.type "bool") = some (s == "bool")
  ii : isI v = (s == "int")
theorem Kn.wid {K : PySem.W.Frag} {H : Hp} {v : V} {s : String} (h : Kn K H v s) : KnW K H v s := ⟨⟨_, h.ty, kit_tuple h.mem, kit_int h.mem, kit_bool h.mem⟩, kn_int h⟩
theorem NoT.knw {K : PySem.W.Frag} {H : Hp} {v : V} (h : NoT K H v) : ∃ s, KnW K H v s ∧ (s == "tuple") = false := by
  cases h with
  | k0 h =>
    obtain ⟨s, h1, h2⟩ := h.kn
    exact ⟨s, h1.wid, h2⟩
  | ins e o => exact ⟨"object", ⟨⟨_, .base (.ins e o.cl o.ha o.hn o.htk o.hm), o.kt, o.ki, o.kb⟩, rfl⟩, by decide⟩
theorem NoT.same {K : PySem.W.Frag} {H H' : Hp} {v : V} (s : Same H H') (h : NoT K H v) : NoT K H' v := by
  cases h with
  | k0 h => exact .k0 (h.same s)
  | ins e o => exact .ins (s _ _ e) o
theorem NoT.updl {K : PySem.W.Frag} {H : Hp} {l : Addr} {ys zs : List V} {v : V} (hl : H l = some (.lst ys)) (h : NoT K H v) : NoT K (upd H l (.lst zs)) v := by
  cases h with
  | k0 h => exact .k0 (h.updl hl)
  | ins e o => exact .ins (by rw [upd_ne (ne_of e hl (by intro z; cases z))]; exact e) o
theorem NoT.dr {K : PySem.W.Frag} {F H H' : Hp} {h : Addr} {v : V} (d : Dr F H H' h) (hA : HandAt F H h) (k : NoT K H v) : NoT K H' v := by
  obtain ⟨c, cells, i, r, s', k', h1, _⟩ := hA.ob
  cases k with
  | k0 k => exact .k0 (k.dr d hA)
  | ins e o => exact .ins (d.same _ _ (ne_of e h1 (by intro z; cases z)) e) o
/-- of a known kind -/
def Any3 (K : PySem.W.Frag) (H : Hp) (v : V) : Prop := NoT K H v ∨ ∃ a xs, v = .ref a ∧ SqT K H a xs
theorem Any3.knw {K : PySem.W.Frag} {H : Hp} {v : V} (h : Any3 K H v) : ∃ s, KnW K H v s := by
  rcases h with h | ⟨a, xs, rfl, h⟩
  · obtain ⟨s, h1, _⟩ := h.knw
    exact ⟨s, h1⟩
  · exact ⟨"tuple", (kn_of_tup h).wid⟩
theorem Any3.same {K : PySem.W.Frag} {H H' : Hp} {v : V} (s : Same H H') (h : Any3 K H v) : Any3 K H' v := by
  rcases h with h | ⟨a, xs, rfl, h⟩
  · exact .inl (h.same s)
  · exact .inr ⟨a, xs, rfl, Same.sqt s h⟩
theorem Any3.updl {K : PySem.W.Frag} {H : Hp} {l : Addr} {ys zs : List V} {v : V} (hl : H l = some (.lst ys)) (h : Any3 K H v) : Any3 K (upd H l (.lst zs)) v := by
  rcases h with h | ⟨a, xs, rfl, h⟩
  · exact .inl (h.updl hl)
  · exact .inr ⟨a, xs, rfl, sqt_upd hl h⟩
theorem Any3.dr {K : PySem.W.Frag} {F H H' : Hp} {h : Addr} {v : V} (d : Dr F H H' h) (hA : HandAt F H h) (k : Any3 K H v) : Any3 K H' v := by
  rcases k with k | ⟨a, xs, rfl, k⟩
  · exact .inl (k.dr d hA)
  · exact .inr ⟨a, xs, rfl, d.sqt hA k⟩
theorem Any3.int {K : PySem.W.Frag} {H : Hp} (i : Int) : Any3 K H (.int i) := .inl (.k0 (.int i))
theorem any_nat {K : PySem.W.Frag} {H : Hp} {ls : List Nat} : ∀ x ∈ ls.map nV, Any3 K H x := fun x hx => by
  obtain ⟨z, _, rfl⟩ := List.mem_map.mp hx
  exact .int _
/-- a tuple of at most n things of a known kind -/
def TupA (K : PySem.W.Frag) (H : Hp) (v : V) (n : Nat) : Prop := ∃ a xs, v = .ref a ∧ SqT K H a xs ∧ xs.length ≤ n ∧ ∀ x ∈ xs, Any3 K H x
theorem TupA.same {K : PySem.W.Frag} {H H' : Hp} {v : V} {n : Nat} (h : TupA K H v n) (s : Same H H') : TupA K H' v n := by
  obtain ⟨a, xs, rfl, h1, h2, h3⟩ := h
  exact ⟨a, xs, rfl, Same.sqt s h1, h2, fun x hx => (h3 x hx).same s⟩
theorem TupA.updl {K : PySem.W.Frag} {H : Hp} {l : Addr} {ys zs : List V} {v : V} {n : Nat} (hl : H l = some (.lst ys)) (h : TupA K H v n) : TupA K (upd H l (.lst zs)) v n := by
  obtain ⟨a, xs, rfl, h1, h2, h3⟩ := h
  exact ⟨a, xs, rfl, sqt_upd hl h1, h2, fun x hx => (h3 x hx).updl hl⟩
theorem TupA.dr {K : PySem.W.Frag} {F H H' : Hp} {h : Addr} {v : V} {n : Nat} (d : Dr F H H' h) (hA : HandAt F H h) (k : TupA K H v n) : TupA K H' v n := by
  obtain ⟨a, xs, rfl, h1, h2, h3⟩ := k
  exact ⟨a, xs, rfl, d.sqt hA h1, h2, fun x hx => (h3 x hx).dr d hA⟩
/-- what may be asked whether it is a lot -/
def LL3 (K : PySem.W.Frag) (H : Hp) (v : V) : Prop := NoT K H v ∨ TupA K H v 1000
theorem LL3.any {K : PySem.W.Frag} {H : Hp} {v : V} (h : LL3 K H v) : Any3 K H v := h.imp id fun ⟨a, xs, e, h1, _⟩ => ⟨a, xs, e, h1⟩
theorem LL3.same {K : PySem.W.Frag} {H H' : Hp} {v : V} (s : Same H H') (h : LL3 K H v) : LL3 K H' v := h.imp (·.same s) (·.same s)
theorem LL3.updl {K : PySem.W.Frag} {H : Hp} {l : Addr} {ys zs : List V} {v : V} (hl : H l = some (.lst ys)) (h : LL3 K H v) : LL3 K (upd H l (.lst zs)) v := h.imp (·.updl hl) (TupA.updl hl)
theorem LL3.dr {K : PySem.W.Frag} {F H H' : Hp} {h : Addr} {v : V} (d : Dr F H H' h) (hA : HandAt F H h) (k : LL3 K H v) : LL3 K H' v := k.imp (·.dr d hA) (TupA.dr d hA)
theorem LL3.k0 {K : PySem.W.Frag} {H : Hp} {v : V} (h : Kn0 K H v) : LL3 K H v := .inl (.k0 h)
/-- a tuple of at most n things that may be asked whether they are lots -/
def TupL (K : PySem.W.Frag) (H : Hp) (v : V) (n : Nat) : Prop := ∃ a xs, v = .ref a ∧ SqT K H a xs ∧ xs.length ≤ n ∧ ∀ x ∈ xs, LL3 K H x
theorem TupL.same {K : PySem.W.Frag} {H H' : Hp} {v : V} {n : Nat} (h : TupL K H v n) (s : Same H H') : TupL K H' v n := by
  obtain ⟨a, xs, rfl, h1, h2, h3⟩ := h
  exact ⟨a, xs, rfl, Same.sqt s h1, h2, fun x hx => (h3 x hx).same s⟩
theorem TupL.updl {K : PySem.W.Frag} {H : Hp} {l : Addr} {ys zs : List V} {v : V} {n : Nat} (hl : H l = some (.lst ys)) (h : TupL K H v n) : TupL K (upd H l (.lst zs)) v n := by
  obtain ⟨a, xs, rfl, h1, h2, h3⟩ := h
  exact ⟨a, xs, rfl, sqt_upd hl h1, h2, fun x hx => (h3 x hx).updl hl⟩
theorem TupL.dr {K : PySem.W.Frag} {F H H' : Hp} {h : Addr} {v : V} {n : Nat} (d : Dr F H H' h) (hA : HandAt F H h) (k : TupL K H v n) : TupL K H' v n := by
  obtain ⟨a, xs, rfl, h1, h2, h3⟩ := k
  exact ⟨a, xs, rfl, d.sqt hA h1, h2, fun x hx => (h3 x hx).dr d hA⟩
theorem TupL.tupA {K : PySem.W.Frag} {H : Hp} {v : V} {n : Nat} (h : TupL K H v n) : TupA K H v n := by
  obtain ⟨a, xs, rfl, h1, h2, h3⟩ := h
  exact ⟨a, xs, rfl, h1, h2, fun x hx => (h3 x hx).any⟩
theorem TupL.mono {K : PySem.W.Frag} {H : Hp} {v : V} {n m : Nat} (h : TupL K H v n) (hm : n ≤ m) : TupL K H v m := by
  obtain ⟨a, xs, rfl, h1, h2, h3⟩ := h
  exact ⟨a, xs, rfl, h1, by omega, h3⟩
/-- what may be asked whether it is a standing -/
def SL3 (K : PySem.W.Frag) (H : Hp) (v : V) : Prop := NoT K H v ∨ TupL K H v 1000
theorem SL3.ll {K : PySem.W.Frag} {H : Hp} {v : V} (h : SL3 K H v) : LL3 K H v := h.imp id (·.tupA)
theorem SL3.same {K : PySem.W.Frag} {H H' : Hp} {v : V} (s : Same H H') (h : SL3 K H v) : SL3 K H' v := h.imp (·.same s) (·.same s)
theorem SL3.updl {K : PySem.W.Frag} {H : Hp} {l : Addr} {ys zs : List V} {v : V} (hl : H l = some (.lst ys)) (h : SL3 K H v) : SL3 K (upd H l (.lst zs)) v := h.imp (·.updl hl) (TupL.updl hl)
theorem SL3.dr {K : PySem.W.Frag} {F H H' : Hp} {h : Addr} {v : V} (d : Dr F H H' h) (hA : HandAt F H h) (k : SL3 K H v) : SL3 K H' v := k.imp (·.dr d hA) (TupL.dr d hA)
theorem SL3.k0 {K : PySem.W.Frag} {H : Hp} {v : V} (h : Kn0 K H v) : SL3 K H v := .inl (.k0 h)
/-- what may be handed in where a lot is asked for: the items, if it is a tuple -/
def LotT (K : PySem.W.Frag) (H : Hp) (v : V) : Option (List V) → Prop
  | none => NoT K H v
  | some xs => ∃ q, v = .ref q ∧ SqT K H q xs ∧ xs.length ≤ 1000 ∧ ∀ x ∈ xs, Any3 K H x
theorem LotT.same {K : PySem.W.Frag} {H H' : Hp} {v : V} {o : Option (List V)} (s : Same H H') (h : LotT K H v o) : LotT K H' v o := by
  cases o with
  | none => exact NoT.same s h
  | some xs =>
    obtain ⟨q, e, h1, h2, h3⟩ := h
    exact ⟨q, e, Same.sqt s h1, h2, fun x hx => (h3 x hx).same s⟩
theorem LL3.lot {K : PySem.W.Frag} {H : Hp} {v : V} (h : LL3 K H v) : ∃ o, LotT K H v o := by
  rcases h with h | ⟨a, xs, rfl, h1, h2, h3⟩
  · exact ⟨none, h⟩
  · exact ⟨some xs, a, rfl, h1, h2, h3⟩
/-- what may be handed in as a standing; R tells whether it is one -/
def StdRes (K : PySem.W.Frag) (H : Hp) (n : Nat) (es : Es) (gs : List Nat) (v : V) (R : Prop) : Prop :=
  (NoT K H v ∧ ¬ R) ∨ ((∃ t xs, v = .ref t ∧ SqT K H t xs ∧ xs.length ≠ 2) ∧ ¬ R) ∨
  ∃ t a1 a2 o1 o2, v = .ref t ∧ SqT K H t [a1, a2] ∧ LotT K H a1 o1 ∧ LotT K H a2 o2 ∧ (R ↔ ∃ rs ls : List Nat, o1 = some (rs.map nV) ∧ o2 = some (ls.map nV) ∧ StdOk n es gs rs ls)
theorem StdRes.same {K : PySem.W.Frag} {H H' : Hp} {n : Nat} {es : Es} {gs : List Nat} {v : V} {R : Prop} (s : Same H H') (h : StdRes K H n es gs v R) : StdRes K H' n es gs v R := by
  rcases h with ⟨h, nr⟩ | ⟨⟨t, xs, e, h, hl⟩, nr⟩ | ⟨t, a1, a2, o1, o2, e, h, h1, h2, h3⟩
  · exact .inl ⟨h.same s, nr⟩
  · exact .inr (.inl ⟨⟨t, xs, e, Same.sqt s h, hl⟩, nr⟩)
  · exact .inr (.inr ⟨t, a1, a2, o1, o2, e, Same.sqt s h, h1.same s, h2.same s, h3⟩)
theorem StdRes.of {K : PySem.W.Frag} {H : Hp} {n : Nat} {es : Es} {gs : List Nat} {t x y : Addr} {rs ls : List Nat} (S : StdAt K H t x y rs ls) (o : StdOk n es gs rs ls) (h1 : rs.length ≤ 1000) (h2 : ls.length ≤ 1000) : StdRes K H n es gs (.ref t) True :=
  .inr (.inr ⟨t, _, _, some (rs.map nV), some (ls.map nV), rfl, S.t, ⟨x, rfl, S.x, by rw [List.length_map]; exact h1, any_nat⟩, ⟨y, rfl, S.y, by rw [List.length_map]; exact h2, any_nat⟩, ⟨fun _ => ⟨rs, ls, rfl, rfl, o⟩, fun _ => trivial⟩⟩)
theorem SL3.res {K : PySem.W.Frag} {H : Hp} {n : Nat} {es : Es} {gs : List Nat} {v : V} (h : SL3 K H v) : ∃ R : Prop, StdRes K H n es gs v R := by
  rcases h with h | ⟨a, xs, rfl, h1, h2, h3⟩
  · exact ⟨False, .inl ⟨h, id⟩⟩
  · by_cases hl : xs.length = 2
    · obtain ⟨a1, a2, rfl⟩ : ∃ a1 a2, xs = [a1, a2] := by
        match xs, hl with
        | [a, b], _ => exact ⟨a, b, rfl⟩
      obtain ⟨o1, k1⟩ := (h3 a1 List.mem_cons_self).lot
      obtain ⟨o2, k2⟩ := (h3 a2 (List.mem_cons_of_mem _ List.mem_cons_self)).lot
      exact ⟨_, .inr (.inr ⟨a, a1, a2, o1, o2, rfl, h1, k1, k2, Iff.rfl⟩)⟩
    · exact ⟨False, .inr (.inl ⟨⟨a, xs, rfl, h1, hl⟩, id⟩)⟩
/-- a standing that is one stands in the heap -/
theorem StdRes.at_ {K : PySem.W.Frag} {H : Hp} {n : Nat} {es : Es} {gs : List Nat} {v : V} {R : Prop} (h : StdRes K H n es gs v R) (r : R) : ∃ t x y rs ls, v = .ref t ∧ StdAt K H t x y rs ls ∧ StdOk n es gs rs ls := by
  rcases h with ⟨_, nr⟩ | ⟨_, nr⟩ | ⟨t, a1, a2, o1, o2, e, h, h1, h2, h3⟩
  · exact absurd r nr
  · exact absurd r nr
  · obtain ⟨rs, ls, rfl, rfl, o⟩ := h3.mp r
    obtain ⟨x, rfl, hx, _⟩ := h1
    obtain ⟨y, rfl, hy, _⟩ := h2
    exact ⟨t, x, y, rs, ls, e, ⟨h, hx, hy⟩, o⟩
theorem sl_tl {K : PySem.W.Frag} {H : Hp} {v : V} {n : Nat} {lo hi : Option Int} {Q : VK} (h : TupL K H v n) (q : ∀ d H', Same H H' → TupL K H' d n → Q d H') : rSlA K v lo hi H Q := by
  obtain ⟨a, xs, rfl, h1, h2, h3⟩ := h
  refine ⟨a, xs, rfl, h1, fun _ => q _ H (Same.refl H) ⟨a, xs, rfl, h1, h2, h3⟩, fun _ p np => ?_⟩
  have s := same_new (o := .tup (cutV xs lo hi)) (Same.refl H) np
  refine q _ _ s ⟨p, _, rfl, sqt upd_same, ?_, fun x hx => (h3 x ?_).same s⟩
  · unfold cutV
    rw [List.length_take, List.length_drop]
    omega
  · unfold cutV at hx
    first
      | exact List.mem_of_mem_drop (List.mem_of_mem_take hx)
      | exact List.mem_of_mem_take (List.mem_of_mem_drop hx)
theorem cat_tl {K : PySem.W.Frag} {H : Hp} {x y : V} {n m : Nat} {Q : VK} (hx : TupL K H x n) (hy : TupL K H y m) (hl : n + m ≤ 1000) (q : ∀ d H', Same H H' → TupL K H' d (n + m) → Q d H') : rCatA K x y H Q := by
  obtain ⟨a, xs, rfl, h1, h2, h3⟩ := hx
  obtain ⟨b, ys, rfl, k1, k2, k3⟩ := hy
  refine ⟨a, b, xs, ys, rfl, rfl, h1, k1, small_sz (by omega), fun e => q _ H (Same.refl H) ⟨b, ys, rfl, k1, by omega, k3⟩, fun _ e => q _ H (Same.refl H) ⟨a, xs, rfl, h1, by omega, h3⟩, fun _ _ p np => ?_⟩
  have s := same_new (o := .tup (xs ++ ys)) (Same.refl H) np
  refine q _ _ s ⟨p, _, rfl, sqt upd_same, by rw [List.length_append]; omega, fun z hz => ?_⟩
  rcases List.mem_append.mp hz with hz | hz
  · exact (h3 z hz).same s
  · exact (k3 z hz).same s
theorem tup1_tl {K : PySem.W.Frag} {H : Hp} {p : Addr} {x : V} (np : H p = none) (hx : LL3 K H x) : TupL K (upd H p (.tup [x])) (.ref p) 1 :=
  ⟨p, _, rfl, sqt upd_same, Nat.le_refl _, fun z hz => by rw [List.mem_singleton.mp hz]; exact hx.same (same_new (Same.refl H) np)⟩
theorem tupn_tl {K : PySem.W.Frag} {H : Hp} {p : Addr} {xs : List V} {n : Nat} (np : H p = none) (hl : xs.length ≤ n) (hx : ∀ x ∈ xs, LL3 K H x) : TupL K (upd H p (.tup xs)) (.ref p) n :=
  ⟨p, _, rfl, sqt upd_same, hl, fun z hz => (hx z hz).same (same_new (Same.refl H) np)⟩
theorem tup0_tl {K : PySem.W.Frag} {H : Hp} {p : Addr} : TupL K (upd H p (.tup [])) (.ref p) 0 := ⟨p, [], rfl, sqt upd_same, Nat.le_refl _, fun _ h => (List.not_mem_nil h).elim⟩
theorem ll_nat {K : PySem.W.Frag} {H : Hp} {ls : List Nat} : ∀ x ∈ ls.map nV, LL3 K H x := fun x hx => by
  obtain ⟨z, _, rfl⟩ := List.mem_map.mp hx
  exact .k0 (.int _)
theorem TupL.sl {K : PySem.W.Frag} {H : Hp} {v : V} {n : Nat} (h : TupL K H v n) (hn : n ≤ 1000) : SL3 K H v := .inr (h.mono hn)
theorem TupL.ll {K : PySem.W.Frag} {H : Hp} {v : V} {n : Nat} (h : TupL K H v n) (hn : n ≤ 1000) : LL3 K H v := (h.sl hn).ll
/-- all of them may be asked whether they are standings -/
def Sls (K : PySem.W.Frag) (H : Hp) (vs : List V) : Prop := ∀ v ∈ vs, SL3 K H v
theorem Sls.same {K : PySem.W.Frag} {H H' : Hp} {vs : List V} (h : Sls K H vs) (s : Same H H') : Sls K H' vs := fun v hv => (h v hv).same s
theorem Sls.dr {K : PySem.W.Frag} {F H H' : Hp} {h : Addr} {vs : List V} (k : Sls K H vs) (d : Dr F H H' h) (hA : HandAt F H h) : Sls K H' vs := fun v hv => (k v hv).dr d hA
theorem Sls.updl {K : PySem.W.Frag} {H : Hp} {l : Addr} {ys zs : List V} {vs : List V} (k : Sls K H vs) (hl : H l = some (.lst ys)) : Sls K (upd H l (.lst zs)) vs := fun v hv => (k v hv).updl hl
theorem Sls.snoc {K : PySem.W.Frag} {H : Hp} {v : V} {vs : List V} (hs : Sls K H vs) (h : SL3 K H v) : Sls K H (vs ++ [v]) := fun x hx => by
  rcases List.mem_append.mp hx with hx | hx
  · exact hs x hx
  · rw [List.mem_singleton.mp hx]
    exact h
theorem Sls.app {K : PySem.W.Frag} {H : Hp} {vs ws : List V} (h : Sls K H vs) (hs : Sls K H ws) : Sls K H (vs ++ ws) := fun x hx => by
  rcases List.mem_append.mp hx with hx | hx
  · exact h x hx
  · exact hs x hx
theorem sls_nil {K : PySem.W.Frag} {H : Hp} : Sls K H [] := fun _ h => (List.not_mem_nil h).elim
theorem fm_but {j : Nat} : ∀ {W : List Nat}, W.filterMap (fun k => if k = j then none else some (nV k)) = (W.filter fun k => decide (k ≠ j)).map nV
  | [] => rfl
  | k :: r => by
    rw [List.filterMap_cons, List.filter_cons, fm_but (W := r)]
    by_cases e : k = j
    · rw [if_pos e, if_neg (by rw [decide_eq_true_iff]; exact fun z => z e)]
    · rw [if_neg e, if_pos (decide_eq_true e)]
      rfl
theorem LotT.dr {K : PySem.W.Frag} {F H H' : Hp} {h : Addr} {v : V} {o : Option (List V)} (d : Dr F H H' h) (hA : HandAt F H h) (k : LotT K H v o) : LotT K H' v o := by
  cases o with
  | none => exact NoT.dr d hA k
  | some xs =>
    obtain ⟨q, e, h1, h2, h3⟩ := k
    exact ⟨q, e, d.sqt hA h1, h2, fun x hx => (h3 x hx).dr d hA⟩
theorem StdRes.dr {K : PySem.W.Frag} {F H H' : Hp} {h : Addr} {n : Nat} {es : Es} {gs : List Nat} {v : V} {R : Prop} (d : Dr F H H' h) (hA : HandAt F H h) (k : StdRes K H n es gs v R) : StdRes K H' n es gs v R := by
  rcases k with ⟨k, nr⟩ | ⟨⟨t, xs, e, k, hl⟩, nr⟩ | ⟨t, a1, a2, o1, o2, e, k, h1, h2, h3⟩
  · exact .inl ⟨k.dr d hA, nr⟩
  · exact .inr (.inl ⟨⟨t, xs, e, d.sqt hA k, hl⟩, nr⟩)
  · exact .inr (.inr ⟨t, a1, a2, o1, o2, e, d.sqt hA k, h1.dr d hA, h2.dr d hA, h3⟩)
theorem no_std2 {K : PySem.W.Frag} {H : Hp} {n : Nat} {es : Es} {gs : List Nat} {t : Addr} {a1 a2 : V} {o1 o2 : Option (List V)} (h : SqT K H t [a1, a2]) (h1 : LotT K H a1 o1) (h2 : LotT K H a2 o2)
    (no : ∀ rs ls : List Nat, o1 = some (rs.map nV) → o2 = some (ls.map nV) → False) : StdRes K H n es gs (.ref t) False :=
  .inr (.inr ⟨t, a1, a2, o1, o2, rfl, h, h1, h2, ⟨False.elim, fun ⟨rs, ls, e1, e2, _⟩ => no rs ls e1 e2⟩⟩)
/-- nested at least k deep -/
def Nst (K : PySem.W.Frag) (H : Hp) : Nat → V → Prop
  | 0, v => Any3 K H v
  | k + 1, v => ∃ a, v = .ref a ∧ ((∃ xs, H a = some (.lst xs)) ∨ (∃ kvs, H a = some (.dK kvs)) ∨ (∃ x, SqT K H a [x] ∧ Nst K H k x) ∨ ∃ x e, SqT K H a [x, .ref e] ∧ SqT K H e [] ∧ Nst K H k x)
theorem Nst.same {K : PySem.W.Frag} {H H' : Hp} (s : Same H H') : ∀ {k : Nat} {v : V}, Nst K H k v → Nst K H' k v
  | 0, _, h => Any3.same s h
  | k + 1, _, ⟨a, e, h⟩ => ⟨a, e, by
    rcases h with ⟨xs, h⟩ | ⟨kvs, h⟩ | ⟨x, h, hx⟩ | ⟨x, e, h, he, hx⟩
    · exact .inl ⟨xs, s _ _ h⟩
    · exact .inr (.inl ⟨kvs, s _ _ h⟩)
    · exact .inr (.inr (.inl ⟨x, Same.sqt s h, hx.same s⟩))
    · exact .inr (.inr (.inr ⟨x, e, Same.sqt s h, Same.sqt s he, hx.same s⟩))⟩
theorem Nst.any {K : PySem.W.Frag} {H : Hp} : ∀ {k : Nat} {v : V}, Nst K H k v → Any3 K H v
  | 0, _, h => h
  | k + 1, _, ⟨a, e, h⟩ => by
    subst e
    rcases h with ⟨xs, h⟩ | ⟨kvs, h⟩ | ⟨x, h, _⟩ | ⟨x, e, h, _⟩
    · exact .inl (.k0 (.lst h))
    · exact .inl (.k0 (.dic h))
    · exact .inr ⟨a, _, rfl, h⟩
    · exact .inr ⟨a, _, rfl, h⟩
theorem ref_no {a : Addr} {xs : List V} {rs : List Nat} : some (V.ref a :: xs) ≠ some (rs.map nV) := fun z => by
  have z := Option.some.inj z
  cases rs with
  | nil => cases z
  | cons r rs =>
    injection z with z _
    cases z
theorem lotE {K : PySem.W.Frag} {H : Hp} {e : Addr} (h : SqT K H e []) : LotT K H (.ref e) (some []) := ⟨e, rfl, h, Nat.zero_le _, fun _ z => (List.not_mem_nil z).elim⟩
/-- something deep is no lot -/
theorem Nst.lot {K : PySem.W.Frag} {H : Hp} {k : Nat} {v : V} (h : Nst K H (k + 2) v) : ∃ o, LotT K H v o ∧ ∀ rs : List Nat, o ≠ some (rs.map nV) := by
  obtain ⟨a, rfl, h⟩ := h
  rcases h with ⟨xs, h⟩ | ⟨kvs, h⟩ | ⟨x, h, hx⟩ | ⟨x, e, h, he, hx⟩
  · exact ⟨none, NoT.k0 (.lst h), fun rs z => by cases z⟩
  · exact ⟨none, NoT.k0 (.dic h), fun rs z => by cases z⟩
  · obtain ⟨b, rfl, _⟩ := id hx
    exact ⟨some [.ref b], ⟨a, rfl, h, by show 1 ≤ 1000; decide, fun z hz => by rw [List.mem_singleton.mp hz]; exact hx.any⟩, fun rs => ref_no⟩
  · obtain ⟨b, rfl, _⟩ := id hx
    refine ⟨some [.ref b, .ref e], ⟨a, rfl, h, by show 2 ≤ 1000; decide, fun z hz => ?_⟩, fun rs => ref_no⟩
    rcases List.mem_cons.mp hz with rfl | hz
    · exact hx.any
    · rw [List.mem_singleton.mp hz]
      exact .inr ⟨e, _, rfl, he⟩
/-- something deep is no standing -/
theorem Nst.no {K : PySem.W.Frag} {H : Hp} {n : Nat} {es : Es} {gs : List Nat} {k : Nat} {v : V} (h : Nst K H (k + 3) v) : StdRes K H n es gs v False := by
  obtain ⟨a, rfl, h⟩ := h
  rcases h with ⟨xs, h⟩ | ⟨kvs, h⟩ | ⟨x, h, hx⟩ | ⟨x, e, h, he, hx⟩
  · exact .inl ⟨.k0 (.lst h), id⟩
  · exact .inl ⟨.k0 (.dic h), id⟩
  · exact .inr (.inl ⟨⟨a, _, rfl, h, by show 1 ≠ 2; decide⟩, id⟩)
  · obtain ⟨o, h1, h2⟩ := hx.lot
    exact no_std2 h h1 (lotE he) fun rs _ z _ => h2 rs z

def spIsIntegerW (K : PySem.W.Frag) : Sp := fun vs H Q _ => ∃ v, vs = [v] ∧ Any3 K H v ∧ Q (.bl (isI v)) H
theorem okg_is_integer (B : Bt mg) (D0 : Df K mg "is_integer" s_is_integer ["thing"]) : Has P w K mg base "is_integer" 1 ["thing"] (spIsIntegerW K) := by
  refine D0.has fun f fd F => F.ok sc_is_integer (fun vs H Q E h => ?_) (fun cdv A outer s H vs Q E hr h => ?_)
  · obtain ⟨v, rfl, _⟩ := h
    rfl
  · obtain ⟨v, rfl, hv, q⟩ := h
    refine ⟨_, (pss_one (ps_ret (pe_and (pe_callB (k_isi (K := K) rfl) (by rfl) B.isinstance bo_isinstance (pa_cons (pv 0) (pa_cons (pe_bltn (v := .ty "int") (by rfl) B.int bo_int rfl) pa_nil))) (pe_one (pe_not (pe_callB (k_isi (K := K) rfl) (by rfl) B.isinstance bo_isinstance (pa_cons (pv 0) (pa_cons (pe_bltn (v := .ty "bool") (by rfl) B.bool bo_bool rfl) pa_nil)))))))), ?_⟩
    obtain ⟨s, ⟨T, ty, _, ki, kb⟩, e⟩ := hv.knw
    refine ⟨v, rfl, v, .ty "int", _, _, _, rfl, .ty "int", ty, ki, _, rfl, ?_⟩
    by_cases h1 : (s == "int" || s == "bool") = true
    · rw [h1]
      refine iteT ?_
      refine ⟨v, rfl, v, .ty "bool", _, _, _, rfl, .ty "bool", ty, kb, _, rfl, ?_⟩
      have e2 : isI v = !(s == "bool") := by
        rw [e]
        simp only [Bool.or_eq_true, beq_iff_eq] at h1
        rcases h1 with rfl | rfl <;> rfl
      rw [← e2]
      exact q
    · have e2 : isI v = false := by
        rw [e]
        simp only [Bool.or_eq_true, not_or] at h1
        simpa using h1.1
      rw [Bool.eq_false_iff.mpr h1]
      refine iteF ?_
      rw [e2] at q
      exact q

def spAnyLotW (K : PySem.W.Frag) : Sp := fun vs H Q _ => ∃ v : V, vs = [v] ∧
  ((∃ a xs, v = .ref a ∧ SqT K H a xs ∧ (∀ x ∈ xs, Any3 K H x) ∧ Q (.bl (ascFrom (-1) xs)) H) ∨ (NoT K H v ∧ Q (.bl false) H))
theorem okg_is_any_lot (B : Bt mg) (hg_is_integer : Has P w K mg base "is_integer" 1 ["thing"] (spIsIntegerW K)) (D0 : Df K mg "is_any_lot" s_is_any_lot ["thing"]) : Has P w K mg base "is_any_lot" 2 ["thing"] (spAnyLotW K) := by
  have h_is_integer := hg_is_integer
  refine D0.has fun f fd F => F.ok sc_is_any_lot (fun vs H Q E h => ?_) (fun cdv A outer s H vs Q E hr h => ?_)
  · obtain ⟨v, rfl, _⟩ := h
    rfl
  · obtain ⟨v, rfl, h⟩ := h
    refine ⟨_, (pss_cons (ps_if (pt_not (pt_val (pe_callB (k_isi (K := K) rfl) (by rfl) B.isinstance bo_isinstance (pa_cons (pv 0) (pa_cons (pe_bltn (v := .ty "tuple") (by rfl) B.tuple bo_tuple rfl) pa_nil)))))
    (pss_one (ps_ret pe_bl))
    pss_nil)
  (pss_cons (ps_set (i := 1) sc_is_any_lot.nd rfl (.inl rfl) (pe_un un_neg pe_int))
  (pss_cons (ps_for PassesOwn.never rfl (k_pit (K := K) rfl (pv 0)) (pg_name (i := 2) sc_is_any_lot.nd rfl (.inl rfl))
    (pss_cons (ps_if (PW.pt (pw_or (pt_not (pt_val (pcall h_is_integer hr (by decide) (by rfl) (pa_cons (pv 2) pa_nil)))) (pw_or1 (pt_cmpR op_le (pv 2) (pv 1) (nomark _)))))
    (pss_one (ps_ret pe_bl))
    pss_nil)
  (pss_one (ps_set (i := 1) sc_is_any_lot.nd rfl (.inl rfl) (pv 2)))))
  (pss_one (ps_ret pe_bl))))), ?_⟩
    rcases h with ⟨a, xs, rfl, hS, hk, q⟩ | ⟨hv, q⟩
    · refine ⟨_, rfl, _, .ty "tuple", _, _, _, rfl, .ty "tuple", (kn_of_tup hS).ty, kit_tuple (kn_of_tup hS).mem, _, rfl, iteF ?_⟩
      refine ⟨1, rfl, ?_⟩
      refine ⟨_, rfl, a, rfl, ⟨_, hS⟩, ?_⟩
      refine for_tup (xs := xs) (fun i σ H' => H' = H ∧ ∃ last it, σ = [some (.ref a), some (.int last), it] ∧ ascFrom (-1) xs = ascFrom last (xs.drop i)) ⟨rfl, -1, none, rfl, rfl⟩ ?_ ?_ ?_
      · rintro i σ H' _ ⟨rfl, _⟩
        exact hS
      · rintro i x σ H' hx ⟨rfl, last, it, rfl, e⟩
        have hs := hk x (List.mem_of_getElem? hx)
        rw [drop_cons_of hx, ascFrom_cons] at e
        refine ⟨x, rfl, x, rfl, hs, _, rfl, ?_⟩
        cases x with
        | int z =>
          simp only at e
          refine iteF ?_
          refine ⟨_, rfl, _, rfl, z, last, rfl, rfl, _, rfl, ?_⟩
          by_cases h2 : z ≤ last
          · rw [decide_eq_true h2]
            refine iteT ?_
            have e2 : ascFrom (-1) xs = false := by
              rw [e, decide_eq_false (by omega), Bool.false_and]
            rw [e2] at q
            exact q
          · rw [decide_eq_false h2]
            refine iteF ?_
            refine ⟨.int z, rfl, rfl, z, _, rfl, ?_⟩
            rw [e, decide_eq_true (by omega), Bool.true_and]
        | _ =>
          refine iteT (iteT ?_)
          simp only at e
          rw [e] at q
          exact q
      · rintro σ H' ⟨rfl, last, it, rfl, e⟩
        rw [List.drop_length] at e
        have e2 : ascFrom (-1) xs = true := e
        rw [e2] at q
        exact q
    · obtain ⟨s, ⟨⟨T, ty, kt, _⟩, _⟩, hs⟩ := hv.knw
      refine ⟨_, rfl, _, .ty "tuple", _, _, _, rfl, .ty "tuple", ty, kt, _, rfl, ?_⟩
      rw [hs]
      exact iteT q

def spIsLotW (K : PySem.W.Frag) : Sp := fun vs H Q _ => ∃ (v : V) (m : Int), vs = [v, .int m] ∧
  ((∃ a xs, v = .ref a ∧ SqT K H a xs ∧ (∀ x ∈ xs, Any3 K H x) ∧ Q (.bl (lotFrom m (-1) xs)) H) ∨ (NoT K H v ∧ Q (.bl false) H))
theorem okg_is_lot (B : Bt mg) (hg_is_any_lot : Has P w K mg base "is_any_lot" 2 ["thing"] (spAnyLotW K)) (D0 : Df K mg "is_lot" s_is_lot ["thing", "many"]) : Has P w K mg base "is_lot" 3 ["thing", "many"] (spIsLotW K) := by
  have h_is_any_lot := hg_is_any_lot
  refine D0.has fun f fd F => F.ok sc_is_lot (fun vs H Q E h => ?_) (fun cdv A outer s H vs Q E hr h => ?_)
  · obtain ⟨v, m, rfl, _⟩ := h
    rfl
  · obtain ⟨v, m, rfl, h⟩ := h
    refine ⟨_, (pss_one (ps_ret (pe_and (pcall h_is_any_lot hr (by decide) (by rfl) (pa_cons (pv 0) pa_nil)) (pe_one (pe_or (pe_cmpR op_eq (pe_callB (k_len (K := K) rfl) (by rfl) B.len bo_len (pa_cons (pv 0) pa_nil)) pe_int (nomark _)) (pe_one (pe_cmpR op_lt (pe_ix (k_ixt (K := K) rfl) (pv 0) (pe_un un_neg pe_int) (fun _ _ => rfl)) (pv 1) (nomark _)))))))), ?_⟩
    rcases h with ⟨a, xs, rfl, hS, hk, q⟩ | ⟨hv, q⟩
    · refine ⟨_, rfl, .ref a, rfl, .inl ⟨a, xs, rfl, hS, hk, _, rfl, ?_⟩⟩
      cases e : ascFrom (-1) xs with
      | false =>
        have e2 : lotFrom m (-1) xs = false := by
          rw [Bool.eq_false_iff]
          intro z
          rw [((lot_asc (Int.le_refl _)).mp z).1] at e
          cases e
        rw [e2] at q
        exact iteF q
      | true =>
        refine iteT ?_
        refine ⟨_, rfl, a, _, rfl, .inr hS, rfl, _, rfl, ?_⟩
        rcases List.eq_nil_or_concat xs with rfl | ⟨ys, v, rfl⟩
        · exact iteT q
        · rw [List.concat_eq_append] at *
          obtain ⟨i, rfl, _⟩ := asc_last e v (by simp)
          rw [decide_eq_false (by
            intro z
            injection z with z
            rw [List.length_append, List.length_singleton] at z
            omega)]
          refine iteF ?_
          refine ⟨_, rfl, 1, rfl, a, _, -1, _, rfl, rfl, hS, atI_last _ _, _, rfl, i, m, rfl, rfl, ?_⟩
          have e2 : lotFrom m (-1) (ys ++ [.int i]) = decide (i < m) := by
            rw [Bool.eq_iff_iff, lot_asc (Int.le_refl _), decide_eq_true_eq]
            constructor
            · rintro ⟨_, h⟩
              obtain ⟨j, z, hj⟩ := h (.int i) (by simp)
              cases z
              exact hj
            · intro h
              exact ⟨e, fun z hz => ⟨i, by simpa using hz.symm, h⟩⟩
          rw [e2] at q
          exact q
    · refine ⟨_, rfl, v, rfl, .inr ⟨hv, _, rfl, iteF q⟩⟩

def spStdAny (K : PySem.W.Frag) (C : Addr) : Sp := fun vs H Q _ => ∃ (p : Addr) (n : Nat) (a : Addr) (pvs : List V) (es : Es) (c : Addr) (gs : List Nat) (v : V) (R : Prop), vs = [.ref p, v] ∧ MapOk K C H p n a pvs es c gs ∧ StdRes K H n es gs v R ∧
  ∀ H' (b : Bool), Same H H' → (b = true ↔ R) → Q (.bl b) H'
/-- the items are a lot -/
theorem lot_items {m : Nat} {xs : List V} (h : lotFrom (m : Int) (-1) xs = true) : ∃ gs : List Nat, xs = gs.map nV ∧ (∀ g ∈ gs, g < m) ∧ gs.Pairwise (· < ·) := by
  obtain ⟨gs, e, h1, h2⟩ := lot_nat (by omega) h
  exact ⟨gs, e, fun g hg => by have := (h1 g hg).1; omega, h2⟩
theorem fm_cg {α β : Type} {f g : α → Option β} : ∀ {l : List α}, (∀ x ∈ l, f x = g x) → l.filterMap f = l.filterMap g
  | [], _ => rfl
  | x :: r, h => by
    rw [List.filterMap_cons, List.filterMap_cons, h x List.mem_cons_self, fm_cg fun y hy => h y (List.mem_cons_of_mem _ hy)]
theorem okg_is_standing {CMap : Addr} (B : Bt mg) (C : MapC K mg CMap) (hg_is_lot : Has P w K mg base "is_lot" 3 ["thing", "many"] (spIsLotW K)) (h_marks : Has P w K mg base "marks" 1 ["many", "lot"] (spMarks K))
    (h_holds_together : Has P w K mg base "holds_together" 3 ["chart", "reached", "rotten"] (spHolds K CMap)) (h_goals_are_open : Has P w K mg base "goals_are_open" 3 ["chart", "rotten"] (spOpen K CMap))
    (h_many : HasM P w K mg base CMap "many" 1 ["self"] (spMany K CMap)) (h_arrows : HasM P w K mg base CMap "arrows" 1 ["self"] (spArrows K CMap))
    (D0 : Df K mg "is_standing" s_is_standing ["chart", "thing"]) : Has P w K mg base "is_standing" 4 ["chart", "thing"] (spStdAny K CMap) := by
  have h_is_lot := hg_is_lot
  refine D0.has fun f fd F => F.ok sc_is_standing (fun vs H Q E h => ?_) (fun cdv A outer s H vs Q E hr h => ?_)
  · obtain ⟨p, n, a, pvs, es, c, gs, v, R, rfl, _⟩ := h
    rfl
  · obtain ⟨p, n, a, pvs, es, c, gs, v, R, rfl, m, hR, q⟩ := h
    refine ⟨_, (pss_cons (ps_if (PW.pt (pw_or (pt_not (pt_val (pe_callB (k_isi (K := K) rfl) (by rfl) B.isinstance bo_isinstance (pa_cons (pv 1) (pa_cons (pe_bltn (v := .ty "tuple") (by rfl) B.tuple bo_tuple rfl) pa_nil))))) (pw_or1 (pt_cmpR op_ne (pe_callB (k_len (K := K) rfl) (by rfl) B.len bo_len (pa_cons (pv 1) pa_nil)) pe_int (nomark _)))))
    (pss_one (ps_ret pe_bl))
    pss_nil)
  (pss_cons (ps_asg (pv 1) (pg_tup rfl (pgs_cons (pg_name (i := 2) sc_is_standing.nd rfl (.inl rfl)) (pgs_cons (pg_name (i := 3) sc_is_standing.nd rfl (.inl rfl)) pgs_nil))))
  (pss_cons (ps_if (PW.pt (pw_or (pt_not (pt_val (pcall h_is_lot hr (by decide) (by rfl) (pa_cons (pv 2) (pa_cons (pe_meth0 (pv 0) C.cl h_many.mt h_many.F (hr.mono (by decide)) h_many.b .nil pass0) pa_nil))))) (pw_or1 (pt_not (pt_val (pcall h_is_lot hr (by decide) (by rfl) (pa_cons (pv 3) (pa_cons (pe_callB (k_len (K := K) rfl) (by rfl) B.len bo_len (pa_cons (pe_meth0 (pv 0) C.cl h_arrows.mt h_arrows.F (hr.mono (by decide)) h_arrows.b .nil pass0) pa_nil)) pa_nil))))))))
    (pss_one (ps_ret pe_bl))
    pss_nil)
  (pss_cons (ps_set (i := 4) sc_is_standing.nd rfl (.inr rfl) (pcall h_marks hr (by decide) (by rfl) (pa_cons (pe_meth0 (pv 0) C.cl h_many.mt h_many.F (hr.mono (by decide)) h_many.b .nil pass0) (pa_cons (pv 2) pa_nil))))
  (pss_cons (ps_if (PW.pt (pw_or (pt_not (pt_val (pe_ix (k_ixl (K := K) rfl) (pv 4) pe_int (fun _ _ => rfl)))) (pw_or1 (pt_not (pt_val (pe_callB (k_all (K := K) rfl rfl) (by rfl) B.all bo_all (pa_cons (pe_lc (own := [("arrow", 5)]) (g := gName 5) rfl sc_is_standing.nd (k_pit (K := K) rfl (pv 3)) (blkOk_by (N := sl_is_standing) (sc := defScope s_is_standing) (by decide +kernel)) (fun _ _ _ _ _ => (pg_name (i := 5) sc_is_standing.nd rfl (.inl rfl))) (fun _ _ _ _ _ => pts_nil) (fun _ _ _ _ _ => (pe_ix (k_ixl (K := K) rfl) (pv 4) (pe_ix (k_ixt (K := K) rfl) (pe_ix (k_ixt (K := K) rfl) (pe_meth0 (pv 0) C.cl h_arrows.mt h_arrows.F (hr.mono (by decide)) h_arrows.b .nil pass0) (pv 5) (fun _ _ => rfl)) pe_int (fun _ _ => rfl)) (fun _ _ => rfl)))) pa_nil)))))))
    (pss_one (ps_ret pe_bl))
    pss_nil)
  (pss_one (ps_ret (pe_and (pcall h_holds_together hr (by decide) (by rfl) (pa_cons (pv 0) (pa_cons (pv 2) (pa_cons (pv 3) pa_nil)))) (pe_one (pcall h_goals_are_open hr (by decide) (by rfl) (pa_cons (pv 0) (pa_cons (pv 3) pa_nil)))))))))))), ?_⟩
    obtain ⟨dx, hp⟩ := m.at_.ob
    have hl := m.pr.len
    have hn1 := m.n1
    have qf : ¬ R → Q (.bl false) H := fun z => q H false (Same.refl H) ⟨fun e => (by cases e), fun e => absurd e z⟩
    rcases hR with ⟨hk, hn⟩ | ⟨⟨t, xs, rfl, hS, hlen⟩, hn⟩ | ⟨t, a1, a2, o1, o2, rfl, hS, hA1, hA2, hR⟩
    · obtain ⟨s, ⟨⟨T, ty, kt, _⟩, _⟩, hs⟩ := hk.knw
      refine ⟨_, rfl, _, .ty "tuple", _, _, _, rfl, .ty "tuple", ty, kt, _, rfl, ?_⟩
      rw [hs]
      exact iteT (iteT (qf hn))
    · refine ⟨_, rfl, _, .ty "tuple", _, _, _, rfl, .ty "tuple", (kn_of_tup hS).ty, kit_tuple (kn_of_tup hS).mem, _, rfl, iteF ?_⟩
      refine ⟨_, rfl, t, _, rfl, .inr hS, rfl, _, rfl, ?_⟩
      have e : (!decide (V.int (xs.length : Int) = V.int 2)) = true := by
        rw [Bool.not_eq_true', decide_eq_false_iff_not]
        intro z
        injection z with z
        omega
      rw [e]
      exact iteT (qf hn)
    · refine ⟨_, rfl, _, .ty "tuple", _, _, _, rfl, .ty "tuple", (kn_of_tup hS).ty, kit_tuple (kn_of_tup hS).mem, _, rfl, iteF ?_⟩
      refine ⟨_, rfl, t, _, rfl, .inr hS, rfl, _, rfl, iteF ?_⟩
      refine ⟨_, rfl, t, _, rfl, hS, rfl, _, _, rfl, _, _, rfl, rfl, ?_⟩
      refine ⟨_, rfl, _, rfl, p, dx, _, rfl, hp, mapF_many _ _ _, p, n, a, pvs, c, gs, rfl, m.at_, a1, (n : Int), rfl, ?_⟩
      -- the first lot
      cases o1 with
      | none =>
        refine .inr ⟨hA1, _, rfl, iteT (iteT (qf fun z => ?_))⟩
        obtain ⟨rs, ls, e, _⟩ := hR.mp z
        cases e
      | some xs1 =>
      obtain ⟨x, rfl, hx, hxl, hxk⟩ := hA1
      refine .inl ⟨x, xs1, rfl, hx, hxk, _, rfl, ?_⟩
      cases hL1 : lotFrom (n : Int) (-1) xs1 with
      | false =>
        refine iteT (iteT (qf fun z => ?_))
        obtain ⟨rs, ls, e, _, o⟩ := hR.mp z
        cases e
        rw [lot_of (fun z hz => ⟨by have := o.rn z hz; omega, by omega⟩) o.rp] at hL1
        cases hL1
      | true =>
      refine iteF ?_
      refine ⟨_, rfl, _, rfl, p, dx, _, rfl, hp, mapF_arrows _ _ _, p, n, a, pvs, c, gs, rfl, m.at_, a, pvs, rfl, .inr m.at_.ar, a2, (pvs.length : Int), rfl, ?_⟩
      cases o2 with
      | none =>
        refine .inr ⟨hA2, _, rfl, iteT (qf fun z => ?_)⟩
        obtain ⟨rs, ls, _, e, _⟩ := hR.mp z
        cases e
      | some xs2 =>
      obtain ⟨y, rfl, hy, hyl, hyk⟩ := hA2
      refine .inl ⟨y, xs2, rfl, hy, hyk, _, rfl, ?_⟩
      cases hL2 : lotFrom (pvs.length : Int) (-1) xs2 with
      | false =>
        refine iteT (qf fun z => ?_)
        obtain ⟨rs, ls, _, e, o⟩ := hR.mp z
        cases e
        rw [lot_of (fun z hz => ⟨by have := o.ln z hz; omega, by omega⟩) o.lp] at hL2
        cases hL2
      | true =>
      refine iteF ?_
      obtain ⟨rs, rfl, hrn, hrp⟩ := lot_items hL1
      obtain ⟨ls, rfl, hln, hlp⟩ := lot_items hL2
      rw [hl] at hln
      have hR2 : R ↔ StdOk n es gs rs ls := by
        rw [hR]
        constructor
        · rintro ⟨rs', ls', e1, e2, o⟩
          rw [nV_inj (Option.some.inj e1), nV_inj (Option.some.inj e2)]
          exact o
        · intro o
          exact ⟨rs, ls, rfl, rfl, o⟩
      rw [List.length_map] at hxl hyl
      -- inside
      refine ⟨_, rfl, p, dx, _, rfl, hp, mapF_many _ _ _, p, n, a, pvs, c, gs, rfl, m.at_, _, rfl, n, x, rs, rfl, hx, hrn, by omega, fun d H1 s1 nd hd => ?_⟩
      have m1 := m.same s1
      have qf1 : ∀ H', Same H H' → ¬ StdOk n es gs rs ls → Q (.bl false) H' := fun H' sm z => q H' false sm ⟨fun e => (by cases e), fun e => absurd (hR2.mp e) z⟩
      refine ⟨_, rfl, d, _, (0 : Nat), _, rfl, rfl, sql hd, atI_nat (mks_get m.n0), _, rfl, ?_⟩
      by_cases h0 : 0 ∈ rs
      · rw [decide_eq_true h0]
        refine iteF ?_
        refine ⟨_, rfl, y, rfl, ⟨_, Same.sqt s1 hy⟩, fun D nD => ?_⟩
        refine lc_val walk_tup calm_at (fun i => (ls[i]?).bind fun l => (es[l]?).bind fun e => some (V.bl (decide (e.1 ∈ rs)))) (by rw [List.length_map]; omega) nD (fun H3 s3 => Same.sqt (s1.trans s3) hy) ?_ fun H3 s3 h3 => ?_
        · rintro i v H3 H4 hi s3 ⟨rfl, hv⟩ Kt kt
          obtain ⟨l, hli, rfl⟩ := getmap hv
          have m3 := m1.same s3
          obtain ⟨dx3, hp3⟩ := m3.at_.ob
          have hln1 := hln l (List.mem_of_getElem? hli)
          have hle : es[l]? = some es[l] := List.getElem?_eq_getElem hln1
          have hlv : pvs[l]? = some pvs[l] := List.getElem?_eq_getElem (by omega)
          obtain ⟨tp, htp, ht⟩ := m3.pr.at_ l _ _ hlv hle
          have h1n := (m.ok _ (List.mem_of_getElem? hle)).1
          refine ⟨rfl, tyes ?_⟩
          refine iteT ?_
          refine ⟨_, rfl, _, rfl, p, dx3, _, rfl, hp3, mapF_arrows _ _ _, p, n, a, pvs, c, gs, rfl, m3.at_, _, rfl, a, pvs, (l : Int), _, rfl, rfl, m3.at_.ar, atI_nat hlv, tp, _, (0 : Nat), _, htp, rfl, ht, atI_nat rfl, d, _, (es[l].1 : Int), _, rfl, rfl, sql (s3 _ _ hd), atI_nat (mks_get h1n), ?_⟩
          have k0 := kt _ (Same.refl _)
          rw [hli] at k0
          simp only [Option.bind_some] at k0
          rw [hle] at k0
          exact k0
        rw [List.length_map, fm_range] at h3
        have e2 : (ls.filterMap fun l => (es[l]?).bind fun e => some (V.bl (decide (e.1 ∈ rs)))) = (ls.map fun l => ((es[l]?).map fun e => decide (e.1 ∈ rs)).getD false).map V.bl := by
          rw [List.map_map, ← fm_some]
          refine fm_cg fun l hl2 => ?_
          show _ = some (V.bl (((es[l]?).map fun e => decide (e.1 ∈ rs)).getD false))
          rw [List.getElem?_eq_getElem (hln l hl2)]
          rfl
        rw [e2] at h3
        refine ⟨D, _, rfl, sql h3, _, rfl, ?_⟩
        have e3 : (ls.map fun l => ((es[l]?).map fun e => decide (e.1 ∈ rs)).getD false).all id = true ↔ ∀ l ∈ ls, ∀ e, es[l]? = some e → e.1 ∈ rs := by
          rw [List.all_eq_true]
          constructor
          · intro h l hl2 e he
            have := h _ (List.mem_map.mpr ⟨l, hl2, rfl⟩)
            rw [he] at this
            exact of_decide_eq_true this
          · intro h z hz
            obtain ⟨l, hl2, rfl⟩ := List.mem_map.mp hz
            have he := List.getElem?_eq_getElem (hln l hl2)
            rw [he]
            exact decide_eq_true (h l hl2 _ he)
        have s13 : Same H H3 := s1.trans s3
        cases hall : (ls.map fun l => ((es[l]?).map fun e => decide (e.1 ∈ rs)).getD false).all id with
        | false =>
          refine iteT (qf1 H3 s13 fun o => ?_)
          rw [e3.mpr o.tl] at hall
          cases hall
        | true =>
        refine iteF ?_
        have htl := e3.mp hall
        have m3 := m.same s13
        refine ⟨_, rfl, _, rfl, _, rfl, p, n, a, pvs, es, c, gs, x, y, rs, ls, rfl, m3, Same.sqt s13 hx, hrn, hxl, Same.sqt s13 hy, hln, fun H5 ok5 s5 hok5 => ?_⟩
        refine ⟨_, rfl, ?_⟩
        have s15 := s13.trans s5
        cases ok5 with
        | false =>
          refine iteF (qf1 H5 s15 fun o => ?_)
          have := hok5.mpr o.hold
          cases this
        | true =>
        refine iteT ⟨_, rfl, _, rfl, p, n, a, pvs, es, c, gs, y, ls, rfl, m3.same s5, Same.sqt s15 hy, hln, fun H6 ok6 s6 hok6 => ?_⟩
        refine q H6 ok6 (s15.trans s6) (hR2.trans ⟨fun o => hok6.mpr o.opn, fun z => ⟨hrp, hlp, hrn, hln, h0, htl, hok5.mp rfl, hok6.mp z⟩⟩).symm
      · rw [decide_eq_false h0]
        refine iteT (iteT (qf1 H1 s1 fun o => h0 o.r0))

/-- check_standing of anything that may be handed in -/
def spCheckAny (K : PySem.W.Frag) (C CS : Addr) : Sp := fun vs H Q E => ∃ (p : Addr) (n : Nat) (a : Addr) (pvs : List V) (es : Es) (c : Addr) (gs : List Nat) (v : V) (R : Prop), vs = [.ref p, v] ∧ MapOk K C H p n a pvs es c gs ∧ StdRes K H n es gs v R ∧
  ∀ H', Same H H' → (R → Q .non H') ∧ (¬ R → E (.ref CS) none H')
theorem okx_check_standing {CMap CNoStanding : Addr} (T_NoStanding : Ex K mg "NoStanding" CNoStanding) (hg_is_standing : Has P w K mg base "is_standing" 4 ["chart", "thing"] (spStdAny K CMap)) (D0 : Df K mg "check_standing" s_check_standing ["chart", "thing"]) : HasX P w K mg base "check_standing" 5 ["chart", "thing"] (spCheckAny K CMap CNoStanding) := by
  refine D0.hasX fun f fd F => F.okX sc_check_standing (fun vs H Q E h => ?_) (fun cdv A outer s H vs Q E hr h => ?_)
  · obtain ⟨p, n, a, pvs, es, c, gs, v, R, rfl, _⟩ := h
    rfl
  · obtain ⟨p, n, a, pvs, es, c, gs, v, R, rfl, m, hR, q⟩ := h
    have h_is_standing := hg_is_standing
    refine ⟨_, (pss_one (ps_if (pt_not (pt_val (pcall h_is_standing hr (by decide) (by rfl) (pa_cons (pv 0) (pa_cons (pv 1) pa_nil)))))
    (pss_one (ps_raise0 T_NoStanding rfl (takes_of rfl rfl rfl rfl) (by rfl)))
    pss_nil)), ?_⟩
    refine ⟨_, rfl, _, rfl, p, n, a, pvs, es, c, gs, v, R, rfl, m, hR, fun H' b s' hb => ⟨_, rfl, ?_⟩⟩
    obtain ⟨q1, q2⟩ := q H' s'
    cases b with
    | true =>
      refine iteF ?_
      exact q1 (hb.mp rfl)
    | false =>
      refine iteT ?_
      exact q2 fun z => Bool.noConfusion (hb.mpr z)

/-- what is refused: no standing, then no unreached place -/
def PlaceOk (n : Nat) (rs : List Nat) (va : V) : Prop := ∃ v : Nat, va = nV v ∧ v < n ∧ v ∉ rs
def spUnrBad (K : PySem.W.Frag) (C CS CP : Addr) : Sp := fun vs H Q E => ∃ (p : Addr) (n : Nat) (a : Addr) (pvs : List V) (es : Es) (c : Addr) (gs : List Nat) (v va : V) (R : Prop) (sa : String), vs = [.ref p, v, va] ∧ MapOk K C H p n a pvs es c gs ∧ StdRes K H n es gs v R ∧
  (∀ H', Same H H' → Kn K H' va sa) ∧ ((¬ R ∧ ∀ H', Same H H' → E (.ref CS) none H') ∨
    (∃ (t x y : Addr) (rs ls : List Nat), R ∧ v = .ref t ∧ At K C H p n a pvs es c gs t x y rs ls ∧ ¬ PlaceOk n rs va ∧ ∀ H', Same H H' → E (.ref CP) none H'))
theorem okx__check_unreached {CMap CNoStanding CNoPlace : Addr} (C : MapC K mg CMap) (T_NoPlace : Ex K mg "NoPlace" CNoPlace) (h_check_unreached : Has P w K mg base "_check_unreached" 6 ["chart", "standing", "place"] (spUnrch K CMap))
    (hX_check_standing : HasX P w K mg base "check_standing" 5 ["chart", "thing"] (spCheckAny K CMap CNoStanding)) (h_is_index : Has P w K mg base "is_index" 2 ["thing", "many"] (spIsIndex K)) (h_many : HasM P w K mg base CMap "many" 1 ["self"] (spMany K CMap))
    (D0 : Df K mg "_check_unreached" s__check_unreached ["chart", "standing", "place"]) : HasX P w K mg base "_check_unreached" 6 ["chart", "standing", "place"] (spOr (spUnrch K CMap) (spUnrBad K CMap CNoStanding CNoPlace)) := by
  refine h_check_unreached.or (D0.hasX fun f fd F => F.okX sc__check_unreached (fun vs H Q E h => ?_) (fun cdv A outer s H vs Q E hr h => ?_))
  · obtain ⟨p, n, a, pvs, es, c, gs, v, va, R, sa, rfl, _⟩ := h
    rfl
  · obtain ⟨p, n, a, pvs, es, c, gs, v, va, R, sa, rfl, m, hR, hka, hq⟩ := h
    refine ⟨_, (pss_cons (ps_expr (pcallS hX_check_standing hr (by decide) (by rfl) (takes_of rfl rfl rfl rfl) (pa_cons (pv 0) (pa_cons (pv 1) pa_nil))))
  (pss_cons (ps_asg (pv 1) (pg_tup rfl (pgs_cons (pg_name (i := 3) sc__check_unreached.nd rfl (.inl rfl)) (pgs_cons (pg_name (i := 4) sc__check_unreached.nd rfl (.inl rfl)) pgs_nil))))
  (pss_one (ps_if (PW.pt (pw_or (pt_not (pt_val (pcall h_is_index hr (by decide) (by rfl) (pa_cons (pv 2) (pa_cons (pe_meth0 (pv 0) C.cl h_many.mt h_many.F (hr.mono (by decide)) h_many.b .nil pass0) pa_nil))))) (pw_or1 (pt_cmpR (k_in (K := K) rfl) (pv 2) (pv 3) (by rfl)))))
    (pss_one (ps_raise0 T_NoPlace rfl (takes_of rfl rfl rfl rfl) (by rfl)))
    pss_nil)))), ?_⟩
    refine ⟨_, rfl, _, rfl, p, n, a, pvs, es, c, gs, v, R, rfl, m, hR, fun H1 s1 => ⟨fun r => ?_, fun nr => ?_⟩⟩
    · rcases hq with ⟨nr, _⟩ | ⟨t, x, y, rs, ls, _, rfl, hA, hno, q⟩
      · exact absurd r nr
      have h1 := hA.same s1
      obtain ⟨dx, hp⟩ := h1.m.at_.ob
      refine ⟨_, rfl, t, _, rfl, h1.S.t, rfl, _, _, rfl, _, _, rfl, rfl, ?_⟩
      refine ⟨_, rfl, _, rfl, p, dx, _, rfl, hp, mapF_many _ _ _, p, n, a, pvs, c, gs, rfl, h1.m.at_, va, sa, (n : Int), rfl, hka H1 s1, _, rfl, ?_⟩
      cases e1 : idxV va (n : Int) with
      | false => exact iteT (iteT (q H1 s1))
      | true =>
        refine iteF ?_
        cases va with
        | int i =>
          have e2 : (decide (0 ≤ i) && decide (i < (n : Int))) = true := e1
          rw [Bool.and_eq_true, decide_eq_true_eq, decide_eq_true_eq] at e2
          obtain ⟨k, rfl⟩ : ∃ k : Nat, i = (k : Int) := ⟨i.toNat, by omega⟩
          have hkr : k ∈ rs := Classical.byContradiction fun z => hno ⟨k, rfl, by omega, z⟩
          refine ⟨_, rfl, _, rfl, x, _, rfl, .inr h1.S.x, rfl, flat_nats _, _, rfl, ?_⟩
          rw [if_neg Bool.false_ne_true, show V.int (k : Int) = nV k from rfl, inV_nats, decide_eq_true hkr]
          exact iteT (q H1 s1)
        | _ => cases e1
    · rcases hq with ⟨_, q⟩ | ⟨t, x, y, rs, ls, r, _⟩
      · exact q H1 s1
      · exact absurd r nr

/-- how far the head of an arrow is from an unreached goal -/
def HD (es : Es) (gs rs ls : List Nat) (k d : Nat) : Prop := ∃ e, es[k]? = some e ∧ Dst (backE es rs ls) (openG gs rs) e.2 d
theorem HD.inj {es : Es} {gs rs ls : List Nat} {k d d' : Nat} (h : HD es gs rs ls k d) (h' : HD es gs rs ls k d') : d = d' := by
  obtain ⟨e, h1, h2⟩ := h
  obtain ⟨e', h3, h4⟩ := h'
  rw [h1] at h3
  cases h3
  exact h2.inj h4
def WorthS (es : Es) (gs rs ls W : List Nat) : Prop := W.Pairwise (· < ·) ∧ ∀ i, i ∈ W ↔ i ∈ triesL es rs ls ∧ ∃ e, es[i]? = some e ∧ Alive es gs rs ls e.2
inductive Nm
  | first
  | last
  | all
  | near
  | far
def Nm.str : Nm → Str
  | .first => "first"
  | .last => "last"
  | .all => "all"
  | .near => "near"
  | .far => "far"
/-- what a named plan sends, where something is worth a try -/
def SentN (es : Es) (gs rs ls W : List Nat) : Nm → List Nat → Prop
  | .all, ds => ds = W
  | .first, ds => ∃ k, ds = [k] ∧ k ∈ W ∧ ∀ j ∈ W, k ≤ j
  | .last, ds => ∃ k, ds = [k] ∧ k ∈ W ∧ ∀ j ∈ W, j ≤ k
  | .near, ds => ∃ k d, ds = [k] ∧ k ∈ W ∧ HD es gs rs ls k d ∧ ∀ j ∈ W, ∀ dj, HD es gs rs ls j dj → d ≤ dj ∧ (dj = d → k ≤ j)
  | .far, ds => ∃ k d, ds = [k] ∧ k ∈ W ∧ HD es gs rs ls k d ∧ ∀ j ∈ W, ∀ dj, HD es gs rs ls j dj → dj ≤ d ∧ (dj = d → k ≤ j)
def SentR (es : Es) (gs rs ls W : List Nat) (nm : Nm) (ds : List Nat) : Prop := (W = [] ∧ ds = []) ∨ (W ≠ [] ∧ SentN es gs rs ls W nm ds)
theorem SentR.uniq {es : Es} {gs rs ls W ds ds' : List Nat} {nm : Nm} (h : SentR es gs rs ls W nm ds) (h' : SentR es gs rs ls W nm ds') : ds = ds' := by
  rcases h with ⟨e, rfl⟩ | ⟨ne, h⟩
  · rcases h' with ⟨_, rfl⟩ | ⟨ne, _⟩
    · rfl
    · exact absurd e ne
  · rcases h' with ⟨e, rfl⟩ | ⟨_, h'⟩
    · exact absurd e ne
    · cases nm with
      | all => exact h.trans h'.symm
      | first =>
        obtain ⟨k, rfl, h1, h2⟩ := h
        obtain ⟨k', rfl, h3, h4⟩ := h'
        rw [Nat.le_antisymm (h2 _ h3) (h4 _ h1)]
      | last =>
        obtain ⟨k, rfl, h1, h2⟩ := h
        obtain ⟨k', rfl, h3, h4⟩ := h'
        rw [Nat.le_antisymm (h4 _ h1) (h2 _ h3)]
      | near =>
        obtain ⟨k, d, rfl, h1, hd, h2⟩ := h
        obtain ⟨k', d', rfl, h3, hd', h4⟩ := h'
        have a := h2 _ h3 _ hd'
        have b := h4 _ h1 _ hd
        have e : d' = d := Nat.le_antisymm b.1 a.1
        rw [Nat.le_antisymm (a.2 e) (b.2 e.symm)]
      | far =>
        obtain ⟨k, d, rfl, h1, hd, h2⟩ := h
        obtain ⟨k', d', rfl, h3, hd', h4⟩ := h'
        have a := h2 _ h3 _ hd'
        have b := h4 _ h1 _ hd
        have e : d' = d := Nat.le_antisymm a.1 b.1
        rw [Nat.le_antisymm (a.2 e) (b.2 e.symm)]
theorem WorthS.len {es : Es} {gs rs ls W : List Nat} (h : WorthS es gs rs ls W) : W.length ≤ es.length - 0 := pw_len h.1 fun z hz => ⟨Nat.zero_le _, by
  obtain ⟨e, he, _⟩ := mem_tries.mp ((h.2 z).mp hz).1
  exact (List.getElem?_eq_some_iff.mp he).1⟩
/-- the first of the least (greatest) -/
theorem first_edge {es : Es} {gs rs ls W : List Nat} (hW : WorthS es gs rs ls W) {F : List Nat} (hF : ∀ (i k d : Nat), W[i]? = some k → F[i]? = some d → HD es gs rs ls k d) (hl : F.length = W.length) {i : Nat} {d k : Nat} (hi : F[i]? = some d) (hk : W[i]? = some k)
    (hno : ∀ j, j < i → F[j]? ≠ some d) {j : Nat} (hj : j ∈ W) {dj : Nat} (hd : HD es gs rs ls j dj) : dj ∈ F ∧ (dj = d → k ≤ j) := by
  obtain ⟨m, hm⟩ := List.getElem?_of_mem hj
  have hmF : F[m]? = some (F[m]'(by have := (List.getElem?_eq_some_iff.mp hm).1; omega)) := List.getElem?_eq_getElem _
  have e := (hF m j _ hm hmF).inj hd
  refine ⟨by rw [← e]; exact List.getElem_mem _, fun z => ?_⟩
  have him : i ≤ m := Nat.le_of_not_lt fun q => hno m q (by rw [hmF, e, z])
  obtain ⟨hi', e1⟩ := List.getElem?_eq_some_iff.mp hk
  obtain ⟨hm', e2⟩ := List.getElem?_eq_some_iff.mp hm
  rcases Nat.lt_or_eq_of_le him with q | q
  · rw [← e1, ← e2]
    exact Nat.le_of_lt (List.pairwise_iff_getElem.mp hW.1 i m hi' hm' q)
  · subst q
    rw [← e1, ← e2]
    exact Nat.le_refl _
theorem first_at {d : Nat} : ∀ {F : List Nat}, d ∈ F → ∃ i : Nat, F[i]? = some d ∧ ∀ j : Nat, j < i → F[j]? ≠ some d
  | [], h => (List.not_mem_nil h).elim
  | x :: F, h => by
    by_cases e : x = d
    · subst e
      exact ⟨0, rfl, fun j hj => absurd hj (Nat.not_lt_zero j)⟩
    · rcases List.mem_cons.mp h with h | h
      · exact absurd h.symm e
      · obtain ⟨i, h1, h2⟩ := first_at h
        refine ⟨i + 1, h1, fun j hj => ?_⟩
        cases j with
        | zero => exact fun z => e (Option.some.inj z)
        | succ j => exact h2 j (by omega)
theorem nm_eq {nm : Nm} {b : Nm} : decide (V.str nm.str = V.str b.str) = (match nm, b with | .first, .first | .last, .last | .all, .all | .near, .near | .far, .far => true | _, _ => false) := by
  have key : (V.str nm.str = V.str b.str) ↔ nm.str = b.str := ⟨fun h => V.str.inj h, fun h => by rw [h]⟩
  cases nm <;> cases b <;> first
    | exact decide_eq_true rfl
    | exact decide_eq_false fun z => absurd (key.mp z) (by decide +kernel)
/-- the distance, as a number -/
def hdW (es : Es) (st : Nat → Option Nat) (k : Nat) : Nat := match es[k]? with
  | some e => (st e.2).getD 0
  | none => 0
theorem hdW_hd {n : Nat} {es : Es} {gs rs ls W : List Nat} {st : Nat → Option Nat} (hst : ∀ u, u < n → (∀ d, st u = some d ↔ Dst (backE es rs ls) (openG gs rs) u d) ∧ (st u = none ↔ ¬ Rch (backE es rs ls) (openG gs rs) u)) (ok : ∀ e ∈ es, e.1 < n ∧ e.2 < n)
    (hW : WorthS es gs rs ls W) {k : Nat} (hk : k ∈ W) : ∃ e, es[k]? = some e ∧ st e.2 = some (hdW es st k) ∧ HD es gs rs ls k (hdW es st k) := by
  obtain ⟨_, e, he, ha⟩ := (hW.2 k).mp hk
  have hen := (ok e (List.mem_of_getElem? he)).2
  cases e2 : st e.2 with
  | none => exact absurd ha ((hst _ hen).2.mp e2)
  | some d =>
    have e3 : hdW es st k = d := by
      unfold hdW
      rw [he]
      show (st e.2).getD 0 = d
      rw [e2]
      rfl
    rw [e3]
    exact ⟨e, he, e2, e, he, ((hst _ hen).1 d).mp e2⟩
theorem int_map (W : List Nat) (f : Nat → Nat) : W.map (fun k => nV (f k)) = (W.map fun k => ((f k : Nat) : Int)).map V.int := by
  rw [List.map_map]
  rfl

abbrev s_sent_by : Stmt := topS 72
abbrev sl_sent_by : List Str := ["chart", "name", "standing", "worthy", "steps", "numbers", "best", "arrow"]
theorem sc_sent_by : FnScope ["chart", "name", "standing", "worthy", "steps", "numbers", "best", "arrow"] ["chart", "name", "standing"] (defScope s_sent_by) := ⟨rfl, rfl, rfl, by decide +kernel, rfl, by decide +kernel, by decide +kernel⟩
theorem kn_of_str {K : PySem.W.Frag} {H : Hp} {s : Str} : Kn K H (.str s) "str" := ⟨.base (.str s), by simp⟩
def namesV : List V := [.str "first", .str "last", .str "all", .str "near", .str "far"]
def spSent (K : PySem.W.Frag) (C : Addr) : Sp := fun vs H Q _ => ∃ (p : Addr) (n : Nat) (a : Addr) (pvs : List V) (es : Es) (c : Addr) (gs : List Nat) (t x y : Addr) (rs ls : List Nat) (nm : Nm), vs = [.ref p, .str nm.str, .ref t] ∧ At K C H p n a pvs es c gs t x y rs ls ∧
  ∀ (z : Addr) (ds W : List Nat) (H' : Hp), Same H H' → H' z = some (.tup (ds.map nV)) → WorthS es gs rs ls W → SentR es gs rs ls W nm ds → Q (.ref z) H'
theorem ok_sent_by {CMap ANAMES : Addr} (B : Bt mg) (C : MapC K mg CMap) (G_NAMES : GTup K mg "NAMES" ANAMES [.str "first", .str "last", .str "all", .str "near", .str "far"]) (h_check_standing : Has P w K mg base "check_standing" 5 ["chart", "thing"] (spCheck K CMap))
    (h_worth_at : Has P w K mg base "worth_at" 5 ["chart", "standing"] (spOf K CMap RWorth)) (h_steps_to_go : Has P w K mg base "steps_to_go" 4 ["chart", "standing"] (spOf K CMap RGo)) (h_arrows : HasM P w K mg base CMap "arrows" 1 ["self"] (spArrows K CMap))
    (D0 : Df K mg "sent_by" s_sent_by ["chart", "name", "standing"]) : Has P w K mg base "sent_by" 6 ["chart", "name", "standing"] (spSent K CMap) := by
  refine D0.has fun f fd F => F.ok sc_sent_by (fun vs H Q E h => ?_) (fun cdv A outer s H vs Q E hr h => ?_)
  · obtain ⟨p, n, a, pvs, es, c, gs, t, x, y, rs, ls, nm, rfl, _⟩ := h
    rfl
  · obtain ⟨p, n, a, pvs, es, c, gs, t, x, y, rs, ls, nm, rfl, hh, q⟩ := h
    refine ⟨_, (pss_cons (ps_if (PW.pt (pw_or (pt_not (pt_val (pe_callB (k_isi (K := K) rfl) (by rfl) B.isinstance bo_isinstance (pa_cons (pv 1) (pa_cons (pe_bltn (v := .ty "str") (by rfl) B.str bo_str rfl) pa_nil))))) (pw_or1 (pt_cmpR (k_notin (K := K) rfl) (pv 1) (pe_glob (v := .ref ANAMES) (by rfl) G_NAMES.g rfl) (by rfl)))))
    (pss_one ps_never)
    pss_nil)
  (pss_cons (ps_expr (pcall h_check_standing hr (by decide) (by rfl) (pa_cons (pv 0) (pa_cons (pv 2) pa_nil))))
  (pss_cons (ps_set (i := 3) sc_sent_by.nd rfl (.inl rfl) (pcall h_worth_at hr (by decide) (by rfl) (pa_cons (pv 0) (pa_cons (pv 2) pa_nil))))
  (pss_cons (ps_if (PW.pt (pw_or (pt_cmpR op_eq (pe_callB (k_len (K := K) rfl) (by rfl) B.len bo_len (pa_cons (pv 3) pa_nil)) pe_int (nomark _)) (pw_or1 (pt_cmpR op_eq (pv 1) pe_str (nomark _)))))
    (pss_one (ps_ret (pv 3)))
    pss_nil)
  (pss_cons (ps_if (pt_cmpR op_eq (pv 1) pe_str (nomark _))
    (pss_one (ps_ret (pe_tup (pa_cons (pe_ix (k_ixt (K := K) rfl) (pv 3) pe_int (fun _ _ => rfl)) pa_nil))))
    pss_nil)
  (pss_cons (ps_if (pt_cmpR op_eq (pv 1) pe_str (nomark _))
    (pss_one (ps_ret (pe_tup (pa_cons (pe_ix (k_ixt (K := K) rfl) (pv 3) (pe_un un_neg pe_int) (fun _ _ => rfl)) pa_nil))))
    pss_nil)
  (pss_cons (ps_set (i := 4) sc_sent_by.nd rfl (.inr rfl) (pcall h_steps_to_go hr (by decide) (by rfl) (pa_cons (pv 0) (pa_cons (pv 2) pa_nil))))
  (pss_cons (ps_setLc (i := 5) (own := [("arrow", 7)]) (g := gName 7) rfl sc_sent_by.nd rfl rfl (sw_true rfl rfl rfl (by decide +kernel)) (k_pit (K := K) rfl (pv 3)) (blkOk_by (N := sl_sent_by) (sc := defScope s_sent_by) (by decide +kernel)) (fun _ _ _ _ _ => (pg_name (i := 7) sc_sent_by.nd rfl (.inl rfl))) (fun _ _ _ _ _ => pts_nil) (fun _ _ _ _ _ => (pe_ix (k_ixl (K := K) rfl) (pv 4) (pe_ix (k_ixt (K := K) rfl) (pe_ix (k_ixt (K := K) rfl) (pe_meth0 (pv 0) C.cl h_arrows.mt h_arrows.F (hr.mono (by decide)) h_arrows.b .nil pass0) (pv 7) (fun _ _ => rfl)) pe_int (fun _ _ => rfl)) (fun _ _ => rfl))))
  (pss_cons (ps_set (i := 6) sc_sent_by.nd rfl (.inl rfl) (pe_ifExp (pt_cmpR op_eq (pv 1) pe_str (nomark _)) (pe_callB (k_min (K := K) rfl rfl) (by rfl) B.min bo_min (pa_cons (pv 5) pa_nil)) (pe_callB (k_max (K := K) rfl rfl) (by rfl) B.max bo_max (pa_cons (pv 5) pa_nil))))
  (pss_one (ps_ret (pe_tup (pa_cons (pe_ix (k_ixt (K := K) rfl) (pv 3) (pe_bm PySem.F.plainAttrs_list PySem.F.slot_list_index PySem.F.type_list_index mt_index (pv 5) (pa_cons (pv 6) pa_nil)) (fun _ _ => rfl)) pa_nil))))))))))))), ?_⟩
    have hl := hh.m.pr.len
    have hel := hh.m.el
    refine ⟨_, rfl, _, .ty "str", _, _, _, rfl, .ty "str", (kn_of_str (K := K) (H := H) (s := nm.str)).ty, kit_str (kn_of_str (K := K) (H := H) (s := nm.str)).mem, _, rfl, iteF ?_⟩
    refine ⟨_, rfl, ANAMES, _, rfl, .inr (G_NAMES.t _), rfl, rfl, _, rfl, ?_⟩
    have e1 : inV (V.str nm.str) [.str "first", .str "last", .str "all", .str "near", .str "far"] = true := by cases nm <;> decide +kernel
    rw [if_pos rfl, e1]
    refine iteF ?_
    refine ⟨_, rfl, _, rfl, p, n, a, pvs, es, c, gs, t, x, y, rs, ls, rfl, hh.m, hh.S, hh.o, fun H1 s1 => ?_⟩
    have h1 := hh.same s1
    refine ⟨_, rfl, _, rfl, p, n, a, pvs, es, c, gs, t, x, y, rs, ls, rfl, h1, fun v H2 s2 hv => ?_⟩
    obtain ⟨w0, W, rfl, nw, hw, hpw, hmem⟩ := hv
    have hWS : WorthS es gs rs ls W := ⟨hpw, hmem⟩
    have hWl := hWS.len
    have h2 := h1.same s2
    have s12 := s1.trans s2
    refine ⟨_, rfl, w0, _, rfl, .inr (sqt hw), rfl, _, rfl, ?_⟩
    by_cases hW0 : W = []
    · subst hW0
      rw [decide_eq_true (show V.int (((([] : List Nat).map nV).length : Nat) : Int) = V.int 0 from rfl)]
      refine iteT (iteT ?_)
      exact ⟨_, rfl, q w0 [] [] H2 s12 hw hWS (.inl ⟨rfl, rfl⟩)⟩
    have hW1 : ¬ V.int (((W.map nV).length : Nat) : Int) = V.int 0 := fun z => by
      injection z with z
      rw [List.length_map] at z
      exact hW0 (List.eq_nil_of_length_eq_zero (by omega))
    rw [decide_eq_false hW1]
    refine iteF ?_
    refine ⟨_, rfl, rfl, _, rfl, ?_⟩
    have eA : decide (V.str nm.str = V.str ("all" : Str)) = _ := nm_eq (b := .all)
    rw [eA]
    have fin : ∀ {z : Addr} {ds : List Nat} {H' : Hp}, Same H2 H' → H' z = some (.tup (ds.map nV)) → SentN es gs rs ls W nm ds → Q (.ref z) H' := fun s hz h => q _ _ W _ (s12.trans s) hz hWS (.inr ⟨hW0, h⟩)
    cases nm with
    | all => exact iteT ⟨_, rfl, fin (Same.refl _) hw rfl⟩
    | first =>
      refine iteF ?_
      refine ⟨_, rfl, rfl, _, rfl, ?_⟩
      have eF : decide (V.str Nm.first.str = V.str ("first" : Str)) = _ := nm_eq (b := .first)
      rw [eF]
      obtain ⟨k, r, rfl⟩ := List.exists_cons_of_ne_nil hW0
      refine iteT ?_
      refine ⟨_, rfl, w0, _, (0 : Nat), nV k, rfl, rfl, sqt hw, atI_nat rfl, by show 1 ≤ sizeLine; decide, fun z nz => ?_⟩
      refine fin (ds := [k]) (same_new (Same.refl _) nz) upd_same ⟨k, rfl, List.mem_cons_self, fun j hj => ?_⟩
      rcases List.mem_cons.mp hj with rfl | hj
      · exact Nat.le_refl _
      · exact Nat.le_of_lt (List.rel_of_pairwise_cons hpw hj)
    | last =>
      refine iteF ?_
      refine ⟨_, rfl, rfl, _, rfl, ?_⟩
      have eF : decide (V.str Nm.last.str = V.str ("first" : Str)) = _ := nm_eq (b := .first)
      rw [eF]
      refine iteF ?_
      refine ⟨_, rfl, rfl, _, rfl, ?_⟩
      have eL : decide (V.str Nm.last.str = V.str ("last" : Str)) = _ := nm_eq (b := .last)
      rw [eL]
      refine iteT ?_
      obtain ⟨I, k, rfl⟩ : ∃ I k, W = I ++ [k] := ⟨W.dropLast, W.getLast hW0, (List.dropLast_concat_getLast hW0).symm⟩
      have hlast : atI ((I ++ [k]).map nV) (-1) = some (nV k) := by
        rw [List.map_append]
        exact atI_last (I.map nV) (nV k)
      refine ⟨_, rfl, 1, rfl, w0, _, (-1 : Int), nV k, rfl, rfl, sqt hw, hlast, by show 1 ≤ sizeLine; decide, fun z nz => ?_⟩
      refine fin (ds := [k]) (same_new (Same.refl _) nz) upd_same ⟨k, rfl, List.mem_append_right _ List.mem_cons_self, fun j hj => ?_⟩
      rcases List.mem_append.mp hj with hj | hj
      · exact Nat.le_of_lt ((List.pairwise_append.mp hpw).2.2 j hj _ List.mem_cons_self)
      · rw [List.mem_singleton.mp hj]
        exact Nat.le_refl _
    | near =>
      refine iteF ?_
      refine ⟨_, rfl, rfl, _, rfl, ?_⟩
      have eF : decide (V.str Nm.near.str = V.str ("first" : Str)) = _ := nm_eq (b := .first)
      rw [eF]
      refine iteF ?_
      refine ⟨_, rfl, rfl, _, rfl, ?_⟩
      have eL : decide (V.str Nm.near.str = V.str ("last" : Str)) = _ := nm_eq (b := .last)
      rw [eL]
      refine iteF ?_
      refine ⟨_, rfl, _, rfl, p, n, a, pvs, es, c, gs, t, x, y, rs, ls, rfl, h2, fun r H3 s3 hr3 => ?_⟩
      obtain ⟨d, st, rfl, nd, hd, hst⟩ := hr3
      have hk := fun {k : Nat} (h : k ∈ W) => hdW_hd hst h2.m.ok hWS h
      have h3 := h2.same s3
      have hw3 := s3 _ _ hw
      refine ⟨_, rfl, w0, rfl, ⟨_, sqt hw3⟩, fun D nD => ?_⟩
      refine lc_val walk_tup calm_at (fun i => (W[i]?).bind fun k => some (nV (hdW es st k))) (by rw [List.length_map]; omega) nD (fun H4 s4 => sqt (s4 _ _ hw3)) ?_ fun H4 s4 h4 => ?_
      · rintro i v H5 H6 hi s5 ⟨rfl, hv⟩ Kt kt
        obtain ⟨k, hki, rfl⟩ := getmap hv
        obtain ⟨⟨e1, e2⟩, hke, hse, _⟩ := hk (List.mem_of_getElem? hki)
        have h6 := h3.same s5
        obtain ⟨dx, hp⟩ := h6.m.at_.ob
        have hkn := (List.getElem?_eq_some_iff.mp hke).1
        have hkv : pvs[k]? = some (pvs[k]'(by omega)) := List.getElem?_eq_getElem _
        obtain ⟨tt, htt, ht⟩ := h6.m.pr.at_ k _ _ hkv hke
        have k0 := kt _ (Same.refl _)
        rw [hki] at k0
        refine ⟨rfl, tyes ?_⟩
        refine iteT ?_
        refine ⟨_, rfl, _, rfl, p, dx, _, rfl, hp, mapF_arrows _ _ _, p, n, a, pvs, c, gs, rfl, h6.m.at_, _, rfl, a, pvs, (k : Int), _, rfl, rfl, h6.m.at_.ar, atI_nat hkv, tt, _, (1 : Nat), nV e2, htt, rfl, ht, atI_nat rfl, ?_⟩
        refine ⟨d, _, (e2 : Int), nV (hdW es st k), rfl, rfl, sql (s5 _ _ hd), atI_nat (by rw [stV_get (h2.m.ok _ (List.mem_of_getElem? hke)).2, hse]; rfl), ?_⟩
        exact k0
      rw [List.length_map, fm_range, fm_some, int_map] at h4
      have hne : 0 < (W.map fun k => ((hdW es st k : Nat) : Int)).length := by
        rw [List.length_map]
        exact List.length_pos_iff.mpr hW0
      refine ⟨_, rfl, rfl, _, rfl, ?_⟩
      have eN : decide (V.str Nm.near.str = V.str ("near" : Str)) = _ := nm_eq (b := .near)
      rw [eN]
      refine iteT ?_
      refine ⟨_, rfl, D, _, rfl, sql h4, hne, fun m hm hedge => ?_⟩
      obtain ⟨k1, hk1, rfl⟩ := List.mem_map.mp hm
      obtain ⟨i, hi, hno⟩ := first_at (F := W.map fun k => hdW es st k) (List.mem_map.mpr ⟨k1, hk1, rfl⟩)
      obtain ⟨k, hki, hkd⟩ : ∃ k, W[i]? = some k ∧ hdW es st k = hdW es st k1 := by
        rw [List.getElem?_map] at hi
        exact Option.map_eq_some_iff.mp hi
      have hw4 := s4 _ _ hw3
      refine ⟨_, rfl, _, rfl, .inl ⟨rfl, _, sql h4⟩, _, rfl, D, _, nV (hdW es st k1), i, nV (hdW es st k), rfl, rfl, sql h4, rfl, by rw [← int_map]; exact List.all_eq_true.mpr fun v hv => by obtain ⟨_, _, rfl⟩ := List.mem_map.mp hv; rfl, by rw [← int_map, List.getElem?_map, hki]; rfl, by rw [hkd]; exact beq_self_eq_true _, fun m z' hm' hz' => ?_, ?_⟩
      · rw [← int_map, List.getElem?_map] at hz'
        obtain ⟨k', hk', rfl⟩ := Option.map_eq_some_iff.mp hz'
        have h5 := hno m hm'
        rw [List.getElem?_map, hk'] at h5
        refine beq_eq_false_iff_ne.mpr fun z => h5 ?_
        show some (hdW es st k') = some (hdW es st k1)
        have z' : ((hdW es st k' : Nat) : Int) = ((hdW es st k1 : Nat) : Int) := z
        rw [show hdW es st k' = hdW es st k1 by omega]
      refine ⟨w0, _, (i : Int), nV k, rfl, rfl, sqt hw4, atI_nat (by rw [List.getElem?_map, hki]; rfl), by show 1 ≤ sizeLine; decide, fun z nz => ?_⟩
      have hkW := List.mem_of_getElem? hki
      refine fin (ds := [k]) ((s3.trans s4).trans (same_new (Same.refl _) nz)) upd_same ⟨k, hdW es st k, rfl, hkW, (hk hkW).choose_spec.2.2, fun j hj dj hdj => ?_⟩
      have hf := first_edge hWS (F := W.map fun k => hdW es st k) (fun i k d hi hd => by
        rw [List.getElem?_map, hi] at hd
        cases hd
        exact (hk (List.mem_of_getElem? hi)).choose_spec.2.2) (List.length_map ..) hi hki hno hj hdj
      have e5 : dj = hdW es st j := hdj.inj (hk hj).choose_spec.2.2
      have h6 := hedge _ (List.mem_map.mpr ⟨j, hj, rfl⟩)
      rw [hkd]
      exact ⟨by rw [e5]; omega, hf.2⟩
    | far =>
      refine iteF ?_
      refine ⟨_, rfl, rfl, _, rfl, ?_⟩
      have eF : decide (V.str Nm.far.str = V.str ("first" : Str)) = _ := nm_eq (b := .first)
      rw [eF]
      refine iteF ?_
      refine ⟨_, rfl, rfl, _, rfl, ?_⟩
      have eL : decide (V.str Nm.far.str = V.str ("last" : Str)) = _ := nm_eq (b := .last)
      rw [eL]
      refine iteF ?_
      refine ⟨_, rfl, _, rfl, p, n, a, pvs, es, c, gs, t, x, y, rs, ls, rfl, h2, fun r H3 s3 hr3 => ?_⟩
      obtain ⟨d, st, rfl, nd, hd, hst⟩ := hr3
      have hk := fun {k : Nat} (h : k ∈ W) => hdW_hd hst h2.m.ok hWS h
      have h3 := h2.same s3
      have hw3 := s3 _ _ hw
      refine ⟨_, rfl, w0, rfl, ⟨_, sqt hw3⟩, fun D nD => ?_⟩
      refine lc_val walk_tup calm_at (fun i => (W[i]?).bind fun k => some (nV (hdW es st k))) (by rw [List.length_map]; omega) nD (fun H4 s4 => sqt (s4 _ _ hw3)) ?_ fun H4 s4 h4 => ?_
      · rintro i v H5 H6 hi s5 ⟨rfl, hv⟩ Kt kt
        obtain ⟨k, hki, rfl⟩ := getmap hv
        obtain ⟨⟨e1, e2⟩, hke, hse, _⟩ := hk (List.mem_of_getElem? hki)
        have h6 := h3.same s5
        obtain ⟨dx, hp⟩ := h6.m.at_.ob
        have hkn := (List.getElem?_eq_some_iff.mp hke).1
        have hkv : pvs[k]? = some (pvs[k]'(by omega)) := List.getElem?_eq_getElem _
        obtain ⟨tt, htt, ht⟩ := h6.m.pr.at_ k _ _ hkv hke
        have k0 := kt _ (Same.refl _)
        rw [hki] at k0
        refine ⟨rfl, tyes ?_⟩
        refine iteT ?_
        refine ⟨_, rfl, _, rfl, p, dx, _, rfl, hp, mapF_arrows _ _ _, p, n, a, pvs, c, gs, rfl, h6.m.at_, _, rfl, a, pvs, (k : Int), _, rfl, rfl, h6.m.at_.ar, atI_nat hkv, tt, _, (1 : Nat), nV e2, htt, rfl, ht, atI_nat rfl, ?_⟩
        refine ⟨d, _, (e2 : Int), nV (hdW es st k), rfl, rfl, sql (s5 _ _ hd), atI_nat (by rw [stV_get (h2.m.ok _ (List.mem_of_getElem? hke)).2, hse]; rfl), ?_⟩
        exact k0
      rw [List.length_map, fm_range, fm_some, int_map] at h4
      have hne : 0 < (W.map fun k => ((hdW es st k : Nat) : Int)).length := by
        rw [List.length_map]
        exact List.length_pos_iff.mpr hW0
      refine ⟨_, rfl, rfl, _, rfl, ?_⟩
      have eN : decide (V.str Nm.far.str = V.str ("near" : Str)) = _ := nm_eq (b := .near)
      rw [eN]
      refine iteF ?_
      refine ⟨_, rfl, D, _, rfl, sql h4, hne, fun m hm hedge => ?_⟩
      obtain ⟨k1, hk1, rfl⟩ := List.mem_map.mp hm
      obtain ⟨i, hi, hno⟩ := first_at (F := W.map fun k => hdW es st k) (List.mem_map.mpr ⟨k1, hk1, rfl⟩)
      obtain ⟨k, hki, hkd⟩ : ∃ k, W[i]? = some k ∧ hdW es st k = hdW es st k1 := by
        rw [List.getElem?_map] at hi
        exact Option.map_eq_some_iff.mp hi
      have hw4 := s4 _ _ hw3
      refine ⟨_, rfl, _, rfl, .inl ⟨rfl, _, sql h4⟩, _, rfl, D, _, nV (hdW es st k1), i, nV (hdW es st k), rfl, rfl, sql h4, rfl, by rw [← int_map]; exact List.all_eq_true.mpr fun v hv => by obtain ⟨_, _, rfl⟩ := List.mem_map.mp hv; rfl, by rw [← int_map, List.getElem?_map, hki]; rfl, by rw [hkd]; exact beq_self_eq_true _, fun m z' hm' hz' => ?_, ?_⟩
      · rw [← int_map, List.getElem?_map] at hz'
        obtain ⟨k', hk', rfl⟩ := Option.map_eq_some_iff.mp hz'
        have h5 := hno m hm'
        rw [List.getElem?_map, hk'] at h5
        refine beq_eq_false_iff_ne.mpr fun z => h5 ?_
        show some (hdW es st k') = some (hdW es st k1)
        have z' : ((hdW es st k' : Nat) : Int) = ((hdW es st k1 : Nat) : Int) := z
        rw [show hdW es st k' = hdW es st k1 by omega]
      refine ⟨w0, _, (i : Int), nV k, rfl, rfl, sqt hw4, atI_nat (by rw [List.getElem?_map, hki]; rfl), by show 1 ≤ sizeLine; decide, fun z nz => ?_⟩
      have hkW := List.mem_of_getElem? hki
      refine fin (ds := [k]) ((s3.trans s4).trans (same_new (Same.refl _) nz)) upd_same ⟨k, hdW es st k, rfl, hkW, (hk hkW).choose_spec.2.2, fun j hj dj hdj => ?_⟩
      have hf := first_edge hWS (F := W.map fun k => hdW es st k) (fun i k d hi hd => by
        rw [List.getElem?_map, hi] at hd
        cases hd
        exact (hk (List.mem_of_getElem? hi)).choose_spec.2.2) (List.length_map ..) hi hki hno hj hdj
      have e5 : dj = hdW es st j := hdj.inj (hk hj).choose_spec.2.2
      have h6 := hedge _ (List.mem_map.mpr ⟨j, hj, rfl⟩)
      rw [hkd]
      exact ⟨by rw [e5]; omega, hf.2⟩

/-- no name -/
inductive NoNm (K : PySem.W.Frag) (H : Hp) (va : V) : Prop
  | kind {sa : String} (h : ∀ H', Same H H' → Kn K H' va sa) (e : (sa == "str") = false)
  | word {s : Str} (e : va = .str s) (h : inV (V.str s) [.str "first", .str "last", .str "all", .str "near", .str "far"] = false)
def spSentBad (K : PySem.W.Frag) (C CS CN : Addr) : Sp := fun vs H Q E => ∃ (p : Addr) (n : Nat) (a : Addr) (pvs : List V) (es : Es) (c : Addr) (gs : List Nat) (va v : V), vs = [.ref p, va, v] ∧ MapOk K C H p n a pvs es c gs ∧
  ((NoNm K H va ∧ ∀ H', Same H H' → E (.ref CN) none H') ∨ (∃ (nm : Nm) (R : Prop), va = .str nm.str ∧ StdRes K H n es gs v R ∧ ¬ R ∧ ∀ H', Same H H' → E (.ref CS) none H'))
theorem okx_sent_by {CMap CNoStanding CNoName ANAMES : Addr} (B : Bt mg) (C : MapC K mg CMap) (T_NoName : Ex K mg "NoName" CNoName) (G_NAMES : GTup K mg "NAMES" ANAMES [.str "first", .str "last", .str "all", .str "near", .str "far"]) (h_sent_by : Has P w K mg base "sent_by" 6 ["chart", "name", "standing"] (spSent K CMap))
    (hX_check_standing : HasX P w K mg base "check_standing" 5 ["chart", "thing"] (spCheckAny K CMap CNoStanding)) (h_worth_at : Has P w K mg base "worth_at" 5 ["chart", "standing"] (spOf K CMap RWorth)) (h_steps_to_go : Has P w K mg base "steps_to_go" 4 ["chart", "standing"] (spOf K CMap RGo))
    (h_arrows : HasM P w K mg base CMap "arrows" 1 ["self"] (spArrows K CMap)) (D0 : Df K mg "sent_by" s_sent_by ["chart", "name", "standing"]) : HasX P w K mg base "sent_by" 6 ["chart", "name", "standing"] (spOr (spSent K CMap) (spSentBad K CMap CNoStanding CNoName)) := by
  refine h_sent_by.or (D0.hasX fun f fd F => F.okX sc_sent_by (fun vs H Q E h => ?_) (fun cdv A outer s H vs Q E hr h => ?_))
  · obtain ⟨p, n, a, pvs, es, c, gs, va, v, rfl, _⟩ := h
    rfl
  · obtain ⟨p, n, a, pvs, es, c, gs, va, v, rfl, m, hq⟩ := h
    refine ⟨_, (pss_cons (ps_if (PW.pt (pw_or (pt_not (pt_val (pe_callB (k_isi (K := K) rfl) (by rfl) B.isinstance bo_isinstance (pa_cons (pv 1) (pa_cons (pe_bltn (v := .ty "str") (by rfl) B.str bo_str rfl) pa_nil))))) (pw_or1 (pt_cmpR (k_notin (K := K) rfl) (pv 1) (pe_glob (v := .ref ANAMES) (by rfl) G_NAMES.g rfl) (by rfl)))))
    (pss_one (ps_raise0 T_NoName rfl (takes_of rfl rfl rfl rfl) (by rfl)))
    pss_nil)
  (pss_cons (ps_expr (pcallS hX_check_standing hr (by decide) (by rfl) (takes_of rfl rfl rfl rfl) (pa_cons (pv 0) (pa_cons (pv 2) pa_nil))))
  (pss_cons (ps_set (i := 3) sc_sent_by.nd rfl (.inl rfl) (pcall h_worth_at hr (by decide) (by rfl) (pa_cons (pv 0) (pa_cons (pv 2) pa_nil))))
  (pss_cons (ps_if (PW.pt (pw_or (pt_cmpR op_eq (pe_callB (k_len (K := K) rfl) (by rfl) B.len bo_len (pa_cons (pv 3) pa_nil)) pe_int (nomark _)) (pw_or1 (pt_cmpR op_eq (pv 1) pe_str (nomark _)))))
    (pss_one (ps_ret (pv 3)))
    pss_nil)
  (pss_cons (ps_if (pt_cmpR op_eq (pv 1) pe_str (nomark _))
    (pss_one (ps_ret (pe_tup (pa_cons (pe_ix (k_ixt (K := K) rfl) (pv 3) pe_int (fun _ _ => rfl)) pa_nil))))
    pss_nil)
  (pss_cons (ps_if (pt_cmpR op_eq (pv 1) pe_str (nomark _))
    (pss_one (ps_ret (pe_tup (pa_cons (pe_ix (k_ixt (K := K) rfl) (pv 3) (pe_un un_neg pe_int) (fun _ _ => rfl)) pa_nil))))
    pss_nil)
  (pss_cons (ps_set (i := 4) sc_sent_by.nd rfl (.inr rfl) (pcall h_steps_to_go hr (by decide) (by rfl) (pa_cons (pv 0) (pa_cons (pv 2) pa_nil))))
  (pss_cons (ps_setLc (i := 5) (own := [("arrow", 7)]) (g := gName 7) rfl sc_sent_by.nd rfl rfl (sw_true rfl rfl rfl (by decide +kernel)) (k_pit (K := K) rfl (pv 3)) (blkOk_by (N := sl_sent_by) (sc := defScope s_sent_by) (by decide +kernel)) (fun _ _ _ _ _ => (pg_name (i := 7) sc_sent_by.nd rfl (.inl rfl))) (fun _ _ _ _ _ => pts_nil) (fun _ _ _ _ _ => (pe_ix (k_ixl (K := K) rfl) (pv 4) (pe_ix (k_ixt (K := K) rfl) (pe_ix (k_ixt (K := K) rfl) (pe_meth0 (pv 0) C.cl h_arrows.mt h_arrows.F (hr.mono (by decide)) h_arrows.b .nil pass0) (pv 7) (fun _ _ => rfl)) pe_int (fun _ _ => rfl)) (fun _ _ => rfl))))
  (pss_cons (ps_set (i := 6) sc_sent_by.nd rfl (.inl rfl) (pe_ifExp (pt_cmpR op_eq (pv 1) pe_str (nomark _)) (pe_callB (k_min (K := K) rfl rfl) (by rfl) B.min bo_min (pa_cons (pv 5) pa_nil)) (pe_callB (k_max (K := K) rfl rfl) (by rfl) B.max bo_max (pa_cons (pv 5) pa_nil))))
  (pss_one (ps_ret (pe_tup (pa_cons (pe_ix (k_ixt (K := K) rfl) (pv 3) (pe_bm PySem.F.plainAttrs_list PySem.F.slot_list_index PySem.F.type_list_index mt_index (pv 5) (pa_cons (pv 6) pa_nil)) (fun _ _ => rfl)) pa_nil))))))))))))), ?_⟩
    rcases hq with ⟨hno, q⟩ | ⟨nm, R, rfl, hR, nr, q⟩
    · cases hno with
      | @kind sa hk e =>
        have hk0 := hk H (Same.refl _)
        refine ⟨_, rfl, va, .ty "str", _, _, _, rfl, .ty "str", hk0.ty, kit_str hk0.mem, _, rfl, ?_⟩
        rw [e]
        exact iteT (iteT (q H (Same.refl _)))
      | @word s e h =>
        subst e
        refine ⟨_, rfl, _, .ty "str", _, _, _, rfl, .ty "str", (kn_of_str (K := K) (H := H) (s := s)).ty, kit_str (kn_of_str (K := K) (H := H) (s := s)).mem, _, rfl, iteF ?_⟩
        refine ⟨_, rfl, ANAMES, _, rfl, .inr (G_NAMES.t _), rfl, rfl, _, rfl, ?_⟩
        rw [if_pos rfl, h]
        exact iteT (q H (Same.refl _))
    · refine ⟨_, rfl, _, .ty "str", _, _, _, rfl, .ty "str", (kn_of_str (K := K) (H := H) (s := nm.str)).ty, kit_str (kn_of_str (K := K) (H := H) (s := nm.str)).mem, _, rfl, iteF ?_⟩
      refine ⟨_, rfl, ANAMES, _, rfl, .inr (G_NAMES.t _), rfl, rfl, _, rfl, ?_⟩
      have e1 : inV (V.str nm.str) [.str "first", .str "last", .str "all", .str "near", .str "far"] = true := by cases nm <;> decide +kernel
      rw [if_pos rfl, e1]
      refine iteF ?_
      exact ⟨_, rfl, _, rfl, p, n, a, pvs, es, c, gs, v, R, rfl, m, hR, fun H1 s1 => ⟨fun r => absurd r nr, fun _ => q H1 s1⟩⟩

/-- a function of a map and a standing, asked with what is no standing -/
def spStdBad (K : PySem.W.Frag) (C CS : Addr) : Sp := fun vs H Q E => ∃ (p : Addr) (n : Nat) (a : Addr) (pvs : List V) (es : Es) (c : Addr) (gs : List Nat) (v : V) (R : Prop), vs = [.ref p, v] ∧ MapOk K C H p n a pvs es c gs ∧ StdRes K H n es gs v R ∧ ¬ R ∧ ∀ H', Same H H' → E (.ref CS) none H'
theorem okx_is_done {CMap CNoStanding : Addr} (h_is_done : Has P w K mg base "is_done" 6 ["chart", "standing"] (spOf K CMap RDone)) (hX_check_standing : HasX P w K mg base "check_standing" 5 ["chart", "thing"] (spCheckAny K CMap CNoStanding)) (h_done_at : Has P w K mg base "done_at" 2 ["chart", "standing"] (spOf K CMap RDone))
    (D0 : Df K mg "is_done" s_is_done ["chart", "standing"]) : HasX P w K mg base "is_done" 6 ["chart", "standing"] (spOr (spOf K CMap RDone) (spStdBad K CMap CNoStanding)) := by
  refine h_is_done.or (D0.hasX fun f fd F => F.okX sc_is_done (fun vs H Q E h => ?_) (fun cdv A outer s H vs Q E hr h => ?_))
  · obtain ⟨p, n, a, pvs, es, c, gs, v, R, rfl, _⟩ := h
    rfl
  · obtain ⟨p, n, a, pvs, es, c, gs, v, R, rfl, m, hR, nr, q⟩ := h
    refine ⟨_, (pss_cons (ps_expr (pcallS hX_check_standing hr (by decide) (by rfl) (takes_of rfl rfl rfl rfl) (pa_cons (pv 0) (pa_cons (pv 1) pa_nil))))
  (pss_one (ps_ret (pcall h_done_at hr (by decide) (by rfl) (pa_cons (pv 0) (pa_cons (pv 1) pa_nil)))))), ?_⟩
    exact ⟨_, rfl, _, rfl, p, n, a, pvs, es, c, gs, v, R, rfl, m, hR, fun H1 s1 => ⟨fun r => absurd r nr, fun _ => q H1 s1⟩⟩

theorem okx_alive {CMap CNoStanding : Addr} (h_alive : Has P w K mg base "alive" 6 ["chart", "standing"] (spOf K CMap RAlive)) (hX_check_standing : HasX P w K mg base "check_standing" 5 ["chart", "thing"] (spCheckAny K CMap CNoStanding)) (h_alive_at : Has P w K mg base "alive_at" 5 ["chart", "standing"] (spOf K CMap RAlive))
    (D0 : Df K mg "alive" s_alive ["chart", "standing"]) : HasX P w K mg base "alive" 6 ["chart", "standing"] (spOr (spOf K CMap RAlive) (spStdBad K CMap CNoStanding)) := by
  refine h_alive.or (D0.hasX fun f fd F => F.okX sc_alive (fun vs H Q E h => ?_) (fun cdv A outer s H vs Q E hr h => ?_))
  · obtain ⟨p, n, a, pvs, es, c, gs, v, R, rfl, _⟩ := h
    rfl
  · obtain ⟨p, n, a, pvs, es, c, gs, v, R, rfl, m, hR, nr, q⟩ := h
    refine ⟨_, (pss_cons (ps_expr (pcallS hX_check_standing hr (by decide) (by rfl) (takes_of rfl rfl rfl rfl) (pa_cons (pv 0) (pa_cons (pv 1) pa_nil))))
  (pss_one (ps_ret (pcall h_alive_at hr (by decide) (by rfl) (pa_cons (pv 0) (pa_cons (pv 1) pa_nil)))))), ?_⟩
    exact ⟨_, rfl, _, rfl, p, n, a, pvs, es, c, gs, v, R, rfl, m, hR, fun H1 s1 => ⟨fun r => absurd r nr, fun _ => q H1 s1⟩⟩

theorem okx_tries {CMap CNoStanding : Addr} (h_tries : Has P w K mg base "tries" 6 ["chart", "standing"] (spOf K CMap RTries)) (hX_check_standing : HasX P w K mg base "check_standing" 5 ["chart", "thing"] (spCheckAny K CMap CNoStanding)) (h_tries_at : Has P w K mg base "tries_at" 3 ["chart", "standing"] (spOf K CMap RTries))
    (D0 : Df K mg "tries" s_tries ["chart", "standing"]) : HasX P w K mg base "tries" 6 ["chart", "standing"] (spOr (spOf K CMap RTries) (spStdBad K CMap CNoStanding)) := by
  refine h_tries.or (D0.hasX fun f fd F => F.okX sc_tries (fun vs H Q E h => ?_) (fun cdv A outer s H vs Q E hr h => ?_))
  · obtain ⟨p, n, a, pvs, es, c, gs, v, R, rfl, _⟩ := h
    rfl
  · obtain ⟨p, n, a, pvs, es, c, gs, v, R, rfl, m, hR, nr, q⟩ := h
    refine ⟨_, (pss_cons (ps_expr (pcallS hX_check_standing hr (by decide) (by rfl) (takes_of rfl rfl rfl rfl) (pa_cons (pv 0) (pa_cons (pv 1) pa_nil))))
  (pss_one (ps_ret (pcall h_tries_at hr (by decide) (by rfl) (pa_cons (pv 0) (pa_cons (pv 1) pa_nil)))))), ?_⟩
    exact ⟨_, rfl, _, rfl, p, n, a, pvs, es, c, gs, v, R, rfl, m, hR, fun H1 s1 => ⟨fun r => absurd r nr, fun _ => q H1 s1⟩⟩

theorem okx_worth {CMap CNoStanding : Addr} (h_worth : Has P w K mg base "worth" 7 ["chart", "standing"] (spOf K CMap RWorth)) (hX_check_standing : HasX P w K mg base "check_standing" 5 ["chart", "thing"] (spCheckAny K CMap CNoStanding)) (h_worth_at : Has P w K mg base "worth_at" 5 ["chart", "standing"] (spOf K CMap RWorth))
    (D0 : Df K mg "worth" s_worth ["chart", "standing"]) : HasX P w K mg base "worth" 7 ["chart", "standing"] (spOr (spOf K CMap RWorth) (spStdBad K CMap CNoStanding)) := by
  refine h_worth.or (D0.hasX fun f fd F => F.okX sc_worth (fun vs H Q E h => ?_) (fun cdv A outer s H vs Q E hr h => ?_))
  · obtain ⟨p, n, a, pvs, es, c, gs, v, R, rfl, _⟩ := h
    rfl
  · obtain ⟨p, n, a, pvs, es, c, gs, v, R, rfl, m, hR, nr, q⟩ := h
    refine ⟨_, (pss_cons (ps_expr (pcallS hX_check_standing hr (by decide) (by rfl) (takes_of rfl rfl rfl rfl) (pa_cons (pv 0) (pa_cons (pv 1) pa_nil))))
  (pss_one (ps_ret (pcall h_worth_at hr (by decide) (by rfl) (pa_cons (pv 0) (pa_cons (pv 1) pa_nil)))))), ?_⟩
    exact ⟨_, rfl, _, rfl, p, n, a, pvs, es, c, gs, v, R, rfl, m, hR, fun H1 s1 => ⟨fun r => absurd r nr, fun _ => q H1 s1⟩⟩

theorem okx_sure {CMap CNoStanding : Addr} (B : Bt mg) (C : MapC K mg CMap) (h_sure : Has P w K mg base "sure" 6 ["chart", "standing"] (spOf K CMap RSure)) (hX_check_standing : HasX P w K mg base "check_standing" 5 ["chart", "thing"] (spCheckAny K CMap CNoStanding)) (h_one_into_each : Has P w K mg base "_one_into_each" 3 ["chart", "rotten"] (spOneInto K CMap))
    (h_with_item : Has P w K mg base "with_item" 1 ["lot", "item"] (spWith K)) (h_goals_are_open : Has P w K mg base "goals_are_open" 3 ["chart", "rotten"] (spOpen K CMap)) (D0 : Df K mg "sure" s_sure ["chart", "standing"]) : HasX P w K mg base "sure" 6 ["chart", "standing"] (spOr (spOf K CMap RSure) (spStdBad K CMap CNoStanding)) := by
  refine h_sure.or (D0.hasX fun f fd F => F.okX sc_sure (fun vs H Q E h => ?_) (fun cdv A outer s H vs Q E hr h => ?_))
  · obtain ⟨p, n, a, pvs, es, c, gs, v, R, rfl, _⟩ := h
    rfl
  · obtain ⟨p, n, a, pvs, es, c, gs, v, R, rfl, m, hR, nr, q⟩ := h
    refine ⟨_, (pss_cons (ps_expr (pcallS hX_check_standing hr (by decide) (by rfl) (takes_of rfl rfl rfl rfl) (pa_cons (pv 0) (pa_cons (pv 1) pa_nil))))
  (pss_cons (ps_asg (pv 1) (pg_tup rfl (pgs_cons (pg_name (i := 2) sc_sure.nd rfl (.inl rfl)) (pgs_cons (pg_name (i := 3) sc_sure.nd rfl (.inr rfl)) pgs_nil))))
  (pss_cons (ps_set (i := 4) sc_sure.nd rfl (.inl rfl) (pcall h_one_into_each hr (by decide) (by rfl) (pa_cons (pv 0) (pa_cons (pv 3) pa_nil))))
  (pss_one (ps_ret (pe_callTy (k_tuple (K := K) rfl) (by rfl) B.tuple bo_tuple (pa_cons (pe_lc (own := [("arrow", 5)]) (g := gName 5) rfl sc_sure.nd (k_pil (K := K) rfl (pv 4)) (blkOk_by (N := sl_sure) (sc := defScope s_sure) (by decide +kernel)) (fun _ _ _ _ _ => (pg_name (i := 5) sc_sure.nd rfl (.inl rfl))) (fun _ _ _ _ _ => pts_one (pt_not (pt_val (pcall h_goals_are_open hr (by decide) (by rfl) (pa_cons (pv 0) (pa_cons (pcall h_with_item hr (by decide) (by rfl) (pa_cons (pv 3) (pa_cons (pv 5) pa_nil))) pa_nil)))))) (fun _ _ _ _ _ => (pv 5))) pa_nil))))))), ?_⟩
    exact ⟨_, rfl, _, rfl, p, n, a, pvs, es, c, gs, v, R, rfl, m, hR, fun H1 s1 => ⟨fun r => absurd r nr, fun _ => q H1 s1⟩⟩

def spFlagG (K : PySem.W.Frag) : Sp := fun vs H Q _ => ∃ (v : V) (s : String), vs = [v] ∧ Kn K H v s ∧ Q (.bl (s == "bool")) H
theorem okg_is_flag (B : Bt mg) (D0 : Df K mg "is_flag" s_is_flag ["thing"]) : Has P w K mg base "is_flag" 1 ["thing"] (spFlagG K) := by
  refine D0.has fun f fd F => F.ok sc_is_flag (fun vs H Q E h => ?_) (fun cdv A outer s H vs Q E hr h => ?_)
  · obtain ⟨v, s, rfl, _⟩ := h
    rfl
  · obtain ⟨v, s, rfl, hk, q⟩ := h
    refine ⟨_, (pss_one (ps_ret (pe_callB (k_isi (K := K) rfl) (by rfl) B.isinstance bo_isinstance (pa_cons (pv 0) (pa_cons (pe_bltn (v := .ty "bool") (by rfl) B.bool bo_bool rfl) pa_nil))))), ?_⟩
    exact ⟨_, rfl, _, .ty "bool", _, _, _, rfl, .ty "bool", hk.ty, kit_bool hk.mem, q⟩

/-- why no news are told of a standing -/
inductive NoN (es : Es) (gs rs ls : List Nat) (va vf : V) : Bool → Prop
  | try_ (h : ¬ TryOk es rs ls va) : NoN es gs rs ls va vf true
  | flag {k : Nat} (e : va = nV k) (h : k ∈ triesL es rs ls) (hf : ∀ b, vf ≠ .bl b) : NoN es gs rs ls va vf false
  | shut {k : Nat} (e : va = nV k) (h : k ∈ triesL es rs ls) (hf : vf = .bl false) (hn : ¬ ∀ g ∈ gs, Rch (left es (ls ++ [k])) [0] g) : NoN es gs rs ls va vf false
def spCheckedBad6 (K : PySem.W.Frag) (C CT CN : Addr) : Sp := fun vs H Q E => ∃ (p : Addr) (n : Nat) (a : Addr) (pvs : List V) (es : Es) (c : Addr) (gs : List Nat) (t x y : Addr) (rs ls : List Nat) (va vf : V) (sa sf : String) (b : Bool), vs = [.ref p, .ref t, va, vf] ∧ At K C H p n a pvs es c gs t x y rs ls ∧
  (∀ H', Same H H' → Kn K H' va sa) ∧ (∀ H', Same H H' → Kn K H' vf sf) ∧ ((∀ b, vf ≠ .bl b) → (sf == "bool") = false) ∧ NoN es gs rs ls va vf b ∧ ∀ H', Same H H' → E (.ref (if b = true then CT else CN)) none H'
theorem okx_checked_news_at {CMap CNoTry CNoNews : Addr} (T_NoNews : Ex K mg "NoNews" CNoNews) (h_checked_news_at : Has P w K mg base "checked_news_at" 6 ["chart", "standing", "arrow", "sound"] (spNews K CMap))
    (hX_check_try : HasX P w K mg base "check_try" 4 ["chart", "standing", "thing"] (spOr (spCheckTry K CMap) (spTryBad K CMap CNoTry)))
    (hg_is_flag : Has P w K mg base "is_flag" 1 ["thing"] (spFlagG K)) (h_news_at : Has P w K mg base "news_at" 4 ["chart", "standing", "arrow", "sound"] (spNewsAt K CMap)) (D0 : Df K mg "checked_news_at" s_checked_news_at ["chart", "standing", "arrow", "sound"]) :
    HasX P w K mg base "checked_news_at" 6 ["chart", "standing", "arrow", "sound"] (spOr (spNews K CMap) (spCheckedBad6 K CMap CNoTry CNoNews)) := by
  have h_is_flag := hg_is_flag
  refine h_checked_news_at.or (D0.hasX fun f fd F => F.okX sc_checked_news_at (fun vs H Q E h => ?_) (fun cdv A outer s H vs Q E hr h => ?_))
  · obtain ⟨p, n, a, pvs, es, c, gs, t, x, y, rs, ls, va, vf, sa, sf, b, rfl, _⟩ := h
    rfl
  · obtain ⟨p, n, a, pvs, es, c, gs, t, x, y, rs, ls, va, vf, sa, sf, b, rfl, h1, hka, hkf, hsf, hno, q⟩ := h
    refine ⟨_, (pss_cons (ps_expr (pcallS hX_check_try hr (by decide) (by rfl) (takes_of rfl rfl rfl rfl) (pa_cons (pv 0) (pa_cons (pv 1) (pa_cons (pv 2) pa_nil)))))
  (pss_cons (ps_if (pt_not (pt_val (pcall h_is_flag hr (by decide) (by rfl) (pa_cons (pv 3) pa_nil))))
    (pss_one (ps_raise0 T_NoNews rfl (takes_of rfl rfl rfl rfl) (by rfl)))
    pss_nil)
  (pss_cons (ps_set (i := 4) sc_checked_news_at.nd rfl (.inl rfl) (pcall h_news_at hr (by decide) (by rfl) (pa_cons (pv 0) (pa_cons (pv 1) (pa_cons (pv 2) (pa_cons (pv 3) pa_nil))))))
  (pss_cons (ps_if (pt_cmpR op_isN (pv 4) pe_non (nomark _))
    (pss_one (ps_raise0 T_NoNews rfl (takes_of rfl rfl rfl rfl) (by rfl)))
    pss_nil)
  (pss_one (ps_ret (pv 4))))))), ?_⟩
    cases hno with
    | try_ h => exact ⟨_, rfl, _, rfl, _, rfl, .inr ⟨p, n, a, pvs, es, c, gs, t, x, y, rs, ls, va, sa, rfl, h1, fun H' s => hka H' s, h, fun H2 s2 => q H2 s2⟩⟩
    | @flag k e h hf =>
      subst e
      refine ⟨_, rfl, _, rfl, _, rfl, .inl ⟨p, n, a, pvs, es, c, gs, t, x, y, rs, ls, k, rfl, h1, h, fun H2 s2 => ?_⟩⟩
      refine ⟨_, rfl, vf, sf, rfl, hkf H2 s2, _, rfl, ?_⟩
      rw [hsf hf]
      exact iteT (q H2 s2)
    | @shut k e h hf hn =>
      subst e
      subst hf
      refine ⟨_, rfl, _, rfl, _, rfl, .inl ⟨p, n, a, pvs, es, c, gs, t, x, y, rs, ls, k, rfl, h1, h, fun H2 s2 => ?_⟩⟩
      have h2 := h1.same s2
      refine ⟨_, rfl, .bl false, "bool", rfl, kn_of_bl, _, rfl, iteF ?_⟩
      refine ⟨_, rfl, _, rfl, _, rfl, _, rfl, p, n, a, pvs, es, c, gs, t, x, y, rs, ls, k, false, rfl, h2, h, fun z x' y' rs' ls' H3 s3 S3 R3 ho => absurd (ho rfl) hn, fun _ _ H3 s3 => ?_⟩
      refine ⟨_, rfl, rfl, _, rfl, iteT ?_⟩
      exact q H3 (s2.trans s3)

def spNewsBad6 (K : PySem.W.Frag) (C CS CT CN : Addr) : Sp := fun vs H Q E => ∃ (p : Addr) (n : Nat) (a : Addr) (pvs : List V) (es : Es) (c : Addr) (gs : List Nat) (v va vf : V) (R : Prop) (sa sf : String), vs = [.ref p, v, va, vf] ∧ MapOk K C H p n a pvs es c gs ∧ StdRes K H n es gs v R ∧
  (∀ H', Same H H' → Kn K H' va sa) ∧ (∀ H', Same H H' → Kn K H' vf sf) ∧ ((∀ b, vf ≠ .bl b) → (sf == "bool") = false) ∧
  ((¬ R ∧ ∀ H', Same H H' → E (.ref CS) none H') ∨ (∃ (t x y : Addr) (rs ls : List Nat) (b : Bool), R ∧ v = .ref t ∧ At K C H p n a pvs es c gs t x y rs ls ∧ NoN es gs rs ls va vf b ∧ ∀ H', Same H H' → E (.ref (if b = true then CT else CN)) none H'))
theorem okx_news {CMap CNoStanding CNoTry CNoNews : Addr} (h_news : Has P w K mg base "news" 7 ["chart", "standing", "arrow", "sound"] (spNews K CMap))
    (hX_check_standing : HasX P w K mg base "check_standing" 5 ["chart", "thing"] (spCheckAny K CMap CNoStanding)) (hX_checked_news_at : HasX P w K mg base "checked_news_at" 6 ["chart", "standing", "arrow", "sound"] (spOr (spNews K CMap) (spCheckedBad6 K CMap CNoTry CNoNews))) (D0 : Df K mg "news" s_news ["chart", "standing", "arrow", "sound"]) :
    HasX P w K mg base "news" 7 ["chart", "standing", "arrow", "sound"] (spOr (spNews K CMap) (spNewsBad6 K CMap CNoStanding CNoTry CNoNews)) := by
  refine h_news.or (D0.hasX fun f fd F => F.okX sc_news (fun vs H Q E h => ?_) (fun cdv A outer s H vs Q E hr h => ?_))
  · obtain ⟨p, n, a, pvs, es, c, gs, v, va, vf, R, sa, sf, rfl, _⟩ := h
    rfl
  · obtain ⟨p, n, a, pvs, es, c, gs, v, va, vf, R, sa, sf, rfl, m, hR, hka, hkf, hsf, hq⟩ := h
    refine ⟨_, (pss_cons (ps_expr (pcallS hX_check_standing hr (by decide) (by rfl) (takes_of rfl rfl rfl rfl) (pa_cons (pv 0) (pa_cons (pv 1) pa_nil))))
  (pss_one (ps_ret (pcallS hX_checked_news_at hr (by decide) (by rfl) (takes_of rfl rfl rfl rfl) (pa_cons (pv 0) (pa_cons (pv 1) (pa_cons (pv 2) (pa_cons (pv 3) pa_nil)))))))), ?_⟩
    refine ⟨_, rfl, _, rfl, p, n, a, pvs, es, c, gs, v, R, rfl, m, hR, fun H1 s1 => ⟨fun r => ?_, fun nr => ?_⟩⟩
    · rcases hq with ⟨nr, _⟩ | ⟨t, x, y, rs, ls, b, _, rfl, hA, hno, q⟩
      · exact absurd r nr
      exact ⟨_, rfl, _, rfl, _, rfl, _, rfl, .inr ⟨p, n, a, pvs, es, c, gs, t, x, y, rs, ls, va, vf, sa, sf, b, rfl, hA.same s1, fun H' s => hka H' (s1.trans s), fun H' s => hkf H' (s1.trans s), hsf, hno, fun H2 s2 => q H2 (s1.trans s2)⟩⟩
    · rcases hq with ⟨_, q⟩ | ⟨t, x, y, rs, ls, b, r, _⟩
      · exact q H1 s1
      · exact absurd r nr

/-- world_with of what it refuses -/
def spWWBad (K : PySem.W.Frag) (C CS CA CN : Addr) : Sp := fun vs H Q E => ∃ (p : Addr) (n : Nat) (a : Addr) (pvs : List V) (es : Es) (c : Addr) (gs : List Nat) (v va vf : V) (R : Prop) (sa sf : String), vs = [.ref p, v, va, vf] ∧ MapOk K C H p n a pvs es c gs ∧ StdRes K H n es gs v R ∧
  (∀ H', Same H H' → Kn K H' va sa) ∧ (∀ H', Same H H' → Kn K H' vf sf) ∧ ¬ (R ∧ idxV va (es.length : Int) = true ∧ (sf == "bool") = true) ∧
  ∀ H', Same H H' → (¬ R → E (.ref CS) none H') ∧ (R → idxV va (es.length : Int) = false → E (.ref CA) none H') ∧ (R → idxV va (es.length : Int) = true → (sf == "bool") = false → E (.ref CN) none H')
theorem okx_world_with {CMap CNoStanding CNoArrow CNoNews : Addr} (B : Bt mg) (C : MapC K mg CMap) (T_NoArrow : Ex K mg "NoArrow" CNoArrow) (T_NoNews : Ex K mg "NoNews" CNoNews) (h_world_with : Has P w K mg base "world_with" 6 ["chart", "standing", "arrow", "sound"] (spWWG K CMap))
    (hX_check_standing : HasX P w K mg base "check_standing" 5 ["chart", "thing"] (spCheckAny K CMap CNoStanding)) (h_is_index : Has P w K mg base "is_index" 2 ["thing", "many"] (spIsIndex K))
    (hg_is_flag : Has P w K mg base "is_flag" 1 ["thing"] (spFlagG K)) (h_with_item : Has P w K mg base "with_item" 1 ["lot", "item"] (spWith K)) (h_holds_together : Has P w K mg base "holds_together" 3 ["chart", "reached", "rotten"] (spHolds K CMap))
    (h_goals_are_open : Has P w K mg base "goals_are_open" 3 ["chart", "rotten"] (spOpen K CMap)) (h_arrows : HasM P w K mg base CMap "arrows" 1 ["self"] (spArrows K CMap)) (D0 : Df K mg "world_with" s_world_with ["chart", "standing", "arrow", "sound"]) :
    HasX P w K mg base "world_with" 6 ["chart", "standing", "arrow", "sound"] (spOr (spWWG K CMap) (spWWBad K CMap CNoStanding CNoArrow CNoNews)) := by
  have h_is_flag := hg_is_flag
  refine h_world_with.or (D0.hasX fun f fd F => F.okX sc_world_with (fun vs H Q E h => ?_) (fun cdv A outer s H vs Q E hr h => ?_))
  · obtain ⟨p, n, a, pvs, es, c, gs, v, va, vf, R, sa, sf, rfl, _⟩ := h
    rfl
  · obtain ⟨p, n, a, pvs, es, c, gs, v, va, vf, R, sa, sf, rfl, m, hR, hka, hkf, hbad, q⟩ := h
    refine ⟨_, (pss_cons (ps_expr (pcallS hX_check_standing hr (by decide) (by rfl) (takes_of rfl rfl rfl rfl) (pa_cons (pv 0) (pa_cons (pv 1) pa_nil))))
  (pss_cons (ps_if (pt_not (pt_val (pcall h_is_index hr (by decide) (by rfl) (pa_cons (pv 2) (pa_cons (pe_callB (k_len (K := K) rfl) (by rfl) B.len bo_len (pa_cons (pe_meth0 (pv 0) C.cl h_arrows.mt h_arrows.F (hr.mono (by decide)) h_arrows.b .nil pass0) pa_nil)) pa_nil)))))
    (pss_one (ps_raise0 T_NoArrow rfl (takes_of rfl rfl rfl rfl) (by rfl)))
    pss_nil)
  (pss_cons (ps_if (pt_not (pt_val (pcall h_is_flag hr (by decide) (by rfl) (pa_cons (pv 3) pa_nil))))
    (pss_one (ps_raise0 T_NoNews rfl (takes_of rfl rfl rfl rfl) (by rfl)))
    pss_nil)
  (pss_cons (ps_asg (pv 1) (pg_tup rfl (pgs_cons (pg_name (i := 4) sc_world_with.nd rfl (.inl rfl)) (pgs_cons (pg_name (i := 5) sc_world_with.nd rfl (.inl rfl)) pgs_nil))))
  (pss_cons (ps_if (pt_cmpR (k_in (K := K) rfl) (pv 2) (pv 5) (by rfl))
    (pss_one (ps_ret (pe_ifExp (pt_val (pv 3)) pe_non (pv 5))))
    pss_nil)
  (pss_cons (ps_if (pt_val (pv 3))
    (pss_one (ps_ret (pv 5)))
    pss_nil)
  (pss_cons (ps_set (i := 6) sc_world_with.nd rfl (.inl rfl) (pcall h_with_item hr (by decide) (by rfl) (pa_cons (pv 5) (pa_cons (pv 2) pa_nil))))
  (pss_cons (ps_if (PW.pt (pw_and (pt_val (pcall h_holds_together hr (by decide) (by rfl) (pa_cons (pv 0) (pa_cons (pv 4) (pa_cons (pv 6) pa_nil))))) (pw_and1 (pt_val (pcall h_goals_are_open hr (by decide) (by rfl) (pa_cons (pv 0) (pa_cons (pv 6) pa_nil)))))))
    (pss_one (ps_ret (pv 6)))
    pss_nil)
  (pss_one (ps_ret pe_non)))))))))), ?_⟩
    have hl := m.pr.len
    refine ⟨_, rfl, _, rfl, p, n, a, pvs, es, c, gs, v, R, rfl, m, hR, fun H1 s1 => ⟨fun r => ?_, fun nr => (q H1 s1).1 nr⟩⟩
    have m1 := m.same s1
    obtain ⟨dx, hp⟩ := m1.at_.ob
    refine ⟨_, rfl, _, rfl, p, dx, _, rfl, hp, mapF_arrows _ _ _, p, n, a, pvs, c, gs, rfl, m1.at_, a, pvs, rfl, .inr m1.at_.ar, va, sa, (pvs.length : Int), rfl, hka H1 s1, _, rfl, ?_⟩
    rw [hl]
    cases e1 : idxV va (es.length : Int) with
    | false => exact iteT ((q H1 s1).2.1 r e1)
    | true =>
      refine iteF ?_
      refine ⟨_, rfl, vf, sf, rfl, hkf H1 s1, _, rfl, ?_⟩
      cases e2 : (sf == "bool") with
      | false => exact iteT ((q H1 s1).2.2 r e1 e2)
      | true => exact absurd ⟨r, e1, e2⟩ hbad

theorem okx_way_on {CMap CNoStanding CNoPlace : Addr} (B : Bt mg) (C : MapC K mg CMap) (h_way_on : Has P w K mg base "way_on" 7 ["chart", "standing", "place"] (spWayOn K CMap)) (hX_check_unreached : HasX P w K mg base "_check_unreached" 6 ["chart", "standing", "place"] (spOr (spUnrch K CMap) (spUnrBad K CMap CNoStanding CNoPlace)))
    (h_steps_to_go : Has P w K mg base "steps_to_go" 4 ["chart", "standing"] (spOf K CMap RGo)) (h_arrows_nearer : Has P w K mg base "arrows_nearer" 2 ["chart", "standing", "steps"] (spNearer K CMap)) (h_arrows : HasM P w K mg base CMap "arrows" 1 ["self"] (spArrows K CMap))
    (D0 : Df K mg "way_on" s_way_on ["chart", "standing", "place"]) : HasX P w K mg base "way_on" 7 ["chart", "standing", "place"] (spOr (spWayOn K CMap) (spUnrBad K CMap CNoStanding CNoPlace)) := by
  refine h_way_on.or (D0.hasX fun f fd F => F.okX sc_way_on (fun vs H Q E h => ?_) (fun cdv A outer s H vs Q E hr h => ?_))
  · obtain ⟨p, n, a, pvs, es, c, gs, v, va, R, sa, rfl, _⟩ := h
    rfl
  · obtain ⟨p, n, a, pvs, es, c, gs, v, va, R, sa, rfl, m, hR, hka, hq⟩ := h
    refine ⟨_, (pss_cons (ps_expr (pcallS hX_check_unreached hr (by decide) (by rfl) (takes_of rfl rfl rfl rfl) (pa_cons (pv 0) (pa_cons (pv 1) (pa_cons (pv 2) pa_nil)))))
  (pss_cons (ps_set (i := 3) sc_way_on.nd rfl (.inl rfl) (pcall h_steps_to_go hr (by decide) (by rfl) (pa_cons (pv 0) (pa_cons (pv 1) pa_nil))))
  (pss_cons (ps_if (pt_cmpR op_isN (pe_ix (k_ixl (K := K) rfl) (pv 3) (pv 2) (fun _ _ => rfl)) pe_non (nomark _))
    (pss_one (ps_ret pe_non))
    pss_nil)
  (pss_cons (ps_set (i := 4) sc_way_on.nd rfl (.inl rfl) (pcall h_arrows_nearer hr (by decide) (by rfl) (pa_cons (pv 0) (pa_cons (pv 1) (pa_cons (pv 3) pa_nil)))))
  (pss_cons (ps_set (i := 5) sc_way_on.nd rfl (.inl rfl) (pe_lst pa_nil))
  (pss_cons (ps_set (i := 6) sc_way_on.nd rfl (.inl rfl) (pv 2))
  (pss_cons (ps_while (passes_of rfl) (pt_cmpR op_gt (pe_ix (k_ixl (K := K) rfl) (pv 3) (pv 6) (fun _ _ => rfl)) pe_int (nomark _))
    (pss_cons (ps_set (i := 7) sc_way_on.nd rfl (.inl rfl) (pe_dget (hu_of hr) (pv 4) (pv 6) (fun _ _ => rfl)))
  (pss_cons (ps_expr (pe_bm PySem.F.plainAttrs_list PySem.F.slot_list_append PySem.F.type_list_append mt_append (pv 5) (pa_cons (pv 7) pa_nil)))
  (pss_one (ps_asg (pe_ix (k_ixt (K := K) rfl) (pe_meth0 (pv 0) C.cl h_arrows.mt h_arrows.F (hr.mono (by decide)) h_arrows.b .nil pass0) (pv 7) (fun _ _ => rfl)) (pg_tup rfl (pgs_cons (pg_name (i := 8) sc_way_on.nd rfl (.inl rfl)) (pgs_cons (pg_name (i := 6) sc_way_on.nd rfl (.inl rfl)) pgs_nil))))))))
  (pss_one (ps_ret (pe_callTy (k_tuple (K := K) rfl) (by rfl) B.tuple bo_tuple (pa_cons (pv 5) pa_nil))))))))))), ?_⟩
    exact ⟨_, rfl, _, rfl, _, rfl, .inr ⟨p, n, a, pvs, es, c, gs, v, va, R, sa, rfl, m, hR, hka, hq⟩⟩

theorem okx_dead_end {CMap CNoStanding CNoPlace : Addr} (B : Bt mg) (C : MapC K mg CMap) (h_dead_end : Has P w K mg base "dead_end" 7 ["chart", "standing", "place"] (spDead5 K CMap)) (hX_check_unreached : HasX P w K mg base "_check_unreached" 6 ["chart", "standing", "place"] (spOr (spUnrch K CMap) (spUnrBad K CMap CNoStanding CNoPlace)))
    (h_steps_to_go : Has P w K mg base "steps_to_go" 4 ["chart", "standing"] (spOf K CMap RGo)) (h_steps_from : Has P w K mg base "steps_from" 1 ["many", "pairs", "sources"] (spSteps K)) (h_unreached_pairs : Has P w K mg base "_unreached_pairs" 3 ["chart", "standing"] (spUnr K CMap))
    (h_many : HasM P w K mg base CMap "many" 1 ["self"] (spMany K CMap)) (h_arrows : HasM P w K mg base CMap "arrows" 1 ["self"] (spArrows K CMap))
    (D0 : Df K mg "dead_end" s_dead_end ["chart", "standing", "place"]) : HasX P w K mg base "dead_end" 7 ["chart", "standing", "place"] (spOr (spDead5 K CMap) (spUnrBad K CMap CNoStanding CNoPlace)) := by
  refine h_dead_end.or (D0.hasX fun f fd F => F.okX sc_dead_end (fun vs H Q E h => ?_) (fun cdv A outer s H vs Q E hr h => ?_))
  · obtain ⟨p, n, a, pvs, es, c, gs, v, va, R, sa, rfl, _⟩ := h
    rfl
  · obtain ⟨p, n, a, pvs, es, c, gs, v, va, R, sa, rfl, m, hR, hka, hq⟩ := h
    refine ⟨_, (pss_cons (ps_expr (pcallS hX_check_unreached hr (by decide) (by rfl) (takes_of rfl rfl rfl rfl) (pa_cons (pv 0) (pa_cons (pv 1) (pa_cons (pv 2) pa_nil)))))
  (pss_cons (ps_if (pt_cmpR op_notN (pe_ix (k_ixl (K := K) rfl) (pcall h_steps_to_go hr (by decide) (by rfl) (pa_cons (pv 0) (pa_cons (pv 1) pa_nil))) (pv 2) (fun _ _ => rfl)) pe_non (nomark _))
    (pss_one (ps_ret pe_non))
    pss_nil)
  (pss_cons (ps_set (i := 3) sc_dead_end.nd rfl (.inl rfl) (pe_meth0 (pv 0) C.cl h_many.mt h_many.F (hr.mono (by decide)) h_many.b .nil pass0))
  (pss_cons (ps_set (i := 4) sc_dead_end.nd rfl (.inr rfl) (pcall h_steps_from hr (by decide) (by rfl) (pa_cons (pv 3) (pa_cons (pcall h_unreached_pairs hr (by decide) (by rfl) (pa_cons (pv 0) (pa_cons (pv 1) pa_nil))) (pa_cons (pe_tup (pa_cons (pv 2) pa_nil)) pa_nil)))))
  (pss_cons (ps_set (i := 5) sc_dead_end.nd rfl (.inl rfl) (pe_callTy (k_tuple (K := K) rfl) (by rfl) B.tuple bo_tuple (pa_cons (pe_lc (own := [("other", 7)]) (g := gName 7) rfl sc_dead_end.nd (pi_range1 (by rfl) B.range (pa_cons (pv 3) pa_nil)) (blkOk_by (N := sl_dead_end) (sc := defScope s_dead_end) (by decide +kernel)) (fun _ _ _ _ _ => (pg_name (i := 7) sc_dead_end.nd rfl (.inl rfl))) (fun _ _ _ _ _ => pts_one (pt_cmpR op_notN (pe_ix (k_ixl (K := K) rfl) (pv 4) (pv 7) (fun _ _ => rfl)) pe_non (nomark _))) (fun _ _ _ _ _ => (pv 7))) pa_nil)))
  (pss_cons (ps_set (i := 6) sc_dead_end.nd rfl (.inl rfl) (pe_callTy (k_tuple (K := K) rfl) (by rfl) B.tuple bo_tuple (pa_cons (pe_lc (own := [("arrow", 8), ("tail", 9), ("head", 10)]) (g := gTup K 2 (gCons (gName 8) (gCons (gTup K 2 (gCons (gName 9) (gCons (gName 10) gNil))) gNil))) rfl sc_dead_end.nd (pi_enumT (by rfl) B.enumerate (pa_cons (pe_meth0 (pv 0) C.cl h_arrows.mt h_arrows.F (hr.mono (by decide)) h_arrows.b .nil pass0) pa_nil)) (blkOk_by (N := sl_dead_end) (sc := defScope s_dead_end) (by decide +kernel)) (fun _ _ _ _ _ => (pg_tup rfl (pgs_cons (pg_name (i := 8) sc_dead_end.nd rfl (.inl rfl)) (pgs_cons (pg_tup rfl (pgs_cons (pg_name (i := 9) sc_dead_end.nd rfl (.inl rfl)) (pgs_cons (pg_name (i := 10) sc_dead_end.nd rfl (.inl rfl)) pgs_nil))) pgs_nil)))) (fun _ _ _ _ _ => pts_one (PW.pt (pw_and (pt_cmpR op_notN (pe_ix (k_ixl (K := K) rfl) (pv 4) (pv 9) (fun _ _ => rfl)) pe_non (nomark _)) (pw_and1 (pt_cmpR op_isN (pe_ix (k_ixl (K := K) rfl) (pv 4) (pv 10) (fun _ _ => rfl)) pe_non (nomark _)))))) (fun _ _ _ _ _ => (pv 8))) pa_nil)))
  (pss_one (ps_ret (pe_tup (pa_cons (pv 5) (pa_cons (pv 6) pa_nil))))))))))), ?_⟩
    exact ⟨_, rfl, _, rfl, _, rfl, .inr ⟨p, n, a, pvs, es, c, gs, v, va, R, sa, rfl, m, hR, hka, hq⟩⟩

abbrev s__law_is_index : Stmt := topS 84
abbrev sl__law_is_index : List Str := ["_law_thing_here", "_law_many"]
theorem sc__law_is_index : FnScope ["_law_thing_here", "_law_many"] ["_law_thing_here", "_law_many"] (defScope s__law_is_index) := ⟨rfl, rfl, rfl, by decide +kernel, rfl, by decide +kernel, by decide +kernel⟩
def spLIdx3 (K : PySem.W.Frag) : Sp := fun vs H Q _ => ∃ (v : V) (m : Int), vs = [v, .int m] ∧ Any3 K H v ∧ Q (.bl (idxV v m)) H
theorem ok__law_is_index (B : Bt mg) (D0 : Df K mg "_law_is_index" s__law_is_index ["_law_thing_here", "_law_many"]) : Has P w K mg base "_law_is_index" 1 ["_law_thing_here", "_law_many"] (spLIdx3 K) := by
  refine D0.has fun f fd F => F.ok sc__law_is_index (fun vs H Q E h => ?_) (fun cdv A outer s H vs Q E hr h => ?_)
  · obtain ⟨v, m, rfl, _⟩ := h
    rfl
  · obtain ⟨v, m, rfl, hk, q⟩ := h
    refine ⟨_, (pss_one (ps_ret (pe_and (pe_callB (k_isi (K := K) rfl) (by rfl) B.isinstance bo_isinstance (pa_cons (pv 0) (pa_cons (pe_bltn (v := .ty "int") (by rfl) B.int bo_int rfl) pa_nil))) (pe_and (pe_not (pe_callB (k_isi (K := K) rfl) (by rfl) B.isinstance bo_isinstance (pa_cons (pv 0) (pa_cons (pe_bltn (v := .ty "bool") (by rfl) B.bool bo_bool rfl) pa_nil)))) (pe_one (pe_chain op_le op_lt pe_int (pv 0) (pv 1))))))), ?_⟩
    obtain ⟨s0, ⟨T, ty, _, ki, kb⟩, e⟩ := hk.knw
    refine ⟨_, rfl, v, .ty "int", _, _, _, rfl, .ty "int", ty, ki, _, rfl, ?_⟩
    by_cases h1 : (s0 == "int" || s0 == "bool") = true
    · rw [h1]
      refine iteT ?_
      refine ⟨_, rfl, v, .ty "bool", _, _, _, rfl, .ty "bool", ty, kb, _, rfl, _, rfl, ?_⟩
      cases v with
      | int i =>
        have e2 : (s0 == "bool") = false := by
          have e' : true = (s0 == "int") := e
          have := eq_of_beq e'.symm
          subst this
          rfl
        rw [e2]
        refine iteT ?_
        refine ⟨_, rfl, _, _, rfl, rfl, _, rfl, ?_⟩
        by_cases h0 : (0 : Int) ≤ i
        · rw [decide_eq_true h0]
          refine iteT ?_
          refine ⟨_, rfl, _, _, rfl, rfl, ?_⟩
          have e3 : idxV (.int i) m = decide (i < m) := by
            show (decide (0 ≤ i) && decide (i < m)) = decide (i < m)
            rw [decide_eq_true h0, Bool.true_and]
          rw [e3] at q
          exact q
        · rw [decide_eq_false h0]
          refine iteF ?_
          have e3 : idxV (.int i) m = false := by
            show (decide (0 ≤ i) && decide (i < m)) = false
            rw [decide_eq_false h0, Bool.false_and]
          rw [e3] at q
          exact q
      | _ =>
        have e' : false = (s0 == "int") := e
        rw [← e', Bool.false_or] at h1
        rw [h1]
        exact iteF q
    · have h2 := Bool.eq_false_iff.mpr h1
      rw [h2]
      refine iteF ?_
      have hi : isI v = false := by
        rw [e]
        exact (Bool.or_eq_false_iff.mp h2).1
      cases v with
      | int i => cases hi
      | _ => exact q

abbrev s__law_is_lot : Stmt := topS 85
abbrev sl__law_is_lot : List Str := ["_law_thing_here", "_law_many", "_law_one", "_law_k"]
theorem sc__law_is_lot : FnScope ["_law_thing_here", "_law_many", "_law_one", "_law_k"] ["_law_thing_here", "_law_many"] (defScope s__law_is_lot) := ⟨rfl, rfl, rfl, by decide +kernel, rfl, by decide +kernel, by decide +kernel⟩
theorem adj_pw : ∀ {ls : List Nat}, (∀ i u v, ls[i]? = some u → ls[i + 1]? = some v → u < v) → ls.Pairwise (· < ·)
  | [], _ => .nil
  | [a], _ => by simp
  | a :: b :: r, h => by
    have ih : (b :: r).Pairwise (· < ·) := adj_pw fun i u v hu hv => h (i + 1) u v (by simpa using hu) (by simpa using hv)
    refine List.pairwise_cons.mpr ⟨fun x hx => ?_, ih⟩
    have hab : a < b := h 0 a b rfl rfl
    rcases List.mem_cons.mp hx with rfl | hx
    · exact hab
    · have := (List.pairwise_cons.mp ih).1 x hx
      omega
theorem idx_nats {m : Nat} : ∀ {xs : List V}, (∀ x ∈ xs, idxV x (m : Int) = true) → ∃ ls : List Nat, xs = ls.map nV ∧ ∀ l ∈ ls, l < m
  | [], _ => ⟨[], rfl, fun _ h => (List.not_mem_nil h).elim⟩
  | x :: xs, h => by
    obtain ⟨ls, rfl, h2⟩ := idx_nats (xs := xs) fun y hy => h y (List.mem_cons_of_mem _ hy)
    have hx := h x List.mem_cons_self
    cases x with
    | int i =>
      have hx' : (decide (0 ≤ i) && decide (i < (m : Int))) = true := hx
      rw [Bool.and_eq_true, decide_eq_true_eq, decide_eq_true_eq] at hx'
      refine ⟨i.toNat :: ls, ?_, fun l hl => ?_⟩
      · rw [List.map_cons]
        congr 1
        show V.int i = V.int ((i.toNat : Nat) : Int)
        congr 1
        omega
      · rcases List.mem_cons.mp hl with rfl | hl
        · omega
        · exact h2 l hl
    | _ => cases hx
def spLLot3 (K : PySem.W.Frag) : Sp := fun vs H Q _ => ∃ (v : V) (m : Nat), vs = [v, .int (m : Int)] ∧
  ((∃ a xs, v = .ref a ∧ SqT K H a xs ∧ xs.length ≤ 1000 ∧ (∀ x ∈ xs, Any3 K H x) ∧ ∀ H' (ok : Bool), Same H H' → (ok = true ↔ LotX m xs) → Q (.bl ok) H') ∨ (NoT K H v ∧ Q (.bl false) H))
theorem ok__law_is_lot (B : Bt mg) (h_law_is_index : Has P w K mg base "_law_is_index" 1 ["_law_thing_here", "_law_many"] (spLIdx3 K)) (D0 : Df K mg "_law_is_lot" s__law_is_lot ["_law_thing_here", "_law_many"]) : Has P w K mg base "_law_is_lot" 2 ["_law_thing_here", "_law_many"] (spLLot3 K) := by
  refine D0.has fun f fd F => F.ok sc__law_is_lot (fun vs H Q E h => ?_) (fun cdv A outer s H vs Q E hr h => ?_)
  · obtain ⟨v, m, rfl, _⟩ := h
    rfl
  · obtain ⟨v, m, rfl, h⟩ := h
    refine ⟨_, (pss_cons (ps_if (PW.pt (pw_or (pt_not (pt_val (pe_callB (k_isi (K := K) rfl) (by rfl) B.isinstance bo_isinstance (pa_cons (pv 0) (pa_cons (pe_bltn (v := .ty "tuple") (by rfl) B.tuple bo_tuple rfl) pa_nil))))) (pw_or1 (pt_not (pt_val (pe_callB (k_all (K := K) rfl rfl) (by rfl) B.all bo_all (pa_cons (pe_lc (own := [("_law_one", 2)]) (g := gName 2) rfl sc__law_is_lot.nd (k_pit (K := K) rfl (pv 0)) (blkOk_by (N := sl__law_is_lot) (sc := defScope s__law_is_lot) (by decide +kernel)) (fun _ _ _ _ _ => (pg_name (i := 2) sc__law_is_lot.nd rfl (.inl rfl))) (fun _ _ _ _ _ => pts_nil) (fun _ _ _ _ _ => (pcall h_law_is_index hr (by decide) (by rfl) (pa_cons (pv 2) (pa_cons (pv 1) pa_nil))))) pa_nil)))))))
    (pss_one (ps_ret pe_bl))
    pss_nil)
  (pss_one (ps_ret (pe_callB (k_all (K := K) rfl rfl) (by rfl) B.all bo_all (pa_cons (pe_lc (own := [("_law_k", 3)]) (g := gName 3) rfl sc__law_is_lot.nd (pi_range1 (by rfl) B.range (pa_cons (pe_op op_sub (pe_callB (k_len (K := K) rfl) (by rfl) B.len bo_len (pa_cons (pv 0) pa_nil)) pe_int) pa_nil)) (blkOk_by (N := sl__law_is_lot) (sc := defScope s__law_is_lot) (by decide +kernel)) (fun _ _ _ _ _ => (pg_name (i := 3) sc__law_is_lot.nd rfl (.inl rfl))) (fun _ _ _ _ _ => pts_nil) (fun _ _ _ _ _ => (pe_cmpR op_lt (pe_ix (k_ixt (K := K) rfl) (pv 0) (pv 3) (fun _ _ => rfl)) (pe_ix (k_ixt (K := K) rfl) (pv 0) (pe_op op_add (pv 3) pe_int) (fun _ _ => rfl)) (nomark _)))) pa_nil))))), ?_⟩
    rcases h with ⟨a, xs, rfl, hS, hl, hk, q⟩ | ⟨h0, q⟩
    · refine ⟨_, rfl, _, .ty "tuple", _, _, _, rfl, .ty "tuple", (kn_of_tup hS).ty, kit_tuple (kn_of_tup hS).mem, _, rfl, iteF ?_⟩
      refine ⟨_, rfl, a, rfl, ⟨_, hS⟩, fun D nD => ?_⟩
      refine lc_val walk_tup calm_at (fun i => (xs[i]?).bind fun x => some (V.bl (idxV x (m : Int)))) (by omega) nD (fun H3 s3 => Same.sqt s3 hS) ?_ fun H3 s3 h3 => ?_
      · rintro i v H3 H4 hi s3 ⟨rfl, hv⟩ Kt kt
        refine ⟨rfl, tyes ?_⟩
        refine iteT ?_
        have k0 := kt _ (Same.refl _)
        rw [hv] at k0
        exact ⟨_, rfl, _, rfl, v, (m : Int), rfl, (hk v (List.mem_of_getElem? hv)).same s3, k0⟩
      rw [fm_range, fm_some] at h3
      refine ⟨D, xs.map fun x => idxV x (m : Int), rfl, sql (by rw [h3, List.map_map]; rfl), _, rfl, ?_⟩
      cases hb : (xs.map fun x => idxV x (m : Int)).all id with
      | false =>
        refine iteT (q H3 false s3 ⟨fun z => Bool.noConfusion z, fun ⟨ls, e1, _, e3⟩ => ?_⟩)
        have : (xs.map fun x => idxV x (m : Int)).all id = true := by
          rw [List.all_eq_true]
          intro z hz
          obtain ⟨x, hx, rfl⟩ := List.mem_map.mp hz
          rw [e1] at hx
          obtain ⟨l, hl, rfl⟩ := List.mem_map.mp hx
          show (decide (0 ≤ (l : Int)) && decide ((l : Int) < (m : Int))) = true
          have := e3 l hl
          rw [Bool.and_eq_true, decide_eq_true_eq, decide_eq_true_eq]
          omega
        rw [hb] at this
        cases this
      | true =>
        refine iteF ?_
        obtain ⟨gs, rfl, hgm⟩ := idx_nats (m := m) (xs := xs) fun x hx => by
          rw [List.all_eq_true] at hb
          exact hb _ (List.mem_map.mpr ⟨x, hx, rfl⟩)
        have hS3 := Same.sqt s3 hS
        rw [List.length_map] at hl
        refine ⟨_, rfl, a, _, rfl, .inr hS3, _, _, rfl, rfl, ((gs.map nV).length : Int) - 1, rfl, by rw [List.length_map]; omega, by rw [List.length_map]; omega, fun D2 nD2 => ?_⟩
        refine lc_val walk_range calm_fn (fun i => some (V.bl (match gs[i]?, gs[i + 1]? with | some u, some v => decide (u < v) | _, _ => true))) (by rw [List.length_map]; omega) nD2 (fun _ _ => trivial) ?_ fun H5 s5 h5 => ?_
        · rintro i v H5 H6 hi s5 ⟨rfl, rfl⟩ Kt kt
          rw [List.length_map] at hi
          have e0 : (0 : Int) + (i : Int) = (i : Int) := Int.zero_add _
          have h1 : gs[i]? = some (gs[i]'(by omega)) := List.getElem?_eq_getElem _
          have h2 : gs[i + 1]? = some (gs[i + 1]'(by omega)) := List.getElem?_eq_getElem _
          generalize gs[i]'(by omega) = u at h1
          generalize gs[i + 1]'(by omega) = u2 at h2
          have hS6 := Same.sqt s5 hS3
          refine ⟨rfl, tyes ?_⟩
          refine iteT ?_
          refine ⟨_, rfl, _, rfl, a, _, _, nV u, rfl, rfl, hS6, by rw [e0]; exact atI_nat (by rw [List.getElem?_map, h1]; rfl), _, rfl, _, rfl, _, _, rfl, rfl, a, _, _, nV u2, rfl, rfl, hS6, by rw [e0]; exact atI_nat (j := i + 1) (by rw [List.getElem?_map, h2]; rfl), _, _, rfl, rfl, ?_⟩
          have k0 := kt _ (Same.refl _)
          rw [h1, h2] at k0
          show Kt (some (V.bl (decide ((u : Int) < (u2 : Int))))) _
          rw [show decide ((u : Int) < (u2 : Int)) = decide (u < u2) by
            by_cases hh : u < u2
            · rw [decide_eq_true hh, decide_eq_true (show (u : Int) < (u2 : Int) by omega)]
            · rw [decide_eq_false hh, decide_eq_false (show ¬ (u : Int) < (u2 : Int) by omega)]]
          exact k0
        · rw [fm_some] at h5
          refine ⟨D2, (List.range (((gs.map nV).length : Int) - 1).toNat).map fun i => (match gs[i]?, gs[i + 1]? with | some u, some v => decide (u < v) | _, _ => true), rfl, sql (by rw [h5, List.map_map]; rfl), ?_⟩
          refine q H5 _ (s3.trans s5) ?_
          rw [List.all_eq_true]
          constructor
          · intro hall
            refine ⟨gs, rfl, adj_pw fun i u v hu hv => ?_, hgm⟩
            have hi := (List.getElem?_eq_some_iff.mp hv).1
            have := hall _ (List.mem_map.mpr ⟨i, List.mem_range.mpr (by rw [List.length_map]; omega), rfl⟩)
            rw [hu, hv] at this
            exact of_decide_eq_true this
          · rintro ⟨ls, e1, e2, _⟩ z hz
            rw [← map_nV_inj e1] at e2
            obtain ⟨i, hi, rfl⟩ := List.mem_map.mp hz
            have hi' := List.mem_range.mp hi
            rw [List.length_map] at hi'
            have h1 : gs[i]? = some (gs[i]'(by omega)) := List.getElem?_eq_getElem _
            have h2 : gs[i + 1]? = some (gs[i + 1]'(by omega)) := List.getElem?_eq_getElem _
            rw [h1, h2]
            exact decide_eq_true (List.pairwise_iff_getElem.mp e2 i (i + 1) (by omega) (by omega) (by omega))
    · obtain ⟨s0, ⟨⟨T, ty, kt, _⟩, _⟩, k2⟩ := h0.knw
      refine ⟨_, rfl, _, .ty "tuple", _, _, _, rfl, .ty "tuple", ty, kt, _, rfl, ?_⟩
      rw [k2]
      refine iteT ?_
      exact iteT q

abbrev s__law_is_judged : Stmt := topS 86
abbrev sl__law_is_judged : List Str := ["_law_parts_here", "_law_thing_here"]
theorem sc__law_is_judged : FnScope ["_law_parts_here", "_law_thing_here"] ["_law_parts_here", "_law_thing_here"] (defScope s__law_is_judged) := ⟨rfl, rfl, rfl, by decide +kernel, rfl, by decide +kernel, by decide +kernel⟩
theorem StdOk.stdL {n : Nat} {es : Es} {gs rs ls : List Nat} (o : StdOk n es gs rs ls) : StdL es gs rs ls :=
  ⟨o.r0, o.tl, fun r hr => (o.hold r hr).mono (fun e he => by
    obtain ⟨k, h1, h2, _, h3⟩ := mem_inner.mp he
    exact mem_ledE.mpr ⟨k, h1, h2, h3⟩) fun _ h => h, o.opn⟩
def spJudged (K : PySem.W.Frag) : Sp := fun vs H Q _ => ∃ (t : Addr) (n : Nat) (a : Addr) (pvs : List V) (es : Es) (c : Addr) (gs : List Nat) (v : V) (R : Prop), vs = [.ref t, v] ∧ PtsAt K H t n a pvs es c gs ∧ StdRes K H n es gs v R ∧ ∀ H' (b : Bool), Same H H' → (b = true ↔ R) → Q (.bl b) H'
theorem ok__law_is_judged (B : Bt mg) (h_law_is_lot : Has P w K mg base "_law_is_lot" 2 ["_law_thing_here", "_law_many"] (spLLot3 K)) (h_law_is_standing : Has P w K mg base "_law_is_standing" 3 ["_law_parts_here", "_law_reached", "_law_rotten"] (spIsStdL K))
    (D0 : Df K mg "_law_is_judged" s__law_is_judged ["_law_parts_here", "_law_thing_here"]) : Has P w K mg base "_law_is_judged" 4 ["_law_parts_here", "_law_thing_here"] (spJudged K) := by
  refine D0.has fun f fd F => F.ok sc__law_is_judged (fun vs H Q E h => ?_) (fun cdv A outer s H vs Q E hr h => ?_)
  · obtain ⟨t, n, a, pvs, es, c, gs, v, R, rfl, _⟩ := h
    rfl
  · obtain ⟨pt, n, a, pvs, es, c, gs, v, R, rfl, hP, hR, q⟩ := h
    refine ⟨_, (pss_cons (ps_if (PW.pt (pw_or (pt_not (pt_val (pe_callB (k_isi (K := K) rfl) (by rfl) B.isinstance bo_isinstance (pa_cons (pv 1) (pa_cons (pe_bltn (v := .ty "tuple") (by rfl) B.tuple bo_tuple rfl) pa_nil))))) (pw_or1 (pt_cmpR op_ne (pe_callB (k_len (K := K) rfl) (by rfl) B.len bo_len (pa_cons (pv 1) pa_nil)) pe_int (nomark _)))))
    (pss_one (ps_ret pe_bl))
    pss_nil)
  (pss_cons (ps_if (PW.pt (pw_or (pt_not (pt_val (pcall h_law_is_lot hr (by decide) (by rfl) (pa_cons (pe_ix (k_ixt (K := K) rfl) (pv 1) pe_int (fun _ _ => rfl)) (pa_cons (pe_ix (k_ixt (K := K) rfl) (pv 0) pe_int (fun _ _ => rfl)) pa_nil))))) (pw_or1 (pt_not (pt_val (pcall h_law_is_lot hr (by decide) (by rfl) (pa_cons (pe_ix (k_ixt (K := K) rfl) (pv 1) pe_int (fun _ _ => rfl)) (pa_cons (pe_callB (k_len (K := K) rfl) (by rfl) B.len bo_len (pa_cons (pe_ix (k_ixt (K := K) rfl) (pv 0) pe_int (fun _ _ => rfl)) pa_nil)) pa_nil))))))))
    (pss_one (ps_ret pe_bl))
    pss_nil)
  (pss_one (ps_ret (pcall h_law_is_standing hr (by decide) (by rfl) (pa_cons (pv 0) (pa_cons (pe_ix (k_ixt (K := K) rfl) (pv 1) pe_int (fun _ _ => rfl)) (pa_cons (pe_ix (k_ixt (K := K) rfl) (pv 1) pe_int (fun _ _ => rfl)) pa_nil)))))))), ?_⟩
    have hl := hP.pr.len
    have g60 := hP.gm.l60
    have qf : ∀ H', Same H H' → ¬ R → Q (.bl false) H' := fun H' s nr => q H' false s ⟨fun z => Bool.noConfusion z, fun r => absurd r nr⟩
    rcases hR with ⟨hk, nr⟩ | ⟨⟨t, xs, rfl, hS, hlen⟩, nr⟩ | ⟨t, a1, a2, o1, o2, rfl, hS, hA1, hA2, hR⟩
    · obtain ⟨s, ⟨⟨T, ty, kt, _⟩, _⟩, hs⟩ := hk.knw
      refine ⟨_, rfl, _, .ty "tuple", _, _, _, rfl, .ty "tuple", ty, kt, _, rfl, ?_⟩
      rw [hs]
      exact iteT (iteT (qf _ (Same.refl _) nr))
    · refine ⟨_, rfl, _, .ty "tuple", _, _, _, rfl, .ty "tuple", (kn_of_tup hS).ty, kit_tuple (kn_of_tup hS).mem, _, rfl, iteF ?_⟩
      refine ⟨_, rfl, t, _, rfl, .inr hS, rfl, _, rfl, ?_⟩
      have e : (!decide (V.int (xs.length : Int) = V.int 2)) = true := by
        rw [Bool.not_eq_true', decide_eq_false_iff_not]
        intro z
        injection z with z
        omega
      rw [e]
      exact iteT (qf _ (Same.refl _) nr)
    · refine ⟨_, rfl, _, .ty "tuple", _, _, _, rfl, .ty "tuple", (kn_of_tup hS).ty, kit_tuple (kn_of_tup hS).mem, _, rfl, iteF ?_⟩
      refine ⟨_, rfl, t, _, rfl, .inr hS, rfl, _, rfl, iteF ?_⟩
      refine ⟨_, rfl, t, _, (0 : Nat), a1, rfl, rfl, hS, atI_nat rfl, _, rfl, pt, _, (0 : Nat), nV n, rfl, rfl, hP.tp, atI_nat rfl, a1, n, rfl, ?_⟩
      cases o1 with
      | none => exact .inr ⟨hA1, _, rfl, iteT (iteT (qf _ (Same.refl _) fun z => by
          obtain ⟨rs, ls, e, _⟩ := hR.mp z
          cases e))⟩
      | some xs1 =>
      obtain ⟨x, rfl, hx, hxl, hxk⟩ := hA1
      refine .inl ⟨x, xs1, rfl, hx, hxl, hxk, fun H1 ok1 s1 hok1 => ⟨_, rfl, ?_⟩⟩
      cases ok1 with
      | false => exact iteT (iteT (qf H1 s1 fun z => by
          obtain ⟨rs, ls, e, _, o⟩ := hR.mp z
          have := hok1.mpr ⟨rs, Option.some.inj e, o.rp, o.rn⟩
          cases this))
      | true =>
      refine iteF ?_
      obtain ⟨rs, rfl, hrp, hrn⟩ := hok1.mp rfl
      have hP1 := hP.same s1
      have hS1 := Same.sqt s1 hS
      refine ⟨_, rfl, t, _, (1 : Nat), a2, rfl, rfl, hS1, atI_nat rfl, _, rfl, pt, _, (1 : Nat), .ref a, rfl, rfl, hP1.tp, atI_nat rfl, a, pvs, rfl, .inr hP1.ar, a2, pvs.length, rfl, ?_⟩
      cases o2 with
      | none => exact .inr ⟨NoT.same s1 hA2, _, rfl, iteT (qf _ s1 fun z => by
          obtain ⟨rs, ls, _, e, _⟩ := hR.mp z
          cases e)⟩
      | some xs2 =>
      obtain ⟨y, rfl, hy, hyl, hyk⟩ := hA2
      refine .inl ⟨y, xs2, rfl, Same.sqt s1 hy, hyl, fun z hz => (hyk z hz).same s1, fun H2 ok2 s2 hok2 => ⟨_, rfl, ?_⟩⟩
      rw [hl] at hok2
      cases ok2 with
      | false => exact iteT (qf H2 (s1.trans s2) fun z => by
          obtain ⟨rs, ls, _, e, o⟩ := hR.mp z
          have := hok2.mpr ⟨ls, Option.some.inj e, o.lp, o.ln⟩
          cases this)
      | true =>
      refine iteF ?_
      obtain ⟨ls, rfl, hlp, hln⟩ := hok2.mp rfl
      have hR2 : R ↔ StdOk n es gs rs ls := by
        rw [hR]
        constructor
        · rintro ⟨rs', ls', e1, e2, o⟩
          rw [nV_inj (Option.some.inj e1), nV_inj (Option.some.inj e2)]
          exact o
        · intro o
          exact ⟨rs, ls, rfl, rfl, o⟩
      have s12 := s1.trans s2
      have hP2 := hP.same s12
      have hS2 := Same.sqt s12 hS
      rw [List.length_map] at hyl
      refine ⟨_, rfl, _, rfl, t, _, (0 : Nat), .ref x, rfl, rfl, hS2, atI_nat rfl, _, rfl, t, _, (1 : Nat), .ref y, rfl, rfl, hS2, atI_nat rfl, pt, n, a, pvs, es, c, gs, x, y, rs, ls, rfl, hP2, .inr (Same.sqt s12 hx), .inr (Same.sqt s12 hy), hrp.imp (fun h => Nat.ne_of_lt h), hrn, hln, hyl, fun H3 ok s3 hok => ?_⟩
      exact q H3 ok (s12.trans s3) (hok.trans ⟨fun s => hR2.mpr (s.ok hrn hln (fun _ => Iff.rfl) (fun _ => Iff.rfl) hrp hlp), fun r => (hR2.mp r).stdL⟩)

abbrev s__law_asked : Stmt := topS 91
abbrev sl__law_asked : List Str := ["_law_way", "_law_chart", "_law_thing_here", "_law_last", "_law_more", "_law_told"]
theorem sc__law_asked : FnScope ["_law_way", "_law_chart", "_law_thing_here", "_law_last", "_law_more", "_law_told"] ["_law_way", "_law_chart", "_law_thing_here", "_law_last", "_law_more"] (defScope s__law_asked) := ⟨rfl, rfl, rfl, by decide +kernel, rfl, by decide +kernel, by decide +kernel⟩
/-- what is due: of no name, of no standing, of a standing -/
def AnsOk (w : Int) (R : Prop) (s : Str) : Prop := (w = 14 → s = "name") ∧ (w ≠ 14 → ¬ R → s = "standing") ∧ (w ≠ 14 → R → s = "none" ∨ (s = "other" ∧ 5 ≤ w ∧ w ≤ 8))
theorem ans_std {w : Int} {R : Prop} (nr : ¬ R) (h : w ≠ 14) : AnsOk w R "standing" := ⟨fun e => absurd e h, fun _ _ => rfl, fun _ r => absurd r nr⟩
theorem ans_non {w : Int} {R : Prop} (r : R) (h : w ≠ 14) : AnsOk w R "none" := ⟨fun e => absurd e h, fun _ nr => absurd r nr, fun _ _ => .inl rfl⟩
theorem ans_oth {w : Int} {R : Prop} (r : R) (h : 5 ≤ w) (h2 : w ≤ 8) : AnsOk w R "other" := ⟨fun e => by omega, fun _ nr => absurd r nr, fun _ _ => .inr ⟨rfl, h, h2⟩⟩
theorem ans_nam {w : Int} {R : Prop} (h : w = 14) : AnsOk w R "name" := ⟨fun _ => rfl, fun e => absurd h e, fun e => absurd h e⟩
theorem idx_one {m : Nat} {v : V} (h : idxV v (m : Int) = true) : ∃ k : Nat, v = nV k ∧ k < m := by
  cases v with
  | int i =>
    have hx' : (decide (0 ≤ i) && decide (i < (m : Int))) = true := h
    rw [Bool.and_eq_true, decide_eq_true_eq, decide_eq_true_eq] at hx'
    refine ⟨i.toNat, ?_, by omega⟩
    show V.int i = V.int ((i.toNat : Nat) : Int)
    congr 1
    omega
  | _ => cases h
def nms6 : List V := [.str "first", .str "last", .str "all", .str "near", .str "far", .str "none"]
theorem nms6_get {w : Int} (h1 : 9 ≤ w) (h2 : w < 14) : ∃ nm : Nm, atI nms6 (w - 9) = some (.str nm.str) := by
  have : w = 9 ∨ w = 10 ∨ w = 11 ∨ w = 12 ∨ w = 13 := by omega
  rcases this with rfl | rfl | rfl | rfl | rfl
  · exact ⟨.first, rfl⟩
  · exact ⟨.last, rfl⟩
  · exact ⟨.all, rfl⟩
  · exact ⟨.near, rfl⟩
  · exact ⟨.far, rfl⟩
def spAsked3 (K : PySem.W.Frag) (C : Addr) : Sp := fun vs H Q _ => ∃ (w : Int) (p : Addr) (n : Nat) (a : Addr) (pvs : List V) (es : Es) (c : Addr) (gs : List Nat) (v va vf : V) (R : Prop), vs = [.int w, .ref p, v, va, vf] ∧ 0 ≤ w ∧ w < 15 ∧ MapOk K C H p n a pvs es c gs ∧ StdRes K H n es gs v R ∧
  KnI K H va ∧ KnI K H vf ∧ ∀ H' s, Same H H' → AnsOk w R s → Q (.str s) H'
theorem ok__law_asked {CMap CNoStanding CNoName CWayError CNoTry CNoNews CNoPlace CNoArrow : Addr} (T_NoStanding : Ex K mg "NoStanding" CNoStanding) (T_NoName : Ex K mg "NoName" CNoName) (T_WayError : Ex K mg "WayError" CWayError)
    (m_NoStanding_NoStanding : PySem.W.exmOne K (.ref CNoStanding) (.ref CNoStanding) = some true) (m_NoName_NoStanding : PySem.W.exmOne K (.ref CNoName) (.ref CNoStanding) = some false) (m_NoName_NoName : PySem.W.exmOne K (.ref CNoName) (.ref CNoName) = some true)
    (m_NoTry_NoStanding : PySem.W.exmOne K (.ref CNoTry) (.ref CNoStanding) = some false) (m_NoTry_NoName : PySem.W.exmOne K (.ref CNoTry) (.ref CNoName) = some false) (m_NoTry_WayError : PySem.W.exmOne K (.ref CNoTry) (.ref CWayError) = some true)
    (m_NoNews_NoStanding : PySem.W.exmOne K (.ref CNoNews) (.ref CNoStanding) = some false) (m_NoNews_NoName : PySem.W.exmOne K (.ref CNoNews) (.ref CNoName) = some false) (m_NoNews_WayError : PySem.W.exmOne K (.ref CNoNews) (.ref CWayError) = some true)
    (m_NoPlace_NoStanding : PySem.W.exmOne K (.ref CNoPlace) (.ref CNoStanding) = some false) (m_NoPlace_NoName : PySem.W.exmOne K (.ref CNoPlace) (.ref CNoName) = some false) (m_NoPlace_WayError : PySem.W.exmOne K (.ref CNoPlace) (.ref CWayError) = some true)
    (m_NoArrow_NoStanding : PySem.W.exmOne K (.ref CNoArrow) (.ref CNoStanding) = some false) (m_NoArrow_NoName : PySem.W.exmOne K (.ref CNoArrow) (.ref CNoName) = some false) (m_NoArrow_WayError : PySem.W.exmOne K (.ref CNoArrow) (.ref CWayError) = some true)
    (hX_is_done : HasX P w K mg base "is_done" 6 ["chart", "standing"] (spOr (spOf K CMap RDone) (spStdBad K CMap CNoStanding)))
    (hX_alive : HasX P w K mg base "alive" 6 ["chart", "standing"] (spOr (spOf K CMap RAlive) (spStdBad K CMap CNoStanding)))
    (hX_tries : HasX P w K mg base "tries" 6 ["chart", "standing"] (spOr (spOf K CMap RTries) (spStdBad K CMap CNoStanding)))
    (hX_worth : HasX P w K mg base "worth" 7 ["chart", "standing"] (spOr (spOf K CMap RWorth) (spStdBad K CMap CNoStanding)))
    (hX_sure : HasX P w K mg base "sure" 6 ["chart", "standing"] (spOr (spOf K CMap RSure) (spStdBad K CMap CNoStanding)))
    (hX_news : HasX P w K mg base "news" 7 ["chart", "standing", "arrow", "sound"] (spOr (spNews K CMap) (spNewsBad6 K CMap CNoStanding CNoTry CNoNews)))
    (hX_way_on : HasX P w K mg base "way_on" 7 ["chart", "standing", "place"] (spOr (spWayOn K CMap) (spUnrBad K CMap CNoStanding CNoPlace))) (hX_dead_end : HasX P w K mg base "dead_end" 7 ["chart", "standing", "place"] (spOr (spDead5 K CMap) (spUnrBad K CMap CNoStanding CNoPlace)))
    (hX_world_with : HasX P w K mg base "world_with" 6 ["chart", "standing", "arrow", "sound"] (spOr (spWWG K CMap) (spWWBad K CMap CNoStanding CNoArrow CNoNews)))
    (hX_sent_by : HasX P w K mg base "sent_by" 6 ["chart", "name", "standing"] (spOr (spSent K CMap) (spSentBad K CMap CNoStanding CNoName))) (D0 : Df K mg "_law_asked" s__law_asked ["_law_way", "_law_chart", "_law_thing_here", "_law_last", "_law_more"]) : Has P w K mg base "_law_asked" 8 ["_law_way", "_law_chart", "_law_thing_here", "_law_last", "_law_more"] (spAsked3 K CMap) := by
  refine D0.has fun f fd F => F.ok sc__law_asked (fun vs H Q E h => ?_) (fun cdv A outer s H vs Q E hr h => ?_)
  · obtain ⟨w, p, n, a, pvs, es, c, gs, v, va, vf, R, rfl, _⟩ := h
    rfl
  · obtain ⟨w, p, n, a, pvs, es, c, gs, v, va, vf, R, rfl, hw0, hw1, m, hR, hka, hkf, q⟩ := h
    refine ⟨_, (pss_cons (ps_set (i := 5) sc__law_asked.nd rfl (.inl rfl) pe_str)
  (pss_cons (ps_try_many rfl rfl takes0 (fun W pn xe tk po =>
    (pss_one (ps_if (pt_cmpR op_eq (pv 0) pe_int (nomark _))
    (pss_one (ps_expr (pcallS hX_is_done hr (by decide) (by rfl) tk (pa_cons (pv 1) (pa_cons (pv 2) pa_nil)))))
    (pss_one (ps_if (pt_cmpR op_eq (pv 0) pe_int (nomark _))
    (pss_one (ps_expr (pcallS hX_alive hr (by decide) (by rfl) tk (pa_cons (pv 1) (pa_cons (pv 2) pa_nil)))))
    (pss_one (ps_if (pt_cmpR op_eq (pv 0) pe_int (nomark _))
    (pss_one (ps_expr (pcallS hX_tries hr (by decide) (by rfl) tk (pa_cons (pv 1) (pa_cons (pv 2) pa_nil)))))
    (pss_one (ps_if (pt_cmpR op_eq (pv 0) pe_int (nomark _))
    (pss_one (ps_expr (pcallS hX_worth hr (by decide) (by rfl) tk (pa_cons (pv 1) (pa_cons (pv 2) pa_nil)))))
    (pss_one (ps_if (pt_cmpR op_eq (pv 0) pe_int (nomark _))
    (pss_one (ps_expr (pcallS hX_sure hr (by decide) (by rfl) tk (pa_cons (pv 1) (pa_cons (pv 2) pa_nil)))))
    (pss_one (ps_if (pt_cmpR op_eq (pv 0) pe_int (nomark _))
    (pss_one (ps_expr (pcallS hX_news hr (by decide) (by rfl) tk (pa_cons (pv 1) (pa_cons (pv 2) (pa_cons (pv 3) (pa_cons (pv 4) pa_nil)))))))
    (pss_one (ps_if (pt_cmpR op_eq (pv 0) pe_int (nomark _))
    (pss_one (ps_expr (pcallS hX_way_on hr (by decide) (by rfl) tk (pa_cons (pv 1) (pa_cons (pv 2) (pa_cons (pv 3) pa_nil))))))
    (pss_one (ps_if (pt_cmpR op_eq (pv 0) pe_int (nomark _))
    (pss_one (ps_expr (pcallS hX_dead_end hr (by decide) (by rfl) tk (pa_cons (pv 1) (pa_cons (pv 2) (pa_cons (pv 3) pa_nil))))))
    (pss_one (ps_if (pt_cmpR op_eq (pv 0) pe_int (nomark _))
    (pss_one (ps_expr (pcallS hX_world_with hr (by decide) (by rfl) tk (pa_cons (pv 1) (pa_cons (pv 2) (pa_cons (pv 3) (pa_cons (pv 4) pa_nil)))))))
    (pss_one (ps_expr (pcallS hX_sent_by hr (by decide) (by rfl) tk (pa_cons (pv 1) (pa_cons (pe_ix (k_ixl (K := K) rfl) (pe_lst (pa_cons pe_str (pa_cons pe_str (pa_cons pe_str (pa_cons pe_str (pa_cons pe_str (pa_cons pe_str pa_nil))))))) (pe_op op_sub (pv 0) pe_int) (fun _ _ => rfl)) (pa_cons (pv 2) pa_nil))))))))))))))))))))))))) (.cons ⟨rfl, by decide, .inl T_NoStanding.g⟩ (fun a oe cls d pn _ _ =>
    (pss_one (ps_set (i := 5) sc__law_asked.nd rfl (.inl rfl) pe_str))) (.cons ⟨rfl, by decide, .inl T_NoName.g⟩ (fun a oe cls d pn _ _ =>
    (pss_one (ps_set (i := 5) sc__law_asked.nd rfl (.inl rfl) pe_str))) (.cons ⟨rfl, by decide, .inl T_WayError.g⟩ (fun a oe cls d pn _ _ =>
    (pss_one (ps_set (i := 5) sc__law_asked.nd rfl (.inl rfl) pe_str))) .nil))))
  (pss_one (ps_ret (pv 5))))), ?_⟩
    obtain ⟨sa, hsa, hkna⟩ := hka.kns
    obtain ⟨sf, hsf, hknf⟩ := hkf.kns
    have hl := m.pr.len
    have hAt : R → ∃ t x y rs ls, v = .ref t ∧ At K CMap H p n a pvs es c gs t x y rs ls := fun r => by
      obtain ⟨t, x, y, rs, ls, e, S, o⟩ := hR.at_ r
      exact ⟨t, x, y, rs, ls, e, m, S, o⟩
    refine ⟨_, rfl, rfl, _, rfl, ?_⟩
    by_cases h0 : V.int w = V.int 0
    · rw [decide_eq_true h0]
      refine iteT ?_
      injection h0 with h0
      refine ⟨_, rfl, _, rfl, ?_⟩
      by_cases r : R
      · obtain ⟨t, x, y, rs, ls, rfl, hA⟩ := hAt r
        exact .inl ⟨p, n, a, pvs, es, c, gs, t, x, y, rs, ls, rfl, hA, fun _ H1 s1 _ => ⟨_, rfl, q H1 _ s1 (ans_non r (by omega))⟩⟩
      · have nr := r
        exact .inr ⟨p, n, a, pvs, es, c, gs, v, R, rfl, m, hR, nr, fun H1 s1 => ⟨true, m_NoStanding_NoStanding, fun _ a ha => ⟨_, rfl, q H1 _ (s1) (ans_std nr (by omega))⟩, fun z => Bool.noConfusion z⟩⟩
    rw [decide_eq_false h0]
    refine iteF ?_
    have h0 : w ≠ 0 := fun e => h0 (by rw [e])
    refine ⟨_, rfl, rfl, _, rfl, ?_⟩
    by_cases h1 : V.int w = V.int 1
    · rw [decide_eq_true h1]
      refine iteT ?_
      injection h1 with h1
      refine ⟨_, rfl, _, rfl, ?_⟩
      by_cases r : R
      · obtain ⟨t, x, y, rs, ls, rfl, hA⟩ := hAt r
        exact .inl ⟨p, n, a, pvs, es, c, gs, t, x, y, rs, ls, rfl, hA, fun _ H1 s1 _ => ⟨_, rfl, q H1 _ s1 (ans_non r (by omega))⟩⟩
      · have nr := r
        exact .inr ⟨p, n, a, pvs, es, c, gs, v, R, rfl, m, hR, nr, fun H1 s1 => ⟨true, m_NoStanding_NoStanding, fun _ a ha => ⟨_, rfl, q H1 _ (s1) (ans_std nr (by omega))⟩, fun z => Bool.noConfusion z⟩⟩
    rw [decide_eq_false h1]
    refine iteF ?_
    have h1 : w ≠ 1 := fun e => h1 (by rw [e])
    refine ⟨_, rfl, rfl, _, rfl, ?_⟩
    by_cases h2 : V.int w = V.int 2
    · rw [decide_eq_true h2]
      refine iteT ?_
      injection h2 with h2
      refine ⟨_, rfl, _, rfl, ?_⟩
      by_cases r : R
      · obtain ⟨t, x, y, rs, ls, rfl, hA⟩ := hAt r
        exact .inl ⟨p, n, a, pvs, es, c, gs, t, x, y, rs, ls, rfl, hA, fun _ H1 s1 _ => ⟨_, rfl, q H1 _ s1 (ans_non r (by omega))⟩⟩
      · have nr := r
        exact .inr ⟨p, n, a, pvs, es, c, gs, v, R, rfl, m, hR, nr, fun H1 s1 => ⟨true, m_NoStanding_NoStanding, fun _ a ha => ⟨_, rfl, q H1 _ (s1) (ans_std nr (by omega))⟩, fun z => Bool.noConfusion z⟩⟩
    rw [decide_eq_false h2]
    refine iteF ?_
    have h2 : w ≠ 2 := fun e => h2 (by rw [e])
    refine ⟨_, rfl, rfl, _, rfl, ?_⟩
    by_cases h3 : V.int w = V.int 3
    · rw [decide_eq_true h3]
      refine iteT ?_
      injection h3 with h3
      refine ⟨_, rfl, _, rfl, ?_⟩
      by_cases r : R
      · obtain ⟨t, x, y, rs, ls, rfl, hA⟩ := hAt r
        exact .inl ⟨p, n, a, pvs, es, c, gs, t, x, y, rs, ls, rfl, hA, fun _ H1 s1 _ => ⟨_, rfl, q H1 _ s1 (ans_non r (by omega))⟩⟩
      · have nr := r
        exact .inr ⟨p, n, a, pvs, es, c, gs, v, R, rfl, m, hR, nr, fun H1 s1 => ⟨true, m_NoStanding_NoStanding, fun _ a ha => ⟨_, rfl, q H1 _ (s1) (ans_std nr (by omega))⟩, fun z => Bool.noConfusion z⟩⟩
    rw [decide_eq_false h3]
    refine iteF ?_
    have h3 : w ≠ 3 := fun e => h3 (by rw [e])
    refine ⟨_, rfl, rfl, _, rfl, ?_⟩
    by_cases h4 : V.int w = V.int 4
    · rw [decide_eq_true h4]
      refine iteT ?_
      injection h4 with h4
      refine ⟨_, rfl, _, rfl, ?_⟩
      by_cases r : R
      · obtain ⟨t, x, y, rs, ls, rfl, hA⟩ := hAt r
        exact .inl ⟨p, n, a, pvs, es, c, gs, t, x, y, rs, ls, rfl, hA, fun _ H1 s1 _ => ⟨_, rfl, q H1 _ s1 (ans_non r (by omega))⟩⟩
      · have nr := r
        exact .inr ⟨p, n, a, pvs, es, c, gs, v, R, rfl, m, hR, nr, fun H1 s1 => ⟨true, m_NoStanding_NoStanding, fun _ a ha => ⟨_, rfl, q H1 _ (s1) (ans_std nr (by omega))⟩, fun z => Bool.noConfusion z⟩⟩
    rw [decide_eq_false h4]
    refine iteF ?_
    have h4 : w ≠ 4 := fun e => h4 (by rw [e])
    refine ⟨_, rfl, rfl, _, rfl, ?_⟩
    by_cases h5 : V.int w = V.int 5
    · rw [decide_eq_true h5]
      refine iteT ?_
      injection h5 with h5
      refine ⟨_, rfl, _, rfl, _, rfl, _, rfl, ?_⟩
      by_cases r : R
      · obtain ⟨t, x, y, rs, ls, rfl, hA⟩ := hAt r
        by_cases hN : ∃ b, NoN es gs rs ls va vf b
        · obtain ⟨b, hb⟩ := hN
          refine .inr ⟨p, n, a, pvs, es, c, gs, .ref t, va, vf, R, sa, sf, rfl, m, hR, hkna, hknf, hsf, .inr ⟨t, x, y, rs, ls, b, r, rfl, hA, hb, fun H1 s1 => ?_⟩⟩
          cases b with
          | true => exact ⟨false, m_NoTry_NoStanding, fun z => Bool.noConfusion z, fun _ => ⟨false, m_NoTry_NoName, fun z => Bool.noConfusion z, fun _ => ⟨true, m_NoTry_WayError, fun _ a ha => ⟨_, rfl, q H1 _ s1 (ans_oth r (by omega) (by omega))⟩, fun z => Bool.noConfusion z⟩⟩⟩
          | false => exact ⟨false, m_NoNews_NoStanding, fun z => Bool.noConfusion z, fun _ => ⟨false, m_NoNews_NoName, fun z => Bool.noConfusion z, fun _ => ⟨true, m_NoNews_WayError, fun _ a ha => ⟨_, rfl, q H1 _ s1 (ans_oth r (by omega) (by omega))⟩, fun z => Bool.noConfusion z⟩⟩⟩
        · have hT : TryOk es rs ls va := Classical.byContradiction fun z => hN ⟨true, .try_ z⟩
          obtain ⟨k, rfl, hk⟩ := hT
          have hB : ∃ b, vf = .bl b := Classical.byContradiction fun z => hN ⟨false, .flag rfl hk fun b e => z ⟨b, e⟩⟩
          obtain ⟨b, rfl⟩ := hB
          have ho : b = false → ∀ g ∈ gs, Rch (left es (ls ++ [k])) [0] g := fun e => by
            subst e
            exact Classical.byContradiction fun z => hN ⟨false, .shut rfl hk rfl z⟩
          exact .inl ⟨p, n, a, pvs, es, c, gs, t, x, y, rs, ls, k, b, rfl, hA, hk, ho, fun _ _ _ _ _ H1 s1 _ _ => ⟨_, rfl, q H1 _ s1 (ans_non r (by omega))⟩⟩
      · have nr := r
        exact .inr ⟨p, n, a, pvs, es, c, gs, v, va, vf, R, sa, sf, rfl, m, hR, hkna, hknf, hsf, .inl ⟨nr, fun H1 s1 => ⟨true, m_NoStanding_NoStanding, fun _ a ha => ⟨_, rfl, q H1 _ (s1) (ans_std nr (by omega))⟩, fun z => Bool.noConfusion z⟩⟩⟩
    rw [decide_eq_false h5]
    refine iteF ?_
    have h5 : w ≠ 5 := fun e => h5 (by rw [e])
    refine ⟨_, rfl, rfl, _, rfl, ?_⟩
    by_cases h6 : V.int w = V.int 6
    · rw [decide_eq_true h6]
      refine iteT ?_
      injection h6 with h6
      refine ⟨_, rfl, _, rfl, _, rfl, ?_⟩
      by_cases r : R
      · obtain ⟨t, x, y, rs, ls, rfl, hA⟩ := hAt r
        by_cases hN : PlaceOk n rs va
        · obtain ⟨u, rfl, hu, hur⟩ := hN
          exact .inl ⟨p, n, a, pvs, es, c, gs, t, x, y, rs, ls, u, rfl, hA, hu, hur, fun H1 s1 _ => ⟨_, rfl, q H1 _ s1 (ans_non r (by omega))⟩, fun _ _ H1 s1 _ _ _ => ⟨_, rfl, q H1 _ s1 (ans_non r (by omega))⟩⟩
        · exact .inr ⟨p, n, a, pvs, es, c, gs, .ref t, va, R, sa, rfl, m, hR, hkna, .inr ⟨t, x, y, rs, ls, r, rfl, hA, hN, fun H1 s1 => ⟨false, m_NoPlace_NoStanding, fun z => Bool.noConfusion z, fun _ => ⟨false, m_NoPlace_NoName, fun z => Bool.noConfusion z, fun _ => ⟨true, m_NoPlace_WayError, fun _ a ha => ⟨_, rfl, q H1 _ s1 (ans_oth r (by omega) (by omega))⟩, fun z => Bool.noConfusion z⟩⟩⟩⟩⟩
      · have nr := r
        exact .inr ⟨p, n, a, pvs, es, c, gs, v, va, R, sa, rfl, m, hR, hkna, .inl ⟨nr, fun H1 s1 => ⟨true, m_NoStanding_NoStanding, fun _ a ha => ⟨_, rfl, q H1 _ (s1) (ans_std nr (by omega))⟩, fun z => Bool.noConfusion z⟩⟩⟩
    rw [decide_eq_false h6]
    refine iteF ?_
    have h6 : w ≠ 6 := fun e => h6 (by rw [e])
    refine ⟨_, rfl, rfl, _, rfl, ?_⟩
    by_cases h7 : V.int w = V.int 7
    · rw [decide_eq_true h7]
      refine iteT ?_
      injection h7 with h7
      refine ⟨_, rfl, _, rfl, _, rfl, ?_⟩
      by_cases r : R
      · obtain ⟨t, x, y, rs, ls, rfl, hA⟩ := hAt r
        by_cases hN : PlaceOk n rs va
        · obtain ⟨u, rfl, hu, hur⟩ := hN
          exact .inl ⟨p, n, a, pvs, es, c, gs, t, x, y, rs, ls, u, rfl, hA, hu, hur, fun H1 s1 _ => ⟨_, rfl, q H1 _ s1 (ans_non r (by omega))⟩, fun _ _ _ _ _ H1 s1 _ _ _ _ _ _ _ _ => ⟨_, rfl, q H1 _ s1 (ans_non r (by omega))⟩⟩
        · exact .inr ⟨p, n, a, pvs, es, c, gs, .ref t, va, R, sa, rfl, m, hR, hkna, .inr ⟨t, x, y, rs, ls, r, rfl, hA, hN, fun H1 s1 => ⟨false, m_NoPlace_NoStanding, fun z => Bool.noConfusion z, fun _ => ⟨false, m_NoPlace_NoName, fun z => Bool.noConfusion z, fun _ => ⟨true, m_NoPlace_WayError, fun _ a ha => ⟨_, rfl, q H1 _ s1 (ans_oth r (by omega) (by omega))⟩, fun z => Bool.noConfusion z⟩⟩⟩⟩⟩
      · have nr := r
        exact .inr ⟨p, n, a, pvs, es, c, gs, v, va, R, sa, rfl, m, hR, hkna, .inl ⟨nr, fun H1 s1 => ⟨true, m_NoStanding_NoStanding, fun _ a ha => ⟨_, rfl, q H1 _ (s1) (ans_std nr (by omega))⟩, fun z => Bool.noConfusion z⟩⟩⟩
    rw [decide_eq_false h7]
    refine iteF ?_
    have h7 : w ≠ 7 := fun e => h7 (by rw [e])
    refine ⟨_, rfl, rfl, _, rfl, ?_⟩
    by_cases h8 : V.int w = V.int 8
    · rw [decide_eq_true h8]
      refine iteT ?_
      injection h8 with h8
      refine ⟨_, rfl, _, rfl, _, rfl, _, rfl, ?_⟩
      by_cases r : R
      · obtain ⟨t, x, y, rs, ls, rfl, hA⟩ := hAt r
        by_cases hN : idxV va (es.length : Int) = true ∧ (sf == "bool") = true
        · obtain ⟨hi, hb⟩ := hN
          obtain ⟨k, rfl, hk⟩ := idx_one hi
          obtain ⟨b, rfl⟩ : ∃ b, vf = .bl b := Classical.byContradiction fun z => by
            rw [hsf fun b e => z ⟨b, e⟩] at hb
            cases hb
          exact .inl ⟨p, n, a, pvs, es, c, gs, t, x, y, rs, ls, k, b, rfl, hA, hk, fun _ H1 s1 _ => ⟨_, rfl, q H1 _ s1 (ans_non r (by omega))⟩⟩
        · exact .inr ⟨p, n, a, pvs, es, c, gs, .ref t, va, vf, R, sa, sf, rfl, m, hR, hkna, hknf, (fun z => hN z.2), fun H1 s1 => ⟨fun nr => absurd r nr, fun _ _ => ⟨false, m_NoArrow_NoStanding, fun z => Bool.noConfusion z, fun _ => ⟨false, m_NoArrow_NoName, fun z => Bool.noConfusion z, fun _ => ⟨true, m_NoArrow_WayError, fun _ a ha => ⟨_, rfl, q H1 _ s1 (ans_oth r (by omega) (by omega))⟩, fun z => Bool.noConfusion z⟩⟩⟩, fun _ _ _ => ⟨false, m_NoNews_NoStanding, fun z => Bool.noConfusion z, fun _ => ⟨false, m_NoNews_NoName, fun z => Bool.noConfusion z, fun _ => ⟨true, m_NoNews_WayError, fun _ a ha => ⟨_, rfl, q H1 _ s1 (ans_oth r (by omega) (by omega))⟩, fun z => Bool.noConfusion z⟩⟩⟩⟩⟩
      · have nr := r
        exact .inr ⟨p, n, a, pvs, es, c, gs, v, va, vf, R, sa, sf, rfl, m, hR, hkna, hknf, (fun z => nr z.1), fun H1 s1 => ⟨fun _ => ⟨true, m_NoStanding_NoStanding, fun _ a ha => ⟨_, rfl, q H1 _ (s1) (ans_std nr (by omega))⟩, fun z => Bool.noConfusion z⟩, fun r => absurd r nr, fun r => absurd r nr⟩⟩
    rw [decide_eq_false h8]
    refine iteF ?_
    have h8 : w ≠ 8 := fun e => h8 (by rw [e])
    refine ⟨_, rfl, by show 6 ≤ sizeLine; decide, fun nl nnl => ?_⟩
    have s0 := same_new (o := .lst nms6) (Same.refl H) nnl
    have hnl : upd H nl (.lst nms6) nl = some (.lst nms6) := upd_same
    refine ⟨_, rfl, _, _, rfl, rfl, nl, nms6, w - 9, ?_⟩
    have m0 := m.same s0
    have hR0 := hR.same s0
    by_cases h14 : w = 14
    · refine ⟨.str "none", rfl, rfl, sql hnl, by rw [h14]; rfl, _, rfl, .inr ⟨p, n, a, pvs, es, c, gs, _, v, rfl, m0, .inl ⟨.word rfl (by decide +kernel), fun H1 s1 => ?_⟩⟩⟩
      exact ⟨false, m_NoName_NoStanding, fun z => Bool.noConfusion z, fun _ => ⟨true, m_NoName_NoName, fun _ a ha => ⟨_, rfl, q H1 _ (s0.trans s1) (ans_nam h14)⟩, fun z => Bool.noConfusion z⟩⟩
    · obtain ⟨nm, hnm⟩ := nms6_get (w := w) (by omega) (by omega)
      refine ⟨.str nm.str, rfl, rfl, sql hnl, hnm, _, rfl, ?_⟩
      by_cases r : R
      · obtain ⟨t, x, y, rs, ls, rfl, hA⟩ := hAt r
        exact .inl ⟨p, n, a, pvs, es, c, gs, t, x, y, rs, ls, nm, rfl, hA.same s0, fun _ _ _ H1 s1 _ _ _ => ⟨_, rfl, q H1 _ (s0.trans s1) (ans_non r (by omega))⟩⟩
      · have nr := r
        exact .inr ⟨p, n, a, pvs, es, c, gs, .str nm.str, v, rfl, m0, .inr ⟨nm, R, rfl, hR0, nr, fun H1 s1 => ⟨true, m_NoStanding_NoStanding, fun _ a ha => ⟨_, rfl, q H1 _ (s0.trans s1) (ans_std nr h14)⟩, fun z => Bool.noConfusion z⟩⟩⟩

abbrev s__law_is_refused : Stmt := topS 92
abbrev sl__law_is_refused : List Str := ["_law_way", "_law_chart", "_law_good", "_law_thing_here", "_law_last", "_law_more", "_law_told"]
theorem sc__law_is_refused : FnScope ["_law_way", "_law_chart", "_law_good", "_law_thing_here", "_law_last", "_law_more", "_law_told"] ["_law_way", "_law_chart", "_law_good", "_law_thing_here", "_law_last", "_law_more"] (defScope s__law_is_refused) := ⟨rfl, rfl, rfl, by decide +kernel, rfl, by decide +kernel, by decide +kernel⟩
def spIsRef3 (K : PySem.W.Frag) (C : Addr) : Sp := fun vs H Q _ => ∃ (w : Int) (p : Addr) (n : Nat) (a : Addr) (pvs : List V) (es : Es) (c : Addr) (gs : List Nat) (b : Bool) (v va vf : V) (R : Prop), vs = [.int w, .ref p, .bl b, v, va, vf] ∧ 0 ≤ w ∧ w < 15 ∧ MapOk K C H p n a pvs es c gs ∧ StdRes K H n es gs v R ∧
  (b = true ↔ R) ∧ KnI K H va ∧ KnI K H vf ∧ ∀ H', Same H H' → Q (.bl true) H'
theorem ok__law_is_refused {CMap : Addr} (h_law_asked : Has P w K mg base "_law_asked" 8 ["_law_way", "_law_chart", "_law_thing_here", "_law_last", "_law_more"] (spAsked3 K CMap)) (D0 : Df K mg "_law_is_refused" s__law_is_refused ["_law_way", "_law_chart", "_law_good", "_law_thing_here", "_law_last", "_law_more"]) : Has P w K mg base "_law_is_refused" 9 ["_law_way", "_law_chart", "_law_good", "_law_thing_here", "_law_last", "_law_more"] (spIsRef3 K CMap) := by
  refine D0.has fun f fd F => F.ok sc__law_is_refused (fun vs H Q E h => ?_) (fun cdv A outer s H vs Q E hr h => ?_)
  · obtain ⟨w, p, n, a, pvs, es, c, gs, b, v, va, vf, R, rfl, _⟩ := h
    rfl
  · obtain ⟨w, p, n, a, pvs, es, c, gs, b, v, va, vf, R, rfl, hw0, hw1, m, hR, hb, hka, hkf, q⟩ := h
    refine ⟨_, (pss_cons (ps_set (i := 6) sc__law_is_refused.nd rfl (.inl rfl) (pcall h_law_asked hr (by decide) (by rfl) (pa_cons (pv 0) (pa_cons (pv 1) (pa_cons (pv 3) (pa_cons (pv 4) (pa_cons (pv 5) pa_nil)))))))
  (pss_cons (ps_if (pt_cmpR op_eq (pv 0) pe_int (nomark _))
    (pss_one (ps_ret (pe_cmpR op_eq (pv 6) pe_str (nomark _))))
    pss_nil)
  (pss_cons (ps_if (pt_not (pt_val (pv 2)))
    (pss_one (ps_ret (pe_cmpR op_eq (pv 6) pe_str (nomark _))))
    pss_nil)
  (pss_one (ps_ret (pe_or (pe_cmpR op_eq (pv 6) pe_str (nomark _)) (pe_one (pe_and (pe_cmpR op_eq (pv 6) pe_str (nomark _)) (pe_one (pe_chain op_le op_le pe_int (pv 0) pe_int)))))))))), ?_⟩
    refine ⟨_, rfl, _, rfl, _, rfl, _, rfl, _, rfl, w, p, n, a, pvs, es, c, gs, v, va, vf, R, rfl, hw0, hw1, m, hR, hka, hkf, fun H1 s s1 hA => ?_⟩
    obtain ⟨a1, a2, a3⟩ := hA
    have qq := q H1 s1
    refine ⟨_, rfl, rfl, _, rfl, ?_⟩
    by_cases h14 : w = 14
    · rw [decide_eq_true (by rw [h14])]
      refine iteT ?_
      refine ⟨_, rfl, rfl, ?_⟩
      rw [a1 h14]
      exact qq
    · rw [decide_eq_false (fun z => h14 (by injection z))]
      refine iteF ?_
      refine ⟨_, rfl, _, rfl, ?_⟩
      cases b with
      | false =>
        refine iteT ?_
        refine ⟨_, rfl, rfl, ?_⟩
        rw [a2 h14 fun r => Bool.noConfusion (hb.mpr r)]
        exact qq
      | true =>
        refine iteF ?_
        refine ⟨_, rfl, rfl, _, rfl, ?_⟩
        rcases a3 h14 (hb.mp rfl) with rfl | ⟨rfl, h5, h8⟩
        · exact iteT qq
        · refine iteF ?_
          refine ⟨_, rfl, rfl, _, rfl, iteT ?_⟩
          refine ⟨_, rfl, _, _, rfl, rfl, _, rfl, ?_⟩
          rw [decide_eq_true h5]
          refine iteT ?_
          refine ⟨_, _, rfl, rfl, ?_⟩
          show Q (V.bl (decide (w ≤ 8))) H1
          rw [decide_eq_true h8]
          exact qq

abbrev s__law_odd_lot : Stmt := topS 87
abbrev sl__law_odd_lot : List Str := ["_law_hand_here", "_law_many", "_law_lot", "_law_one", "_law_at", "_law_odd", "_law_k"]
theorem sc__law_odd_lot : FnScope ["_law_hand_here", "_law_many", "_law_lot", "_law_one", "_law_at", "_law_odd", "_law_k"] ["_law_hand_here", "_law_many", "_law_lot"] (defScope s__law_odd_lot) := ⟨rfl, rfl, rfl, by decide +kernel, rfl, by decide +kernel, by decide +kernel⟩
def spOdd3 (K : PySem.W.Frag) : Sp := fun vs H Q _ => ∃ (h l : Addr) (m : Nat) (ls : List Nat) (F : Hp), vs = [.ref h, .int (m : Int), .ref l] ∧ 0 < m ∧ m ≤ 60 ∧ SqT K H l (ls.map nV) ∧ ls.length ≤ 60 ∧ Same F H ∧ HandAt F H h ∧ ∀ v H', Dr F H H' h → SL3 K H' v → Q v H'
theorem ok__law_odd_lot (B : Bt mg) (h_law_draw : Has P w K mg base "_law_draw" 1 ["_law_hand_here", "_law_many"] spDraw) (D0 : Df K mg "_law_odd_lot" s__law_odd_lot ["_law_hand_here", "_law_many", "_law_lot"]) : Has P w K mg base "_law_odd_lot" 2 ["_law_hand_here", "_law_many", "_law_lot"] (spOdd3 K) := by
  refine D0.has fun f fd F => F.ok sc__law_odd_lot (fun vs H Q E h => ?_) (fun cdv A outer s H vs Q E hr h => ?_)
  · obtain ⟨h, l, m, ls, F, rfl, _⟩ := h
    rfl
  · obtain ⟨h, l, m, ls, F0, rfl, hm0, hm1, hS, hls, hF, hA, q⟩ := h
    refine ⟨_, (pss_cons (ps_set (i := 3) sc__law_odd_lot.nd rfl (.inr rfl) (pcall h_law_draw hr (by decide) (by rfl) (pa_cons (pv 0) (pa_cons (pv 1) pa_nil))))
  (pss_cons (ps_set (i := 4) sc__law_odd_lot.nd rfl (.inl rfl) (pcall h_law_draw hr (by decide) (by rfl) (pa_cons (pv 0) (pa_cons (pe_op op_add (pe_callB (k_len (K := K) rfl) (by rfl) B.len bo_len (pa_cons (pv 2) pa_nil)) pe_int) pa_nil))))
  (pss_cons (ps_set (i := 5) sc__law_odd_lot.nd rfl (.inl rfl) (pe_lst (pa_cons (pe_callTy (k_tuple (K := K) rfl) (by rfl) B.tuple bo_tuple (pa_cons (pe_callB (k_sorted (K := K) rfl) (by rfl) B.sorted bo_sorted (pa_cons (pe_op op_cat (pe_lc (own := [("_law_k", 6)]) (g := gName 6) rfl sc__law_odd_lot.nd (k_pit (K := K) rfl (pv 2)) (blkOk_by (N := sl__law_odd_lot) (sc := defScope s__law_odd_lot) (by decide +kernel)) (fun _ _ _ _ _ => (pg_name (i := 6) sc__law_odd_lot.nd rfl (.inl rfl))) (fun _ _ _ _ _ => pts_one (pt_cmpR op_ne (pv 6) (pv 3) (nomark _))) (fun _ _ _ _ _ => (pv 6))) (pe_lst (pa_cons (pv 3) pa_nil))) pa_nil)) pa_nil)) (pa_cons (pe_callTy (k_tuple (K := K) rfl) (by rfl) B.tuple bo_tuple (pa_cons (pe_lc (own := [("_law_k", 6)]) (g := gName 6) rfl sc__law_odd_lot.nd (k_pit (K := K) rfl (pv 2)) (blkOk_by (N := sl__law_odd_lot) (sc := defScope s__law_odd_lot) (by decide +kernel)) (fun _ _ _ _ _ => (pg_name (i := 6) sc__law_odd_lot.nd rfl (.inl rfl))) (fun _ _ _ _ _ => pts_one (pt_cmpR op_ne (pv 6) (pv 3) (nomark _))) (fun _ _ _ _ _ => (pv 6))) pa_nil)) (pa_cons (pe_callTy (k_list (K := K) rfl) (by rfl) B.list bo_list (pa_cons (pv 2) pa_nil)) pa_nil)))))
  (pss_cons (ps_expr (pe_bm PySem.F.plainAttrs_list PySem.F.slot_list_extend PySem.F.type_list_extend mt_extend (pv 5) (pa_cons (pe_lst (pa_cons (pe_op (k_cat (K := K) rfl) (pe_slice (k_slt (K := K) rfl) (pv 2) po_none (po_some (pv 4))) (pe_slice (k_slt (K := K) rfl) (pv 2) (po_some (pe_op op_add (pv 4) pe_int)) po_none)) (pa_cons (pe_op (k_cat (K := K) rfl) (pv 2) (pe_tup (pa_cons (pv 1) pa_nil))) (pa_cons (pe_op (k_cat (K := K) rfl) (pe_tup (pa_cons (pe_un un_neg pe_int) pa_nil)) (pv 2)) (pa_cons (pe_revT (pv 2)) (pa_cons (pe_op (k_cat (K := K) rfl) (pv 2) (pe_slice (k_slt (K := K) rfl) (pv 2) (po_some (pe_un un_neg pe_int)) po_none)) (pa_cons (pe_tup pa_nil) (pa_cons (pe_tup (pa_cons pe_int pa_nil)) (pa_cons pe_non (pa_cons (pv 3) pa_nil)))))))))) pa_nil)))
  (pss_cons (ps_expr (pe_bm PySem.F.plainAttrs_list PySem.F.slot_list_extend PySem.F.type_list_extend mt_extend (pv 5) (pa_cons (pe_lst (pa_cons (pe_op (k_cat (K := K) rfl) (pe_op (k_cat (K := K) rfl) (pe_slice (k_slt (K := K) rfl) (pv 2) po_none (po_some (pv 4))) (pe_tup (pa_cons pe_bl pa_nil))) (pe_slice (k_slt (K := K) rfl) (pv 2) (po_some (pv 4)) po_none)) (pa_cons (pe_op (k_cat (K := K) rfl) (pe_tup (pa_cons pe_bl pa_nil)) (pe_slice (k_slt (K := K) rfl) (pv 2) (po_some pe_int) po_none)) (pa_cons (pe_op (k_cat (K := K) rfl) (pe_op (k_cat (K := K) rfl) (pe_slice (k_slt (K := K) rfl) (pv 2) po_none (po_some (pv 4))) (pe_tup (pa_cons pe_non pa_nil))) (pe_slice (k_slt (K := K) rfl) (pv 2) (po_some (pv 4)) po_none)) (pa_cons (pe_callTy call_str_int (by rfl) B.str bo_str (pa_cons (pv 3) pa_nil)) (pa_cons (pe_tup (pa_cons (pv 2) pa_nil)) pa_nil)))))) pa_nil)))
  (pss_cons (ps_expr (pe_bm PySem.F.plainAttrs_list PySem.F.slot_list_extend PySem.F.type_list_extend mt_extend (pv 5) (pa_cons (pe_lst (pa_cons (pe_op (k_cat (K := K) rfl) (pv 2) (pe_tup (pa_cons (pe_op op_add (pv 1) (pcall h_law_draw hr (by decide) (by rfl) (pa_cons (pv 0) (pa_cons (pe_op op_pow pe_int pe_int) pa_nil)))) pa_nil))) (pa_cons (pe_tupRg rfl (by rfl) B.tuple (prg_1 (by rfl) B.range (pv 1))) (pa_cons (pe_disp (pps_cons (pv 3) pe_bl pps_nil) (by rfl) (by rfl) (fun z => by cases z) (by decide)) (pa_cons (pe_op (k_cat (K := K) rfl) (pe_slice (k_slt (K := K) rfl) (pv 2) po_none (po_some (pv 4))) (pe_tup (pa_cons pe_str pa_nil))) pa_nil))))) pa_nil)))
  (pss_one (ps_ret (pe_ix (k_ixl (K := K) rfl) (pv 5) (pcall h_law_draw hr (by decide) (by rfl) (pa_cons (pv 0) (pa_cons (pe_callB (k_len (K := K) rfl) (by rfl) B.len bo_len (pa_cons (pv 5) pa_nil)) pa_nil))) (fun _ _ => rfl)))))))))), ?_⟩
    refine ⟨_, rfl, _, rfl, h, (m : Int), F0, rfl, by omega, small_log (by omega) (by omega), hF, hA, fun o1 H1 o10 o11 dd1 => ?_⟩
    obtain ⟨jn, rfl⟩ : ∃ j : Nat, o1 = (j : Int) := ⟨o1.toNat, by omega⟩
    have hS1 := dd1.dr.sqt hA hS
    refine ⟨_, rfl, _, rfl, l, _, rfl, .inr hS1, _, _, rfl, rfl, h, _, F0, rfl, ?_, ?_, dd1.sub, dd1.hand, fun at' H2 _ _ dd2 => ?_⟩
    · show (0 : Int) < ((ls.map nV).length : Int) + 1
      omega
    · exact small_log (by show (0 : Int) < ((ls.map nV).length : Int) + 1; omega) (Int.lt_of_le_of_lt (by show ((ls.map nV).length : Int) + 1 ≤ 100; rw [List.length_map]; omega) (by decide +kernel))
    have d2 := dd1.dr.trans dd2.dr
    have hS2 := d2.sqt hA hS
    have L2 : TupL K H2 (.ref l) 60 := ⟨l, _, rfl, hS2, by rw [List.length_map]; exact hls, ll_nat⟩
    -- the first three
    refine ⟨_, rfl, l, rfl, ⟨_, hS2⟩, fun Da nDa => ?_⟩
    refine lc_val walk_tup calm_at (fun i => (ls[i]?).bind fun k => if k = jn then none else some (nV k)) (by rw [List.length_map]; omega) nDa (fun H3 s3 => Same.sqt s3 hS2) ?_ fun Ga ra hDa => ?_
    · rintro i v H3 H4 hi s3 ⟨rfl, hv⟩ Kt kt
      obtain ⟨k, hki, rfl⟩ := getmap hv
      have k0 := kt _ (Same.refl _)
      rw [hki] at k0
      simp only [Option.bind_some] at k0
      refine ⟨rfl, ?_⟩
      refine ⟨_, rfl, _, rfl, rfl, _, rfl, ?_⟩
      by_cases e : k = jn
      · rw [if_pos e] at k0
        rw [decide_eq_true (show nV k = V.int (jn : Int) from by subst e; rfl)]
        exact iteF k0
      · rw [if_neg e] at k0
        rw [decide_eq_false (show ¬ nV k = V.int (jn : Int) from fun z => by have z : V.int (k : Int) = V.int (jn : Int) := z; injection z with z; exact e (by omega))]
        exact iteT ⟨_, rfl, k0⟩
    have efa : (List.range (ls.map nV).length).filterMap (fun i => (ls[i]?).bind fun k => if k = jn then none else some (nV k)) = (ls.filter fun k => decide (k ≠ jn)).map nV := by
      rw [List.length_map, fm_range]
      exact fm_but
    rw [efa] at hDa
    have fla : (ls.filter fun k => decide (k ≠ jn)).length ≤ 60 := Nat.le_trans (List.length_filter_le _ _) hls
    generalize (ls.filter fun k => decide (k ≠ jn)) = Wa at hDa fla
    refine ⟨_, rfl, Nat.le_of_lt (small_lt (by decide : 1 ≤ 100000)), fun b1 nb1 => ?_⟩
    have s3 := same_new (o := .lst [V.int (jn : Int)]) (Same.refl Ga) nb1
    have hb1 : upd Ga b1 (.lst [V.int (jn : Int)]) b1 = some (.lst [V.int (jn : Int)]) := upd_same
    generalize upd Ga b1 (.lst [V.int (jn : Int)]) = H17 at s3 hb1
    refine ⟨Da, b1, _, _, rfl, rfl, s3 _ _ hDa, hb1, small_sz (by rw [List.length_map]; show _ + 1 ≤ _; omega), fun b2 nb2 => ?_⟩
    have s4 := same_new (o := .lst (Wa.map nV ++ [V.int (jn : Int)])) (Same.refl H17) nb2
    have hb2 : upd H17 b2 (.lst (Wa.map nV ++ [V.int (jn : Int)])) b2 = some (.lst (((Wa ++ [jn]).map fun (n : Nat) => (n : Int)).map V.int)) := by
      rw [upd_same, List.map_map, List.map_append]
      rfl
    generalize upd H17 b2 (.lst (Wa.map nV ++ [V.int (jn : Int)])) = H18 at s4 hb2
    refine ⟨b2, _, rfl, sql hb2, fun ns' b3 np ns nb3 => ?_⟩
    obtain ⟨gs', e5, gp, gl⟩ := sort_nats np ns
    rw [e5]
    have s5 := same_new (o := .lst (gs'.map nV)) (Same.refl H18) nb3
    refine ⟨b3, _, rfl, .inl ⟨sql upd_same, fun lo nlo => ?_⟩⟩
    have s6 := same_new (o := .tup (gs'.map nV)) (Same.refl _) nlo
    have gsl : gs'.length ≤ 63 := by
      have := gp.length_eq
      rw [List.length_append] at this
      show gs'.length ≤ 63
      have e1 : ([jn] : List Nat).length = 1 := rfl
      omega
    have Llo : TupL K (upd (upd H18 b3 (.lst (gs'.map nV))) lo (.tup (gs'.map nV))) (.ref lo) 63 := ⟨lo, _, rfl, sqt upd_same, by rw [List.length_map]; exact gsl, ll_nat⟩
    have s23 : Same H2 (upd (upd H18 b3 (.lst (gs'.map nV))) lo (.tup (gs'.map nV))) := (((ra.trans s3).trans s4).trans s5).trans s6
    generalize upd (upd H18 b3 (.lst (gs'.map nV))) lo (.tup (gs'.map nV)) = H3 at s6 Llo s23
    have t1 : Sls K H3 [.ref lo] := sls_nil.snoc (Llo.sl (by decide))
    have hS3 := Same.sqt s23 hS2
    refine ⟨_, rfl, l, rfl, ⟨_, hS3⟩, fun Db nDb => ?_⟩
    refine lc_val walk_tup calm_at (fun i => (ls[i]?).bind fun k => if k = jn then none else some (nV k)) (by rw [List.length_map]; omega) nDb (fun H3 s3 => Same.sqt s3 hS3) ?_ fun Gb rb hDb => ?_
    · rintro i v H3 H4 hi s3 ⟨rfl, hv⟩ Kt kt
      obtain ⟨k, hki, rfl⟩ := getmap hv
      have k0 := kt _ (Same.refl _)
      rw [hki] at k0
      simp only [Option.bind_some] at k0
      refine ⟨rfl, ?_⟩
      refine ⟨_, rfl, _, rfl, rfl, _, rfl, ?_⟩
      by_cases e : k = jn
      · rw [if_pos e] at k0
        rw [decide_eq_true (show nV k = V.int (jn : Int) from by subst e; rfl)]
        exact iteF k0
      · rw [if_neg e] at k0
        rw [decide_eq_false (show ¬ nV k = V.int (jn : Int) from fun z => by have z : V.int (k : Int) = V.int (jn : Int) := z; injection z with z; exact e (by omega))]
        exact iteT ⟨_, rfl, k0⟩
    have efb : (List.range (ls.map nV).length).filterMap (fun i => (ls[i]?).bind fun k => if k = jn then none else some (nV k)) = (ls.filter fun k => decide (k ≠ jn)).map nV := by
      rw [List.length_map, fm_range]
      exact fm_but
    rw [efb] at hDb
    have flb : (ls.filter fun k => decide (k ≠ jn)).length ≤ 60 := Nat.le_trans (List.length_filter_le _ _) hls
    generalize (ls.filter fun k => decide (k ≠ jn)) = Wb at hDb flb
    refine ⟨Db, _, rfl, .inl ⟨sql hDb, fun lq nlq => ?_⟩⟩
    have s7 := same_new (o := .tup (Wb.map nV)) (Same.refl Gb) nlq
    have t2 := ((t1.same rb).same s7).snoc (TupL.sl (n := 60) ⟨lq, _, rfl, sqt (upd_same (H := Gb)), by rw [List.length_map]; exact flb, ll_nat⟩ (by decide))
    have s24 := (s23.trans rb).trans s7
    generalize upd Gb lq (.tup (Wb.map nV)) = H4 at s7 t2 s24
    have hS4 := Same.sqt s24 hS2
    refine ⟨_, rfl, l, _, rfl, .inr hS4, fun q1 nq1 => ?_⟩
    have s8 := same_new (o := .lst (ls.map nV)) (Same.refl H4) nq1
    have t3 := (t2.same s8).snoc (.k0 (.lst (upd_same (H := H4) (a := q1) (o := .lst (ls.map nV)))))
    have s25 := s24.trans s8
    generalize upd H4 q1 (.lst (ls.map nV)) = H5 at s8 t3 s25
    refine ⟨by show 3 ≤ sizeLine; decide, fun tl ntl => ?_⟩
    have ntlh : tl ≠ h := dd2.hand.ne (Same.free s25 ntl)
    have ntl0 : H tl = none := d2.free (Same.free s25 ntl)
    have ntlF : F0 tl = none := Same.free hF ntl0
    have t3' : Sls K H5 [V.ref lo, .ref lq, .ref q1] := t3
    have hv0 : [V.ref lo, .ref lq, .ref q1].length = 3 := rfl
    generalize [V.ref lo, .ref lq, .ref q1] = vs0 at t3' hv0 ntl
    have s9 := same_new (o := .lst vs0) (Same.refl H5) ntl
    have t6 := t3'.same s9
    have s26 := s25.trans s9
    have L6 := L2.same s26
    have hS6 := Same.sqt s26 hS2
    have d6 := d2.trans (Dr.of_same d2.hand d2.sub s26)
    have htl6 : upd H5 tl (.lst vs0) tl = some (.lst vs0) := upd_same
    generalize upd H5 tl (.lst vs0) = H6 at t6 L6 hS6 d6 htl6
    -- nine more
    refine ⟨_, rfl, .inl ⟨rfl, _, sql htl6⟩, ?_⟩
    refine ⟨_, rfl, _, rfl, _, rfl, sl_tl L6 fun b1 G1 g1 k1 => ⟨_, rfl, _, rfl, _, _, rfl, rfl, _, rfl, sl_tl (L6.same g1) fun b2 G2 g2 k2 => cat_tl (k1.same g2) k2 (by decide) fun v1 H7 g3 k3 => ?_⟩⟩
    have s67 : Same H6 H7 := (g1.trans g2).trans g3
    have u1 : Sls K H7 [v1] := sls_nil.snoc (k3.sl (by decide))
    have L7 := L6.same s67
    refine ⟨_, rfl, _, rfl, by show 1 ≤ sizeLine; decide, fun p np => cat_tl (L7.same (same_new (Same.refl _) np)) (tup1_tl np (.k0 (.int _))) (by decide) fun v2 H8 g4 k4 => ?_⟩
    have s78 : Same H7 H8 := (same_new (Same.refl _) np).trans g4
    have u2 := (u1.same s78).snoc (k4.sl (by decide))
    have L8 := L7.same s78
    refine ⟨_, rfl, by show 1 ≤ sizeLine; decide, fun p np => ⟨_, rfl, cat_tl (tup1_tl np (.k0 (.int _))) (L8.same (same_new (Same.refl _) np)) (by decide) fun v3 H9 g5 k5 => ?_⟩⟩
    have s89 : Same H8 H9 := (same_new (Same.refl _) np).trans g5
    have u3 := (u2.same s89).snoc (k5.sl (by decide))
    have L9 := L8.same s89
    have hS9 := Same.sqt ((s67.trans s78).trans s89) hS6
    refine ⟨_, rfl, l, _, rfl, hS9, fun p4 np4 => ?_⟩
    have s10 := same_new (o := .tup (ls.map nV).reverse) (Same.refl H9) np4
    have u4 := (u3.same s10).snoc (TupL.sl (n := 60) ⟨p4, _, rfl, sqt (upd_same (H := H9)), by rw [List.length_reverse, List.length_map]; exact hls, fun x hx => ll_nat x (List.mem_reverse.mp hx)⟩ (by decide))
    have L10 := L9.same s10
    generalize upd H9 p4 (.tup (ls.map nV).reverse) = H10 at s10 u4 L10
    refine ⟨_, rfl, _, rfl, 1, rfl, _, rfl, sl_tl L10 fun b4 G4 g4 k4 => cat_tl (L10.same g4) k4 (by decide) fun v5 H11 g5 k5 => ?_⟩
    have s11 : Same H10 H11 := g4.trans g5
    have u5 := (u4.same s11).snoc (k5.sl (by decide))
    have L11 := L10.same s11
    refine ⟨Nat.zero_le _, fun p6 np6 => ?_⟩
    have s12 := same_new (o := .tup []) (Same.refl H11) np6
    have u6 := (u5.same s12).snoc ((tup0_tl (H := H11) (p := p6)).sl (by decide))
    have L12 := L11.same s12
    generalize upd H11 p6 (.tup []) = H12 at s12 u6 L12
    refine ⟨by show 1 ≤ sizeLine; decide, fun p7 np7 => ?_⟩
    have s13 := same_new (o := .tup [V.int 0]) (Same.refl H12) np7
    have u7 := ((u6.same s13).snoc ((tup1_tl np7 (.k0 (.int 0))).sl (by decide))).snoc (SL3.k0 .non)
    have L13 := L12.same s13
    generalize upd H12 p7 (.tup [V.int 0]) = H13 at s13 u7 L13
    refine ⟨_, rfl, ?_⟩
    have u8 := u7.snoc (SL3.k0 (.int (jn : Int)))
    have s613 : Same H6 H13 := (((((((s67.trans s78).trans s89).trans s10).trans s11).trans s12).trans s13))
    refine ⟨by show 9 ≤ sizeLine; decide, fun x1 nx1 => ?_⟩
    have u8' : Sls K H13 [v1, v2, v3, .ref p4, v5, .ref p6, .ref p7, .non, .int (jn : Int)] := u8
    have hw0 : [v1, v2, v3, .ref p4, v5, .ref p6, .ref p7, .non, .int (jn : Int)].length = 9 := rfl
    generalize [v1, v2, v3, .ref p4, v5, .ref p6, .ref p7, .non, .int (jn : Int)] = ws at u8' hw0 nx1
    have s14 := same_new (o := .lst ws) (Same.refl H13) nx1
    have s614 := s613.trans s14
    have htl14 := s614 _ _ htl6
    have tt := (t6.same s614).app (u8'.same s14)
    have hv1 : (vs0 ++ ws).length = 12 := by rw [List.length_append, hv0, hw0]
    refine ⟨tl, x1, _, _, rfl, rfl, htl14, upd_same, small_sz (by rw [hv0, hw0]; decide), ?_⟩
    have t15 : Sls K (upd (upd H13 x1 (.lst ws)) tl (.lst (vs0 ++ ws))) (vs0 ++ ws) := tt.updl htl14
    have L15 := (L6.same s614).updl (zs := vs0 ++ ws) htl14
    have d15 := (d6.trans (Dr.of_same d6.hand d6.sub s614)).upd (o := .lst (vs0 ++ ws)) ntl0 ntlh ntlF
    have htl15 : upd (upd H13 x1 (.lst ws)) tl (.lst (vs0 ++ ws)) tl = some (.lst (vs0 ++ ws)) := upd_same
    generalize (vs0 ++ ws) = vs1 at t15 L15 d15 htl15 hv1
    generalize upd (upd H13 x1 (.lst ws)) tl (.lst vs1) = H15 at t15 L15 d15 htl15
    -- five more
    refine ⟨_, rfl, .inl ⟨rfl, _, sql htl15⟩, ?_⟩
    refine ⟨_, rfl, _, rfl, _, rfl, sl_tl L15 fun b1 G1 g1 k1 => ⟨by show 1 ≤ sizeLine; decide, fun p np => cat_tl (k1.same (same_new (Same.refl _) np)) (tup1_tl np (.k0 (.bl true))) (by decide) fun b2 G2 g2 k2 => ⟨_, rfl, _, rfl, _, rfl, sl_tl (((L15.same g1).same (same_new (Same.refl _) np)).same g2) fun b3 G3 g3 k3 => cat_tl (k2.same g3) k3 (by decide) fun w1 H16 g4 k4 => ?_⟩⟩⟩
    have r16 : Same H15 H16 := ((g1.trans (same_new (Same.refl _) np)).trans g2).trans (g3.trans g4)
    have x1 : Sls K H16 [w1] := sls_nil.snoc (k4.sl (by decide))
    have L16 := L15.same r16
    refine ⟨by show 1 ≤ sizeLine; decide, fun p np => ⟨_, rfl, _, rfl, sl_tl (L16.same (same_new (Same.refl _) np)) fun b3 G3 g3 k3 => cat_tl ((tup1_tl np (.k0 (.bl false))).same g3) k3 (by decide) fun w2 H17 g4 k4 => ?_⟩⟩
    have r17 : Same H16 H17 := (same_new (Same.refl _) np).trans (g3.trans g4)
    have x2 := (x1.same r17).snoc (k4.sl (by decide))
    have L17 := L16.same r17
    refine ⟨_, rfl, _, rfl, _, rfl, sl_tl L17 fun b1 G1 g1 k1 => ⟨by show 1 ≤ sizeLine; decide, fun p np => cat_tl (k1.same (same_new (Same.refl _) np)) (tup1_tl np (.k0 .non)) (by decide) fun b2 G2 g2 k2 => ⟨_, rfl, _, rfl, _, rfl, sl_tl (((L17.same g1).same (same_new (Same.refl _) np)).same g2) fun b3 G3 g3 k3 => cat_tl (k2.same g3) k3 (by decide) fun w3 H18 g4 k4 => ?_⟩⟩⟩
    have r18 : Same H17 H18 := ((g1.trans (same_new (Same.refl _) np)).trans g2).trans (g3.trans g4)
    have x3 := (x2.same r18).snoc (k4.sl (by decide))
    have L18 := L17.same r18
    have olog : ((jn : Int)).natAbs.log2 < 1920 := log_small (Nat.lt_of_le_of_lt (show ((jn : Int)).natAbs ≤ 62 by omega) (by decide +kernel))
    refine ⟨_, rfl, (jn : Int), rfl, olog, ?_⟩
    have x4 := x3.snoc (SL3.k0 (.str (toString (jn : Int))))
    refine ⟨_, rfl, by show 1 ≤ sizeLine; decide, fun p5 np5 => ?_⟩
    have r19 := same_new (o := .tup [V.ref l]) (Same.refl H18) np5
    have x5 := (x4.same r19).snoc ((tup1_tl np5 (L18.ll (by decide))).sl (by decide))
    have L19 := L18.same r19
    have s1519 := ((r16.trans r17).trans r18).trans r19
    generalize upd H18 p5 (.tup [V.ref l]) = H19 at r19 x5 L19 s1519
    refine ⟨by show 5 ≤ sizeLine; decide, fun x6 nx6 => ?_⟩
    have x5' : Sls K H19 [w1, w2, w3, .str (toString (jn : Int)), .ref p5] := x5
    have hw1 : [w1, w2, w3, .str (toString (jn : Int)), .ref p5].length = 5 := rfl
    generalize [w1, w2, w3, .str (toString (jn : Int)), .ref p5] = ws2 at x5' hw1 nx6
    have r20 := same_new (o := .lst ws2) (Same.refl H19) nx6
    have s1520 := s1519.trans r20
    have htl20 := s1520 _ _ htl15
    have tt2 := (t15.same s1520).app (x5'.same r20)
    have hv2 : (vs1 ++ ws2).length = 17 := by rw [List.length_append, hv1, hw1]
    refine ⟨tl, x6, _, _, rfl, rfl, htl20, upd_same, small_sz (by rw [hv1, hw1]; decide), ?_⟩
    have t21 : Sls K (upd (upd H19 x6 (.lst ws2)) tl (.lst (vs1 ++ ws2))) (vs1 ++ ws2) := tt2.updl htl20
    have L21 := (L15.same s1520).updl (zs := vs1 ++ ws2) htl20
    have d21 := (d15.trans (Dr.of_same d15.hand d15.sub s1520)).upd (o := .lst (vs1 ++ ws2)) ntl0 ntlh ntlF
    have htl21 : upd (upd H19 x6 (.lst ws2)) tl (.lst (vs1 ++ ws2)) tl = some (.lst (vs1 ++ ws2)) := upd_same
    generalize (vs1 ++ ws2) = vs2 at t21 L21 d21 htl21 hv2
    generalize upd (upd H19 x6 (.lst ws2)) tl (.lst vs2) = H21 at t21 L21 d21 htl21
    -- the last four
    refine ⟨_, rfl, .inl ⟨rfl, _, sql htl21⟩, ?_⟩
    refine ⟨_, rfl, _, rfl, _, rfl, _, _, rfl, rfl, ⟨by decide, by decide, by decide⟩, h, _, F0, rfl, by decide +kernel, small_log (by decide +kernel) (by decide +kernel), d21.sub, d21.hand, fun g0 H22 _ _ dd22 => ⟨_, _, rfl, rfl, by show 1 ≤ sizeLine; decide, fun p np => ?_⟩⟩
    have d22 := d21.trans dd22.dr
    have L22 := L21.dr dd22.dr d21.hand
    have t22 := t21.dr dd22.dr d21.hand
    have htl22 : H22 tl = some (.lst vs2) := by rw [dd22.rest tl ntlh]; exact htl21
    refine cat_tl (L22.same (same_new (Same.refl _) np)) (tup1_tl np (.k0 (.int _))) (by decide) fun y1 H23 g5 k5 => ?_
    have r23 : Same H22 H23 := (same_new (Same.refl _) np).trans g5
    have z1 : Sls K H23 [y1] := sls_nil.snoc (k5.sl (by decide))
    refine ⟨_, rfl, _, rfl, RgOk.of_le (by decide) (by omega) (by decide) (by omega), fun p2 np2 => ?_⟩
    have r24 := same_new (o := .tup (rgV 0 (m : Int))) (Same.refl H23) np2
    have z2 := (z1.same r24).snoc (TupL.sl (n := 60) ⟨p2, _, rfl, sqt (upd_same (H := H23)), by rw [rgV_length]; omega, fun x hx => by
      unfold rgV at hx
      obtain ⟨i, _, rfl⟩ := List.mem_map.mp hx
      exact .k0 (.int _)⟩ (by decide))
    generalize upd H23 p2 (.tup (rgV 0 (m : Int))) = H24 at r24 z2
    intro p3 np3
    refine ⟨_, rfl, upd_same, [(Sum.inl (jn : Int), .bl true)], rfl, by show 1 ≤ 15; decide, ?_⟩
    rw [upd_upd]
    have r25 := same_new (o := .dK (mergeK [] [(Sum.inl (jn : Int), V.bl true)])) (Same.refl H24) np3
    have z3 := (z2.same r25).snoc (SL3.k0 (.dic (upd_same (H := H24) (a := p3) (o := .dK (mergeK [] [(Sum.inl (jn : Int), V.bl true)])))))
    have s2225 := (r23.trans r24).trans r25
    generalize upd H24 p3 (.dK (mergeK [] [(Sum.inl (jn : Int), V.bl true)])) = H25 at r25 z3 s2225
    have L25 := L22.same s2225
    refine ⟨_, rfl, _, rfl, _, rfl, sl_tl L25 fun b1 G1 g1 k1 => ⟨by show 1 ≤ sizeLine; decide, fun p np => cat_tl (k1.same (same_new (Same.refl _) np)) (tup1_tl np (.k0 (.str _))) (by decide) fun y4 H26 g2 k2 => ?_⟩⟩
    have r26 : Same H25 H26 := (g1.trans (same_new (Same.refl _) np)).trans g2
    have z4 := (z3.same r26).snoc (k2.sl (by decide))
    have s2226 := s2225.trans r26
    refine ⟨by show 4 ≤ sizeLine; decide, fun x7 nx7 => ?_⟩
    have z4' : Sls K H26 [y1, .ref p2, .ref p3, y4] := z4
    have hw2 : [y1, .ref p2, .ref p3, y4].length = 4 := rfl
    generalize [y1, .ref p2, .ref p3, y4] = ws3 at z4' hw2 nx7
    have r27 := same_new (o := .lst ws3) (Same.refl H26) nx7
    have s2227 := s2226.trans r27
    have htl27 := s2227 _ _ htl22
    have tt3 := (t22.same s2227).app (z4'.same r27)
    have hv3 : (vs2 ++ ws3).length = 21 := by rw [List.length_append, hv2, hw2]
    refine ⟨tl, x7, _, _, rfl, rfl, htl27, upd_same, small_sz (by rw [hv2, hw2]; decide), ?_⟩
    have t28 : Sls K (upd (upd H26 x7 (.lst ws3)) tl (.lst (vs2 ++ ws3))) (vs2 ++ ws3) := tt3.updl htl27
    have d28 := (d22.trans (Dr.of_same d22.hand d22.sub s2227)).upd (o := .lst (vs2 ++ ws3)) ntl0 ntlh ntlF
    have htl28 : upd (upd H26 x7 (.lst ws3)) tl (.lst (vs2 ++ ws3)) tl = some (.lst (vs2 ++ ws3)) := upd_same
    generalize (vs2 ++ ws3) = vs3 at t28 d28 htl28 hv3
    generalize upd (upd H26 x7 (.lst ws3)) tl (.lst vs3) = H28 at t28 d28 htl28
    -- one of them
    refine ⟨_, rfl, _, rfl, _, rfl, tl, _, rfl, .inl (sql htl28), h, _, F0, rfl, by rw [hv3]; decide, small_log (by rw [hv3]; decide) (by rw [hv3]; decide +kernel), d28.sub, d28.hand, fun k0 H34 hk0 hk1 dd34 => ?_⟩
    obtain ⟨vv, hvt, hvm⟩ := ix_ex hk0 hk1
    refine ⟨tl, _, k0, vv, rfl, rfl, sql (by rw [dd34.rest tl ntlh]; exact htl28), hvt, ?_⟩
    exact q _ H34 (d28.trans dd34.dr) ((t28 _ hvm).dr dd34.dr d28.hand)

abbrev s__law_deep : Stmt := topS 89
abbrev sl__law_deep : List Str := ["_law_hand_here", "_law_way", "_law_found", "_law_turn"]
theorem sc__law_deep : FnScope ["_law_hand_here", "_law_way", "_law_found", "_law_turn"] ["_law_hand_here"] (defScope s__law_deep) := ⟨rfl, rfl, rfl, by decide +kernel, rfl, by decide +kernel, by decide +kernel⟩
def spDeep (K : PySem.W.Frag) : Sp := fun vs H Q _ => ∃ (h : Addr) (F : Hp), vs = [.ref h] ∧ Same F H ∧ HandAt F H h ∧ ∀ v H', Dr F H H' h → Nst K H' 24 v → Q v H'
theorem ok__law_deep (B : Bt mg) (h_law_draw : Has P w K mg base "_law_draw" 1 ["_law_hand_here", "_law_many"] spDraw) (D0 : Df K mg "_law_deep" s__law_deep ["_law_hand_here"]) : Has P w K mg base "_law_deep" 2 ["_law_hand_here"] (spDeep K) := by
  refine D0.has fun f fd F => F.ok sc__law_deep (fun vs H Q E h => ?_) (fun cdv A outer s H vs Q E hr h => ?_)
  · obtain ⟨h, F, rfl, _⟩ := h
    rfl
  · obtain ⟨h, F0, rfl, hF, hA, q⟩ := h
    refine ⟨_, (pss_cons (ps_set (i := 1) sc__law_deep.nd rfl (.inl rfl) (pcall h_law_draw hr (by decide) (by rfl) (pa_cons (pv 0) (pa_cons pe_int pa_nil))))
  (pss_cons (ps_set (i := 2) sc__law_deep.nd rfl (.inl rfl) (pe_ix (k_ixl (K := K) rfl) (pe_lst (pa_cons pe_int (pa_cons (pe_tup pa_nil) (pa_cons pe_str (pa_cons pe_bl pa_nil))))) (pcall h_law_draw hr (by decide) (by rfl) (pa_cons (pv 0) (pa_cons pe_int pa_nil))) (fun _ _ => rfl)))
  (pss_cons (ps_for PassesOwn.never rfl (pi_range1 (by rfl) B.range (pa_cons pe_int pa_nil)) (pg_name (i := 3) sc__law_deep.nd rfl (.inl rfl))
    (pss_one (ps_set (i := 2) sc__law_deep.nd rfl (.inl rfl) (pe_ix (k_ixl (K := K) rfl) (pe_lst (pa_cons (pe_tup (pa_cons (pv 2) pa_nil)) (pa_cons (pe_lst (pa_cons (pv 2) pa_nil)) (pa_cons (pe_disp (pps_cons pe_int (pv 2) pps_nil) (by rfl) (by rfl) (fun z => by cases z) (by decide)) (pa_cons (pe_tup (pa_cons (pv 2) (pa_cons (pe_tup pa_nil) pa_nil))) pa_nil))))) (pv 1) (fun _ _ => rfl)))))
  (pss_one (ps_ret (pv 2)))))), ?_⟩
    refine ⟨_, rfl, h, 4, F0, rfl, by decide, small_log (by decide) (by decide +kernel), hF, hA, fun wy H1 w0 w1 dd1 => ?_⟩
    refine ⟨Nat.zero_le _, fun p0 np0 => ⟨by show 4 ≤ sizeLine; decide, fun l0 nl0 => ?_⟩⟩
    have s1 := same_new (o := .tup []) (Same.refl H1) np0
    have s2 := same_new (o := .lst [V.int 0, .ref p0, .str "0", .bl true]) (Same.refl _) nl0
    have d2 := dd1.dr.trans (Dr.of_same dd1.hand dd1.sub (s1.trans s2))
    have l0h : l0 ≠ h := dd1.hand.ne (Same.free s1 nl0)
    refine ⟨_, rfl, h, 4, F0, rfl, by decide, small_log (by decide) (by decide +kernel), d2.sub, d2.hand, fun k0 H2 hk0 hk1 dd2 => ?_⟩
    obtain ⟨v0, hv0, hm0⟩ := ix_ex (xs := [V.int 0, .ref p0, .str "0", .bl true]) hk0 hk1
    refine ⟨l0, _, k0, v0, rfl, rfl, sql (by rw [dd2.rest l0 l0h]; exact upd_same), hv0, ?_⟩
    have d3 := d2.trans dd2.dr
    have hD0 : Nst K H2 0 v0 := by
      simp only [List.mem_cons, List.not_mem_nil, or_false] at hm0
      rcases hm0 with rfl | rfl | rfl | rfl
      · exact .inl (.k0 (.int _))
      · exact .inr ⟨p0, [], rfl, dd2.dr.sqt d2.hand (sqt (s2 _ _ upd_same))⟩
      · exact .inl (.k0 (.str _))
      · exact .inl (.k0 (.bl _))
    refine ⟨24, rfl, by decide, by decide, ?_⟩
    refine for_range (lo := 0) (n := 24) (fun i σ H' => ∃ (v : V) (x3 : Option V), σ = [some (.ref h), some (.int wy), some v, x3] ∧ Same H2 H' ∧ Nst K H' i v) ⟨v0, none, rfl, Same.refl _, hD0⟩ ?_ ?_
    · rintro i σ H3 hi ⟨v, x3, rfl, s3, hD⟩
      refine ⟨_, rfl, by show 1 ≤ sizeLine; decide, fun q1 nq1 => ?_⟩
      have r1 := same_new (o := .tup [v]) (Same.refl H3) nq1
      have h1 := upd_same (H := H3) (a := q1) (o := .tup [v])
      generalize upd H3 q1 (.tup [v]) = G1 at r1 h1
      refine ⟨_, rfl, by show 1 ≤ sizeLine; decide, fun q2 nq2 => ?_⟩
      have r2 := same_new (o := .lst [v]) (Same.refl G1) nq2
      have h2 := upd_same (H := G1) (a := q2) (o := .lst [v])
      generalize upd G1 q2 (.lst [v]) = G2 at r2 h2
      intro q3 nq3
      refine ⟨_, rfl, upd_same, [(Sum.inl 0, v)], rfl, by show 1 ≤ 15; decide, ?_⟩
      rw [upd_upd]
      have r3 := same_new (o := .dK (mergeK [] [(Sum.inl 0, v)])) (Same.refl G2) nq3
      have h3 := upd_same (H := G2) (a := q3) (o := .dK (mergeK [] [(Sum.inl 0, v)]))
      generalize upd G2 q3 (.dK (mergeK [] [(Sum.inl 0, v)])) = G3 at r3 h3
      refine ⟨_, rfl, Nat.zero_le _, fun q4 nq4 => ?_⟩
      have r4 := same_new (o := .tup []) (Same.refl G3) nq4
      have h4 := upd_same (H := G3) (a := q4) (o := .tup [])
      generalize upd G3 q4 (.tup []) = G4 at r4 h4
      refine ⟨by show 2 ≤ sizeLine; decide, fun q5 nq5 => ?_⟩
      have r5 := same_new (o := .tup [v, .ref q4]) (Same.refl G4) nq5
      have h5 := upd_same (H := G4) (a := q5) (o := .tup [v, .ref q4])
      generalize upd G4 q5 (.tup [v, .ref q4]) = G5 at r5 h5
      refine ⟨by show 4 ≤ sizeLine; decide, fun q6 nq6 => ?_⟩
      have r6 := same_new (o := .lst [.ref q1, .ref q2, .ref q3, .ref q5]) (Same.refl G5) nq6
      have h6 := upd_same (H := G5) (a := q6) (o := .lst [.ref q1, .ref q2, .ref q3, .ref q5])
      generalize upd G5 q6 (.lst [.ref q1, .ref q2, .ref q3, .ref q5]) = G6 at r6 h6
      have t5 := r5.trans r6
      have t4 := r4.trans t5
      have t3 := r3.trans t4
      have t2 := r2.trans t3
      have t1 := r1.trans t2
      obtain ⟨vv, hvt, hvm⟩ := ix_ex (xs := [V.ref q1, .ref q2, .ref q3, .ref q5]) w0 (by show wy < 4; exact w1)
      refine ⟨_, rfl, q6, _, wy, vv, rfl, rfl, sql h6, hvt, ?_⟩
      have hD6 := hD.same t1
      refine ⟨vv, _, rfl, s3.trans t1, ?_⟩
      simp only [List.mem_cons, List.not_mem_nil, or_false] at hvm
      rcases hvm with rfl | rfl | rfl | rfl
      · exact ⟨q1, rfl, .inr (.inr (.inl ⟨v, sqt (t2 _ _ h1), hD6⟩))⟩
      · exact ⟨q2, rfl, .inl ⟨_, t3 _ _ h2⟩⟩
      · exact ⟨q3, rfl, .inr (.inl ⟨_, t4 _ _ h3⟩)⟩
      · exact ⟨q5, rfl, .inr (.inr (.inr ⟨v, q4, sqt (r6 _ _ h5), sqt (t5 _ _ h4), hD6⟩))⟩
    · rintro σ H3 ⟨v, x3, rfl, s3, hD⟩
      exact ⟨_, rfl, q v H3 (d3.trans (Dr.of_same d3.hand d3.sub s3)) hD⟩

abbrev s__law_thing : Stmt := topS 88
abbrev sl__law_thing : List Str := ["_law_hand_here", "_law_parts_here", "_law_chart", "_law_standing_here", "_law_reached", "_law_rotten", "_law_way", "_law_odd"]
theorem sc__law_thing : FnScope ["_law_hand_here", "_law_parts_here", "_law_chart", "_law_standing_here", "_law_reached", "_law_rotten", "_law_way", "_law_odd"] ["_law_hand_here", "_law_parts_here", "_law_chart", "_law_standing_here"] (defScope s__law_thing) := ⟨rfl, rfl, rfl, by decide +kernel, rfl, by decide +kernel, by decide +kernel⟩
def spThing3 (K : PySem.W.Frag) (C : Addr) : Sp := fun vs H Q _ => ∃ (h t p u : Addr) (n : Nat) (a : Addr) (pvs : List V) (es : Es) (c : Addr) (gs : List Nat) (x y : Addr) (rs ls : List Nat) (F : Hp), vs = [.ref h, .ref t, .ref p, .ref u] ∧ PtsAt K H t n a pvs es c gs ∧ MapOk K C H p n a pvs es c gs ∧ OwnC K C ∧
  StdAt K H u x y rs ls ∧ StdOk n es gs rs ls ∧ 0 < es.length ∧ Same F H ∧ HandAt F H h ∧ ∀ v H', Dr F H H' h → SL3 K H' v → Q v H'
theorem ok__law_thing {CMap : Addr} (B : Bt mg) (h_law_draw : Has P w K mg base "_law_draw" 1 ["_law_hand_here", "_law_many"] spDraw) (h_law_odd_lot : Has P w K mg base "_law_odd_lot" 2 ["_law_hand_here", "_law_many", "_law_lot"] (spOdd3 K)) (D0 : Df K mg "_law_thing" s__law_thing ["_law_hand_here", "_law_parts_here", "_law_chart", "_law_standing_here"]) : Has P w K mg base "_law_thing" 3 ["_law_hand_here", "_law_parts_here", "_law_chart", "_law_standing_here"] (spThing3 K CMap) := by
  refine D0.has fun f fd F => F.ok sc__law_thing (fun vs H Q E h => ?_) (fun cdv A outer s H vs Q E hr h => ?_)
  · obtain ⟨h, t, p, u, n, a, pvs, es, c, gs, x, y, rs, ls, F, rfl, _⟩ := h
    rfl
  · obtain ⟨h, t, p, u, n, a, pvs, es, c, gs, x, y, rs, ls, F0, rfl, hP, m, oC, S, o, e0, hF, hA, q⟩ := h
    refine ⟨_, (pss_cons (ps_asg (pv 3) (pg_tup rfl (pgs_cons (pg_name (i := 4) sc__law_thing.nd rfl (.inl rfl)) (pgs_cons (pg_name (i := 5) sc__law_thing.nd rfl (.inl rfl)) pgs_nil))))
  (pss_cons (ps_set (i := 6) sc__law_thing.nd rfl (.inl rfl) (pcall h_law_draw hr (by decide) (by rfl) (pa_cons (pv 0) (pa_cons pe_int pa_nil))))
  (pss_cons (ps_if (pt_cmpR op_eq (pv 6) pe_int (nomark _))
    (pss_one (ps_ret (pv 3)))
    pss_nil)
  (C8.pss_cut (ps_if (pt_cmpR op_lt (pv 6) pe_int (nomark _))
    (pss_one (ps_set (i := 4) sc__law_thing.nd rfl (.inl rfl) (pcall h_law_odd_lot hr (by decide) (by rfl) (pa_cons (pv 0) (pa_cons (pe_ix (k_ixt (K := K) rfl) (pv 1) pe_int (fun _ _ => rfl)) (pa_cons (pv 4) pa_nil))))))
    pss_nil)
  (C8.pss_cut (ps_if (PW.pt (pw_or (pt_cmpR op_eq (pv 6) pe_int (nomark _)) (pw_or (pt_cmpR op_eq (pv 6) pe_int (nomark _)) (pw_or1 (pt_cmpR op_eq (pv 6) pe_int (nomark _))))))
    (pss_one (ps_set (i := 5) sc__law_thing.nd rfl (.inl rfl) (pcall h_law_odd_lot hr (by decide) (by rfl) (pa_cons (pv 0) (pa_cons (pe_callB (k_len (K := K) rfl) (by rfl) B.len bo_len (pa_cons (pe_ix (k_ixt (K := K) rfl) (pv 1) pe_int (fun _ _ => rfl)) pa_nil)) (pa_cons (pv 5) pa_nil))))))
    pss_nil)
  (pss_cons (ps_if (pt_cmpR op_lt (pv 6) pe_int (nomark _))
    (pss_one (ps_ret (pe_tup (pa_cons (pv 4) (pa_cons (pv 5) pa_nil)))))
    pss_nil)
  (pss_cons (ps_set (i := 7) sc__law_thing.nd rfl (.inl rfl) (pe_lst (pa_cons (pe_lst (pa_cons (pv 4) (pa_cons (pv 5) pa_nil))) (pa_cons (pe_tup (pa_cons (pv 4) pa_nil)) (pa_cons (pe_tup (pa_cons (pv 4) (pa_cons (pv 5) (pa_cons (pe_tup pa_nil) pa_nil)))) (pa_cons (pv 4) (pa_cons (pv 5) (pa_cons (pe_tup (pa_cons (pv 5) (pa_cons (pv 4) pa_nil))) (pa_cons pe_non (pa_cons (pv 2) (pa_cons pe_int pa_nil)))))))))))
  (pss_cons (ps_expr (pe_bm PySem.F.plainAttrs_list PySem.F.slot_list_append PySem.F.type_list_append mt_append (pv 7) (pa_cons pe_str pa_nil)))
  (pss_cons (ps_expr (pe_bm PySem.F.plainAttrs_list PySem.F.slot_list_extend PySem.F.type_list_extend mt_extend (pv 7) (pa_cons (pe_lst (pa_cons (pe_tup (pa_cons (pv 3) (pa_cons (pe_tup pa_nil) pa_nil))) (pa_cons (pe_tup (pa_cons (pv 4) (pa_cons (pv 5) (pa_cons (pv 5) pa_nil)))) (pa_cons (pe_disp (pps_cons pe_int (pv 4) (pps_cons pe_int (pv 5) pps_nil)) (by rfl) (by rfl) (fun z => by cases z) (by decide)) (pa_cons (pe_tup pa_nil) (pa_cons (pe_tup (pa_cons (pv 4) (pa_cons (pv 2) pa_nil))) (pa_cons pe_bl pa_nil))))))) pa_nil)))
  (pss_one (ps_ret (pe_ix (k_ixl (K := K) rfl) (pv 7) (pcall h_law_draw hr (by decide) (by rfl) (pa_cons (pv 0) (pa_cons (pe_callB (k_len (K := K) rfl) (by rfl) B.len bo_len (pa_cons (pv 7) pa_nil)) pa_nil))) (fun _ _ => rfl))))))))))))), ?_⟩
    have hl := hP.pr.len
    have gn := hP.gm.n40
    have g2 := hP.gm.n2
    have g60 := hP.gm.l60
    have hrl : rs.length ≤ n - 0 := pw_len o.rp fun z hz => ⟨Nat.zero_le _, o.rn z hz⟩
    have hll : ls.length ≤ es.length - 0 := pw_len o.lp fun z hz => ⟨Nat.zero_le _, o.ln z hz⟩
    have hrT : ∀ H', SqT K H' x (rs.map nV) → SL3 K H' (.ref x) := fun H' k => TupL.sl (n := 60) ⟨x, _, rfl, k, by rw [List.length_map]; omega, ll_nat⟩ (by decide)
    have hlT : ∀ H', SqT K H' y (ls.map nV) → SL3 K H' (.ref y) := fun H' k => TupL.sl (n := 60) ⟨y, _, rfl, k, by rw [List.length_map]; omega, ll_nat⟩ (by decide)
    refine ⟨_, rfl, u, _, rfl, S.t, rfl, _, _, rfl, _, _, rfl, rfl, ?_⟩
    refine ⟨_, rfl, h, 8, F0, rfl, by decide, small_log (by decide) (by decide +kernel), hF, hA, fun wy H1 w0 w1 dd1 => ?_⟩
    have d1 := dd1.dr
    have S1 := S.dr d1 hA
    have hP1 := hP.dr d1 hA
    have hST : ∀ H', StdAt K H' u x y rs ls → SL3 K H' (.ref u) := fun H' k => TupL.sl (n := 2) ⟨u, _, rfl, k.t, Nat.le_refl _, fun z hz => by
      rcases List.mem_cons.mp hz with rfl | hz
      · exact (hrT H' k.x).ll
      · rw [List.mem_singleton.mp hz]
        exact (hlT H' k.y).ll⟩ (by decide)
    refine ⟨_, rfl, rfl, _, rfl, ?_⟩
    by_cases hw0 : V.int wy = V.int 0
    · rw [decide_eq_true hw0]
      exact iteT ⟨_, rfl, q _ _ d1 (hST _ S1)⟩
    rw [decide_eq_false hw0]
    refine iteF ?_
    -- the places
    refine ⟨fun σ H' => ∃ r : V, σ = [some (.ref h), some (.ref t), some (.ref p), some (.ref u), some r, some (.ref y), some (.int wy), none] ∧ Dr F0 H H' h ∧ SL3 K H' r, ?_, ?_⟩
    · refine ⟨_, rfl, _, _, rfl, rfl, _, rfl, ?_⟩
      by_cases hw : wy < 4
      · rw [decide_eq_true hw]
        refine iteT ?_
        refine ⟨_, rfl, _, rfl, t, _, (0 : Nat), nV n, rfl, rfl, hP1.tp, atI_nat rfl, _, rfl, h, x, n, rs, F0, rfl, by omega, by omega, S1.x, by omega, d1.sub, d1.hand, fun v H2 d2 hv => ?_⟩
        exact ⟨v, rfl, d1.trans d2, hv⟩
      · rw [decide_eq_false hw]
        exact iteF ⟨_, rfl, d1, hrT _ S1.x⟩
    rintro σ H2 ⟨r, rfl, d2, hr2⟩
    have S2 := S.dr d2 hA
    have hP2 := hP.dr d2 hA
    -- the arrows
    refine ⟨fun σ H' => ∃ r z : V, σ = [some (.ref h), some (.ref t), some (.ref p), some (.ref u), some r, some z, some (.int wy), none] ∧ Dr F0 H H' h ∧ SL3 K H' r ∧ SL3 K H' z, ?_, ?_⟩
    · have go : ∀ (b : Bool), True := fun _ => trivial
      have yes : ∀ {Qn : V → Hp → Prop}, (∀ v H3, Dr F0 H2 H3 h → SL3 K H3 v → Qn v H3) → spOdd3 K [.ref h, .int (pvs.length : Int), .ref y] H2 Qn (fun _ _ _ => False) := fun k => ⟨h, y, pvs.length, ls, F0, rfl, by omega, by omega, S2.y, by omega, d2.sub, d2.hand, k⟩
      refine ⟨_, rfl, rfl, _, rfl, ?_⟩
      by_cases h1 : V.int wy = V.int 1
      · rw [decide_eq_true h1]
        refine iteT (iteT ?_)
        refine ⟨_, rfl, _, rfl, t, _, (1 : Nat), .ref a, rfl, rfl, hP2.tp, atI_nat rfl, a, pvs, rfl, .inr hP2.ar, _, rfl, h, y, pvs.length, ls, F0, rfl, by omega, by omega, S2.y, by omega, d2.sub, d2.hand, fun v H3 d3 hv => ?_⟩
        exact ⟨r, v, rfl, d2.trans d3, hr2.dr d3 d2.hand, hv⟩
      rw [decide_eq_false h1]
      refine iteF ?_
      refine ⟨_, rfl, rfl, _, rfl, ?_⟩
      by_cases h4 : V.int wy = V.int 4
      · rw [decide_eq_true h4]
        refine iteT (iteT ?_)
        refine ⟨_, rfl, _, rfl, t, _, (1 : Nat), .ref a, rfl, rfl, hP2.tp, atI_nat rfl, a, pvs, rfl, .inr hP2.ar, _, rfl, h, y, pvs.length, ls, F0, rfl, by omega, by omega, S2.y, by omega, d2.sub, d2.hand, fun v H3 d3 hv => ?_⟩
        exact ⟨r, v, rfl, d2.trans d3, hr2.dr d3 d2.hand, hv⟩
      rw [decide_eq_false h4]
      refine iteF ?_
      refine ⟨_, rfl, rfl, _, rfl, ?_⟩
      by_cases h5 : V.int wy = V.int 5
      · rw [decide_eq_true h5]
        refine iteT ?_
        refine ⟨_, rfl, _, rfl, t, _, (1 : Nat), .ref a, rfl, rfl, hP2.tp, atI_nat rfl, a, pvs, rfl, .inr hP2.ar, _, rfl, h, y, pvs.length, ls, F0, rfl, by omega, by omega, S2.y, by omega, d2.sub, d2.hand, fun v H3 d3 hv => ?_⟩
        exact ⟨r, v, rfl, d2.trans d3, hr2.dr d3 d2.hand, hv⟩
      rw [decide_eq_false h5]
      exact iteF ⟨r, _, rfl, d2, hr2, hlT _ S2.y⟩
    rintro σ H3 ⟨r, z, rfl, d3, hr3, hz3⟩
    refine ⟨_, rfl, _, _, rfl, rfl, _, rfl, ?_⟩
    by_cases hw7 : wy < 7
    · rw [decide_eq_true hw7]
      refine iteT ?_
      refine ⟨_, rfl, _, rfl, by show 2 ≤ sizeLine; decide, fun p0 np0 => ?_⟩
      have s1 := same_new (o := .tup [r, z]) (Same.refl H3) np0
      refine q _ _ (d3.trans (Dr.of_same d3.hand d3.sub s1)) ((tupn_tl (n := 2) np0 (Nat.le_refl _) fun v hv => ?_).sl (by decide))
      rcases List.mem_cons.mp hv with rfl | hv
      · exact hr3.ll
      · rw [List.mem_singleton.mp hv]
        exact hz3.ll
    rw [decide_eq_false hw7]
    refine iteF ?_
    have m3 := m.dr d3 hA
    obtain ⟨dx, hp3⟩ := m3.at_.ob
    have hC3 : SL3 K H3 (.ref p) := .inl (.ins hp3 oC)
    have S3 := S.dr d3 hA
    have hU3 := hST _ S3
    -- the first nine
    refine ⟨_, rfl, _, rfl, by show 2 ≤ sizeLine; decide, fun p1 np1 => ?_⟩
    have s1 := same_new (o := .lst [r, z]) (Same.refl H3) np1
    have t1 : Sls K _ [V.ref p1] := sls_nil.snoc (.k0 (.lst (upd_same (H := H3) (a := p1) (o := .lst [r, z]))))
    generalize upd H3 p1 (.lst [r, z]) = G1 at s1 t1
    refine ⟨_, rfl, by show 1 ≤ sizeLine; decide, fun p2 np2 => ?_⟩
    have s2 := same_new (o := .tup [r]) (Same.refl G1) np2
    have t2 := (t1.same s2).snoc ((tup1_tl np2 (hr3.same s1).ll).sl (by decide))
    have s12 := s1.trans s2
    generalize upd G1 p2 (.tup [r]) = G2 at s2 t2 s12
    refine ⟨_, rfl, _, rfl, Nat.zero_le _, fun p3 np3 => ⟨by show 3 ≤ sizeLine; decide, fun p4 np4 => ?_⟩⟩
    have s3 := same_new (o := .tup []) (Same.refl G2) np3
    have s4 := same_new (o := .tup [r, z, .ref p3]) (Same.refl _) np4
    have s13 := s12.trans s3
    have t4 := ((t2.same s3).same s4).snoc ((tupn_tl (n := 3) np4 (Nat.le_refl _) fun v hv => by
      simp only [List.mem_cons, List.not_mem_nil, or_false] at hv
      rcases hv with rfl | rfl | rfl
      · exact (hr3.same s13).ll
      · exact (hz3.same s13).ll
      · exact (tup0_tl (H := G2)).ll (by decide)).sl (by decide))
    have s14 := s13.trans s4
    generalize upd (upd G2 p3 (.tup [])) p4 (.tup [r, z, .ref p3]) = G4 at s4 t4 s14
    refine ⟨_, rfl, _, rfl, _, rfl, _, rfl, by show 2 ≤ sizeLine; decide, fun p5 np5 => ?_⟩
    have t5 := (t4.snoc (hr3.same s14)).snoc (hz3.same s14)
    have s5 := same_new (o := .tup [z, r]) (Same.refl G4) np5
    have t6 := (t5.same s5).snoc ((tupn_tl (n := 2) np5 (Nat.le_refl _) fun v hv => by
      simp only [List.mem_cons, List.not_mem_nil, or_false] at hv
      rcases hv with rfl | rfl
      · exact (hz3.same s14).ll
      · exact (hr3.same s14).ll).sl (by decide))
    have s15 := s14.trans s5
    generalize upd G4 p5 (.tup [z, r]) = G5 at s5 t6 s15
    refine ⟨_, rfl, by show 9 ≤ sizeLine; decide, fun tl ntl => ?_⟩
    have t7 := ((t6.snoc (.k0 .non)).snoc (hC3.same s15)).snoc (SL3.k0 (.int 0))
    have ntlh : tl ≠ h := d3.hand.ne (Same.free s15 ntl)
    have ntl0 : H tl = none := d3.free (Same.free s15 ntl)
    have ntlF : F0 tl = none := Same.free hF ntl0
    have t7' : Sls K G5 [V.ref p1, .ref p2, .ref p4, r, z, .ref p5, .non, .ref p, .int 0] := t7
    have hv0 : [V.ref p1, .ref p2, .ref p4, r, z, .ref p5, .non, .ref p, .int 0].length = 9 := rfl
    generalize [V.ref p1, .ref p2, .ref p4, r, z, .ref p5, .non, .ref p, .int 0] = vs0 at t7' hv0 ntl
    have s6 := same_new (o := .lst vs0) (Same.refl G5) ntl
    have t8 := t7'.same s6
    have s16 := s15.trans s6
    have hr6 := hr3.same s16
    have hz6 := hz3.same s16
    have hC6 := hC3.same s16
    have hU6 := hU3.same s16
    have d6 := d3.trans (Dr.of_same d3.hand d3.sub s16)
    have htl6 : upd G5 tl (.lst vs0) tl = some (.lst vs0) := upd_same
    generalize upd G5 tl (.lst vs0) = G6 at t8 hr6 hz6 hC6 hU6 d6 htl6
    -- one more
    refine ⟨_, rfl, .inl ⟨rfl, _, sql htl6⟩, ?_⟩
    refine ⟨tl, _, _, rfl, rfl, htl6, small_lt (by rw [hv0]; decide), ?_⟩
    have t9 : Sls K (upd G6 tl (.lst (vs0 ++ [.str "-"]))) (vs0 ++ [.str "-"]) := (t8.snoc (.k0 (.str _))).updl htl6
    have hr7 := hr6.updl (zs := vs0 ++ [.str "-"]) htl6
    have hz7 := hz6.updl (zs := vs0 ++ [.str "-"]) htl6
    have hC7 := hC6.updl (zs := vs0 ++ [.str "-"]) htl6
    have hU7 := hU6.updl (zs := vs0 ++ [.str "-"]) htl6
    have d7 := d6.upd (o := .lst (vs0 ++ [.str "-"])) ntl0 ntlh ntlF
    have htl7 : upd G6 tl (.lst (vs0 ++ [.str "-"])) tl = some (.lst (vs0 ++ [.str "-"])) := upd_same
    have hv1 : (vs0 ++ [V.str "-"]).length = 10 := by rw [List.length_append, hv0]; rfl
    generalize (vs0 ++ [V.str "-"]) = vs1 at t9 hr7 hz7 hC7 hU7 d7 htl7 hv1
    generalize upd G6 tl (.lst vs1) = G7 at t9 hr7 hz7 hC7 hU7 d7 htl7
    -- six more
    refine ⟨_, rfl, .inl ⟨rfl, _, sql htl7⟩, ?_⟩
    refine ⟨_, rfl, Nat.zero_le _, fun q1 nq1 => ⟨by show 2 ≤ sizeLine; decide, fun q2 nq2 => ?_⟩⟩
    have r1 := same_new (o := .tup []) (Same.refl G7) nq1
    have r2 := same_new (o := .tup [.ref u, .ref q1]) (Same.refl _) nq2
    have u1 : Sls K (upd (upd G7 q1 (.tup [])) q2 (.tup [.ref u, .ref q1])) [V.ref q2] := sls_nil.snoc ((tupn_tl (n := 2) nq2 (Nat.le_refl _) fun v hv => by
      simp only [List.mem_cons, List.not_mem_nil, or_false] at hv
      rcases hv with rfl | rfl
      · exact (hU7.same r1).ll
      · exact (tup0_tl (H := G7)).ll (by decide)).sl (by decide))
    have r12 := r1.trans r2
    generalize upd (upd G7 q1 (.tup [])) q2 (.tup [.ref u, .ref q1]) = G8 at r2 u1 r12
    refine ⟨_, rfl, _, rfl, _, rfl, by show 3 ≤ sizeLine; decide, fun q3 nq3 => ?_⟩
    have r3 := same_new (o := .tup [r, z, z]) (Same.refl G8) nq3
    have u2 := (u1.same r3).snoc ((tupn_tl (n := 3) nq3 (Nat.le_refl _) fun v hv => by
      simp only [List.mem_cons, List.not_mem_nil, or_false] at hv
      rcases hv with rfl | rfl | rfl
      · exact (hr7.same r12).ll
      · exact (hz7.same r12).ll
      · exact (hz7.same r12).ll).sl (by decide))
    have r13 := r12.trans r3
    generalize upd G8 q3 (.tup [r, z, z]) = G9 at r3 u2 r13
    intro q4 nq4
    refine ⟨_, rfl, _, rfl, upd_same, [(Sum.inl 0, r), (Sum.inl 1, z)], rfl, by show 2 ≤ 15; decide, ?_⟩
    rw [upd_upd]
    have r4 := same_new (o := .dK (mergeK [] [(Sum.inl 0, r), (Sum.inl 1, z)])) (Same.refl G9) nq4
    have u3 := (u2.same r4).snoc (SL3.k0 (.dic (upd_same (H := G9) (a := q4) (o := .dK (mergeK [] [(Sum.inl 0, r), (Sum.inl 1, z)])))))
    have r14 := r13.trans r4
    generalize upd G9 q4 (.dK (mergeK [] [(Sum.inl 0, r), (Sum.inl 1, z)])) = G10 at r4 u3 r14
    refine ⟨Nat.zero_le _, fun q5 nq5 => ?_⟩
    have r5 := same_new (o := .tup []) (Same.refl G10) nq5
    have u4 := (u3.same r5).snoc ((tup0_tl (H := G10) (p := q5)).sl (by decide))
    have r15 := r14.trans r5
    generalize upd G10 q5 (.tup []) = G11 at r5 u4 r15
    refine ⟨_, rfl, _, rfl, by show 2 ≤ sizeLine; decide, fun q6 nq6 => ?_⟩
    have r6 := same_new (o := .tup [r, .ref p]) (Same.refl G11) nq6
    have u5 := ((u4.same r6).snoc ((tupn_tl (n := 2) nq6 (Nat.le_refl _) fun v hv => by
      simp only [List.mem_cons, List.not_mem_nil, or_false] at hv
      rcases hv with rfl | rfl
      · exact (hr7.same r15).ll
      · exact (hC7.same r15).ll).sl (by decide))).snoc (SL3.k0 (.bl true))
    have r16 := r15.trans r6
    generalize upd G11 q6 (.tup [r, .ref p]) = G12 at r6 u5 r16
    refine ⟨by show 6 ≤ sizeLine; decide, fun x7 nx7 => ?_⟩
    have u5' : Sls K G12 [V.ref q2, .ref q3, .ref q4, .ref q5, .ref q6, .bl true] := u5
    have hw2 : [V.ref q2, .ref q3, .ref q4, .ref q5, .ref q6, .bl true].length = 6 := rfl
    generalize [V.ref q2, .ref q3, .ref q4, .ref q5, .ref q6, .bl true] = ws3 at u5' hw2 nx7
    have r7 := same_new (o := .lst ws3) (Same.refl G12) nx7
    have r17 := r16.trans r7
    have htl13 := r17 _ _ htl7
    have tt3 := (t9.same r17).app (u5'.same r7)
    have hv3 : (vs1 ++ ws3).length = 16 := by rw [List.length_append, hv1, hw2]
    refine ⟨tl, x7, _, _, rfl, rfl, htl13, upd_same, small_sz (by rw [hv1, hw2]; decide), ?_⟩
    have t28 : Sls K (upd (upd G12 x7 (.lst ws3)) tl (.lst (vs1 ++ ws3))) (vs1 ++ ws3) := tt3.updl htl13
    have d28 := (d7.trans (Dr.of_same d7.hand d7.sub r17)).upd (o := .lst (vs1 ++ ws3)) ntl0 ntlh ntlF
    have htl28 : upd (upd G12 x7 (.lst ws3)) tl (.lst (vs1 ++ ws3)) tl = some (.lst (vs1 ++ ws3)) := upd_same
    generalize (vs1 ++ ws3) = vs3 at t28 d28 htl28 hv3
    generalize upd (upd G12 x7 (.lst ws3)) tl (.lst vs3) = G28 at t28 d28 htl28
    -- one of them
    refine ⟨_, rfl, _, rfl, _, rfl, tl, _, rfl, .inl (sql htl28), h, _, F0, rfl, by rw [hv3]; decide, small_log (by rw [hv3]; decide) (by rw [hv3]; decide +kernel), d28.sub, d28.hand, fun k0 H34 hk0 hk1 dd34 => ?_⟩
    obtain ⟨vv, hvt, hvm⟩ := ix_ex hk0 hk1
    refine ⟨tl, _, k0, vv, rfl, rfl, sql (by rw [dd34.rest tl ntlh]; exact htl28), hvt, ?_⟩
    exact q _ H34 (d28.trans dd34.dr) ((t28 _ hvm).dr dd34.dr d28.hand)

abbrev s__law_is_far_refused : Stmt := topS 90
abbrev sl__law_is_far_refused : List Str := ["_law_hand_here", "_law_chart", "_law_deep_here", "_law_party", "_law_odd", "_law_thing_here", "_law_way"]
theorem sc__law_is_far_refused : FnScope ["_law_hand_here", "_law_chart", "_law_deep_here", "_law_party", "_law_odd", "_law_thing_here", "_law_way"] ["_law_hand_here", "_law_chart"] (defScope s__law_is_far_refused) := ⟨rfl, rfl, rfl, by decide +kernel, rfl, by decide +kernel, by decide +kernel⟩
def spFar3 (K : PySem.W.Frag) (C CP : Addr) : Sp := fun vs H Q _ => ∃ (h p : Addr) (n : Nat) (a : Addr) (pvs : List V) (es : Es) (c : Addr) (gs : List Nat) (F : Hp), vs = [.ref h, .ref p] ∧ MapOk K C H p n a pvs es c gs ∧ GoodMap n es gs ∧ OwnC K CP ∧ Same F H ∧ HandAt F H h ∧ ∀ H', Q (.bl true) H'
theorem ok__law_is_far_refused {CMap CCourse CParty : Addr} (B : Bt mg) (C_Party : ClsC K mg "Party" CParty ["_chart", "_world", "_course"]) (h_law_draw : Has P w K mg base "_law_draw" 1 ["_law_hand_here", "_law_many"] spDraw) (h_law_deep : Has P w K mg base "_law_deep" 2 ["_law_hand_here"] (spDeep K))
    (h_Party_init : HasI P w K mg base CParty 5 ["self", "chart", "world"] (spPtyInit K CMap CCourse CParty)) (h_law_is_refused : Has P w K mg base "_law_is_refused" 9 ["_law_way", "_law_chart", "_law_good", "_law_thing_here", "_law_last", "_law_more"] (spIsRef3 K CMap))
    (D0 : Df K mg "_law_is_far_refused" s__law_is_far_refused ["_law_hand_here", "_law_chart"]) : Has P w K mg base "_law_is_far_refused" 10 ["_law_hand_here", "_law_chart"] (spFar3 K CMap CParty) := by
  refine D0.has fun f fd F => F.ok sc__law_is_far_refused (fun vs H Q E h => ?_) (fun cdv A outer s H vs Q E hr h => ?_)
  · obtain ⟨h, p, n, a, pvs, es, c, gs, F, rfl, _⟩ := h
    rfl
  · obtain ⟨h, p, n, a, pvs, es, c, gs, F0, rfl, m, gm, oP, hF, hA, q⟩ := h
    refine ⟨_, (pss_cons (ps_set (i := 2) sc__law_is_far_refused.nd rfl (.inl rfl) (pcall h_law_deep hr (by decide) (by rfl) (pa_cons (pv 0) pa_nil)))
  (pss_cons (ps_set (i := 3) sc__law_is_far_refused.nd rfl (.inl rfl) (pe_make h_Party_init.m h_Party_init.F (hr.mono (by decide)) (by rfl) C_Party.mg h_Party_init.b .nil pass0 (pa_cons (pv 1) (pa_cons (pe_tup pa_nil) pa_nil))))
  (pss_cons (ps_set (i := 4) sc__law_is_far_refused.nd rfl (.inl rfl) (pe_lst (pa_cons (pv 2) (pa_cons (pe_tup (pa_cons (pv 2) (pa_cons (pe_tup pa_nil) pa_nil))) (pa_cons (pe_tup (pa_cons (pe_tup (pa_cons pe_int pa_nil)) (pa_cons (pe_tup (pa_cons (pv 2) pa_nil)) pa_nil))) (pa_cons (pe_tup (pa_cons (pe_tup (pa_cons pe_int (pa_cons (pv 2) pa_nil))) (pa_cons (pe_tup pa_nil) pa_nil))) (pa_cons (pv 3) (pa_cons (pe_tup (pa_cons (pv 3) (pa_cons (pe_tup pa_nil) pa_nil))) (pa_cons (pe_tup (pa_cons (pe_tup (pa_cons pe_int pa_nil)) (pa_cons (pv 3) pa_nil))) (pa_cons (pe_tup (pa_cons (pe_tup (pa_cons pe_int pa_nil)) (pa_cons (pe_tup (pa_cons (pv 3) pa_nil)) pa_nil))) pa_nil))))))))))
  (pss_cons (ps_set (i := 5) sc__law_is_far_refused.nd rfl (.inr rfl) (pe_ix (k_ixl (K := K) rfl) (pv 4) (pcall h_law_draw hr (by decide) (by rfl) (pa_cons (pv 0) (pa_cons (pe_callB (k_len (K := K) rfl) (by rfl) B.len bo_len (pa_cons (pv 4) pa_nil)) pa_nil))) (fun _ _ => rfl)))
  (pss_one (ps_ret (pe_callB (k_all (K := K) rfl rfl) (by rfl) B.all bo_all (pa_cons (pe_lc (own := [("_law_way", 6)]) (g := gName 6) rfl sc__law_is_far_refused.nd (pi_range1 (by rfl) B.range (pa_cons pe_int pa_nil)) (blkOk_by (N := sl__law_is_far_refused) (sc := defScope s__law_is_far_refused) (by decide +kernel)) (fun _ _ _ _ _ => (pg_name (i := 6) sc__law_is_far_refused.nd rfl (.inl rfl))) (fun _ _ _ _ _ => pts_nil) (fun _ _ _ _ _ => (pcall h_law_is_refused hr (by decide) (by rfl) (pa_cons (pv 6) (pa_cons (pv 1) (pa_cons pe_bl (pa_cons (pv 5) (pa_cons pe_int (pa_cons pe_bl pa_nil))))))))) pa_nil)))))))), ?_⟩
    have gn := gm.n40
    have g60 := gm.l60
    refine ⟨_, rfl, h, F0, rfl, hF, hA, fun v H1 d1 hv => ?_⟩
    have m1 := m.dr d1 hA
    -- the party
    refine ⟨_, rfl, Nat.zero_le _, fun wz nwz => ?_⟩
    have s1 := same_new (o := .tup []) (Same.refl H1) nwz
    intro Py dP nP ndP neP
    have s2 : Same (upd H1 wz (.tup [])) (upd (upd (upd H1 wz (.tup [])) dP (.own Py)) Py (.ins CParty dP [])) := fun b o e => by
      rw [upd_ne (ne_of_none e nP), upd_ne (ne_of_none e ndP)]
      exact e
    have s12 := s1.trans s2
    refine ⟨Py, dP, p, n, a, pvs, es, c, gs, wz, [], rfl, upd_same, m1.same s12, by omega, by omega, begin_ok gm, sqt (s2 _ _ upd_same), .nil, fun l z => (List.not_mem_nil z).elim, (begin_ok gm).opn, fun q0 tl sl H2 keep2 ntl0 nsl0 h2 => ⟨rfl, ?_⟩⟩
    have s3 : Same H1 H2 := fun b o e => keep2 b o (ne_of_none (s1 b o e) nP) (s12 b o e)
    obtain ⟨dx2, hP2⟩ := h2.ob
    have hv2 := hv.same s3
    have hN2 : NoT K H2 (.ref Py) := .ins hP2 oP
    have d2 := d1.trans (Dr.of_same d1.hand d1.sub s3)
    have m2 := m1.same s3
    -- eight things
    refine ⟨_, rfl, _, rfl, Nat.zero_le _, fun e1 ne1 => ⟨by show 2 ≤ sizeLine; decide, fun q1 nq1 => ?_⟩⟩
    have r1 := same_new (o := .tup []) (Same.refl H2) ne1
    have r2 := same_new (o := .tup [v, .ref e1]) (Same.refl _) nq1
    have k1 := r2 _ _ (upd_same (H := H2) (a := e1) (o := .tup []))
    have k2 := upd_same (H := upd H2 e1 (.tup [])) (a := q1) (o := .tup [v, .ref e1])
    have r12 := r1.trans r2
    generalize upd (upd H2 e1 (.tup [])) q1 (.tup [v, .ref e1]) = G2 at r2 k1 k2 r12
    refine ⟨by show 1 ≤ sizeLine; decide, fun e3 ne3 => ⟨_, rfl, by show 1 ≤ sizeLine; decide, fun e4 ne4 => ⟨by show 2 ≤ sizeLine; decide, fun q2 nq2 => ?_⟩⟩⟩
    have r3 := same_new (o := .tup [.int 0]) (Same.refl G2) ne3
    have r4 := same_new (o := .tup [v]) (Same.refl _) ne4
    have r5 := same_new (o := .tup [.ref e3, .ref e4]) (Same.refl _) nq2
    have k3 := r5 _ _ (r4 _ _ (upd_same (H := G2) (a := e3) (o := .tup [.int 0])))
    have k4 := r5 _ _ (upd_same (H := upd G2 e3 (.tup [.int 0])) (a := e4) (o := .tup [v]))
    have k5 := upd_same (H := upd (upd G2 e3 (.tup [.int 0])) e4 (.tup [v])) (a := q2) (o := .tup [.ref e3, .ref e4])
    have r35 := (r3.trans r4).trans r5
    generalize upd (upd (upd G2 e3 (.tup [.int 0])) e4 (.tup [v])) q2 (.tup [.ref e3, .ref e4]) = G5 at r5 k3 k4 k5 r35
    refine ⟨_, rfl, by show 2 ≤ sizeLine; decide, fun e6 ne6 => ⟨Nat.zero_le _, fun e7 ne7 => ⟨by show 2 ≤ sizeLine; decide, fun q3 nq3 => ?_⟩⟩⟩
    have r6 := same_new (o := .tup [.int 0, v]) (Same.refl G5) ne6
    have r7 := same_new (o := .tup []) (Same.refl _) ne7
    have r8 := same_new (o := .tup [.ref e6, .ref e7]) (Same.refl _) nq3
    have k6 := r8 _ _ (r7 _ _ (upd_same (H := G5) (a := e6) (o := .tup [.int 0, v])))
    have k7 := r8 _ _ (upd_same (H := upd G5 e6 (.tup [.int 0, v])) (a := e7) (o := .tup []))
    have k8 := upd_same (H := upd (upd G5 e6 (.tup [.int 0, v])) e7 (.tup [])) (a := q3) (o := .tup [.ref e6, .ref e7])
    have r68 := (r6.trans r7).trans r8
    generalize upd (upd (upd G5 e6 (.tup [.int 0, v])) e7 (.tup [])) q3 (.tup [.ref e6, .ref e7]) = G8 at r8 k6 k7 k8 r68
    refine ⟨_, rfl, _, rfl, Nat.zero_le _, fun e9 ne9 => ⟨by show 2 ≤ sizeLine; decide, fun q4 nq4 => ?_⟩⟩
    have r9 := same_new (o := .tup []) (Same.refl G8) ne9
    have r10 := same_new (o := .tup [.ref Py, .ref e9]) (Same.refl _) nq4
    have k9 := r10 _ _ (upd_same (H := G8) (a := e9) (o := .tup []))
    have k10 := upd_same (H := upd G8 e9 (.tup [])) (a := q4) (o := .tup [.ref Py, .ref e9])
    have r910 := r9.trans r10
    generalize upd (upd G8 e9 (.tup [])) q4 (.tup [.ref Py, .ref e9]) = G10 at r10 k9 k10 r910
    refine ⟨by show 1 ≤ sizeLine; decide, fun e11 ne11 => ⟨_, rfl, by show 2 ≤ sizeLine; decide, fun q5 nq5 => ?_⟩⟩
    have r11 := same_new (o := .tup [.int 0]) (Same.refl G10) ne11
    have r12' := same_new (o := .tup [.ref e11, .ref Py]) (Same.refl _) nq5
    have k11 := r12' _ _ (upd_same (H := G10) (a := e11) (o := .tup [.int 0]))
    have k12 := upd_same (H := upd G10 e11 (.tup [.int 0])) (a := q5) (o := .tup [.ref e11, .ref Py])
    have r1112 := r11.trans r12'
    generalize upd (upd G10 e11 (.tup [.int 0])) q5 (.tup [.ref e11, .ref Py]) = G12 at r12' k11 k12 r1112
    refine ⟨by show 1 ≤ sizeLine; decide, fun e13 ne13 => ⟨_, rfl, by show 1 ≤ sizeLine; decide, fun e14 ne14 => ⟨by show 2 ≤ sizeLine; decide, fun q6 nq6 => ?_⟩⟩⟩
    have r13 := same_new (o := .tup [.int 0]) (Same.refl G12) ne13
    have r14 := same_new (o := .tup [.ref Py]) (Same.refl _) ne14
    have r15 := same_new (o := .tup [.ref e13, .ref e14]) (Same.refl _) nq6
    have k13 := r15 _ _ (r14 _ _ (upd_same (H := G12) (a := e13) (o := .tup [.int 0])))
    have k14 := r15 _ _ (upd_same (H := upd G12 e13 (.tup [.int 0])) (a := e14) (o := .tup [.ref Py]))
    have k15 := upd_same (H := upd (upd G12 e13 (.tup [.int 0])) e14 (.tup [.ref Py])) (a := q6) (o := .tup [.ref e13, .ref e14])
    have r1315 := (r13.trans r14).trans r15
    generalize upd (upd (upd G12 e13 (.tup [.int 0])) e14 (.tup [.ref Py])) q6 (.tup [.ref e13, .ref e14]) = G15 at r15 k13 k14 k15 r1315
    refine ⟨by show 8 ≤ sizeLine; decide, fun lo nlo => ?_⟩
    have z12 := r1315
    have z10 := r1112.trans z12
    have z8 := r910.trans z10
    have z5 := r68.trans z8
    have z2 := r35.trans z5
    have z0 := r12.trans z2
    have hv15 := hv2.same z0
    have hN15 := hN2.same z0
    obtain ⟨va, rfl, _⟩ := id hv15
    obtain ⟨ov, hlv, nov⟩ := Nst.lot (k := 22) hv15
    have lot0 : ∀ {e : Addr}, G15 e = some (.tup [V.int 0]) → LotT K G15 (.ref e) (some [.int 0]) := fun k => ⟨_, rfl, sqt k, by show 1 ≤ 1000; decide, fun z hz => by rw [List.mem_singleton.mp hz]; exact .int _⟩
    have no1 : ∀ {b : Addr} {ls : List Nat}, some [V.ref b] ≠ some (ls.map nV) := ref_no
    have hbad : ∀ v ∈ [V.ref va, .ref q1, .ref q2, .ref q3, .ref Py, .ref q4, .ref q5, .ref q6], StdRes K G15 n es gs v False := fun v hm => by
      simp only [List.mem_cons, List.not_mem_nil, or_false] at hm
      rcases hm with rfl | rfl | rfl | rfl | rfl | rfl | rfl | rfl
      · exact Nst.no (k := 21) hv15
      · exact no_std2 (sqt (z2 _ _ k2)) hlv (lotE (sqt (z2 _ _ k1))) fun rs _ z _ => nov rs z
      · exact no_std2 (o2 := some [.ref va]) (sqt (z5 _ _ k5)) (lot0 (z5 _ _ k3)) ⟨e4, rfl, sqt (z5 _ _ k4), by show 1 ≤ 1000; decide, fun z hz => by rw [List.mem_singleton.mp hz]; exact hv15.any⟩ fun _ _ _ z => no1 z
      · refine no_std2 (o1 := some [.int 0, .ref va]) (sqt (z8 _ _ k8)) ⟨e6, rfl, sqt (z8 _ _ k6), by show 2 ≤ 1000; decide, fun z hz => ?_⟩ (lotE (sqt (z8 _ _ k7))) fun rs _ z _ => ?_
        · rcases List.mem_cons.mp hz with rfl | hz
          · exact .int _
          · rw [List.mem_singleton.mp hz]
            exact hv15.any
        · have z := Option.some.inj z
          match rs, z with
          | [], z => cases z
          | [_], z => cases z
          | _ :: _ :: _, z => injection z with _ z; injection z with z _; cases z
      · exact .inl ⟨hN15, id⟩
      · exact no_std2 (o1 := none) (sqt (z10 _ _ k10)) hN15 (lotE (sqt (z10 _ _ k9))) fun _ _ z _ => by cases z
      · exact no_std2 (o2 := none) (sqt (z12 _ _ k12)) (lot0 (z12 _ _ k11)) hN15 fun _ _ _ z => by cases z
      · exact no_std2 (o2 := some [.ref Py]) (sqt k15) (lot0 k13) ⟨e14, rfl, sqt k14, by show 1 ≤ 1000; decide, fun z hz => by rw [List.mem_singleton.mp hz]; exact .inl hN15⟩ fun _ _ _ z => no1 z
    have hxl : [V.ref va, .ref q1, .ref q2, .ref q3, .ref Py, .ref q4, .ref q5, .ref q6].length = 8 := rfl
    have nloh : lo ≠ h := d2.hand.ne (Same.free z0 nlo)
    generalize [V.ref va, .ref q1, .ref q2, .ref q3, .ref Py, .ref q4, .ref q5, .ref q6] = xo at hbad hxl nlo
    have s16 := same_new (o := .lst xo) (Same.refl G15) nlo
    have h16 : upd G15 lo (.lst xo) lo = some (.lst xo) := upd_same
    have hbad16 : ∀ v ∈ xo, StdRes K (upd G15 lo (.lst xo)) n es gs v False := fun v hm => (hbad v hm).same s16
    have s216 := z0.trans s16
    have d16 := d2.trans (Dr.of_same d2.hand d2.sub s216)
    have m16 := m2.same s216
    generalize upd G15 lo (.lst xo) = G16 at h16 hbad16 d16 m16
    refine ⟨_, rfl, _, rfl, _, rfl, lo, _, rfl, .inl (sql h16), h, _, F0, rfl, by rw [hxl]; decide, by rw [hxl]; exact small_log (by decide) (by decide +kernel), d16.sub, d16.hand, fun k0 H17 hk0 hk1 dd17 => ?_⟩
    obtain ⟨vb, hbt, hbm⟩ := ix_ex hk0 hk1
    refine ⟨lo, _, k0, vb, rfl, rfl, sql (by rw [dd17.rest lo nloh]; exact h16), hbt, ?_⟩
    have hb17 := (hbad16 vb hbm).dr dd17.dr d16.hand
    have m17 := m16.dr dd17.dr d16.hand
    refine ⟨15, rfl, by decide, by decide, fun D2 nD2 => ?_⟩
    refine lc_val walk_range calm_fn (fun _ => some (V.bl true)) (by decide) nD2 (fun _ _ => trivial) ?_ fun H18 s18 h18 => ?_
    · rintro i v H19 H20 hi s19 ⟨rfl, rfl⟩ Kt kt
      have hi15 : i < 15 := hi
      refine ⟨rfl, tyes ?_⟩
      refine iteT ?_
      exact ⟨_, rfl, _, rfl, _, rfl, (0 : Int) + (i : Int), p, n, a, pvs, es, c, gs, false, vb, .int 0, .bl true, False, rfl, by omega, by omega, m17.same s19, hb17.same s19, ⟨fun z => Bool.noConfusion z, False.elim⟩, .inl (.int _), .inl (.bl _), fun H21 s21 => kt _ s21⟩
    rw [fm_some] at h18
    refine ⟨D2, (List.range (15 : Int).toNat).map fun _ => true, rfl, sql (by rw [h18, List.map_map]; rfl), ?_⟩
    exact q _

abbrev s_law : Stmt := topS 93
abbrev sl_law : List Str := ["_law_script", "_law_hand_here", "_law_places", "_law_many", "_law_parts_here", "_law_chart", "_law_turn", "_law_standing_here", "_law_thing_here", "_law_good", "_law_odd", "_law_last", "_law_more", "_law_way"]
theorem sc_law : FnScope ["_law_script", "_law_hand_here", "_law_places", "_law_many", "_law_parts_here", "_law_chart", "_law_turn", "_law_standing_here", "_law_thing_here", "_law_good", "_law_odd", "_law_last", "_law_more", "_law_way"] ["_law_script"] (defScope s_law) := ⟨rfl, rfl, rfl, by decide +kernel, rfl, by decide +kernel, by decide +kernel⟩
theorem GoodMap.pos03 {n : Nat} {es : Es} {gs : List Nat} (g : GoodMap n es gs) : 0 < es.length := by
  obtain ⟨x, hx⟩ := List.exists_mem_of_ne_nil gs g.ne
  refine Nat.pos_of_ne_zero fun z => ?_
  have e : es = [] := List.length_eq_zero_iff.mp z
  subst e
  have := (g.rch x hx).ind (P := fun v => v = 0) (fun v hv => List.mem_singleton.mp hv) fun u v _ e => (List.not_mem_nil e).elim
  exact (g.gl x hx).1 this
def spLaw (K : PySem.W.Frag) : Sp := fun vs H Q _ => ∃ (a : Addr) (ns : List Int), vs = [.ref a] ∧ SqL K H a (ns.map V.int) ∧ ns.length ≤ 63 ∧ ∀ H', Q (.bl true) H'
theorem ok_law {CMap CParty : Addr} (B : Bt mg) (C : MapC K mg CMap) (O_Map : OwnC K CMap) (O_Party : OwnC K CParty) (h_init : HasI P w K mg base CMap 5 ["self", "many", "arrows", "goals"] (spMapInit K CMap)) (h_law_hand : Has P w K mg base "_law_hand" 1 ["_law_script"] (spHand K))
    (h_law_draw : Has P w K mg base "_law_draw" 1 ["_law_hand_here", "_law_many"] spDraw) (h_law_parts : Has P w K mg base "_law_parts" 4 ["_law_hand_here", "_law_places", "_law_arrows"] (spParts K))
    (h_law_standing : Has P w K mg base "_law_standing" 4 ["_law_hand_here", "_law_parts_here"] (spStanding K)) (h_begin : Has P w K mg base "begin" 1 ["chart"] (spBegin K))
    (h_law_thing : Has P w K mg base "_law_thing" 3 ["_law_hand_here", "_law_parts_here", "_law_chart", "_law_standing_here"] (spThing3 K CMap)) (h_law_is_judged : Has P w K mg base "_law_is_judged" 4 ["_law_parts_here", "_law_thing_here"] (spJudged K))
    (h_law_is_refused : Has P w K mg base "_law_is_refused" 9 ["_law_way", "_law_chart", "_law_good", "_law_thing_here", "_law_last", "_law_more"] (spIsRef3 K CMap)) (h_law_is_far_refused : Has P w K mg base "_law_is_far_refused" 10 ["_law_hand_here", "_law_chart"] (spFar3 K CMap CParty))
    {f : Addr} {fd : FuncData} (F : Fun K "law" "law" s_law f fd) : FnOk P w K mg base CX0 11 f fd ["_law_script"] (spLaw K) := by
  refine F.ok sc_law (fun vs H Q E h => ?_) (fun cdv A outer s H vs Q E hr h => ?_)
  · obtain ⟨a, ns, rfl, _⟩ := h
    rfl
  · obtain ⟨sc, ns, rfl, hS, hns, q⟩ := h
    refine ⟨_, (pss_cons (ps_set (i := 1) sc_law.nd rfl (.inl rfl) (pcall h_law_hand hr (by decide) (by rfl) (pa_cons (pv 0) pa_nil)))
  (pss_cons (ps_asg (pe_ix (k_ixl (K := K) rfl) (pe_lst (pa_cons (pe_tup (pa_cons pe_int (pa_cons pe_int pa_nil))) (pa_cons (pe_tup (pa_cons pe_int (pa_cons pe_int pa_nil))) (pa_cons (pe_tup (pa_cons pe_int (pa_cons pe_int pa_nil))) pa_nil)))) (pcall h_law_draw hr (by decide) (by rfl) (pa_cons (pv 1) (pa_cons pe_int pa_nil))) (fun _ _ => rfl)) (pg_tup rfl (pgs_cons (pg_name (i := 2) sc_law.nd rfl (.inl rfl)) (pgs_cons (pg_name (i := 3) sc_law.nd rfl (.inl rfl)) pgs_nil))))
  (pss_cons (ps_set (i := 4) sc_law.nd rfl (.inl rfl) (pcall h_law_parts hr (by decide) (by rfl) (pa_cons (pv 1) (pa_cons (pv 2) (pa_cons (pv 3) pa_nil)))))
  (pss_cons (ps_set (i := 5) sc_law.nd rfl (.inl rfl) (pe_make h_init.m h_init.F (hr.mono (by decide)) (by rfl) C.mgMap h_init.b .nil pass0 (pa_cons (pe_ix (k_ixt (K := K) rfl) (pv 4) pe_int (fun _ _ => rfl)) (pa_cons (pe_ix (k_ixt (K := K) rfl) (pv 4) pe_int (fun _ _ => rfl)) (pa_cons (pe_ix (k_ixt (K := K) rfl) (pv 4) pe_int (fun _ _ => rfl)) pa_nil)))))
  (pss_cons (ps_if (pt_cmpR (k_neD (K := K) rfl hr.units) (pcall h_begin hr (by decide) (by rfl) (pa_cons (pv 5) pa_nil)) (pe_tup (pa_cons (pe_tup (pa_cons pe_int pa_nil)) (pa_cons (pe_tup pa_nil) pa_nil))) (nomark _))
    (pss_one (ps_ret pe_bl))
    pss_nil)
  (pss_cons (ps_for PassesOwn.never rfl (pi_range1 (by rfl) B.range (pa_cons pe_int pa_nil)) (pg_name (i := 6) sc_law.nd rfl (.inl rfl))
    (pss_cons (ps_set (i := 7) sc_law.nd rfl (.inl rfl) (pcall h_law_standing hr (by decide) (by rfl) (pa_cons (pv 1) (pa_cons (pv 4) pa_nil))))
  (pss_cons (ps_set (i := 8) sc_law.nd rfl (.inl rfl) (pcall h_law_thing hr (by decide) (by rfl) (pa_cons (pv 1) (pa_cons (pv 4) (pa_cons (pv 5) (pa_cons (pv 7) pa_nil))))))
  (pss_cons (ps_set (i := 9) sc_law.nd rfl (.inl rfl) (pcall h_law_is_judged hr (by decide) (by rfl) (pa_cons (pv 4) (pa_cons (pv 8) pa_nil))))
  (pss_cons (ps_set (i := 10) sc_law.nd rfl (.inl rfl) (pe_lst (pa_cons pe_non (pa_cons (pe_un un_neg pe_int) (pa_cons pe_bl (pa_cons (pe_callB (k_len (K := K) rfl) (by rfl) B.len bo_len (pa_cons (pe_ix (k_ixt (K := K) rfl) (pv 4) pe_int (fun _ _ => rfl)) pa_nil)) (pa_cons (pe_tup (pa_cons pe_int pa_nil)) (pa_cons pe_str (pa_cons (pe_ix (k_ixt (K := K) rfl) (pv 4) pe_int (fun _ _ => rfl)) (pa_cons (pe_op op_pow pe_int pe_int) pa_nil))))))))))
  (pss_cons (ps_set (i := 11) sc_law.nd rfl (.inl rfl) (pe_ix (k_ixl (K := K) rfl) (pe_op op_cat (pv 10) (pe_listRg rfl (by rfl) B.list (prg_1 (by rfl) B.range pe_int))) (pcall h_law_draw hr (by decide) (by rfl) (pa_cons (pv 1) (pa_cons pe_int pa_nil))) (fun _ _ => rfl)))
  (pss_cons (ps_set (i := 12) sc_law.nd rfl (.inl rfl) (pe_ix (k_ixl (K := K) rfl) (pe_lst (pa_cons pe_bl (pa_cons pe_bl (pa_cons pe_non (pa_cons pe_int (pa_cons pe_int (pa_cons pe_str pa_nil))))))) (pcall h_law_draw hr (by decide) (by rfl) (pa_cons (pv 1) (pa_cons pe_int pa_nil))) (fun _ _ => rfl)))
  (pss_one (ps_for PassesOwn.never rfl (pi_range1 (by rfl) B.range (pa_cons pe_int pa_nil)) (pg_name (i := 13) sc_law.nd rfl (.inl rfl))
    (pss_cons (ps_if (pt_not (pt_val (pcall h_law_is_refused hr (by decide) (by rfl) (pa_cons (pv 13) (pa_cons (pv 5) (pa_cons (pv 9) (pa_cons (pv 8) (pa_cons (pv 11) (pa_cons (pv 12) pa_nil)))))))))
    (pss_one (ps_ret pe_bl))
    pss_nil)
  (pss_one (ps_if (pt_not (pt_val (pcall h_law_is_refused hr (by decide) (by rfl) (pa_cons (pv 13) (pa_cons (pv 5) (pa_cons pe_bl (pa_cons (pv 7) (pa_cons (pv 11) (pa_cons (pv 12) pa_nil)))))))))
    (pss_one (ps_ret pe_bl))
    pss_nil))))))))))))
  (pss_one (ps_ret (pcall h_law_is_far_refused hr (by decide) (by rfl) (pa_cons (pv 1) (pa_cons (pv 5) pa_nil))))))))))), ?_⟩
    refine ⟨_, rfl, sc, ns, fun _ => none, rfl, hS, by omega, fun b o e => (by cases e), fun h F0 H1 g1 hA => ?_⟩
    have hF := g1.sub'
    -- the sizes
    refine ⟨by show 2 ≤ sizeLine; decide, fun t1 n1 => ⟨by show 2 ≤ sizeLine; decide, fun t2 n2 => ⟨by show 2 ≤ sizeLine; decide, fun t3 n3 => ⟨by show 3 ≤ sizeLine; decide, fun tl nl => ?_⟩⟩⟩⟩
    have s1 := same_new (o := .tup [.int 20, .int 30]) (Same.refl H1) n1
    have s2 := same_new (o := .tup [.int 6, .int 9]) (Same.refl _) n2
    have s3 := same_new (o := .tup [.int 4, .int 6]) (Same.refl _) n3
    have s4 := same_new (o := .lst [.ref t1, .ref t2, .ref t3]) (Same.refl _) nl
    have s14 := ((s1.trans s2).trans s3).trans s4
    have d1 := Dr.of_same hA hF s14
    have ntl : tl ≠ h := hA.ne (Same.free ((s1.trans s2).trans s3) nl)
    have nt1 : t1 ≠ h := hA.ne n1
    have nt2 : t2 ≠ h := hA.ne (Same.free s1 n2)
    have nt3 : t3 ≠ h := hA.ne (Same.free (s1.trans s2) n3)
    refine ⟨_, rfl, h, 3, F0, rfl, by decide, small_log (by decide) (by omega), d1.sub, d1.hand, fun k0 H2 hk0 hk1 dd2 => ?_⟩
    obtain ⟨t, pl, ar, hat, ht, hp2, hp40, ha60⟩ := law_size3 (t1 := t1) (t2 := t2) (t3 := t3) (H := H2) (p1 := 20) (a1 := 30) (p2 := 6) (a2 := 9) (p3 := 4) (a3 := 6) (by rw [dd2.rest t1 nt1]; exact s4 _ _ (s3 _ _ (s2 _ _ upd_same))) (by rw [dd2.rest t2 nt2]; exact s4 _ _ (s3 _ _ upd_same)) (by rw [dd2.rest t3 nt3]; exact s4 _ _ upd_same) (by decide) hk0 hk1
    refine ⟨tl, _, k0, .ref t, rfl, rfl, sql (by rw [dd2.rest tl ntl]; exact upd_same), hat, t, _, rfl, sqt ht, rfl, _, _, rfl, _, _, rfl, rfl, ?_⟩
    -- the parts
    refine ⟨_, rfl, _, rfl, _, rfl, h, pl, ar, F0, rfl, hp2, hp40, ha60, dd2.sub, dd2.hand, fun pt n a c pvs es gs H3 _ _ d3 hpt0 => ?_⟩
    have hpt : PtsAt K H3 pt n a pvs es c gs := hpt0.same d3.hvG.sub'
    have hl := hpt.pr.len
    have gn := hpt.gm.n40
    have g60 := hpt.gm.l60
    -- the map
    refine ⟨_, rfl, pt, _, (0 : Nat), nV n, rfl, rfl, hpt.tp, atI_nat rfl, _, rfl, pt, _, (1 : Nat), .ref a, rfl, rfl, hpt.tp, atI_nat rfl, _, rfl, pt, _, (2 : Nat), .ref c, rfl, rfl, hpt.tp, atI_nat rfl, ?_⟩
    intro p dx np ndx nedx
    have s5 : Same H3 (upd (upd H3 dx (.own p)) p (.ins CMap dx [])) := fun b o e => by
      rw [upd_ne (ne_of_none e np), upd_ne (ne_of_none e ndx)]
      exact e
    refine ⟨p, dx, n, a, pvs, es, c, gs, rfl, upd_same, Same.sqt s5 hpt.ar, hpt.pr.same s5, Same.sqt s5 hpt.go, hpt.gm, fun H4 mp keep => ⟨rfl, ?_⟩⟩
    have s34 : Same H3 H4 := fun b o e => keep b o (ne_of_none e np) (s5 b o e)
    have hpt4 := hpt.same s34
    have m4 := MapOk.of mp (hpt.pr.same s34) hpt.gm
    have d4 := Dr.of_same d3.hand d3.sub s34
    -- the begin
    refine ⟨_, rfl, _, rfl, fun u0 x0 y0 H5 s45 _ S0 => ?_⟩
    refine ⟨by show 1 ≤ sizeLine; decide, fun x1 nx1 => ⟨Nat.zero_le _, fun y1 ny1 => ⟨by show 2 ≤ sizeLine; decide, fun u1 nu1 => ?_⟩⟩⟩
    have s6 := same_new (o := .tup [.int 0]) (Same.refl H5) nx1
    have s7 := same_new (o := .tup []) (Same.refl _) ny1
    have s8 := same_new (o := .tup [.ref x1, .ref y1]) (Same.refl _) nu1
    have s68 := (s6.trans s7).trans s8
    have S1 : StdAt K _ u1 x1 y1 [0] [] := ⟨sqt upd_same, sqt (s8 _ _ (s7 _ _ upd_same)), sqt (s8 _ _ upd_same)⟩
    refine ⟨dS [0] [], dS [0] [], (S0.same s68).dp, S1.dp, shp_std, shp_std, _, rfl, ?_⟩
    rw [eqv_same shp_std]
    refine iteF ?_
    have s48 := s45.trans s68
    generalize upd (upd (upd H5 x1 (.tup [.int 0])) y1 (.tup [])) u1 (.tup [.ref x1, .ref y1]) = H8 at s48
    have hpt8 := hpt4.same s48
    have m8 := m4.same s48
    have d8 := Dr.of_same d4.hand d4.sub s48
    -- four turns
    refine ⟨4, rfl, by decide, by decide, ?_⟩
    refine for_range (lo := 0) (n := 4) (fun i σ H' => ∃ x6 x7 x8 x9 x10 x11 x12 x13 : Option V, σ = [some (.ref sc), some (.ref h), some (.int (pl : Int)), some (.int (ar : Int)), some (.ref pt), some (.ref p), x6, x7, x8, x9, x10, x11, x12, x13] ∧ Dr F0 H8 H' h)
      ⟨none, none, none, none, none, none, none, none, rfl, Dr.refl d8.hand d8.sub⟩ ?_ ?_
    · rintro i σ H9 hi ⟨x6, x7, x8, x9, x10, x11, x12, x13, rfl, d9⟩
      have hpt9 := hpt8.dr d9 d8.hand
      have m9 := m8.dr d9 d8.hand
      refine ⟨_, rfl, _, rfl, h, pt, n, a, pvs, es, c, gs, F0, rfl, hpt9, d9.sub, d9.hand, fun u x y rs ls H10 d10 S o => ?_⟩
      have St : StdAt K H10 u x y rs ls := S.same d10.hvG.sub'
      have hpt10 := hpt9.dr d10 d9.hand
      have m10 := m9.dr d10 d9.hand
      refine ⟨_, rfl, _, rfl, _, rfl, _, rfl, h, pt, p, u, n, a, pvs, es, c, gs, x, y, rs, ls, F0, rfl, hpt10, m10, O_Map, St, o, hpt.gm.pos03, d10.sub, d10.hand, fun v H11 d11 hv => ?_⟩
      have hpt11 := hpt10.dr d11 d10.hand
      have m11 := m10.dr d11 d10.hand
      have S11 := St.dr d11 d10.hand
      obtain ⟨R, hR⟩ := hv.res (n := n) (es := es) (gs := gs)
      refine ⟨_, rfl, _, rfl, pt, n, a, pvs, es, c, gs, v, R, rfl, hpt11, hR, fun H12 b s12 hb => ?_⟩
      have hpt12 := hpt11.same s12
      have m12 := m11.same s12
      have S12 := S11.same s12
      have hR12 := hR.same s12
      have d12 := (d9.trans d10).trans (d11.trans (Dr.of_same d11.hand d11.sub s12))
      -- what comes last
      refine ⟨1, rfl, _, rfl, pt, _, (1 : Nat), .ref a, rfl, rfl, hpt12.tp, atI_nat rfl, a, pvs, rfl, .inr hpt12.ar, by show 1 ≤ sizeLine; decide, fun q1 nq1 => ?_⟩
      have r1 := same_new (o := .tup [.int 0]) (Same.refl H12) nq1
      refine ⟨_, rfl, pt, _, (0 : Nat), nV n, rfl, rfl, Same.sqt r1 hpt12.tp, atI_nat rfl, _, _, rfl, rfl, ⟨by decide, by decide, by decide⟩, by show 8 ≤ sizeLine; decide, fun lo nlo => ?_⟩
      have xoI : ∀ v ∈ [V.non, .int (-1), .bl true, .int (pvs.length : Int), .ref q1, .str "0", nV n, .int ((10 : Int) ^ ((30 : Int).toNat))], KnI K (upd H12 q1 (.tup [.int 0])) v := fun v hv => by
        simp only [List.mem_cons, List.not_mem_nil, or_false] at hv
        rcases hv with rfl | rfl | rfl | rfl | rfl | rfl | rfl | rfl
        · exact .inl .non
        · exact .inl (.int _)
        · exact .inl (.bl _)
        · exact .inl (.int _)
        · exact .inr ⟨q1, _, rfl, sqt upd_same⟩
        · exact .inl (.str _)
        · exact .inl (.int _)
        · exact .inl (.int _)
      have xol : [V.non, .int (-1), .bl true, .int (pvs.length : Int), .ref q1, .str "0", nV n, .int ((10 : Int) ^ ((30 : Int).toNat))].length = 8 := rfl
      generalize [V.non, .int (-1), .bl true, .int (pvs.length : Int), .ref q1, .str "0", nV n, .int ((10 : Int) ^ ((30 : Int).toNat))] = xo at nlo xoI xol
      have r2 := same_new (o := .lst xo) (Same.refl _) nlo
      have h2 := upd_same (H := upd H12 q1 (.tup [.int 0])) (a := lo) (o := .lst xo)
      have xoI2 : ∀ v ∈ xo, KnI K _ v := fun v hv => (xoI v hv).same r2
      have r12 := r1.trans r2
      generalize upd (upd H12 q1 (.tup [.int 0])) lo (.lst xo) = G2 at r2 h2 xoI2 r12
      refine ⟨_, rfl, 8, rfl, RgOk.of_le (by decide) (by decide) (by decide) (by decide), fun rl nrl => ?_⟩
      have r3 := same_new (o := .lst (rgV 0 8)) (Same.refl G2) nrl
      have h3 := upd_same (H := G2) (a := rl) (o := .lst (rgV 0 8))
      refine ⟨lo, rl, _, _, rfl, rfl, r3 _ _ h2, h3, small_sz (by rw [xol, rgV_length]; decide), fun pq npq => ?_⟩
      have r4 := same_new (o := .lst (xo ++ rgV 0 8)) (Same.refl _) npq
      have h4 := upd_same (H := upd G2 rl (.lst (rgV 0 8))) (a := pq) (o := .lst (xo ++ rgV 0 8))
      have poolI : ∀ v ∈ xo ++ rgV 0 8, KnI K (upd (upd G2 rl (.lst (rgV 0 8))) pq (.lst (xo ++ rgV 0 8))) v := fun v hv => by
        rcases List.mem_append.mp hv with hv | hv
        · exact (xoI2 v hv).same (r3.trans r4)
        · unfold rgV at hv
          obtain ⟨j, _, rfl⟩ := List.mem_map.mp hv
          exact .inl (.int _)
      have pooll : (xo ++ rgV 0 8).length = 16 := by rw [List.length_append, xol, rgV_length]; rfl
      have r14 := r12.trans (r3.trans r4)
      have npqh : pq ≠ h := d12.hand.ne (Same.free (r12.trans r3) npq)
      generalize (xo ++ rgV 0 8) = pool at h4 poolI pooll r14
      generalize upd (upd G2 rl (.lst (rgV 0 8))) pq (.lst pool) = G4 at h4 poolI r14
      have d13 := d12.trans (Dr.of_same d12.hand d12.sub r14)
      refine ⟨_, rfl, h, 16, F0, rfl, by decide, small_log (by decide) (by decide +kernel), d13.sub, d13.hand, fun k1 H13 hk2 hk3 dd13 => ?_⟩
      obtain ⟨va, hat1, hm1⟩ := ix_ex (xs := pool) hk2 (by rw [pooll]; exact hk3)
      refine ⟨pq, _, k1, va, rfl, rfl, sql (by rw [dd13.rest pq npqh]; exact h4), hat1, ?_⟩
      have hka := (poolI va hm1).dr dd13.dr d13.hand
      have d14 := d13.trans dd13.dr
      -- what comes more
      refine ⟨by show 6 ≤ sizeLine; decide, fun lm nlm => ?_⟩
      have xmI : ∀ (H' : Hp), ∀ v ∈ [V.bl true, .bl false, .non, .int 0, .int 1, .str "yes"], KnI K H' v := fun H' v hv => by
        simp only [List.mem_cons, List.not_mem_nil, or_false] at hv
        rcases hv with rfl | rfl | rfl | rfl | rfl | rfl
        · exact .inl (.bl _)
        · exact .inl (.bl _)
        · exact .inl .non
        · exact .inl (.int _)
        · exact .inl (.int _)
        · exact .inl (.str _)
      have xml : [V.bl true, .bl false, .non, .int 0, .int 1, .str "yes"].length = 6 := rfl
      generalize [V.bl true, .bl false, .non, .int 0, .int 1, .str "yes"] = xm at nlm xmI xml
      have r5 := same_new (o := .lst xm) (Same.refl H13) nlm
      have h5 := upd_same (H := H13) (a := lm) (o := .lst xm)
      have nlmh : lm ≠ h := d14.hand.ne nlm
      generalize upd H13 lm (.lst xm) = G5 at r5 h5
      have d15 := d14.trans (Dr.of_same d14.hand d14.sub r5)
      refine ⟨_, rfl, h, 6, F0, rfl, by decide, small_log (by decide) (by decide +kernel), d15.sub, d15.hand, fun k2 H14 hk4 hk5 dd14 => ?_⟩
      obtain ⟨vf, hat2, hm2⟩ := ix_ex (xs := xm) hk4 (by rw [xml]; exact hk5)
      refine ⟨lm, _, k2, vf, rfl, rfl, sql (by rw [dd14.rest lm nlmh]; exact h5), hat2, ?_⟩
      have hkf : KnI K H14 vf := xmI H14 vf hm2
      have d16 := d15.trans dd14.dr
      have d1216 : Dr F0 H12 H14 h := (Dr.of_same d12.hand d12.sub r14).trans (dd13.dr.trans ((Dr.of_same d14.hand d14.sub r5).trans dd14.dr))
      have d1314 : Dr F0 H13 H14 h := (Dr.of_same d14.hand d14.sub r5).trans dd14.dr
      have hka14 := hka.dr d1314 d14.hand
      have m14 := m12.dr d1216 d12.hand
      have S14 := S12.dr d1216 d12.hand
      have hR14 := hR12.dr d1216 d12.hand
      have hAt : At K CMap H14 p n a pvs es c gs u x y rs ls := ⟨m14, S14, o⟩
      -- each way
      refine ⟨15, rfl, by decide, by decide, ?_⟩
      refine for_range (lo := 0) (n := 15) (fun j σ H' => ∃ x13 : Option V, σ = [some (.ref sc), some (.ref h), some (.int (pl : Int)), some (.int (ar : Int)), some (.ref pt), some (.ref p), some (.int ((0 : Int) + (i : Int))), some (.ref u), some v, some (.bl b), some (.ref lo), some va, some vf, x13] ∧ Same H14 H')
        ⟨_, rfl, Same.refl _⟩ ?_ ?_
      · rintro j σ H15 hj ⟨x13, rfl, s15⟩
        refine ⟨_, rfl, _, rfl, _, rfl, _, rfl, _, rfl, _, rfl, (0 : Int) + (j : Int), p, n, a, pvs, es, c, gs, b, v, va, vf, R, rfl, by omega, by omega, m14.same s15, hR14.same s15, hb, hka14.same s15, hkf.same s15, fun H16 s16 => ⟨_, rfl, iteF ?_⟩⟩
        have s1416 := s15.trans s16
        refine ⟨_, rfl, _, rfl, _, rfl, _, rfl, _, rfl, (0 : Int) + (j : Int), p, n, a, pvs, es, c, gs, true, .ref u, va, vf, True, rfl, by omega, by omega, m14.same s1416, StdRes.of (S14.same s1416) o hAt.rl hAt.ll, ⟨fun _ => trivial, fun _ => rfl⟩, hka14.same s1416, hkf.same s1416, fun H17 s17 => ⟨_, rfl, iteF ?_⟩⟩
        exact ⟨_, rfl, s1416.trans s17⟩
      · rintro σ H15 ⟨x13, rfl, s15⟩
        exact ⟨_, _, _, _, _, _, _, _, rfl, d16.trans (Dr.of_same d16.hand d16.sub s15)⟩
    rintro σ H9 ⟨x6, x7, x8, x9, x10, x11, x12, x13, rfl, d9⟩
    exact ⟨_, rfl, _, rfl, h, p, n, a, pvs, es, c, gs, F0, rfl, m8.dr d9 d8.hand, hpt.gm, O_Party, d9.sub, d9.hand, q⟩

end
end U
namespace U
open PySem PySem.Spec PyProof.Rows L2
section
variable {P : Program} {w : World} {K : PySem.W.Frag} {mg : Str → Option Value} {base : Heap}
theorem bd_is_integer : ∀ (kV doc pm : Value) (an : Option Addr) (cdv ct : Value) (us : List Value), us.length = (["thing"] : List Str).length → bindArgs (PySem.W.fnOf "is_integer" "is_integer" (defArgs s_is_integer) (defBody s_is_integer) (defScope s_is_integer) .none kV doc pm an cdv ct) ⟨us, []⟩ = pure ((["thing"] : List Str).zip us) := fun _ _ _ _ _ _ us hl => match us, hl with | [_], _ => rfl
theorem bd_is_index : ∀ (kV doc pm : Value) (an : Option Addr) (cdv ct : Value) (us : List Value), us.length = (["thing", "many"] : List Str).length → bindArgs (PySem.W.fnOf "is_index" "is_index" (defArgs s_is_index) (defBody s_is_index) (defScope s_is_index) .none kV doc pm an cdv ct) ⟨us, []⟩ = pure ((["thing", "many"] : List Str).zip us) := fun _ _ _ _ _ _ us hl => match us, hl with | [_, _], _ => rfl
theorem bd_is_any_lot : ∀ (kV doc pm : Value) (an : Option Addr) (cdv ct : Value) (us : List Value), us.length = (["thing"] : List Str).length → bindArgs (PySem.W.fnOf "is_any_lot" "is_any_lot" (defArgs s_is_any_lot) (defBody s_is_any_lot) (defScope s_is_any_lot) .none kV doc pm an cdv ct) ⟨us, []⟩ = pure ((["thing"] : List Str).zip us) := fun _ _ _ _ _ _ us hl => match us, hl with | [_], _ => rfl
theorem bd_is_lot : ∀ (kV doc pm : Value) (an : Option Addr) (cdv ct : Value) (us : List Value), us.length = (["thing", "many"] : List Str).length → bindArgs (PySem.W.fnOf "is_lot" "is_lot" (defArgs s_is_lot) (defBody s_is_lot) (defScope s_is_lot) .none kV doc pm an cdv ct) ⟨us, []⟩ = pure ((["thing", "many"] : List Str).zip us) := fun _ _ _ _ _ _ us hl => match us, hl with | [_, _], _ => rfl
theorem bd_marks : ∀ (kV doc pm : Value) (an : Option Addr) (cdv ct : Value) (us : List Value), us.length = (["many", "lot"] : List Str).length → bindArgs (PySem.W.fnOf "marks" "marks" (defArgs s_marks) (defBody s_marks) (defScope s_marks) .none kV doc pm an cdv ct) ⟨us, []⟩ = pure ((["many", "lot"] : List Str).zip us) := fun _ _ _ _ _ _ us hl => match us, hl with | [_, _], _ => rfl
theorem bd_steps_from : ∀ (kV doc pm : Value) (an : Option Addr) (cdv ct : Value) (us : List Value), us.length = (["many", "pairs", "sources"] : List Str).length → bindArgs (PySem.W.fnOf "steps_from" "steps_from" (defArgs s_steps_from) (defBody s_steps_from) (defScope s_steps_from) .none kV doc pm an cdv ct) ⟨us, []⟩ = pure ((["many", "pairs", "sources"] : List Str).zip us) := fun _ _ _ _ _ _ us hl => match us, hl with | [_, _, _], _ => rfl
theorem bd_leads_to_all : ∀ (kV doc pm : Value) (an : Option Addr) (cdv ct : Value) (us : List Value), us.length = (["many", "pairs", "places"] : List Str).length → bindArgs (PySem.W.fnOf "leads_to_all" "leads_to_all" (defArgs s_leads_to_all) (defBody s_leads_to_all) (defScope s_leads_to_all) .none kV doc pm an cdv ct) ⟨us, []⟩ = pure ((["many", "pairs", "places"] : List Str).zip us) := fun _ _ _ _ _ _ us hl => match us, hl with | [_, _, _], _ => rfl
theorem bd_Map_many : ∀ (kV doc pm : Value) (an : Option Addr) (cdv ct : Value) (us : List Value), us.length = (["self"] : List Str).length → bindArgs (PySem.W.fnOf "many" "Map.many" (defArgs s_Map_many) (defBody s_Map_many) (defScope s_Map_many) .none kV doc pm an cdv ct) ⟨us, []⟩ = pure ((["self"] : List Str).zip us) := fun _ _ _ _ _ _ us hl => match us, hl with | [_], _ => rfl
theorem bd_Map_arrows : ∀ (kV doc pm : Value) (an : Option Addr) (cdv ct : Value) (us : List Value), us.length = (["self"] : List Str).length → bindArgs (PySem.W.fnOf "arrows" "Map.arrows" (defArgs s_Map_arrows) (defBody s_Map_arrows) (defScope s_Map_arrows) .none kV doc pm an cdv ct) ⟨us, []⟩ = pure ((["self"] : List Str).zip us) := fun _ _ _ _ _ _ us hl => match us, hl with | [_], _ => rfl
theorem bd_Map_goals : ∀ (kV doc pm : Value) (an : Option Addr) (cdv ct : Value) (us : List Value), us.length = (["self"] : List Str).length → bindArgs (PySem.W.fnOf "goals" "Map.goals" (defArgs s_Map_goals) (defBody s_Map_goals) (defScope s_Map_goals) .none kV doc pm an cdv ct) ⟨us, []⟩ = pure ((["self"] : List Str).zip us) := fun _ _ _ _ _ _ us hl => match us, hl with | [_], _ => rfl
theorem bd_pairs_left : ∀ (kV doc pm : Value) (an : Option Addr) (cdv ct : Value) (us : List Value), us.length = (["arrows", "rotten"] : List Str).length → bindArgs (PySem.W.fnOf "pairs_left" "pairs_left" (defArgs s_pairs_left) (defBody s_pairs_left) (defScope s_pairs_left) .none kV doc pm an cdv ct) ⟨us, []⟩ = pure ((["arrows", "rotten"] : List Str).zip us) := fun _ _ _ _ _ _ us hl => match us, hl with | [_, _], _ => rfl
theorem bd_is_pair : ∀ (kV doc pm : Value) (an : Option Addr) (cdv ct : Value) (us : List Value), us.length = (["thing", "many"] : List Str).length → bindArgs (PySem.W.fnOf "is_pair" "is_pair" (defArgs s_is_pair) (defBody s_is_pair) (defScope s_is_pair) .none kV doc pm an cdv ct) ⟨us, []⟩ = pure ((["thing", "many"] : List Str).zip us) := fun _ _ _ _ _ _ us hl => match us, hl with | [_, _], _ => rfl
theorem bd_check_pairs : ∀ (kV doc pm : Value) (an : Option Addr) (cdv ct : Value) (us : List Value), us.length = (["many", "pairs", "most"] : List Str).length → bindArgs (PySem.W.fnOf "check_pairs" "check_pairs" (defArgs s_check_pairs) (defBody s_check_pairs) (defScope s_check_pairs) .none kV doc pm an cdv ct) ⟨us, []⟩ = pure ((["many", "pairs", "most"] : List Str).zip us) := fun _ _ _ _ _ _ us hl => match us, hl with | [_, _, _], _ => rfl
theorem bd_are_goals : ∀ (kV doc pm : Value) (an : Option Addr) (cdv ct : Value) (us : List Value), us.length = (["thing", "many", "arrows"] : List Str).length → bindArgs (PySem.W.fnOf "are_goals" "are_goals" (defArgs s_are_goals) (defBody s_are_goals) (defScope s_are_goals) .none kV doc pm an cdv ct) ⟨us, []⟩ = pure ((["thing", "many", "arrows"] : List Str).zip us) := fun _ _ _ _ _ _ us hl => match us, hl with | [_, _, _], _ => rfl
theorem bd_Map___init__ : ∀ (kV doc pm : Value) (an : Option Addr) (cdv ct : Value) (us : List Value), us.length = (["self", "many", "arrows", "goals"] : List Str).length → bindArgs (PySem.W.fnOf "__init__" "Map.__init__" (defArgs s_Map___init__) (defBody s_Map___init__) (defScope s_Map___init__) .none kV doc pm an cdv ct) ⟨us, []⟩ = pure ((["self", "many", "arrows", "goals"] : List Str).zip us) := fun _ _ _ _ _ _ us hl => match us, hl with | [_, _, _, _], _ => rfl
theorem bd_goals_are_open : ∀ (kV doc pm : Value) (an : Option Addr) (cdv ct : Value) (us : List Value), us.length = (["chart", "rotten"] : List Str).length → bindArgs (PySem.W.fnOf "goals_are_open" "goals_are_open" (defArgs s_goals_are_open) (defBody s_goals_are_open) (defScope s_goals_are_open) .none kV doc pm an cdv ct) ⟨us, []⟩ = pure ((["chart", "rotten"] : List Str).zip us) := fun _ _ _ _ _ _ us hl => match us, hl with | [_, _], _ => rfl
theorem bd_holds_together : ∀ (kV doc pm : Value) (an : Option Addr) (cdv ct : Value) (us : List Value), us.length = (["chart", "reached", "rotten"] : List Str).length → bindArgs (PySem.W.fnOf "holds_together" "holds_together" (defArgs s_holds_together) (defBody s_holds_together) (defScope s_holds_together) .none kV doc pm an cdv ct) ⟨us, []⟩ = pure ((["chart", "reached", "rotten"] : List Str).zip us) := fun _ _ _ _ _ _ us hl => match us, hl with | [_, _, _], _ => rfl
theorem bd__unreached_pairs : ∀ (kV doc pm : Value) (an : Option Addr) (cdv ct : Value) (us : List Value), us.length = (["chart", "standing"] : List Str).length → bindArgs (PySem.W.fnOf "_unreached_pairs" "_unreached_pairs" (defArgs s__unreached_pairs) (defBody s__unreached_pairs) (defScope s__unreached_pairs) .none kV doc pm an cdv ct) ⟨us, []⟩ = pure ((["chart", "standing"] : List Str).zip us) := fun _ _ _ _ _ _ us hl => match us, hl with | [_, _], _ => rfl
theorem bd_is_standing : ∀ (kV doc pm : Value) (an : Option Addr) (cdv ct : Value) (us : List Value), us.length = (["chart", "thing"] : List Str).length → bindArgs (PySem.W.fnOf "is_standing" "is_standing" (defArgs s_is_standing) (defBody s_is_standing) (defScope s_is_standing) .none kV doc pm an cdv ct) ⟨us, []⟩ = pure ((["chart", "thing"] : List Str).zip us) := fun _ _ _ _ _ _ us hl => match us, hl with | [_, _], _ => rfl
theorem bd_check_standing : ∀ (kV doc pm : Value) (an : Option Addr) (cdv ct : Value) (us : List Value), us.length = (["chart", "thing"] : List Str).length → bindArgs (PySem.W.fnOf "check_standing" "check_standing" (defArgs s_check_standing) (defBody s_check_standing) (defScope s_check_standing) .none kV doc pm an cdv ct) ⟨us, []⟩ = pure ((["chart", "thing"] : List Str).zip us) := fun _ _ _ _ _ _ us hl => match us, hl with | [_, _], _ => rfl
theorem bd_done_at : ∀ (kV doc pm : Value) (an : Option Addr) (cdv ct : Value) (us : List Value), us.length = (["chart", "standing"] : List Str).length → bindArgs (PySem.W.fnOf "done_at" "done_at" (defArgs s_done_at) (defBody s_done_at) (defScope s_done_at) .none kV doc pm an cdv ct) ⟨us, []⟩ = pure ((["chart", "standing"] : List Str).zip us) := fun _ _ _ _ _ _ us hl => match us, hl with | [_, _], _ => rfl
theorem bd_is_done : ∀ (kV doc pm : Value) (an : Option Addr) (cdv ct : Value) (us : List Value), us.length = (["chart", "standing"] : List Str).length → bindArgs (PySem.W.fnOf "is_done" "is_done" (defArgs s_is_done) (defBody s_is_done) (defScope s_is_done) .none kV doc pm an cdv ct) ⟨us, []⟩ = pure ((["chart", "standing"] : List Str).zip us) := fun _ _ _ _ _ _ us hl => match us, hl with | [_, _], _ => rfl
theorem bd_steps_to_go : ∀ (kV doc pm : Value) (an : Option Addr) (cdv ct : Value) (us : List Value), us.length = (["chart", "standing"] : List Str).length → bindArgs (PySem.W.fnOf "steps_to_go" "steps_to_go" (defArgs s_steps_to_go) (defBody s_steps_to_go) (defScope s_steps_to_go) .none kV doc pm an cdv ct) ⟨us, []⟩ = pure ((["chart", "standing"] : List Str).zip us) := fun _ _ _ _ _ _ us hl => match us, hl with | [_, _], _ => rfl
theorem bd_alive_at : ∀ (kV doc pm : Value) (an : Option Addr) (cdv ct : Value) (us : List Value), us.length = (["chart", "standing"] : List Str).length → bindArgs (PySem.W.fnOf "alive_at" "alive_at" (defArgs s_alive_at) (defBody s_alive_at) (defScope s_alive_at) .none kV doc pm an cdv ct) ⟨us, []⟩ = pure ((["chart", "standing"] : List Str).zip us) := fun _ _ _ _ _ _ us hl => match us, hl with | [_, _], _ => rfl
theorem bd_alive : ∀ (kV doc pm : Value) (an : Option Addr) (cdv ct : Value) (us : List Value), us.length = (["chart", "standing"] : List Str).length → bindArgs (PySem.W.fnOf "alive" "alive" (defArgs s_alive) (defBody s_alive) (defScope s_alive) .none kV doc pm an cdv ct) ⟨us, []⟩ = pure ((["chart", "standing"] : List Str).zip us) := fun _ _ _ _ _ _ us hl => match us, hl with | [_, _], _ => rfl
theorem bd_tries_at : ∀ (kV doc pm : Value) (an : Option Addr) (cdv ct : Value) (us : List Value), us.length = (["chart", "standing"] : List Str).length → bindArgs (PySem.W.fnOf "tries_at" "tries_at" (defArgs s_tries_at) (defBody s_tries_at) (defScope s_tries_at) .none kV doc pm an cdv ct) ⟨us, []⟩ = pure ((["chart", "standing"] : List Str).zip us) := fun _ _ _ _ _ _ us hl => match us, hl with | [_, _], _ => rfl
theorem bd_tries : ∀ (kV doc pm : Value) (an : Option Addr) (cdv ct : Value) (us : List Value), us.length = (["chart", "standing"] : List Str).length → bindArgs (PySem.W.fnOf "tries" "tries" (defArgs s_tries) (defBody s_tries) (defScope s_tries) .none kV doc pm an cdv ct) ⟨us, []⟩ = pure ((["chart", "standing"] : List Str).zip us) := fun _ _ _ _ _ _ us hl => match us, hl with | [_, _], _ => rfl
theorem bd_worth_at : ∀ (kV doc pm : Value) (an : Option Addr) (cdv ct : Value) (us : List Value), us.length = (["chart", "standing"] : List Str).length → bindArgs (PySem.W.fnOf "worth_at" "worth_at" (defArgs s_worth_at) (defBody s_worth_at) (defScope s_worth_at) .none kV doc pm an cdv ct) ⟨us, []⟩ = pure ((["chart", "standing"] : List Str).zip us) := fun _ _ _ _ _ _ us hl => match us, hl with | [_, _], _ => rfl
theorem bd_worth : ∀ (kV doc pm : Value) (an : Option Addr) (cdv ct : Value) (us : List Value), us.length = (["chart", "standing"] : List Str).length → bindArgs (PySem.W.fnOf "worth" "worth" (defArgs s_worth) (defBody s_worth) (defScope s_worth) .none kV doc pm an cdv ct) ⟨us, []⟩ = pure ((["chart", "standing"] : List Str).zip us) := fun _ _ _ _ _ _ us hl => match us, hl with | [_, _], _ => rfl
theorem bd__law_led : ∀ (kV doc pm : Value) (an : Option Addr) (cdv ct : Value) (us : List Value), us.length = (["_law_arrows", "_law_begun", "_law_let", "_law_barred"] : List Str).length → bindArgs (PySem.W.fnOf "_law_led" "_law_led" (defArgs s__law_led) (defBody s__law_led) (defScope s__law_led) .none kV doc pm an cdv ct) ⟨us, []⟩ = pure ((["_law_arrows", "_law_begun", "_law_let", "_law_barred"] : List Str).zip us) := fun _ _ _ _ _ _ us hl => match us, hl with | [_, _, _, _], _ => rfl
theorem bd__law_is_world : ∀ (kV doc pm : Value) (an : Option Addr) (cdv ct : Value) (us : List Value), us.length = (["_law_parts_here", "_law_rotten"] : List Str).length → bindArgs (PySem.W.fnOf "_law_is_world" "_law_is_world" (defArgs s__law_is_world) (defBody s__law_is_world) (defScope s__law_is_world) .none kV doc pm an cdv ct) ⟨us, []⟩ = pure ((["_law_parts_here", "_law_rotten"] : List Str).zip us) := fun _ _ _ _ _ _ us hl => match us, hl with | [_, _], _ => rfl
theorem bd__law_is_standing : ∀ (kV doc pm : Value) (an : Option Addr) (cdv ct : Value) (us : List Value), us.length = (["_law_parts_here", "_law_reached", "_law_rotten"] : List Str).length → bindArgs (PySem.W.fnOf "_law_is_standing" "_law_is_standing" (defArgs s__law_is_standing) (defBody s__law_is_standing) (defScope s__law_is_standing) .none kV doc pm an cdv ct) ⟨us, []⟩ = pure ((["_law_parts_here", "_law_reached", "_law_rotten"] : List Str).zip us) := fun _ _ _ _ _ _ us hl => match us, hl with | [_, _, _], _ => rfl
theorem bd__law_hand : ∀ (kV doc pm : Value) (an : Option Addr) (cdv ct : Value) (us : List Value), us.length = (["_law_script"] : List Str).length → bindArgs (PySem.W.fnOf "_law_hand" "_law_hand" (defArgs s__law_hand) (defBody s__law_hand) (defScope s__law_hand) .none kV doc pm an cdv ct) ⟨us, []⟩ = pure ((["_law_script"] : List Str).zip us) := fun _ _ _ _ _ _ us hl => match us, hl with | [_], _ => rfl
theorem bd__law_draw : ∀ (kV doc pm : Value) (an : Option Addr) (cdv ct : Value) (us : List Value), us.length = (["_law_hand_here", "_law_many"] : List Str).length → bindArgs (PySem.W.fnOf "_law_draw" "_law_draw" (defArgs s__law_draw) (defBody s__law_draw) (defScope s__law_draw) .none kV doc pm an cdv ct) ⟨us, []⟩ = pure ((["_law_hand_here", "_law_many"] : List Str).zip us) := fun _ _ _ _ _ _ us hl => match us, hl with | [_, _], _ => rfl
theorem bd__law_shuffled : ∀ (kV doc pm : Value) (an : Option Addr) (cdv ct : Value) (us : List Value), us.length = (["_law_hand_here", "_law_things"] : List Str).length → bindArgs (PySem.W.fnOf "_law_shuffled" "_law_shuffled" (defArgs s__law_shuffled) (defBody s__law_shuffled) (defScope s__law_shuffled) .none kV doc pm an cdv ct) ⟨us, []⟩ = pure ((["_law_hand_here", "_law_things"] : List Str).zip us) := fun _ _ _ _ _ _ us hl => match us, hl with | [_, _], _ => rfl
theorem bd__law_tail : ∀ (kV doc pm : Value) (an : Option Addr) (cdv ct : Value) (us : List Value), us.length = (["_law_hand_here", "_law_pairs", "_law_goals", "_law_place"] : List Str).length → bindArgs (PySem.W.fnOf "_law_tail" "_law_tail" (defArgs s__law_tail) (defBody s__law_tail) (defScope s__law_tail) .none kV doc pm an cdv ct) ⟨us, []⟩ = pure ((["_law_hand_here", "_law_pairs", "_law_goals", "_law_place"] : List Str).zip us) := fun _ _ _ _ _ _ us hl => match us, hl with | [_, _, _, _], _ => rfl
theorem bd__law_renamed : ∀ (kV doc pm : Value) (an : Option Addr) (cdv ct : Value) (us : List Value), us.length = (["_law_hand_here", "_law_many", "_law_pairs", "_law_goals"] : List Str).length → bindArgs (PySem.W.fnOf "_law_renamed" "_law_renamed" (defArgs s__law_renamed) (defBody s__law_renamed) (defScope s__law_renamed) .none kV doc pm an cdv ct) ⟨us, []⟩ = pure ((["_law_hand_here", "_law_many", "_law_pairs", "_law_goals"] : List Str).zip us) := fun _ _ _ _ _ _ us hl => match us, hl with | [_, _, _, _], _ => rfl
theorem bd__law_parts : ∀ (kV doc pm : Value) (an : Option Addr) (cdv ct : Value) (us : List Value), us.length = (["_law_hand_here", "_law_places", "_law_arrows"] : List Str).length → bindArgs (PySem.W.fnOf "_law_parts" "_law_parts" (defArgs s__law_parts) (defBody s__law_parts) (defScope s__law_parts) .none kV doc pm an cdv ct) ⟨us, []⟩ = pure ((["_law_hand_here", "_law_places", "_law_arrows"] : List Str).zip us) := fun _ _ _ _ _ _ us hl => match us, hl with | [_, _, _], _ => rfl
theorem bd__law_standing : ∀ (kV doc pm : Value) (an : Option Addr) (cdv ct : Value) (us : List Value), us.length = (["_law_hand_here", "_law_parts_here"] : List Str).length → bindArgs (PySem.W.fnOf "_law_standing" "_law_standing" (defArgs s__law_standing) (defBody s__law_standing) (defScope s__law_standing) .none kV doc pm an cdv ct) ⟨us, []⟩ = pure ((["_law_hand_here", "_law_parts_here"] : List Str).zip us) := fun _ _ _ _ _ _ us hl => match us, hl with | [_, _], _ => rfl
theorem bd_is_flag : ∀ (kV doc pm : Value) (an : Option Addr) (cdv ct : Value) (us : List Value), us.length = (["thing"] : List Str).length → bindArgs (PySem.W.fnOf "is_flag" "is_flag" (defArgs s_is_flag) (defBody s_is_flag) (defScope s_is_flag) .none kV doc pm an cdv ct) ⟨us, []⟩ = pure ((["thing"] : List Str).zip us) := fun _ _ _ _ _ _ us hl => match us, hl with | [_], _ => rfl
theorem bd_with_item : ∀ (kV doc pm : Value) (an : Option Addr) (cdv ct : Value) (us : List Value), us.length = (["lot", "item"] : List Str).length → bindArgs (PySem.W.fnOf "with_item" "with_item" (defArgs s_with_item) (defBody s_with_item) (defScope s_with_item) .none kV doc pm an cdv ct) ⟨us, []⟩ = pure ((["lot", "item"] : List Str).zip us) := fun _ _ _ _ _ _ us hl => match us, hl with | [_, _], _ => rfl
theorem bd__check_unreached : ∀ (kV doc pm : Value) (an : Option Addr) (cdv ct : Value) (us : List Value), us.length = (["chart", "standing", "place"] : List Str).length → bindArgs (PySem.W.fnOf "_check_unreached" "_check_unreached" (defArgs s__check_unreached) (defBody s__check_unreached) (defScope s__check_unreached) .none kV doc pm an cdv ct) ⟨us, []⟩ = pure ((["chart", "standing", "place"] : List Str).zip us) := fun _ _ _ _ _ _ us hl => match us, hl with | [_, _, _], _ => rfl
theorem bd_check_try : ∀ (kV doc pm : Value) (an : Option Addr) (cdv ct : Value) (us : List Value), us.length = (["chart", "standing", "thing"] : List Str).length → bindArgs (PySem.W.fnOf "check_try" "check_try" (defArgs s_check_try) (defBody s_check_try) (defScope s_check_try) .none kV doc pm an cdv ct) ⟨us, []⟩ = pure ((["chart", "standing", "thing"] : List Str).zip us) := fun _ _ _ _ _ _ us hl => match us, hl with | [_, _, _], _ => rfl
theorem bd_news_at : ∀ (kV doc pm : Value) (an : Option Addr) (cdv ct : Value) (us : List Value), us.length = (["chart", "standing", "arrow", "sound"] : List Str).length → bindArgs (PySem.W.fnOf "news_at" "news_at" (defArgs s_news_at) (defBody s_news_at) (defScope s_news_at) .none kV doc pm an cdv ct) ⟨us, []⟩ = pure ((["chart", "standing", "arrow", "sound"] : List Str).zip us) := fun _ _ _ _ _ _ us hl => match us, hl with | [_, _, _, _], _ => rfl
theorem bd_checked_news_at : ∀ (kV doc pm : Value) (an : Option Addr) (cdv ct : Value) (us : List Value), us.length = (["chart", "standing", "arrow", "sound"] : List Str).length → bindArgs (PySem.W.fnOf "checked_news_at" "checked_news_at" (defArgs s_checked_news_at) (defBody s_checked_news_at) (defScope s_checked_news_at) .none kV doc pm an cdv ct) ⟨us, []⟩ = pure ((["chart", "standing", "arrow", "sound"] : List Str).zip us) := fun _ _ _ _ _ _ us hl => match us, hl with | [_, _, _, _], _ => rfl
theorem bd_news : ∀ (kV doc pm : Value) (an : Option Addr) (cdv ct : Value) (us : List Value), us.length = (["chart", "standing", "arrow", "sound"] : List Str).length → bindArgs (PySem.W.fnOf "news" "news" (defArgs s_news) (defBody s_news) (defScope s_news) .none kV doc pm an cdv ct) ⟨us, []⟩ = pure ((["chart", "standing", "arrow", "sound"] : List Str).zip us) := fun _ _ _ _ _ _ us hl => match us, hl with | [_, _, _, _], _ => rfl
theorem bd__one_into_each : ∀ (kV doc pm : Value) (an : Option Addr) (cdv ct : Value) (us : List Value), us.length = (["chart", "rotten"] : List Str).length → bindArgs (PySem.W.fnOf "_one_into_each" "_one_into_each" (defArgs s__one_into_each) (defBody s__one_into_each) (defScope s__one_into_each) .none kV doc pm an cdv ct) ⟨us, []⟩ = pure ((["chart", "rotten"] : List Str).zip us) := fun _ _ _ _ _ _ us hl => match us, hl with | [_, _], _ => rfl
theorem bd_sure : ∀ (kV doc pm : Value) (an : Option Addr) (cdv ct : Value) (us : List Value), us.length = (["chart", "standing"] : List Str).length → bindArgs (PySem.W.fnOf "sure" "sure" (defArgs s_sure) (defBody s_sure) (defScope s_sure) .none kV doc pm an cdv ct) ⟨us, []⟩ = pure ((["chart", "standing"] : List Str).zip us) := fun _ _ _ _ _ _ us hl => match us, hl with | [_, _], _ => rfl
theorem bd_world_with : ∀ (kV doc pm : Value) (an : Option Addr) (cdv ct : Value) (us : List Value), us.length = (["chart", "standing", "arrow", "sound"] : List Str).length → bindArgs (PySem.W.fnOf "world_with" "world_with" (defArgs s_world_with) (defBody s_world_with) (defScope s_world_with) .none kV doc pm an cdv ct) ⟨us, []⟩ = pure ((["chart", "standing", "arrow", "sound"] : List Str).zip us) := fun _ _ _ _ _ _ us hl => match us, hl with | [_, _, _, _], _ => rfl
theorem bd_is_world : ∀ (kV doc pm : Value) (an : Option Addr) (cdv ct : Value) (us : List Value), us.length = (["chart", "thing"] : List Str).length → bindArgs (PySem.W.fnOf "is_world" "is_world" (defArgs s_is_world) (defBody s_is_world) (defScope s_is_world) .none kV doc pm an cdv ct) ⟨us, []⟩ = pure ((["chart", "thing"] : List Str).zip us) := fun _ _ _ _ _ _ us hl => match us, hl with | [_, _], _ => rfl
theorem bd_arrows_nearer : ∀ (kV doc pm : Value) (an : Option Addr) (cdv ct : Value) (us : List Value), us.length = (["chart", "standing", "steps"] : List Str).length → bindArgs (PySem.W.fnOf "arrows_nearer" "arrows_nearer" (defArgs s_arrows_nearer) (defBody s_arrows_nearer) (defScope s_arrows_nearer) .none kV doc pm an cdv ct) ⟨us, []⟩ = pure ((["chart", "standing", "steps"] : List Str).zip us) := fun _ _ _ _ _ _ us hl => match us, hl with | [_, _, _], _ => rfl
theorem bd_way_on : ∀ (kV doc pm : Value) (an : Option Addr) (cdv ct : Value) (us : List Value), us.length = (["chart", "standing", "place"] : List Str).length → bindArgs (PySem.W.fnOf "way_on" "way_on" (defArgs s_way_on) (defBody s_way_on) (defScope s_way_on) .none kV doc pm an cdv ct) ⟨us, []⟩ = pure ((["chart", "standing", "place"] : List Str).zip us) := fun _ _ _ _ _ _ us hl => match us, hl with | [_, _, _], _ => rfl
theorem bd_dead_end : ∀ (kV doc pm : Value) (an : Option Addr) (cdv ct : Value) (us : List Value), us.length = (["chart", "standing", "place"] : List Str).length → bindArgs (PySem.W.fnOf "dead_end" "dead_end" (defArgs s_dead_end) (defBody s_dead_end) (defScope s_dead_end) .none kV doc pm an cdv ct) ⟨us, []⟩ = pure ((["chart", "standing", "place"] : List Str).zip us) := fun _ _ _ _ _ _ us hl => match us, hl with | [_, _, _], _ => rfl
theorem bd_begin : ∀ (kV doc pm : Value) (an : Option Addr) (cdv ct : Value) (us : List Value), us.length = (["chart"] : List Str).length → bindArgs (PySem.W.fnOf "begin" "begin" (defArgs s_begin) (defBody s_begin) (defScope s_begin) .none kV doc pm an cdv ct) ⟨us, []⟩ = pure ((["chart"] : List Str).zip us) := fun _ _ _ _ _ _ us hl => match us, hl with | [_], _ => rfl
theorem bd_are_tries : ∀ (kV doc pm : Value) (an : Option Addr) (cdv ct : Value) (us : List Value), us.length = (["chart", "standing", "thing"] : List Str).length → bindArgs (PySem.W.fnOf "are_tries" "are_tries" (defArgs s_are_tries) (defBody s_are_tries) (defScope s_are_tries) .none kV doc pm an cdv ct) ⟨us, []⟩ = pure ((["chart", "standing", "thing"] : List Str).zip us) := fun _ _ _ _ _ _ us hl => match us, hl with | [_, _, _], _ => rfl
theorem bd_Course___init__ : ∀ (kV doc pm : Value) (an : Option Addr) (cdv ct : Value) (us : List Value), us.length = (["self", "chart"] : List Str).length → bindArgs (PySem.W.fnOf "__init__" "Course.__init__" (defArgs s_Course___init__) (defBody s_Course___init__) (defScope s_Course___init__) .none kV doc pm an cdv ct) ⟨us, []⟩ = pure ((["self", "chart"] : List Str).zip us) := fun _ _ _ _ _ _ us hl => match us, hl with | [_, _], _ => rfl
theorem bd_Party___init__ : ∀ (kV doc pm : Value) (an : Option Addr) (cdv ct : Value) (us : List Value), us.length = (["self", "chart", "world"] : List Str).length → bindArgs (PySem.W.fnOf "__init__" "Party.__init__" (defArgs s_Party___init__) (defBody s_Party___init__) (defScope s_Party___init__) .none kV doc pm an cdv ct) ⟨us, []⟩ = pure ((["self", "chart", "world"] : List Str).zip us) := fun _ _ _ _ _ _ us hl => match us, hl with | [_, _, _], _ => rfl
theorem bd_sent_by : ∀ (kV doc pm : Value) (an : Option Addr) (cdv ct : Value) (us : List Value), us.length = (["chart", "name", "standing"] : List Str).length → bindArgs (PySem.W.fnOf "sent_by" "sent_by" (defArgs s_sent_by) (defBody s_sent_by) (defScope s_sent_by) .none kV doc pm an cdv ct) ⟨us, []⟩ = pure ((["chart", "name", "standing"] : List Str).zip us) := fun _ _ _ _ _ _ us hl => match us, hl with | [_, _, _], _ => rfl
theorem bd__law_is_index : ∀ (kV doc pm : Value) (an : Option Addr) (cdv ct : Value) (us : List Value), us.length = (["_law_thing_here", "_law_many"] : List Str).length → bindArgs (PySem.W.fnOf "_law_is_index" "_law_is_index" (defArgs s__law_is_index) (defBody s__law_is_index) (defScope s__law_is_index) .none kV doc pm an cdv ct) ⟨us, []⟩ = pure ((["_law_thing_here", "_law_many"] : List Str).zip us) := fun _ _ _ _ _ _ us hl => match us, hl with | [_, _], _ => rfl
theorem bd__law_is_lot : ∀ (kV doc pm : Value) (an : Option Addr) (cdv ct : Value) (us : List Value), us.length = (["_law_thing_here", "_law_many"] : List Str).length → bindArgs (PySem.W.fnOf "_law_is_lot" "_law_is_lot" (defArgs s__law_is_lot) (defBody s__law_is_lot) (defScope s__law_is_lot) .none kV doc pm an cdv ct) ⟨us, []⟩ = pure ((["_law_thing_here", "_law_many"] : List Str).zip us) := fun _ _ _ _ _ _ us hl => match us, hl with | [_, _], _ => rfl
theorem bd__law_is_judged : ∀ (kV doc pm : Value) (an : Option Addr) (cdv ct : Value) (us : List Value), us.length = (["_law_parts_here", "_law_thing_here"] : List Str).length → bindArgs (PySem.W.fnOf "_law_is_judged" "_law_is_judged" (defArgs s__law_is_judged) (defBody s__law_is_judged) (defScope s__law_is_judged) .none kV doc pm an cdv ct) ⟨us, []⟩ = pure ((["_law_parts_here", "_law_thing_here"] : List Str).zip us) := fun _ _ _ _ _ _ us hl => match us, hl with | [_, _], _ => rfl
theorem bd__law_asked : ∀ (kV doc pm : Value) (an : Option Addr) (cdv ct : Value) (us : List Value), us.length = (["_law_way", "_law_chart", "_law_thing_here", "_law_last", "_law_more"] : List Str).length → bindArgs (PySem.W.fnOf "_law_asked" "_law_asked" (defArgs s__law_asked) (defBody s__law_asked) (defScope s__law_asked) .none kV doc pm an cdv ct) ⟨us, []⟩ = pure ((["_law_way", "_law_chart", "_law_thing_here", "_law_last", "_law_more"] : List Str).zip us) := fun _ _ _ _ _ _ us hl => match us, hl with | [_, _, _, _, _], _ => rfl
theorem bd__law_is_refused : ∀ (kV doc pm : Value) (an : Option Addr) (cdv ct : Value) (us : List Value), us.length = (["_law_way", "_law_chart", "_law_good", "_law_thing_here", "_law_last", "_law_more"] : List Str).length → bindArgs (PySem.W.fnOf "_law_is_refused" "_law_is_refused" (defArgs s__law_is_refused) (defBody s__law_is_refused) (defScope s__law_is_refused) .none kV doc pm an cdv ct) ⟨us, []⟩ = pure ((["_law_way", "_law_chart", "_law_good", "_law_thing_here", "_law_last", "_law_more"] : List Str).zip us) := fun _ _ _ _ _ _ us hl => match us, hl with | [_, _, _, _, _, _], _ => rfl
theorem bd__law_odd_lot : ∀ (kV doc pm : Value) (an : Option Addr) (cdv ct : Value) (us : List Value), us.length = (["_law_hand_here", "_law_many", "_law_lot"] : List Str).length → bindArgs (PySem.W.fnOf "_law_odd_lot" "_law_odd_lot" (defArgs s__law_odd_lot) (defBody s__law_odd_lot) (defScope s__law_odd_lot) .none kV doc pm an cdv ct) ⟨us, []⟩ = pure ((["_law_hand_here", "_law_many", "_law_lot"] : List Str).zip us) := fun _ _ _ _ _ _ us hl => match us, hl with | [_, _, _], _ => rfl
theorem bd__law_deep : ∀ (kV doc pm : Value) (an : Option Addr) (cdv ct : Value) (us : List Value), us.length = (["_law_hand_here"] : List Str).length → bindArgs (PySem.W.fnOf "_law_deep" "_law_deep" (defArgs s__law_deep) (defBody s__law_deep) (defScope s__law_deep) .none kV doc pm an cdv ct) ⟨us, []⟩ = pure ((["_law_hand_here"] : List Str).zip us) := fun _ _ _ _ _ _ us hl => match us, hl with | [_], _ => rfl
theorem bd__law_thing : ∀ (kV doc pm : Value) (an : Option Addr) (cdv ct : Value) (us : List Value), us.length = (["_law_hand_here", "_law_parts_here", "_law_chart", "_law_standing_here"] : List Str).length → bindArgs (PySem.W.fnOf "_law_thing" "_law_thing" (defArgs s__law_thing) (defBody s__law_thing) (defScope s__law_thing) .none kV doc pm an cdv ct) ⟨us, []⟩ = pure ((["_law_hand_here", "_law_parts_here", "_law_chart", "_law_standing_here"] : List Str).zip us) := fun _ _ _ _ _ _ us hl => match us, hl with | [_, _, _, _], _ => rfl
theorem bd__law_is_far_refused : ∀ (kV doc pm : Value) (an : Option Addr) (cdv ct : Value) (us : List Value), us.length = (["_law_hand_here", "_law_chart"] : List Str).length → bindArgs (PySem.W.fnOf "_law_is_far_refused" "_law_is_far_refused" (defArgs s__law_is_far_refused) (defBody s__law_is_far_refused) (defScope s__law_is_far_refused) .none kV doc pm an cdv ct) ⟨us, []⟩ = pure ((["_law_hand_here", "_law_chart"] : List Str).zip us) := fun _ _ _ _ _ _ us hl => match us, hl with | [_, _], _ => rfl
theorem bd_law : ∀ (kV doc pm : Value) (an : Option Addr) (cdv ct : Value) (us : List Value), us.length = (["_law_script"] : List Str).length → bindArgs (PySem.W.fnOf "law" "law" (defArgs s_law) (defBody s_law) (defScope s_law) .none kV doc pm an cdv ct) ⟨us, []⟩ = pure ((["_law_script"] : List Str).zip us) := fun _ _ _ _ _ _ us hl => match us, hl with | [_], _ => rfl
theorem all_mk {l : PySem.W.OpenLaw} {h : Heap} {fa : Addr} {CMap : Addr} {t_FEWEST_PLACES : Nat} {t_MOST_PLACES : Nat} {t_MOST_ARROWS : Nat} {CCourse : Addr} {CParty : Addr} {CNoArrow : Addr} {CNoName : Addr} {CNoNews : Addr} {CNoPlace : Addr} {CNoStanding : Addr} {CNoTry : Addr} {CWayError : Addr} {ANAMES : Addr} {dNAMES : Option Addr} {nNAMES : Nat} {sNAMES : Array (Option Value)} {tNAMES0 : Tok} {tNAMES1 : Tok} {tNAMES2 : Tok} {tNAMES3 : Tok} {tNAMES4 : Tok} {f0 : Addr} {od0 an0 : Option Addr} {sl0 : Array (Option Value)} {oc0 kV0 dc0 pm0 ct0 : Value} {cd0 : Value} {f1 : Addr} {od1 an1 : Option Addr} {sl1 : Array (Option Value)} {oc1 kV1 dc1 pm1 ct1 : Value} {cd1 : Value} {f2 : Addr} {od2 an2 : Option Addr} {sl2 : Array (Option Value)} {oc2 kV2 dc2 pm2 ct2 : Value} {cd2 : Value} {f3 : Addr} {od3 an3 : Option Addr} {sl3 : Array (Option Value)} {oc3 kV3 dc3 pm3 ct3 : Value} {cd3 : Value} {f4 : Addr} {od4 an4 : Option Addr} {sl4 : Array (Option Value)} {oc4 kV4 dc4 pm4 ct4 : Value} {cd4 : Value} {f5 : Addr} {od5 an5 : Option Addr} {sl5 : Array (Option Value)} {oc5 kV5 dc5 pm5 ct5 : Value} {cd5 : Value} {f6 : Addr} {od6 an6 : Option Addr} {sl6 : Array (Option Value)} {oc6 kV6 dc6 pm6 ct6 : Value} {cd6 : Value} {f7 : Addr} {od7 an7 : Option Addr} {sl7 : Array (Option Value)} {oc7 kV7 dc7 pm7 ct7 : Value} {cd7 : Value} {f8 : Addr} {od8 an8 : Option Addr} {sl8 : Array (Option Value)} {oc8 kV8 dc8 pm8 ct8 : Value} {cd8 : Value} {f9 : Addr} {od9 an9 : Option Addr} {sl9 : Array (Option Value)} {oc9 kV9 dc9 pm9 ct9 : Value} {cd9 : Value} {f10 : Addr} {od10 an10 : Option Addr} {sl10 : Array (Option Value)} {oc10 kV10 dc10 pm10 ct10 : Value} {cd10 : Value} {f11 : Addr} {od11 an11 : Option Addr} {sl11 : Array (Option Value)} {oc11 kV11 dc11 pm11 ct11 : Value} {cd11 : Value} {f12 : Addr} {od12 an12 : Option Addr} {sl12 : Array (Option Value)} {oc12 kV12 dc12 pm12 ct12 : Value} {cd12 : Value} {f13 : Addr} {od13 an13 : Option Addr} {sl13 : Array (Option Value)} {oc13 kV13 dc13 pm13 ct13 : Value} {cd13 : Value} {f14 : Addr} {od14 an14 : Option Addr} {sl14 : Array (Option Value)} {oc14 kV14 dc14 pm14 ct14 : Value} {cd14 : Value} {f15 : Addr} {od15 an15 : Option Addr} {sl15 : Array (Option Value)} {oc15 kV15 dc15 pm15 ct15 : Value} {cd15 : Value} {f16 : Addr} {od16 an16 : Option Addr} {sl16 : Array (Option Value)} {oc16 kV16 dc16 pm16 ct16 : Value} {cd16 : Value} {f17 : Addr} {od17 an17 : Option Addr} {sl17 : Array (Option Value)} {oc17 kV17 dc17 pm17 ct17 : Value} {cd17 : Value} {f18 : Addr} {od18 an18 : Option Addr} {sl18 : Array (Option Value)} {oc18 kV18 dc18 pm18 ct18 : Value} {cd18 : Value} {f19 : Addr} {od19 an19 : Option Addr} {sl19 : Array (Option Value)} {oc19 kV19 dc19 pm19 ct19 : Value} {cd19 : Value} {f20 : Addr} {od20 an20 : Option Addr} {sl20 : Array (Option Value)} {oc20 kV20 dc20 pm20 ct20 : Value} {cd20 : Value} {f21 : Addr} {od21 an21 : Option Addr} {sl21 : Array (Option Value)} {oc21 kV21 dc21 pm21 ct21 : Value} {cd21 : Value} {f22 : Addr} {od22 an22 : Option Addr} {sl22 : Array (Option Value)} {oc22 kV22 dc22 pm22 ct22 : Value} {cd22 : Value} {f23 : Addr} {od23 an23 : Option Addr} {sl23 : Array (Option Value)} {oc23 kV23 dc23 pm23 ct23 : Value} {cd23 : Value} {f24 : Addr} {od24 an24 : Option Addr} {sl24 : Array (Option Value)} {oc24 kV24 dc24 pm24 ct24 : Value} {cd24 : Value} {f25 : Addr} {od25 an25 : Option Addr} {sl25 : Array (Option Value)} {oc25 kV25 dc25 pm25 ct25 : Value} {cd25 : Value} {f26 : Addr} {od26 an26 : Option Addr} {sl26 : Array (Option Value)} {oc26 kV26 dc26 pm26 ct26 : Value} {cd26 : Value} {f27 : Addr} {od27 an27 : Option Addr} {sl27 : Array (Option Value)} {oc27 kV27 dc27 pm27 ct27 : Value} {cd27 : Value} {f28 : Addr} {od28 an28 : Option Addr} {sl28 : Array (Option Value)} {oc28 kV28 dc28 pm28 ct28 : Value} {cd28 : Value} {f29 : Addr} {od29 an29 : Option Addr} {sl29 : Array (Option Value)} {oc29 kV29 dc29 pm29 ct29 : Value} {cd29 : Value} {f30 : Addr} {od30 an30 : Option Addr} {sl30 : Array (Option Value)} {oc30 kV30 dc30 pm30 ct30 : Value} {cd30 : Value} {f31 : Addr} {od31 an31 : Option Addr} {sl31 : Array (Option Value)} {oc31 kV31 dc31 pm31 ct31 : Value} {cd31 : Value} {f32 : Addr} {od32 an32 : Option Addr} {sl32 : Array (Option Value)} {oc32 kV32 dc32 pm32 ct32 : Value} {cd32 : Value} {f33 : Addr} {od33 an33 : Option Addr} {sl33 : Array (Option Value)} {oc33 kV33 dc33 pm33 ct33 : Value} {cd33 : Value} {f34 : Addr} {od34 an34 : Option Addr} {sl34 : Array (Option Value)} {oc34 kV34 dc34 pm34 ct34 : Value} {cd34 : Value} {f35 : Addr} {od35 an35 : Option Addr} {sl35 : Array (Option Value)} {oc35 kV35 dc35 pm35 ct35 : Value} {cd35 : Value} {f36 : Addr} {od36 an36 : Option Addr} {sl36 : Array (Option Value)} {oc36 kV36 dc36 pm36 ct36 : Value} {cd36 : Value} {f37 : Addr} {od37 an37 : Option Addr} {sl37 : Array (Option Value)} {oc37 kV37 dc37 pm37 ct37 : Value} {cd37 : Value} {f38 : Addr} {od38 an38 : Option Addr} {sl38 : Array (Option Value)} {oc38 kV38 dc38 pm38 ct38 : Value} {cd38 : Value} {f39 : Addr} {od39 an39 : Option Addr} {sl39 : Array (Option Value)} {oc39 kV39 dc39 pm39 ct39 : Value} {cd39 : Value} {f40 : Addr} {od40 an40 : Option Addr} {sl40 : Array (Option Value)} {oc40 kV40 dc40 pm40 ct40 : Value} {cd40 : Value} {f41 : Addr} {od41 an41 : Option Addr} {sl41 : Array (Option Value)} {oc41 kV41 dc41 pm41 ct41 : Value} {cd41 : Value} {f42 : Addr} {od42 an42 : Option Addr} {sl42 : Array (Option Value)} {oc42 kV42 dc42 pm42 ct42 : Value} {cd42 : Value} {f43 : Addr} {od43 an43 : Option Addr} {sl43 : Array (Option Value)} {oc43 kV43 dc43 pm43 ct43 : Value} {cd43 : Value} {f44 : Addr} {od44 an44 : Option Addr} {sl44 : Array (Option Value)} {oc44 kV44 dc44 pm44 ct44 : Value} {cd44 : Value} {f45 : Addr} {od45 an45 : Option Addr} {sl45 : Array (Option Value)} {oc45 kV45 dc45 pm45 ct45 : Value} {cd45 : Value} {f46 : Addr} {od46 an46 : Option Addr} {sl46 : Array (Option Value)} {oc46 kV46 dc46 pm46 ct46 : Value} {cd46 : Value} {f47 : Addr} {od47 an47 : Option Addr} {sl47 : Array (Option Value)} {oc47 kV47 dc47 pm47 ct47 : Value} {cd47 : Value} {f48 : Addr} {od48 an48 : Option Addr} {sl48 : Array (Option Value)} {oc48 kV48 dc48 pm48 ct48 : Value} {cd48 : Value} {f49 : Addr} {od49 an49 : Option Addr} {sl49 : Array (Option Value)} {oc49 kV49 dc49 pm49 ct49 : Value} {cd49 : Value} {f50 : Addr} {od50 an50 : Option Addr} {sl50 : Array (Option Value)} {oc50 kV50 dc50 pm50 ct50 : Value} {cd50 : Value} {f51 : Addr} {od51 an51 : Option Addr} {sl51 : Array (Option Value)} {oc51 kV51 dc51 pm51 ct51 : Value} {cd51 : Value} {f52 : Addr} {od52 an52 : Option Addr} {sl52 : Array (Option Value)} {oc52 kV52 dc52 pm52 ct52 : Value} {cd52 : Value} {f54 : Addr} {od54 an54 : Option Addr} {sl54 : Array (Option Value)} {oc54 kV54 dc54 pm54 ct54 : Value} {cd54 : Value} {f55 : Addr} {od55 an55 : Option Addr} {sl55 : Array (Option Value)} {oc55 kV55 dc55 pm55 ct55 : Value} {cd55 : Value} {f56 : Addr} {od56 an56 : Option Addr} {sl56 : Array (Option Value)} {oc56 kV56 dc56 pm56 ct56 : Value} {cd56 : Value} {f57 : Addr} {od57 an57 : Option Addr} {sl57 : Array (Option Value)} {oc57 kV57 dc57 pm57 ct57 : Value} {cd57 : Value} {f64 : Addr} {od64 an64 : Option Addr} {sl64 : Array (Option Value)} {oc64 kV64 dc64 pm64 ct64 : Value} {cd64 : Value} {f77 : Addr} {od77 an77 : Option Addr} {sl77 : Array (Option Value)} {oc77 kV77 dc77 pm77 ct77 : Value} {cd77 : Value} {f78 : Addr} {od78 an78 : Option Addr} {sl78 : Array (Option Value)} {oc78 kV78 dc78 pm78 ct78 : Value} {cd78 : Value} {f79 : Addr} {od79 an79 : Option Addr} {sl79 : Array (Option Value)} {oc79 kV79 dc79 pm79 ct79 : Value} {cd79 : Value} {f80 : Addr} {od80 an80 : Option Addr} {sl80 : Array (Option Value)} {oc80 kV80 dc80 pm80 ct80 : Value} {cd80 : Value} {f81 : Addr} {od81 an81 : Option Addr} {sl81 : Array (Option Value)} {oc81 kV81 dc81 pm81 ct81 : Value} {cd81 : Value} {f82 : Addr} {od82 an82 : Option Addr} {sl82 : Array (Option Value)} {oc82 kV82 dc82 pm82 ct82 : Value} {cd82 : Value} {f83 : Addr} {od83 an83 : Option Addr} {sl83 : Array (Option Value)} {oc83 kV83 dc83 pm83 ct83 : Value} {cd83 : Value} {f84 : Addr} {od84 an84 : Option Addr} {sl84 : Array (Option Value)} {oc84 kV84 dc84 pm84 ct84 : Value} {cd84 : Value} {f85 : Addr} {od85 an85 : Option Addr} {sl85 : Array (Option Value)} {oc85 kV85 dc85 pm85 ct85 : Value} {cd85 : Value} {f86 : Addr} {od86 an86 : Option Addr} {sl86 : Array (Option Value)} {oc86 kV86 dc86 pm86 ct86 : Value} {cd86 : Value} (X : K.In h) (G : h.Ns mainGlobals mg) (hfa : mg "law" = some (.ref fa))
    (z_len : PySem.W.nsIn K mainGlobals "len" = some none)
    (z_all : PySem.W.nsIn K mainGlobals "all" = some none)
    (z_any : PySem.W.nsIn K mainGlobals "any" = some none)
    (z_sorted : PySem.W.nsIn K mainGlobals "sorted" = some none)
    (z_isinstance : PySem.W.nsIn K mainGlobals "isinstance" = some none)
    (z_abs : PySem.W.nsIn K mainGlobals "abs" = some none)
    (z_min : PySem.W.nsIn K mainGlobals "min" = some none)
    (z_max : PySem.W.nsIn K mainGlobals "max" = some none)
    (z_range : PySem.W.nsIn K mainGlobals "range" = some none)
    (z_enumerate : PySem.W.nsIn K mainGlobals "enumerate" = some none)
    (z_int : PySem.W.nsIn K mainGlobals "int" = some none)
    (z_list : PySem.W.nsIn K mainGlobals "list" = some none)
    (z_tuple : PySem.W.nsIn K mainGlobals "tuple" = some none)
    (z_str : PySem.W.nsIn K mainGlobals "str" = some none)
    (z_bool : PySem.W.nsIn K mainGlobals "bool" = some none)
    (z_repr : PySem.W.nsIn K mainGlobals "repr" = some none)
    (z_zip : PySem.W.nsIn K mainGlobals "zip" = some none)
    (z_set : PySem.W.nsIn K mainGlobals "set" = some none)
    (z_sum : PySem.W.nsIn K mainGlobals "sum" = some none)
    (aC : PySem.W.nsIn K mainGlobals "Map" = some (some (.ref CMap)))
    (pg : PySem.W.plainGet K CMap Str.empty = true)
    (hd : PySem.W.hasDictIn K CMap = true)
    (po : PySem.W.plainOver K CMap = true)
    (sa : PySem.W.findIn K (.ref CMap) "__setattr__" = some (some (.builtin "object.__setattr__")))
    (mk : PySem.W.makesIn K CMap = true)
    (kc : PySem.W.keepIn K (.ref CMap) = true)
    (n1 : PySem.W.findIn K (.ref CMap) "_many" = some none)
    (n2 : PySem.W.findIn K (.ref CMap) "_arrows" = some none)
    (n3 : PySem.W.findIn K (.ref CMap) "_goals" = some none)
    (c_FEWEST_PLACES : PySem.W.nsIn K mainGlobals "FEWEST_PLACES" = some (some (.int 2 t_FEWEST_PLACES)))
    (c_MOST_PLACES : PySem.W.nsIn K mainGlobals "MOST_PLACES" = some (some (.int 40 t_MOST_PLACES)))
    (c_MOST_ARROWS : PySem.W.nsIn K mainGlobals "MOST_ARROWS" = some (some (.int 60 t_MOST_ARROWS)))
    (aC_Course : PySem.W.nsIn K mainGlobals "Course" = some (some (.ref CCourse)))
    (pg_Course : PySem.W.plainGet K CCourse Str.empty = true)
    (hd_Course : PySem.W.hasDictIn K CCourse = true)
    (po_Course : PySem.W.plainOver K CCourse = true)
    (sa_Course : PySem.W.findIn K (.ref CCourse) "__setattr__" = some (some (.builtin "object.__setattr__")))
    (mk_Course : PySem.W.makesIn K CCourse = true)
    (kc_Course : PySem.W.keepIn K (.ref CCourse) = true)
    (n0_Course : PySem.W.findIn K (.ref CCourse) "_chart" = some none)
    (n1_Course : PySem.W.findIn K (.ref CCourse) "_told" = some none)
    (n2_Course : PySem.W.findIn K (.ref CCourse) "_stood" = some none)
    (aC_Party : PySem.W.nsIn K mainGlobals "Party" = some (some (.ref CParty)))
    (pg_Party : PySem.W.plainGet K CParty Str.empty = true)
    (hd_Party : PySem.W.hasDictIn K CParty = true)
    (po_Party : PySem.W.plainOver K CParty = true)
    (sa_Party : PySem.W.findIn K (.ref CParty) "__setattr__" = some (some (.builtin "object.__setattr__")))
    (mk_Party : PySem.W.makesIn K CParty = true)
    (kc_Party : PySem.W.keepIn K (.ref CParty) = true)
    (n0_Party : PySem.W.findIn K (.ref CParty) "_chart" = some none)
    (n1_Party : PySem.W.findIn K (.ref CParty) "_world" = some none)
    (n2_Party : PySem.W.findIn K (.ref CParty) "_course" = some none)
    (g_NoArrow : PySem.W.nsIn K mainGlobals "NoArrow" = some (some (.ref CNoArrow)))
    (e_NoArrow : PySem.W.excIn K CNoArrow [.type "ValueError", .type "Exception", .type "BaseException", .type "object"] "ValueError.__new__" = true)
    (k_NoArrow : PySem.W.keepIn K (.ref CNoArrow) = true)
    (i_NoArrow : PySem.W.isClsIn K CNoArrow = true)
    (b_NoArrow : PySem.W.subIn K (.ref CNoArrow) (.type "BaseException") = some true)
    (t_NoArrow : PySem.W.typeIn K (.ref CNoArrow) = some (.type "type"))
    (g_NoName : PySem.W.nsIn K mainGlobals "NoName" = some (some (.ref CNoName)))
    (e_NoName : PySem.W.excIn K CNoName [.type "ValueError", .type "Exception", .type "BaseException", .type "object"] "ValueError.__new__" = true)
    (k_NoName : PySem.W.keepIn K (.ref CNoName) = true)
    (i_NoName : PySem.W.isClsIn K CNoName = true)
    (b_NoName : PySem.W.subIn K (.ref CNoName) (.type "BaseException") = some true)
    (t_NoName : PySem.W.typeIn K (.ref CNoName) = some (.type "type"))
    (g_NoNews : PySem.W.nsIn K mainGlobals "NoNews" = some (some (.ref CNoNews)))
    (e_NoNews : PySem.W.excIn K CNoNews [.type "ValueError", .type "Exception", .type "BaseException", .type "object"] "ValueError.__new__" = true)
    (k_NoNews : PySem.W.keepIn K (.ref CNoNews) = true)
    (i_NoNews : PySem.W.isClsIn K CNoNews = true)
    (b_NoNews : PySem.W.subIn K (.ref CNoNews) (.type "BaseException") = some true)
    (t_NoNews : PySem.W.typeIn K (.ref CNoNews) = some (.type "type"))
    (g_NoPlace : PySem.W.nsIn K mainGlobals "NoPlace" = some (some (.ref CNoPlace)))
    (e_NoPlace : PySem.W.excIn K CNoPlace [.type "ValueError", .type "Exception", .type "BaseException", .type "object"] "ValueError.__new__" = true)
    (k_NoPlace : PySem.W.keepIn K (.ref CNoPlace) = true)
    (i_NoPlace : PySem.W.isClsIn K CNoPlace = true)
    (b_NoPlace : PySem.W.subIn K (.ref CNoPlace) (.type "BaseException") = some true)
    (t_NoPlace : PySem.W.typeIn K (.ref CNoPlace) = some (.type "type"))
    (g_NoStanding : PySem.W.nsIn K mainGlobals "NoStanding" = some (some (.ref CNoStanding)))
    (e_NoStanding : PySem.W.excIn K CNoStanding [.type "ValueError", .type "Exception", .type "BaseException", .type "object"] "ValueError.__new__" = true)
    (k_NoStanding : PySem.W.keepIn K (.ref CNoStanding) = true)
    (i_NoStanding : PySem.W.isClsIn K CNoStanding = true)
    (b_NoStanding : PySem.W.subIn K (.ref CNoStanding) (.type "BaseException") = some true)
    (t_NoStanding : PySem.W.typeIn K (.ref CNoStanding) = some (.type "type"))
    (g_NoTry : PySem.W.nsIn K mainGlobals "NoTry" = some (some (.ref CNoTry)))
    (e_NoTry : PySem.W.excIn K CNoTry [.type "ValueError", .type "Exception", .type "BaseException", .type "object"] "ValueError.__new__" = true)
    (k_NoTry : PySem.W.keepIn K (.ref CNoTry) = true)
    (i_NoTry : PySem.W.isClsIn K CNoTry = true)
    (b_NoTry : PySem.W.subIn K (.ref CNoTry) (.type "BaseException") = some true)
    (t_NoTry : PySem.W.typeIn K (.ref CNoTry) = some (.type "type"))
    (g_WayError : PySem.W.nsIn K mainGlobals "WayError" = some (some (.ref CWayError)))
    (e_WayError : PySem.W.excIn K CWayError [.type "ValueError", .type "Exception", .type "BaseException", .type "object"] "ValueError.__new__" = true)
    (k_WayError : PySem.W.keepIn K (.ref CWayError) = true)
    (i_WayError : PySem.W.isClsIn K CWayError = true)
    (b_WayError : PySem.W.subIn K (.ref CWayError) (.type "BaseException") = some true)
    (t_WayError : PySem.W.typeIn K (.ref CWayError) = some (.type "type"))
    (s_NoArrow_NoName : PySem.W.subIn K (.ref CNoArrow) (.ref CNoName) = some false)
    (s_NoArrow_NoStanding : PySem.W.subIn K (.ref CNoArrow) (.ref CNoStanding) = some false)
    (s_NoArrow_WayError : PySem.W.subIn K (.ref CNoArrow) (.ref CWayError) = some true)
    (s_NoName_NoName : PySem.W.subIn K (.ref CNoName) (.ref CNoName) = some true)
    (s_NoName_NoStanding : PySem.W.subIn K (.ref CNoName) (.ref CNoStanding) = some false)
    (s_NoNews_NoName : PySem.W.subIn K (.ref CNoNews) (.ref CNoName) = some false)
    (s_NoNews_NoStanding : PySem.W.subIn K (.ref CNoNews) (.ref CNoStanding) = some false)
    (s_NoNews_WayError : PySem.W.subIn K (.ref CNoNews) (.ref CWayError) = some true)
    (s_NoPlace_NoName : PySem.W.subIn K (.ref CNoPlace) (.ref CNoName) = some false)
    (s_NoPlace_NoStanding : PySem.W.subIn K (.ref CNoPlace) (.ref CNoStanding) = some false)
    (s_NoPlace_WayError : PySem.W.subIn K (.ref CNoPlace) (.ref CWayError) = some true)
    (s_NoStanding_NoStanding : PySem.W.subIn K (.ref CNoStanding) (.ref CNoStanding) = some true)
    (s_NoTry_NoName : PySem.W.subIn K (.ref CNoTry) (.ref CNoName) = some false)
    (s_NoTry_NoStanding : PySem.W.subIn K (.ref CNoTry) (.ref CNoStanding) = some false)
    (s_NoTry_WayError : PySem.W.subIn K (.ref CNoTry) (.ref CWayError) = some true)
    (oa_Map : PySem.W.findIn K (.ref CMap) "__class__" = some (some (.builtin "object.__class__")))
    (on_Map : PySem.W.specialIn K (.builtin "object.__class__") "__get__" = some (some (.builtin "getset_descriptor.__get__")))
    (ot_Map : PySem.W.takesIn K (.builtin "object.__class__") = some true)
    (om_Map : PySem.W.mroIn K CMap (.type "object") = some true)
    (okt_Map : PySem.W.subIn K (.ref CMap) (.type "tuple") = some false)
    (oki_Map : PySem.W.subIn K (.ref CMap) (.type "int") = some false)
    (okb_Map : PySem.W.subIn K (.ref CMap) (.type "bool") = some false)
    (oa_Party : PySem.W.findIn K (.ref CParty) "__class__" = some (some (.builtin "object.__class__")))
    (on_Party : PySem.W.specialIn K (.builtin "object.__class__") "__get__" = some (some (.builtin "getset_descriptor.__get__")))
    (ot_Party : PySem.W.takesIn K (.builtin "object.__class__") = some true)
    (om_Party : PySem.W.mroIn K CParty (.type "object") = some true)
    (okt_Party : PySem.W.subIn K (.ref CParty) (.type "tuple") = some false)
    (oki_Party : PySem.W.subIn K (.ref CParty) (.type "int") = some false)
    (okb_Party : PySem.W.subIn K (.ref CParty) (.type "bool") = some false)
    (gG_NAMES : PySem.W.nsIn K mainGlobals "NAMES" = some (some (.ref ANAMES)))
    (lG_NAMES : K.lookup ANAMES = some ⟨.type "tuple", dNAMES, .seq #[.str "first" tNAMES0, .str "last" tNAMES1, .str "all" tNAMES2, .str "near" tNAMES3, .str "far" tNAMES4] nNAMES, sNAMES⟩)
    (a0 : PySem.W.nsIn K mainGlobals "is_integer" = some (some (.ref f0)))
    (l0 : K.lookup f0 = some ⟨oc0, od0, .func (PySem.W.fnOf "is_integer" "is_integer" (defArgs s_is_integer) (defBody s_is_integer) (defScope s_is_integer) .none kV0 dc0 pm0 an0 cd0 ct0), sl0⟩)
    (c0 : PySem.W.codeIn K cd0 "is_integer" = true)
    (k0 : PySem.W.keepIn K (.ref f0) = true)
    (a1 : PySem.W.nsIn K mainGlobals "is_index" = some (some (.ref f1)))
    (l1 : K.lookup f1 = some ⟨oc1, od1, .func (PySem.W.fnOf "is_index" "is_index" (defArgs s_is_index) (defBody s_is_index) (defScope s_is_index) .none kV1 dc1 pm1 an1 cd1 ct1), sl1⟩)
    (c1 : PySem.W.codeIn K cd1 "is_index" = true)
    (k1 : PySem.W.keepIn K (.ref f1) = true)
    (a2 : PySem.W.nsIn K mainGlobals "is_any_lot" = some (some (.ref f2)))
    (l2 : K.lookup f2 = some ⟨oc2, od2, .func (PySem.W.fnOf "is_any_lot" "is_any_lot" (defArgs s_is_any_lot) (defBody s_is_any_lot) (defScope s_is_any_lot) .none kV2 dc2 pm2 an2 cd2 ct2), sl2⟩)
    (c2 : PySem.W.codeIn K cd2 "is_any_lot" = true)
    (k2 : PySem.W.keepIn K (.ref f2) = true)
    (a3 : PySem.W.nsIn K mainGlobals "is_lot" = some (some (.ref f3)))
    (l3 : K.lookup f3 = some ⟨oc3, od3, .func (PySem.W.fnOf "is_lot" "is_lot" (defArgs s_is_lot) (defBody s_is_lot) (defScope s_is_lot) .none kV3 dc3 pm3 an3 cd3 ct3), sl3⟩)
    (c3 : PySem.W.codeIn K cd3 "is_lot" = true)
    (k3 : PySem.W.keepIn K (.ref f3) = true)
    (a4 : PySem.W.nsIn K mainGlobals "marks" = some (some (.ref f4)))
    (l4 : K.lookup f4 = some ⟨oc4, od4, .func (PySem.W.fnOf "marks" "marks" (defArgs s_marks) (defBody s_marks) (defScope s_marks) .none kV4 dc4 pm4 an4 cd4 ct4), sl4⟩)
    (c4 : PySem.W.codeIn K cd4 "marks" = true)
    (k4 : PySem.W.keepIn K (.ref f4) = true)
    (a5 : PySem.W.nsIn K mainGlobals "steps_from" = some (some (.ref f5)))
    (l5 : K.lookup f5 = some ⟨oc5, od5, .func (PySem.W.fnOf "steps_from" "steps_from" (defArgs s_steps_from) (defBody s_steps_from) (defScope s_steps_from) .none kV5 dc5 pm5 an5 cd5 ct5), sl5⟩)
    (c5 : PySem.W.codeIn K cd5 "steps_from" = true)
    (k5 : PySem.W.keepIn K (.ref f5) = true)
    (a6 : PySem.W.nsIn K mainGlobals "leads_to_all" = some (some (.ref f6)))
    (l6 : K.lookup f6 = some ⟨oc6, od6, .func (PySem.W.fnOf "leads_to_all" "leads_to_all" (defArgs s_leads_to_all) (defBody s_leads_to_all) (defScope s_leads_to_all) .none kV6 dc6 pm6 an6 cd6 ct6), sl6⟩)
    (c6 : PySem.W.codeIn K cd6 "leads_to_all" = true)
    (k6 : PySem.W.keepIn K (.ref f6) = true)
    (a7 : PySem.W.findIn K (.ref CMap) "many" = some (some (.ref f7)))
    (i7 : PySem.W.isFn K (.ref f7) = true)
    (l7 : K.lookup f7 = some ⟨oc7, od7, .func (PySem.W.fnOf "many" "Map.many" (defArgs s_Map_many) (defBody s_Map_many) (defScope s_Map_many) .none kV7 dc7 pm7 an7 cd7 ct7), sl7⟩)
    (c7 : PySem.W.codeIn K cd7 "Map.many" = true)
    (k7 : PySem.W.keepIn K (.ref f7) = true)
    (a8 : PySem.W.findIn K (.ref CMap) "arrows" = some (some (.ref f8)))
    (i8 : PySem.W.isFn K (.ref f8) = true)
    (l8 : K.lookup f8 = some ⟨oc8, od8, .func (PySem.W.fnOf "arrows" "Map.arrows" (defArgs s_Map_arrows) (defBody s_Map_arrows) (defScope s_Map_arrows) .none kV8 dc8 pm8 an8 cd8 ct8), sl8⟩)
    (c8 : PySem.W.codeIn K cd8 "Map.arrows" = true)
    (k8 : PySem.W.keepIn K (.ref f8) = true)
    (a9 : PySem.W.findIn K (.ref CMap) "goals" = some (some (.ref f9)))
    (i9 : PySem.W.isFn K (.ref f9) = true)
    (l9 : K.lookup f9 = some ⟨oc9, od9, .func (PySem.W.fnOf "goals" "Map.goals" (defArgs s_Map_goals) (defBody s_Map_goals) (defScope s_Map_goals) .none kV9 dc9 pm9 an9 cd9 ct9), sl9⟩)
    (c9 : PySem.W.codeIn K cd9 "Map.goals" = true)
    (k9 : PySem.W.keepIn K (.ref f9) = true)
    (a10 : PySem.W.nsIn K mainGlobals "pairs_left" = some (some (.ref f10)))
    (l10 : K.lookup f10 = some ⟨oc10, od10, .func (PySem.W.fnOf "pairs_left" "pairs_left" (defArgs s_pairs_left) (defBody s_pairs_left) (defScope s_pairs_left) .none kV10 dc10 pm10 an10 cd10 ct10), sl10⟩)
    (c10 : PySem.W.codeIn K cd10 "pairs_left" = true)
    (k10 : PySem.W.keepIn K (.ref f10) = true)
    (a11 : PySem.W.nsIn K mainGlobals "is_pair" = some (some (.ref f11)))
    (l11 : K.lookup f11 = some ⟨oc11, od11, .func (PySem.W.fnOf "is_pair" "is_pair" (defArgs s_is_pair) (defBody s_is_pair) (defScope s_is_pair) .none kV11 dc11 pm11 an11 cd11 ct11), sl11⟩)
    (c11 : PySem.W.codeIn K cd11 "is_pair" = true)
    (k11 : PySem.W.keepIn K (.ref f11) = true)
    (a12 : PySem.W.nsIn K mainGlobals "check_pairs" = some (some (.ref f12)))
    (l12 : K.lookup f12 = some ⟨oc12, od12, .func (PySem.W.fnOf "check_pairs" "check_pairs" (defArgs s_check_pairs) (defBody s_check_pairs) (defScope s_check_pairs) .none kV12 dc12 pm12 an12 cd12 ct12), sl12⟩)
    (c12 : PySem.W.codeIn K cd12 "check_pairs" = true)
    (k12 : PySem.W.keepIn K (.ref f12) = true)
    (a13 : PySem.W.nsIn K mainGlobals "are_goals" = some (some (.ref f13)))
    (l13 : K.lookup f13 = some ⟨oc13, od13, .func (PySem.W.fnOf "are_goals" "are_goals" (defArgs s_are_goals) (defBody s_are_goals) (defScope s_are_goals) .none kV13 dc13 pm13 an13 cd13 ct13), sl13⟩)
    (c13 : PySem.W.codeIn K cd13 "are_goals" = true)
    (k13 : PySem.W.keepIn K (.ref f13) = true)
    (a14 : PySem.W.findIn K (.ref CMap) "__init__" = some (some (.ref f14)))
    (i14 : PySem.W.isFn K (.ref f14) = true)
    (l14 : K.lookup f14 = some ⟨oc14, od14, .func (PySem.W.fnOf "__init__" "Map.__init__" (defArgs s_Map___init__) (defBody s_Map___init__) (defScope s_Map___init__) .none kV14 dc14 pm14 an14 cd14 ct14), sl14⟩)
    (c14 : PySem.W.codeIn K cd14 "Map.__init__" = true)
    (k14 : PySem.W.keepIn K (.ref f14) = true)
    (a15 : PySem.W.nsIn K mainGlobals "goals_are_open" = some (some (.ref f15)))
    (l15 : K.lookup f15 = some ⟨oc15, od15, .func (PySem.W.fnOf "goals_are_open" "goals_are_open" (defArgs s_goals_are_open) (defBody s_goals_are_open) (defScope s_goals_are_open) .none kV15 dc15 pm15 an15 cd15 ct15), sl15⟩)
    (c15 : PySem.W.codeIn K cd15 "goals_are_open" = true)
    (k15 : PySem.W.keepIn K (.ref f15) = true)
    (a16 : PySem.W.nsIn K mainGlobals "holds_together" = some (some (.ref f16)))
    (l16 : K.lookup f16 = some ⟨oc16, od16, .func (PySem.W.fnOf "holds_together" "holds_together" (defArgs s_holds_together) (defBody s_holds_together) (defScope s_holds_together) .none kV16 dc16 pm16 an16 cd16 ct16), sl16⟩)
    (c16 : PySem.W.codeIn K cd16 "holds_together" = true)
    (k16 : PySem.W.keepIn K (.ref f16) = true)
    (a17 : PySem.W.nsIn K mainGlobals "_unreached_pairs" = some (some (.ref f17)))
    (l17 : K.lookup f17 = some ⟨oc17, od17, .func (PySem.W.fnOf "_unreached_pairs" "_unreached_pairs" (defArgs s__unreached_pairs) (defBody s__unreached_pairs) (defScope s__unreached_pairs) .none kV17 dc17 pm17 an17 cd17 ct17), sl17⟩)
    (c17 : PySem.W.codeIn K cd17 "_unreached_pairs" = true)
    (k17 : PySem.W.keepIn K (.ref f17) = true)
    (a18 : PySem.W.nsIn K mainGlobals "is_standing" = some (some (.ref f18)))
    (l18 : K.lookup f18 = some ⟨oc18, od18, .func (PySem.W.fnOf "is_standing" "is_standing" (defArgs s_is_standing) (defBody s_is_standing) (defScope s_is_standing) .none kV18 dc18 pm18 an18 cd18 ct18), sl18⟩)
    (c18 : PySem.W.codeIn K cd18 "is_standing" = true)
    (k18 : PySem.W.keepIn K (.ref f18) = true)
    (a19 : PySem.W.nsIn K mainGlobals "check_standing" = some (some (.ref f19)))
    (l19 : K.lookup f19 = some ⟨oc19, od19, .func (PySem.W.fnOf "check_standing" "check_standing" (defArgs s_check_standing) (defBody s_check_standing) (defScope s_check_standing) .none kV19 dc19 pm19 an19 cd19 ct19), sl19⟩)
    (c19 : PySem.W.codeIn K cd19 "check_standing" = true)
    (k19 : PySem.W.keepIn K (.ref f19) = true)
    (a20 : PySem.W.nsIn K mainGlobals "done_at" = some (some (.ref f20)))
    (l20 : K.lookup f20 = some ⟨oc20, od20, .func (PySem.W.fnOf "done_at" "done_at" (defArgs s_done_at) (defBody s_done_at) (defScope s_done_at) .none kV20 dc20 pm20 an20 cd20 ct20), sl20⟩)
    (c20 : PySem.W.codeIn K cd20 "done_at" = true)
    (k20 : PySem.W.keepIn K (.ref f20) = true)
    (a21 : PySem.W.nsIn K mainGlobals "is_done" = some (some (.ref f21)))
    (l21 : K.lookup f21 = some ⟨oc21, od21, .func (PySem.W.fnOf "is_done" "is_done" (defArgs s_is_done) (defBody s_is_done) (defScope s_is_done) .none kV21 dc21 pm21 an21 cd21 ct21), sl21⟩)
    (c21 : PySem.W.codeIn K cd21 "is_done" = true)
    (k21 : PySem.W.keepIn K (.ref f21) = true)
    (a22 : PySem.W.nsIn K mainGlobals "steps_to_go" = some (some (.ref f22)))
    (l22 : K.lookup f22 = some ⟨oc22, od22, .func (PySem.W.fnOf "steps_to_go" "steps_to_go" (defArgs s_steps_to_go) (defBody s_steps_to_go) (defScope s_steps_to_go) .none kV22 dc22 pm22 an22 cd22 ct22), sl22⟩)
    (c22 : PySem.W.codeIn K cd22 "steps_to_go" = true)
    (k22 : PySem.W.keepIn K (.ref f22) = true)
    (a23 : PySem.W.nsIn K mainGlobals "alive_at" = some (some (.ref f23)))
    (l23 : K.lookup f23 = some ⟨oc23, od23, .func (PySem.W.fnOf "alive_at" "alive_at" (defArgs s_alive_at) (defBody s_alive_at) (defScope s_alive_at) .none kV23 dc23 pm23 an23 cd23 ct23), sl23⟩)
    (c23 : PySem.W.codeIn K cd23 "alive_at" = true)
    (k23 : PySem.W.keepIn K (.ref f23) = true)
    (a24 : PySem.W.nsIn K mainGlobals "alive" = some (some (.ref f24)))
    (l24 : K.lookup f24 = some ⟨oc24, od24, .func (PySem.W.fnOf "alive" "alive" (defArgs s_alive) (defBody s_alive) (defScope s_alive) .none kV24 dc24 pm24 an24 cd24 ct24), sl24⟩)
    (c24 : PySem.W.codeIn K cd24 "alive" = true)
    (k24 : PySem.W.keepIn K (.ref f24) = true)
    (a25 : PySem.W.nsIn K mainGlobals "tries_at" = some (some (.ref f25)))
    (l25 : K.lookup f25 = some ⟨oc25, od25, .func (PySem.W.fnOf "tries_at" "tries_at" (defArgs s_tries_at) (defBody s_tries_at) (defScope s_tries_at) .none kV25 dc25 pm25 an25 cd25 ct25), sl25⟩)
    (c25 : PySem.W.codeIn K cd25 "tries_at" = true)
    (k25 : PySem.W.keepIn K (.ref f25) = true)
    (a26 : PySem.W.nsIn K mainGlobals "tries" = some (some (.ref f26)))
    (l26 : K.lookup f26 = some ⟨oc26, od26, .func (PySem.W.fnOf "tries" "tries" (defArgs s_tries) (defBody s_tries) (defScope s_tries) .none kV26 dc26 pm26 an26 cd26 ct26), sl26⟩)
    (c26 : PySem.W.codeIn K cd26 "tries" = true)
    (k26 : PySem.W.keepIn K (.ref f26) = true)
    (a27 : PySem.W.nsIn K mainGlobals "worth_at" = some (some (.ref f27)))
    (l27 : K.lookup f27 = some ⟨oc27, od27, .func (PySem.W.fnOf "worth_at" "worth_at" (defArgs s_worth_at) (defBody s_worth_at) (defScope s_worth_at) .none kV27 dc27 pm27 an27 cd27 ct27), sl27⟩)
    (c27 : PySem.W.codeIn K cd27 "worth_at" = true)
    (k27 : PySem.W.keepIn K (.ref f27) = true)
    (a28 : PySem.W.nsIn K mainGlobals "worth" = some (some (.ref f28)))
    (l28 : K.lookup f28 = some ⟨oc28, od28, .func (PySem.W.fnOf "worth" "worth" (defArgs s_worth) (defBody s_worth) (defScope s_worth) .none kV28 dc28 pm28 an28 cd28 ct28), sl28⟩)
    (c28 : PySem.W.codeIn K cd28 "worth" = true)
    (k28 : PySem.W.keepIn K (.ref f28) = true)
    (a29 : PySem.W.nsIn K mainGlobals "_law_led" = some (some (.ref f29)))
    (l29 : K.lookup f29 = some ⟨oc29, od29, .func (PySem.W.fnOf "_law_led" "_law_led" (defArgs s__law_led) (defBody s__law_led) (defScope s__law_led) .none kV29 dc29 pm29 an29 cd29 ct29), sl29⟩)
    (c29 : PySem.W.codeIn K cd29 "_law_led" = true)
    (k29 : PySem.W.keepIn K (.ref f29) = true)
    (a30 : PySem.W.nsIn K mainGlobals "_law_is_world" = some (some (.ref f30)))
    (l30 : K.lookup f30 = some ⟨oc30, od30, .func (PySem.W.fnOf "_law_is_world" "_law_is_world" (defArgs s__law_is_world) (defBody s__law_is_world) (defScope s__law_is_world) .none kV30 dc30 pm30 an30 cd30 ct30), sl30⟩)
    (c30 : PySem.W.codeIn K cd30 "_law_is_world" = true)
    (k30 : PySem.W.keepIn K (.ref f30) = true)
    (a31 : PySem.W.nsIn K mainGlobals "_law_is_standing" = some (some (.ref f31)))
    (l31 : K.lookup f31 = some ⟨oc31, od31, .func (PySem.W.fnOf "_law_is_standing" "_law_is_standing" (defArgs s__law_is_standing) (defBody s__law_is_standing) (defScope s__law_is_standing) .none kV31 dc31 pm31 an31 cd31 ct31), sl31⟩)
    (c31 : PySem.W.codeIn K cd31 "_law_is_standing" = true)
    (k31 : PySem.W.keepIn K (.ref f31) = true)
    (a32 : PySem.W.nsIn K mainGlobals "_law_hand" = some (some (.ref f32)))
    (l32 : K.lookup f32 = some ⟨oc32, od32, .func (PySem.W.fnOf "_law_hand" "_law_hand" (defArgs s__law_hand) (defBody s__law_hand) (defScope s__law_hand) .none kV32 dc32 pm32 an32 cd32 ct32), sl32⟩)
    (c32 : PySem.W.codeIn K cd32 "_law_hand" = true)
    (k32 : PySem.W.keepIn K (.ref f32) = true)
    (a33 : PySem.W.nsIn K mainGlobals "_law_draw" = some (some (.ref f33)))
    (l33 : K.lookup f33 = some ⟨oc33, od33, .func (PySem.W.fnOf "_law_draw" "_law_draw" (defArgs s__law_draw) (defBody s__law_draw) (defScope s__law_draw) .none kV33 dc33 pm33 an33 cd33 ct33), sl33⟩)
    (c33 : PySem.W.codeIn K cd33 "_law_draw" = true)
    (k33 : PySem.W.keepIn K (.ref f33) = true)
    (a34 : PySem.W.nsIn K mainGlobals "_law_shuffled" = some (some (.ref f34)))
    (l34 : K.lookup f34 = some ⟨oc34, od34, .func (PySem.W.fnOf "_law_shuffled" "_law_shuffled" (defArgs s__law_shuffled) (defBody s__law_shuffled) (defScope s__law_shuffled) .none kV34 dc34 pm34 an34 cd34 ct34), sl34⟩)
    (c34 : PySem.W.codeIn K cd34 "_law_shuffled" = true)
    (k34 : PySem.W.keepIn K (.ref f34) = true)
    (a35 : PySem.W.nsIn K mainGlobals "_law_tail" = some (some (.ref f35)))
    (l35 : K.lookup f35 = some ⟨oc35, od35, .func (PySem.W.fnOf "_law_tail" "_law_tail" (defArgs s__law_tail) (defBody s__law_tail) (defScope s__law_tail) .none kV35 dc35 pm35 an35 cd35 ct35), sl35⟩)
    (c35 : PySem.W.codeIn K cd35 "_law_tail" = true)
    (k35 : PySem.W.keepIn K (.ref f35) = true)
    (a36 : PySem.W.nsIn K mainGlobals "_law_renamed" = some (some (.ref f36)))
    (l36 : K.lookup f36 = some ⟨oc36, od36, .func (PySem.W.fnOf "_law_renamed" "_law_renamed" (defArgs s__law_renamed) (defBody s__law_renamed) (defScope s__law_renamed) .none kV36 dc36 pm36 an36 cd36 ct36), sl36⟩)
    (c36 : PySem.W.codeIn K cd36 "_law_renamed" = true)
    (k36 : PySem.W.keepIn K (.ref f36) = true)
    (a37 : PySem.W.nsIn K mainGlobals "_law_parts" = some (some (.ref f37)))
    (l37 : K.lookup f37 = some ⟨oc37, od37, .func (PySem.W.fnOf "_law_parts" "_law_parts" (defArgs s__law_parts) (defBody s__law_parts) (defScope s__law_parts) .none kV37 dc37 pm37 an37 cd37 ct37), sl37⟩)
    (c37 : PySem.W.codeIn K cd37 "_law_parts" = true)
    (k37 : PySem.W.keepIn K (.ref f37) = true)
    (a38 : PySem.W.nsIn K mainGlobals "_law_standing" = some (some (.ref f38)))
    (l38 : K.lookup f38 = some ⟨oc38, od38, .func (PySem.W.fnOf "_law_standing" "_law_standing" (defArgs s__law_standing) (defBody s__law_standing) (defScope s__law_standing) .none kV38 dc38 pm38 an38 cd38 ct38), sl38⟩)
    (c38 : PySem.W.codeIn K cd38 "_law_standing" = true)
    (k38 : PySem.W.keepIn K (.ref f38) = true)
    (a39 : PySem.W.nsIn K mainGlobals "is_flag" = some (some (.ref f39)))
    (l39 : K.lookup f39 = some ⟨oc39, od39, .func (PySem.W.fnOf "is_flag" "is_flag" (defArgs s_is_flag) (defBody s_is_flag) (defScope s_is_flag) .none kV39 dc39 pm39 an39 cd39 ct39), sl39⟩)
    (c39 : PySem.W.codeIn K cd39 "is_flag" = true)
    (k39 : PySem.W.keepIn K (.ref f39) = true)
    (a40 : PySem.W.nsIn K mainGlobals "with_item" = some (some (.ref f40)))
    (l40 : K.lookup f40 = some ⟨oc40, od40, .func (PySem.W.fnOf "with_item" "with_item" (defArgs s_with_item) (defBody s_with_item) (defScope s_with_item) .none kV40 dc40 pm40 an40 cd40 ct40), sl40⟩)
    (c40 : PySem.W.codeIn K cd40 "with_item" = true)
    (k40 : PySem.W.keepIn K (.ref f40) = true)
    (a41 : PySem.W.nsIn K mainGlobals "_check_unreached" = some (some (.ref f41)))
    (l41 : K.lookup f41 = some ⟨oc41, od41, .func (PySem.W.fnOf "_check_unreached" "_check_unreached" (defArgs s__check_unreached) (defBody s__check_unreached) (defScope s__check_unreached) .none kV41 dc41 pm41 an41 cd41 ct41), sl41⟩)
    (c41 : PySem.W.codeIn K cd41 "_check_unreached" = true)
    (k41 : PySem.W.keepIn K (.ref f41) = true)
    (a42 : PySem.W.nsIn K mainGlobals "check_try" = some (some (.ref f42)))
    (l42 : K.lookup f42 = some ⟨oc42, od42, .func (PySem.W.fnOf "check_try" "check_try" (defArgs s_check_try) (defBody s_check_try) (defScope s_check_try) .none kV42 dc42 pm42 an42 cd42 ct42), sl42⟩)
    (c42 : PySem.W.codeIn K cd42 "check_try" = true)
    (k42 : PySem.W.keepIn K (.ref f42) = true)
    (a43 : PySem.W.nsIn K mainGlobals "news_at" = some (some (.ref f43)))
    (l43 : K.lookup f43 = some ⟨oc43, od43, .func (PySem.W.fnOf "news_at" "news_at" (defArgs s_news_at) (defBody s_news_at) (defScope s_news_at) .none kV43 dc43 pm43 an43 cd43 ct43), sl43⟩)
    (c43 : PySem.W.codeIn K cd43 "news_at" = true)
    (k43 : PySem.W.keepIn K (.ref f43) = true)
    (a44 : PySem.W.nsIn K mainGlobals "checked_news_at" = some (some (.ref f44)))
    (l44 : K.lookup f44 = some ⟨oc44, od44, .func (PySem.W.fnOf "checked_news_at" "checked_news_at" (defArgs s_checked_news_at) (defBody s_checked_news_at) (defScope s_checked_news_at) .none kV44 dc44 pm44 an44 cd44 ct44), sl44⟩)
    (c44 : PySem.W.codeIn K cd44 "checked_news_at" = true)
    (k44 : PySem.W.keepIn K (.ref f44) = true)
    (a45 : PySem.W.nsIn K mainGlobals "news" = some (some (.ref f45)))
    (l45 : K.lookup f45 = some ⟨oc45, od45, .func (PySem.W.fnOf "news" "news" (defArgs s_news) (defBody s_news) (defScope s_news) .none kV45 dc45 pm45 an45 cd45 ct45), sl45⟩)
    (c45 : PySem.W.codeIn K cd45 "news" = true)
    (k45 : PySem.W.keepIn K (.ref f45) = true)
    (a46 : PySem.W.nsIn K mainGlobals "_one_into_each" = some (some (.ref f46)))
    (l46 : K.lookup f46 = some ⟨oc46, od46, .func (PySem.W.fnOf "_one_into_each" "_one_into_each" (defArgs s__one_into_each) (defBody s__one_into_each) (defScope s__one_into_each) .none kV46 dc46 pm46 an46 cd46 ct46), sl46⟩)
    (c46 : PySem.W.codeIn K cd46 "_one_into_each" = true)
    (k46 : PySem.W.keepIn K (.ref f46) = true)
    (a47 : PySem.W.nsIn K mainGlobals "sure" = some (some (.ref f47)))
    (l47 : K.lookup f47 = some ⟨oc47, od47, .func (PySem.W.fnOf "sure" "sure" (defArgs s_sure) (defBody s_sure) (defScope s_sure) .none kV47 dc47 pm47 an47 cd47 ct47), sl47⟩)
    (c47 : PySem.W.codeIn K cd47 "sure" = true)
    (k47 : PySem.W.keepIn K (.ref f47) = true)
    (a48 : PySem.W.nsIn K mainGlobals "world_with" = some (some (.ref f48)))
    (l48 : K.lookup f48 = some ⟨oc48, od48, .func (PySem.W.fnOf "world_with" "world_with" (defArgs s_world_with) (defBody s_world_with) (defScope s_world_with) .none kV48 dc48 pm48 an48 cd48 ct48), sl48⟩)
    (c48 : PySem.W.codeIn K cd48 "world_with" = true)
    (k48 : PySem.W.keepIn K (.ref f48) = true)
    (a49 : PySem.W.nsIn K mainGlobals "is_world" = some (some (.ref f49)))
    (l49 : K.lookup f49 = some ⟨oc49, od49, .func (PySem.W.fnOf "is_world" "is_world" (defArgs s_is_world) (defBody s_is_world) (defScope s_is_world) .none kV49 dc49 pm49 an49 cd49 ct49), sl49⟩)
    (c49 : PySem.W.codeIn K cd49 "is_world" = true)
    (k49 : PySem.W.keepIn K (.ref f49) = true)
    (a50 : PySem.W.nsIn K mainGlobals "arrows_nearer" = some (some (.ref f50)))
    (l50 : K.lookup f50 = some ⟨oc50, od50, .func (PySem.W.fnOf "arrows_nearer" "arrows_nearer" (defArgs s_arrows_nearer) (defBody s_arrows_nearer) (defScope s_arrows_nearer) .none kV50 dc50 pm50 an50 cd50 ct50), sl50⟩)
    (c50 : PySem.W.codeIn K cd50 "arrows_nearer" = true)
    (k50 : PySem.W.keepIn K (.ref f50) = true)
    (a51 : PySem.W.nsIn K mainGlobals "way_on" = some (some (.ref f51)))
    (l51 : K.lookup f51 = some ⟨oc51, od51, .func (PySem.W.fnOf "way_on" "way_on" (defArgs s_way_on) (defBody s_way_on) (defScope s_way_on) .none kV51 dc51 pm51 an51 cd51 ct51), sl51⟩)
    (c51 : PySem.W.codeIn K cd51 "way_on" = true)
    (k51 : PySem.W.keepIn K (.ref f51) = true)
    (a52 : PySem.W.nsIn K mainGlobals "dead_end" = some (some (.ref f52)))
    (l52 : K.lookup f52 = some ⟨oc52, od52, .func (PySem.W.fnOf "dead_end" "dead_end" (defArgs s_dead_end) (defBody s_dead_end) (defScope s_dead_end) .none kV52 dc52 pm52 an52 cd52 ct52), sl52⟩)
    (c52 : PySem.W.codeIn K cd52 "dead_end" = true)
    (k52 : PySem.W.keepIn K (.ref f52) = true)
    (a54 : PySem.W.nsIn K mainGlobals "begin" = some (some (.ref f54)))
    (l54 : K.lookup f54 = some ⟨oc54, od54, .func (PySem.W.fnOf "begin" "begin" (defArgs s_begin) (defBody s_begin) (defScope s_begin) .none kV54 dc54 pm54 an54 cd54 ct54), sl54⟩)
    (c54 : PySem.W.codeIn K cd54 "begin" = true)
    (k54 : PySem.W.keepIn K (.ref f54) = true)
    (a55 : PySem.W.nsIn K mainGlobals "are_tries" = some (some (.ref f55)))
    (l55 : K.lookup f55 = some ⟨oc55, od55, .func (PySem.W.fnOf "are_tries" "are_tries" (defArgs s_are_tries) (defBody s_are_tries) (defScope s_are_tries) .none kV55 dc55 pm55 an55 cd55 ct55), sl55⟩)
    (c55 : PySem.W.codeIn K cd55 "are_tries" = true)
    (k55 : PySem.W.keepIn K (.ref f55) = true)
    (a56 : PySem.W.findIn K (.ref CCourse) "__init__" = some (some (.ref f56)))
    (i56 : PySem.W.isFn K (.ref f56) = true)
    (l56 : K.lookup f56 = some ⟨oc56, od56, .func (PySem.W.fnOf "__init__" "Course.__init__" (defArgs s_Course___init__) (defBody s_Course___init__) (defScope s_Course___init__) .none kV56 dc56 pm56 an56 cd56 ct56), sl56⟩)
    (c56 : PySem.W.codeIn K cd56 "Course.__init__" = true)
    (k56 : PySem.W.keepIn K (.ref f56) = true)
    (a57 : PySem.W.findIn K (.ref CParty) "__init__" = some (some (.ref f57)))
    (i57 : PySem.W.isFn K (.ref f57) = true)
    (l57 : K.lookup f57 = some ⟨oc57, od57, .func (PySem.W.fnOf "__init__" "Party.__init__" (defArgs s_Party___init__) (defBody s_Party___init__) (defScope s_Party___init__) .none kV57 dc57 pm57 an57 cd57 ct57), sl57⟩)
    (c57 : PySem.W.codeIn K cd57 "Party.__init__" = true)
    (k57 : PySem.W.keepIn K (.ref f57) = true)
    (a64 : PySem.W.nsIn K mainGlobals "sent_by" = some (some (.ref f64)))
    (l64 : K.lookup f64 = some ⟨oc64, od64, .func (PySem.W.fnOf "sent_by" "sent_by" (defArgs s_sent_by) (defBody s_sent_by) (defScope s_sent_by) .none kV64 dc64 pm64 an64 cd64 ct64), sl64⟩)
    (c64 : PySem.W.codeIn K cd64 "sent_by" = true)
    (k64 : PySem.W.keepIn K (.ref f64) = true)
    (a77 : PySem.W.nsIn K mainGlobals "_law_is_index" = some (some (.ref f77)))
    (l77 : K.lookup f77 = some ⟨oc77, od77, .func (PySem.W.fnOf "_law_is_index" "_law_is_index" (defArgs s__law_is_index) (defBody s__law_is_index) (defScope s__law_is_index) .none kV77 dc77 pm77 an77 cd77 ct77), sl77⟩)
    (c77 : PySem.W.codeIn K cd77 "_law_is_index" = true)
    (k77 : PySem.W.keepIn K (.ref f77) = true)
    (a78 : PySem.W.nsIn K mainGlobals "_law_is_lot" = some (some (.ref f78)))
    (l78 : K.lookup f78 = some ⟨oc78, od78, .func (PySem.W.fnOf "_law_is_lot" "_law_is_lot" (defArgs s__law_is_lot) (defBody s__law_is_lot) (defScope s__law_is_lot) .none kV78 dc78 pm78 an78 cd78 ct78), sl78⟩)
    (c78 : PySem.W.codeIn K cd78 "_law_is_lot" = true)
    (k78 : PySem.W.keepIn K (.ref f78) = true)
    (a79 : PySem.W.nsIn K mainGlobals "_law_is_judged" = some (some (.ref f79)))
    (l79 : K.lookup f79 = some ⟨oc79, od79, .func (PySem.W.fnOf "_law_is_judged" "_law_is_judged" (defArgs s__law_is_judged) (defBody s__law_is_judged) (defScope s__law_is_judged) .none kV79 dc79 pm79 an79 cd79 ct79), sl79⟩)
    (c79 : PySem.W.codeIn K cd79 "_law_is_judged" = true)
    (k79 : PySem.W.keepIn K (.ref f79) = true)
    (a80 : PySem.W.nsIn K mainGlobals "_law_asked" = some (some (.ref f80)))
    (l80 : K.lookup f80 = some ⟨oc80, od80, .func (PySem.W.fnOf "_law_asked" "_law_asked" (defArgs s__law_asked) (defBody s__law_asked) (defScope s__law_asked) .none kV80 dc80 pm80 an80 cd80 ct80), sl80⟩)
    (c80 : PySem.W.codeIn K cd80 "_law_asked" = true)
    (k80 : PySem.W.keepIn K (.ref f80) = true)
    (a81 : PySem.W.nsIn K mainGlobals "_law_is_refused" = some (some (.ref f81)))
    (l81 : K.lookup f81 = some ⟨oc81, od81, .func (PySem.W.fnOf "_law_is_refused" "_law_is_refused" (defArgs s__law_is_refused) (defBody s__law_is_refused) (defScope s__law_is_refused) .none kV81 dc81 pm81 an81 cd81 ct81), sl81⟩)
    (c81 : PySem.W.codeIn K cd81 "_law_is_refused" = true)
    (k81 : PySem.W.keepIn K (.ref f81) = true)
    (a82 : PySem.W.nsIn K mainGlobals "_law_odd_lot" = some (some (.ref f82)))
    (l82 : K.lookup f82 = some ⟨oc82, od82, .func (PySem.W.fnOf "_law_odd_lot" "_law_odd_lot" (defArgs s__law_odd_lot) (defBody s__law_odd_lot) (defScope s__law_odd_lot) .none kV82 dc82 pm82 an82 cd82 ct82), sl82⟩)
    (c82 : PySem.W.codeIn K cd82 "_law_odd_lot" = true)
    (k82 : PySem.W.keepIn K (.ref f82) = true)
    (a83 : PySem.W.nsIn K mainGlobals "_law_deep" = some (some (.ref f83)))
    (l83 : K.lookup f83 = some ⟨oc83, od83, .func (PySem.W.fnOf "_law_deep" "_law_deep" (defArgs s__law_deep) (defBody s__law_deep) (defScope s__law_deep) .none kV83 dc83 pm83 an83 cd83 ct83), sl83⟩)
    (c83 : PySem.W.codeIn K cd83 "_law_deep" = true)
    (k83 : PySem.W.keepIn K (.ref f83) = true)
    (a84 : PySem.W.nsIn K mainGlobals "_law_thing" = some (some (.ref f84)))
    (l84 : K.lookup f84 = some ⟨oc84, od84, .func (PySem.W.fnOf "_law_thing" "_law_thing" (defArgs s__law_thing) (defBody s__law_thing) (defScope s__law_thing) .none kV84 dc84 pm84 an84 cd84 ct84), sl84⟩)
    (c84 : PySem.W.codeIn K cd84 "_law_thing" = true)
    (k84 : PySem.W.keepIn K (.ref f84) = true)
    (a85 : PySem.W.nsIn K mainGlobals "_law_is_far_refused" = some (some (.ref f85)))
    (l85 : K.lookup f85 = some ⟨oc85, od85, .func (PySem.W.fnOf "_law_is_far_refused" "_law_is_far_refused" (defArgs s__law_is_far_refused) (defBody s__law_is_far_refused) (defScope s__law_is_far_refused) .none kV85 dc85 pm85 an85 cd85 ct85), sl85⟩)
    (c85 : PySem.W.codeIn K cd85 "_law_is_far_refused" = true)
    (k85 : PySem.W.keepIn K (.ref f85) = true)
    (a86 : PySem.W.nsIn K mainGlobals "law" = some (some (.ref f86)))
    (l86 : K.lookup f86 = some ⟨oc86, od86, .func (PySem.W.fnOf "law" "law" (defArgs s_law) (defBody s_law) (defScope s_law) .none kV86 dc86 pm86 an86 cd86 ct86), sl86⟩)
    (c86 : PySem.W.codeIn K cd86 "law" = true)
    (k86 : PySem.W.keepIn K (.ref f86) = true) :
    ∃ fd : FuncData, (∀ (s : Shared) (v : Value), BindsTo s fd ⟨[v], []⟩ [("_law_script", v)]) ∧ ∀ base : Heap, K.In base → base.Ns mainGlobals mg → FnOk l.prog w K mg base CX0 11 fa fd ["_law_script"] (spLaw K) := by
  have e := hfa.symm.trans (PySem.W.mg_of X G a86)
  cases e
  have B : Bt mg := ⟨PySem.W.mg_none_of X G z_len, PySem.W.mg_none_of X G z_all, PySem.W.mg_none_of X G z_any, PySem.W.mg_none_of X G z_sorted, PySem.W.mg_none_of X G z_isinstance, PySem.W.mg_none_of X G z_abs, PySem.W.mg_none_of X G z_min, PySem.W.mg_none_of X G z_max, PySem.W.mg_none_of X G z_range, PySem.W.mg_none_of X G z_enumerate, PySem.W.mg_none_of X G z_int, PySem.W.mg_none_of X G z_list, PySem.W.mg_none_of X G z_tuple, PySem.W.mg_none_of X G z_str, PySem.W.mg_none_of X G z_bool, PySem.W.mg_none_of X G z_repr, PySem.W.mg_none_of X G z_zip, PySem.W.mg_none_of X G z_set, PySem.W.mg_none_of X G z_sum⟩
  have C : MapC K mg CMap := ⟨⟨pg, hd, po, sa⟩, n1, n2, n3, PySem.W.mg_of X G aC, ⟨_, PySem.W.mg_of X G c_FEWEST_PLACES⟩, ⟨_, PySem.W.mg_of X G c_MOST_PLACES⟩, ⟨_, PySem.W.mg_of X G c_MOST_ARROWS⟩⟩
  have C_Course : ClsC K mg "Course" CCourse ["_chart", "_told", "_stood"] := ⟨⟨pg_Course, hd_Course, po_Course, sa_Course⟩, List.forall_mem_cons.mpr ⟨n0_Course, List.forall_mem_cons.mpr ⟨n1_Course, List.forall_mem_cons.mpr ⟨n2_Course, fun _ h => (List.not_mem_nil h).elim⟩⟩⟩, PySem.W.mg_of X G aC_Course⟩
  have C_Party : ClsC K mg "Party" CParty ["_chart", "_world", "_course"] := ⟨⟨pg_Party, hd_Party, po_Party, sa_Party⟩, List.forall_mem_cons.mpr ⟨n0_Party, List.forall_mem_cons.mpr ⟨n1_Party, List.forall_mem_cons.mpr ⟨n2_Party, fun _ h => (List.not_mem_nil h).elim⟩⟩⟩, PySem.W.mg_of X G aC_Party⟩
  have T_NoArrow : Ex K mg "NoArrow" CNoArrow := ⟨PySem.W.mg_of X G g_NoArrow, e_NoArrow, k_NoArrow, b_NoArrow, t_NoArrow⟩
  have T_NoName : Ex K mg "NoName" CNoName := ⟨PySem.W.mg_of X G g_NoName, e_NoName, k_NoName, b_NoName, t_NoName⟩
  have T_NoNews : Ex K mg "NoNews" CNoNews := ⟨PySem.W.mg_of X G g_NoNews, e_NoNews, k_NoNews, b_NoNews, t_NoNews⟩
  have T_NoPlace : Ex K mg "NoPlace" CNoPlace := ⟨PySem.W.mg_of X G g_NoPlace, e_NoPlace, k_NoPlace, b_NoPlace, t_NoPlace⟩
  have T_NoStanding : Ex K mg "NoStanding" CNoStanding := ⟨PySem.W.mg_of X G g_NoStanding, e_NoStanding, k_NoStanding, b_NoStanding, t_NoStanding⟩
  have T_NoTry : Ex K mg "NoTry" CNoTry := ⟨PySem.W.mg_of X G g_NoTry, e_NoTry, k_NoTry, b_NoTry, t_NoTry⟩
  have T_WayError : Ex K mg "WayError" CWayError := ⟨PySem.W.mg_of X G g_WayError, e_WayError, k_WayError, b_WayError, t_WayError⟩
  have m_NoArrow_NoName := exm_pair b_NoName i_NoName t_NoName s_NoArrow_NoName
  have m_NoArrow_NoStanding := exm_pair b_NoStanding i_NoStanding t_NoStanding s_NoArrow_NoStanding
  have m_NoArrow_WayError := exm_pair b_WayError i_WayError t_WayError s_NoArrow_WayError
  have m_NoName_NoName := exm_pair b_NoName i_NoName t_NoName s_NoName_NoName
  have m_NoName_NoStanding := exm_pair b_NoStanding i_NoStanding t_NoStanding s_NoName_NoStanding
  have m_NoNews_NoName := exm_pair b_NoName i_NoName t_NoName s_NoNews_NoName
  have m_NoNews_NoStanding := exm_pair b_NoStanding i_NoStanding t_NoStanding s_NoNews_NoStanding
  have m_NoNews_WayError := exm_pair b_WayError i_WayError t_WayError s_NoNews_WayError
  have m_NoPlace_NoName := exm_pair b_NoName i_NoName t_NoName s_NoPlace_NoName
  have m_NoPlace_NoStanding := exm_pair b_NoStanding i_NoStanding t_NoStanding s_NoPlace_NoStanding
  have m_NoPlace_WayError := exm_pair b_WayError i_WayError t_WayError s_NoPlace_WayError
  have m_NoStanding_NoStanding := exm_pair b_NoStanding i_NoStanding t_NoStanding s_NoStanding_NoStanding
  have m_NoTry_NoName := exm_pair b_NoName i_NoName t_NoName s_NoTry_NoName
  have m_NoTry_NoStanding := exm_pair b_NoStanding i_NoStanding t_NoStanding s_NoTry_NoStanding
  have m_NoTry_WayError := exm_pair b_WayError i_WayError t_WayError s_NoTry_WayError
  have O_Map : OwnC K CMap := ⟨C.cl, oa_Map, on_Map, ot_Map, om_Map, kit_sub (by decide +kernel) okt_Map, kit_sub (by decide +kernel) oki_Map, kit_sub (by decide +kernel) okb_Map⟩
  have O_Party : OwnC K CParty := ⟨C_Party.cl, oa_Party, on_Party, ot_Party, om_Party, kit_sub (by decide +kernel) okt_Party, kit_sub (by decide +kernel) oki_Party, kit_sub (by decide +kernel) okb_Party⟩
  have G_NAMES : GTup K mg "NAMES" ANAMES [.str "first", .str "last", .str "all", .str "near", .str "far"] := ⟨PySem.W.mg_of X G gG_NAMES, fun _ => .inr ⟨_, _, _, lG_NAMES, rfl, rfl, (by show 5 ≤ sizeLine; decide), .cons ⟨_, rfl⟩ (.cons ⟨_, rfl⟩ (.cons ⟨_, rfl⟩ (.cons ⟨_, rfl⟩ (.cons ⟨_, rfl⟩ (.nil)))))⟩⟩
  have D_is_integer : Df K mg "is_integer" s_is_integer ["thing"] := ⟨f0, _, PySem.W.mg_of X G a0, (fun_mk (st := s_is_integer) l0 c0 k0), (fun_mk (st := s_is_integer) l0 c0 k0).binds bd_is_integer⟩
  have D_is_index : Df K mg "is_index" s_is_index ["thing", "many"] := ⟨f1, _, PySem.W.mg_of X G a1, (fun_mk (st := s_is_index) l1 c1 k1), (fun_mk (st := s_is_index) l1 c1 k1).binds bd_is_index⟩
  have D_is_any_lot : Df K mg "is_any_lot" s_is_any_lot ["thing"] := ⟨f2, _, PySem.W.mg_of X G a2, (fun_mk (st := s_is_any_lot) l2 c2 k2), (fun_mk (st := s_is_any_lot) l2 c2 k2).binds bd_is_any_lot⟩
  have D_is_lot : Df K mg "is_lot" s_is_lot ["thing", "many"] := ⟨f3, _, PySem.W.mg_of X G a3, (fun_mk (st := s_is_lot) l3 c3 k3), (fun_mk (st := s_is_lot) l3 c3 k3).binds bd_is_lot⟩
  have D_marks : Df K mg "marks" s_marks ["many", "lot"] := ⟨f4, _, PySem.W.mg_of X G a4, (fun_mk (st := s_marks) l4 c4 k4), (fun_mk (st := s_marks) l4 c4 k4).binds bd_marks⟩
  have D_steps_from : Df K mg "steps_from" s_steps_from ["many", "pairs", "sources"] := ⟨f5, _, PySem.W.mg_of X G a5, (fun_mk (st := s_steps_from) l5 c5 k5), (fun_mk (st := s_steps_from) l5 c5 k5).binds bd_steps_from⟩
  have D_leads_to_all : Df K mg "leads_to_all" s_leads_to_all ["many", "pairs", "places"] := ⟨f6, _, PySem.W.mg_of X G a6, (fun_mk (st := s_leads_to_all) l6 c6 k6), (fun_mk (st := s_leads_to_all) l6 c6 k6).binds bd_leads_to_all⟩
  have D_Map_many : DfM K CMap "many" "Map.many" s_Map_many ["self"] := ⟨f7, _, ⟨a7, i7, k7⟩, (fun_mk (st := s_Map_many) l7 c7 k7), (fun_mk (st := s_Map_many) l7 c7 k7).binds bd_Map_many⟩
  have D_Map_arrows : DfM K CMap "arrows" "Map.arrows" s_Map_arrows ["self"] := ⟨f8, _, ⟨a8, i8, k8⟩, (fun_mk (st := s_Map_arrows) l8 c8 k8), (fun_mk (st := s_Map_arrows) l8 c8 k8).binds bd_Map_arrows⟩
  have D_Map_goals : DfM K CMap "goals" "Map.goals" s_Map_goals ["self"] := ⟨f9, _, ⟨a9, i9, k9⟩, (fun_mk (st := s_Map_goals) l9 c9 k9), (fun_mk (st := s_Map_goals) l9 c9 k9).binds bd_Map_goals⟩
  have D_pairs_left : Df K mg "pairs_left" s_pairs_left ["arrows", "rotten"] := ⟨f10, _, PySem.W.mg_of X G a10, (fun_mk (st := s_pairs_left) l10 c10 k10), (fun_mk (st := s_pairs_left) l10 c10 k10).binds bd_pairs_left⟩
  have D_is_pair : Df K mg "is_pair" s_is_pair ["thing", "many"] := ⟨f11, _, PySem.W.mg_of X G a11, (fun_mk (st := s_is_pair) l11 c11 k11), (fun_mk (st := s_is_pair) l11 c11 k11).binds bd_is_pair⟩
  have D_check_pairs : Df K mg "check_pairs" s_check_pairs ["many", "pairs", "most"] := ⟨f12, _, PySem.W.mg_of X G a12, (fun_mk (st := s_check_pairs) l12 c12 k12), (fun_mk (st := s_check_pairs) l12 c12 k12).binds bd_check_pairs⟩
  have D_are_goals : Df K mg "are_goals" s_are_goals ["thing", "many", "arrows"] := ⟨f13, _, PySem.W.mg_of X G a13, (fun_mk (st := s_are_goals) l13 c13 k13), (fun_mk (st := s_are_goals) l13 c13 k13).binds bd_are_goals⟩
  have D_Map___init__ : DfI K CMap "Map.__init__" s_Map___init__ ["self", "many", "arrows", "goals"] := ⟨f14, _, ⟨mk, a14, i14, kc⟩, (fun_mk (st := s_Map___init__) l14 c14 k14), (fun_mk (st := s_Map___init__) l14 c14 k14).binds bd_Map___init__⟩
  have D_goals_are_open : Df K mg "goals_are_open" s_goals_are_open ["chart", "rotten"] := ⟨f15, _, PySem.W.mg_of X G a15, (fun_mk (st := s_goals_are_open) l15 c15 k15), (fun_mk (st := s_goals_are_open) l15 c15 k15).binds bd_goals_are_open⟩
  have D_holds_together : Df K mg "holds_together" s_holds_together ["chart", "reached", "rotten"] := ⟨f16, _, PySem.W.mg_of X G a16, (fun_mk (st := s_holds_together) l16 c16 k16), (fun_mk (st := s_holds_together) l16 c16 k16).binds bd_holds_together⟩
  have D__unreached_pairs : Df K mg "_unreached_pairs" s__unreached_pairs ["chart", "standing"] := ⟨f17, _, PySem.W.mg_of X G a17, (fun_mk (st := s__unreached_pairs) l17 c17 k17), (fun_mk (st := s__unreached_pairs) l17 c17 k17).binds bd__unreached_pairs⟩
  have D_is_standing : Df K mg "is_standing" s_is_standing ["chart", "thing"] := ⟨f18, _, PySem.W.mg_of X G a18, (fun_mk (st := s_is_standing) l18 c18 k18), (fun_mk (st := s_is_standing) l18 c18 k18).binds bd_is_standing⟩
  have D_check_standing : Df K mg "check_standing" s_check_standing ["chart", "thing"] := ⟨f19, _, PySem.W.mg_of X G a19, (fun_mk (st := s_check_standing) l19 c19 k19), (fun_mk (st := s_check_standing) l19 c19 k19).binds bd_check_standing⟩
  have D_done_at : Df K mg "done_at" s_done_at ["chart", "standing"] := ⟨f20, _, PySem.W.mg_of X G a20, (fun_mk (st := s_done_at) l20 c20 k20), (fun_mk (st := s_done_at) l20 c20 k20).binds bd_done_at⟩
  have D_is_done : Df K mg "is_done" s_is_done ["chart", "standing"] := ⟨f21, _, PySem.W.mg_of X G a21, (fun_mk (st := s_is_done) l21 c21 k21), (fun_mk (st := s_is_done) l21 c21 k21).binds bd_is_done⟩
  have D_steps_to_go : Df K mg "steps_to_go" s_steps_to_go ["chart", "standing"] := ⟨f22, _, PySem.W.mg_of X G a22, (fun_mk (st := s_steps_to_go) l22 c22 k22), (fun_mk (st := s_steps_to_go) l22 c22 k22).binds bd_steps_to_go⟩
  have D_alive_at : Df K mg "alive_at" s_alive_at ["chart", "standing"] := ⟨f23, _, PySem.W.mg_of X G a23, (fun_mk (st := s_alive_at) l23 c23 k23), (fun_mk (st := s_alive_at) l23 c23 k23).binds bd_alive_at⟩
  have D_alive : Df K mg "alive" s_alive ["chart", "standing"] := ⟨f24, _, PySem.W.mg_of X G a24, (fun_mk (st := s_alive) l24 c24 k24), (fun_mk (st := s_alive) l24 c24 k24).binds bd_alive⟩
  have D_tries_at : Df K mg "tries_at" s_tries_at ["chart", "standing"] := ⟨f25, _, PySem.W.mg_of X G a25, (fun_mk (st := s_tries_at) l25 c25 k25), (fun_mk (st := s_tries_at) l25 c25 k25).binds bd_tries_at⟩
  have D_tries : Df K mg "tries" s_tries ["chart", "standing"] := ⟨f26, _, PySem.W.mg_of X G a26, (fun_mk (st := s_tries) l26 c26 k26), (fun_mk (st := s_tries) l26 c26 k26).binds bd_tries⟩
  have D_worth_at : Df K mg "worth_at" s_worth_at ["chart", "standing"] := ⟨f27, _, PySem.W.mg_of X G a27, (fun_mk (st := s_worth_at) l27 c27 k27), (fun_mk (st := s_worth_at) l27 c27 k27).binds bd_worth_at⟩
  have D_worth : Df K mg "worth" s_worth ["chart", "standing"] := ⟨f28, _, PySem.W.mg_of X G a28, (fun_mk (st := s_worth) l28 c28 k28), (fun_mk (st := s_worth) l28 c28 k28).binds bd_worth⟩
  have D__law_led : Df K mg "_law_led" s__law_led ["_law_arrows", "_law_begun", "_law_let", "_law_barred"] := ⟨f29, _, PySem.W.mg_of X G a29, (fun_mk (st := s__law_led) l29 c29 k29), (fun_mk (st := s__law_led) l29 c29 k29).binds bd__law_led⟩
  have D__law_is_world : Df K mg "_law_is_world" s__law_is_world ["_law_parts_here", "_law_rotten"] := ⟨f30, _, PySem.W.mg_of X G a30, (fun_mk (st := s__law_is_world) l30 c30 k30), (fun_mk (st := s__law_is_world) l30 c30 k30).binds bd__law_is_world⟩
  have D__law_is_standing : Df K mg "_law_is_standing" s__law_is_standing ["_law_parts_here", "_law_reached", "_law_rotten"] := ⟨f31, _, PySem.W.mg_of X G a31, (fun_mk (st := s__law_is_standing) l31 c31 k31), (fun_mk (st := s__law_is_standing) l31 c31 k31).binds bd__law_is_standing⟩
  have D__law_hand : Df K mg "_law_hand" s__law_hand ["_law_script"] := ⟨f32, _, PySem.W.mg_of X G a32, (fun_mk (st := s__law_hand) l32 c32 k32), (fun_mk (st := s__law_hand) l32 c32 k32).binds bd__law_hand⟩
  have D__law_draw : Df K mg "_law_draw" s__law_draw ["_law_hand_here", "_law_many"] := ⟨f33, _, PySem.W.mg_of X G a33, (fun_mk (st := s__law_draw) l33 c33 k33), (fun_mk (st := s__law_draw) l33 c33 k33).binds bd__law_draw⟩
  have D__law_shuffled : Df K mg "_law_shuffled" s__law_shuffled ["_law_hand_here", "_law_things"] := ⟨f34, _, PySem.W.mg_of X G a34, (fun_mk (st := s__law_shuffled) l34 c34 k34), (fun_mk (st := s__law_shuffled) l34 c34 k34).binds bd__law_shuffled⟩
  have D__law_tail : Df K mg "_law_tail" s__law_tail ["_law_hand_here", "_law_pairs", "_law_goals", "_law_place"] := ⟨f35, _, PySem.W.mg_of X G a35, (fun_mk (st := s__law_tail) l35 c35 k35), (fun_mk (st := s__law_tail) l35 c35 k35).binds bd__law_tail⟩
  have D__law_renamed : Df K mg "_law_renamed" s__law_renamed ["_law_hand_here", "_law_many", "_law_pairs", "_law_goals"] := ⟨f36, _, PySem.W.mg_of X G a36, (fun_mk (st := s__law_renamed) l36 c36 k36), (fun_mk (st := s__law_renamed) l36 c36 k36).binds bd__law_renamed⟩
  have D__law_parts : Df K mg "_law_parts" s__law_parts ["_law_hand_here", "_law_places", "_law_arrows"] := ⟨f37, _, PySem.W.mg_of X G a37, (fun_mk (st := s__law_parts) l37 c37 k37), (fun_mk (st := s__law_parts) l37 c37 k37).binds bd__law_parts⟩
  have D__law_standing : Df K mg "_law_standing" s__law_standing ["_law_hand_here", "_law_parts_here"] := ⟨f38, _, PySem.W.mg_of X G a38, (fun_mk (st := s__law_standing) l38 c38 k38), (fun_mk (st := s__law_standing) l38 c38 k38).binds bd__law_standing⟩
  have D_is_flag : Df K mg "is_flag" s_is_flag ["thing"] := ⟨f39, _, PySem.W.mg_of X G a39, (fun_mk (st := s_is_flag) l39 c39 k39), (fun_mk (st := s_is_flag) l39 c39 k39).binds bd_is_flag⟩
  have D_with_item : Df K mg "with_item" s_with_item ["lot", "item"] := ⟨f40, _, PySem.W.mg_of X G a40, (fun_mk (st := s_with_item) l40 c40 k40), (fun_mk (st := s_with_item) l40 c40 k40).binds bd_with_item⟩
  have D__check_unreached : Df K mg "_check_unreached" s__check_unreached ["chart", "standing", "place"] := ⟨f41, _, PySem.W.mg_of X G a41, (fun_mk (st := s__check_unreached) l41 c41 k41), (fun_mk (st := s__check_unreached) l41 c41 k41).binds bd__check_unreached⟩
  have D_check_try : Df K mg "check_try" s_check_try ["chart", "standing", "thing"] := ⟨f42, _, PySem.W.mg_of X G a42, (fun_mk (st := s_check_try) l42 c42 k42), (fun_mk (st := s_check_try) l42 c42 k42).binds bd_check_try⟩
  have D_news_at : Df K mg "news_at" s_news_at ["chart", "standing", "arrow", "sound"] := ⟨f43, _, PySem.W.mg_of X G a43, (fun_mk (st := s_news_at) l43 c43 k43), (fun_mk (st := s_news_at) l43 c43 k43).binds bd_news_at⟩
  have D_checked_news_at : Df K mg "checked_news_at" s_checked_news_at ["chart", "standing", "arrow", "sound"] := ⟨f44, _, PySem.W.mg_of X G a44, (fun_mk (st := s_checked_news_at) l44 c44 k44), (fun_mk (st := s_checked_news_at) l44 c44 k44).binds bd_checked_news_at⟩
  have D_news : Df K mg "news" s_news ["chart", "standing", "arrow", "sound"] := ⟨f45, _, PySem.W.mg_of X G a45, (fun_mk (st := s_news) l45 c45 k45), (fun_mk (st := s_news) l45 c45 k45).binds bd_news⟩
  have D__one_into_each : Df K mg "_one_into_each" s__one_into_each ["chart", "rotten"] := ⟨f46, _, PySem.W.mg_of X G a46, (fun_mk (st := s__one_into_each) l46 c46 k46), (fun_mk (st := s__one_into_each) l46 c46 k46).binds bd__one_into_each⟩
  have D_sure : Df K mg "sure" s_sure ["chart", "standing"] := ⟨f47, _, PySem.W.mg_of X G a47, (fun_mk (st := s_sure) l47 c47 k47), (fun_mk (st := s_sure) l47 c47 k47).binds bd_sure⟩
  have D_world_with : Df K mg "world_with" s_world_with ["chart", "standing", "arrow", "sound"] := ⟨f48, _, PySem.W.mg_of X G a48, (fun_mk (st := s_world_with) l48 c48 k48), (fun_mk (st := s_world_with) l48 c48 k48).binds bd_world_with⟩
  have D_is_world : Df K mg "is_world" s_is_world ["chart", "thing"] := ⟨f49, _, PySem.W.mg_of X G a49, (fun_mk (st := s_is_world) l49 c49 k49), (fun_mk (st := s_is_world) l49 c49 k49).binds bd_is_world⟩
  have D_arrows_nearer : Df K mg "arrows_nearer" s_arrows_nearer ["chart", "standing", "steps"] := ⟨f50, _, PySem.W.mg_of X G a50, (fun_mk (st := s_arrows_nearer) l50 c50 k50), (fun_mk (st := s_arrows_nearer) l50 c50 k50).binds bd_arrows_nearer⟩
  have D_way_on : Df K mg "way_on" s_way_on ["chart", "standing", "place"] := ⟨f51, _, PySem.W.mg_of X G a51, (fun_mk (st := s_way_on) l51 c51 k51), (fun_mk (st := s_way_on) l51 c51 k51).binds bd_way_on⟩
  have D_dead_end : Df K mg "dead_end" s_dead_end ["chart", "standing", "place"] := ⟨f52, _, PySem.W.mg_of X G a52, (fun_mk (st := s_dead_end) l52 c52 k52), (fun_mk (st := s_dead_end) l52 c52 k52).binds bd_dead_end⟩
  have D_begin : Df K mg "begin" s_begin ["chart"] := ⟨f54, _, PySem.W.mg_of X G a54, (fun_mk (st := s_begin) l54 c54 k54), (fun_mk (st := s_begin) l54 c54 k54).binds bd_begin⟩
  have D_are_tries : Df K mg "are_tries" s_are_tries ["chart", "standing", "thing"] := ⟨f55, _, PySem.W.mg_of X G a55, (fun_mk (st := s_are_tries) l55 c55 k55), (fun_mk (st := s_are_tries) l55 c55 k55).binds bd_are_tries⟩
  have D_Course___init__ : DfI K CCourse "Course.__init__" s_Course___init__ ["self", "chart"] := ⟨f56, _, ⟨mk_Course, a56, i56, kc_Course⟩, (fun_mk (st := s_Course___init__) l56 c56 k56), (fun_mk (st := s_Course___init__) l56 c56 k56).binds bd_Course___init__⟩
  have D_Party___init__ : DfI K CParty "Party.__init__" s_Party___init__ ["self", "chart", "world"] := ⟨f57, _, ⟨mk_Party, a57, i57, kc_Party⟩, (fun_mk (st := s_Party___init__) l57 c57 k57), (fun_mk (st := s_Party___init__) l57 c57 k57).binds bd_Party___init__⟩
  have D_sent_by : Df K mg "sent_by" s_sent_by ["chart", "name", "standing"] := ⟨f64, _, PySem.W.mg_of X G a64, (fun_mk (st := s_sent_by) l64 c64 k64), (fun_mk (st := s_sent_by) l64 c64 k64).binds bd_sent_by⟩
  have D__law_is_index : Df K mg "_law_is_index" s__law_is_index ["_law_thing_here", "_law_many"] := ⟨f77, _, PySem.W.mg_of X G a77, (fun_mk (st := s__law_is_index) l77 c77 k77), (fun_mk (st := s__law_is_index) l77 c77 k77).binds bd__law_is_index⟩
  have D__law_is_lot : Df K mg "_law_is_lot" s__law_is_lot ["_law_thing_here", "_law_many"] := ⟨f78, _, PySem.W.mg_of X G a78, (fun_mk (st := s__law_is_lot) l78 c78 k78), (fun_mk (st := s__law_is_lot) l78 c78 k78).binds bd__law_is_lot⟩
  have D__law_is_judged : Df K mg "_law_is_judged" s__law_is_judged ["_law_parts_here", "_law_thing_here"] := ⟨f79, _, PySem.W.mg_of X G a79, (fun_mk (st := s__law_is_judged) l79 c79 k79), (fun_mk (st := s__law_is_judged) l79 c79 k79).binds bd__law_is_judged⟩
  have D__law_asked : Df K mg "_law_asked" s__law_asked ["_law_way", "_law_chart", "_law_thing_here", "_law_last", "_law_more"] := ⟨f80, _, PySem.W.mg_of X G a80, (fun_mk (st := s__law_asked) l80 c80 k80), (fun_mk (st := s__law_asked) l80 c80 k80).binds bd__law_asked⟩
  have D__law_is_refused : Df K mg "_law_is_refused" s__law_is_refused ["_law_way", "_law_chart", "_law_good", "_law_thing_here", "_law_last", "_law_more"] := ⟨f81, _, PySem.W.mg_of X G a81, (fun_mk (st := s__law_is_refused) l81 c81 k81), (fun_mk (st := s__law_is_refused) l81 c81 k81).binds bd__law_is_refused⟩
  have D__law_odd_lot : Df K mg "_law_odd_lot" s__law_odd_lot ["_law_hand_here", "_law_many", "_law_lot"] := ⟨f82, _, PySem.W.mg_of X G a82, (fun_mk (st := s__law_odd_lot) l82 c82 k82), (fun_mk (st := s__law_odd_lot) l82 c82 k82).binds bd__law_odd_lot⟩
  have D__law_deep : Df K mg "_law_deep" s__law_deep ["_law_hand_here"] := ⟨f83, _, PySem.W.mg_of X G a83, (fun_mk (st := s__law_deep) l83 c83 k83), (fun_mk (st := s__law_deep) l83 c83 k83).binds bd__law_deep⟩
  have D__law_thing : Df K mg "_law_thing" s__law_thing ["_law_hand_here", "_law_parts_here", "_law_chart", "_law_standing_here"] := ⟨f84, _, PySem.W.mg_of X G a84, (fun_mk (st := s__law_thing) l84 c84 k84), (fun_mk (st := s__law_thing) l84 c84 k84).binds bd__law_thing⟩
  have D__law_is_far_refused : Df K mg "_law_is_far_refused" s__law_is_far_refused ["_law_hand_here", "_law_chart"] := ⟨f85, _, PySem.W.mg_of X G a85, (fun_mk (st := s__law_is_far_refused) l85 c85 k85), (fun_mk (st := s__law_is_far_refused) l85 c85 k85).binds bd__law_is_far_refused⟩
  have F_law := fun_mk (st := s_law) l86 c86 k86
  refine ⟨PySem.W.fnOf "law" "law" (defArgs s_law) (defBody s_law) (defScope s_law) .none kV86 dc86 pm86 an86 cd86 ct86, fun s v => .of_eq rfl, fun base _ _ => ?_⟩
  have h_is_integer := ok_is_integer (P := l.prog) (w := w) (base := base) B D_is_integer
  have h_is_index := ok_is_index (P := l.prog) (w := w) (base := base) h_is_integer D_is_index
  have h_is_any_lot := ok_is_any_lot (P := l.prog) (w := w) (base := base) B h_is_integer D_is_any_lot
  have h_is_lot := ok_is_lot (P := l.prog) (w := w) (base := base) B h_is_any_lot D_is_lot
  have h_marks := ok_marks (P := l.prog) (w := w) (base := base) D_marks
  have h_steps_from := ok_steps_from (P := l.prog) (w := w) (base := base) B D_steps_from
  have h_leads_to_all := ok_leads_to_all (P := l.prog) (w := w) (base := base) B h_steps_from D_leads_to_all
  have h_many := ok_many (P := l.prog) (w := w) (base := base) (CMap := CMap) C D_Map_many
  have h_arrows := ok_arrows (P := l.prog) (w := w) (base := base) (CMap := CMap) C D_Map_arrows
  have h_goals := ok_goals (P := l.prog) (w := w) (base := base) (CMap := CMap) C D_Map_goals
  have h_pairs_left := ok_pairs_left (P := l.prog) (w := w) (base := base) B h_marks D_pairs_left
  have h_is_pair := ok_is_pair (P := l.prog) (w := w) (base := base) B h_is_index D_is_pair
  have h_check_pairs := ok_check_pairs (P := l.prog) (w := w) (base := base) (CMap := CMap) B C h_is_integer h_is_pair D_check_pairs
  have h_are_goals := ok_are_goals (P := l.prog) (w := w) (base := base) B h_is_lot h_leads_to_all D_are_goals
  have h_init := ok_Map_init (P := l.prog) (w := w) (base := base) (CMap := CMap) C h_check_pairs h_are_goals D_Map___init__
  have h_goals_are_open := ok_goals_are_open (P := l.prog) (w := w) (base := base) (CMap := CMap) C h_leads_to_all h_pairs_left h_many h_arrows h_goals D_goals_are_open
  have h_holds_together := ok_holds_together (P := l.prog) (w := w) (base := base) (CMap := CMap) C h_marks h_leads_to_all h_pairs_left h_many h_arrows D_holds_together
  have h_unreached_pairs := ok__unreached_pairs (P := l.prog) (w := w) (base := base) (CMap := CMap) C h_marks h_pairs_left h_many h_arrows D__unreached_pairs
  have h_is_standing := ok_is_standing (P := l.prog) (w := w) (base := base) (CMap := CMap) B C h_is_lot h_marks h_holds_together h_goals_are_open h_many h_arrows D_is_standing
  have h_check_standing := ok_check_standing (P := l.prog) (w := w) (base := base) (CMap := CMap) h_is_standing D_check_standing
  have h_done_at := ok_done_at (P := l.prog) (w := w) (base := base) (CMap := CMap) B C h_marks h_many h_goals D_done_at
  have h_is_done := ok_is_done (P := l.prog) (w := w) (base := base) (CMap := CMap) h_check_standing h_done_at D_is_done
  have h_steps_to_go := ok_steps_to_go (P := l.prog) (w := w) (base := base) (CMap := CMap) C h_marks h_steps_from h_unreached_pairs h_many h_goals D_steps_to_go
  have h_alive_at := ok_alive_at (P := l.prog) (w := w) (base := base) (CMap := CMap) B C h_steps_to_go h_many D_alive_at
  have h_alive := ok_alive (P := l.prog) (w := w) (base := base) (CMap := CMap) h_check_standing h_alive_at D_alive
  have h_tries_at := ok_tries_at (P := l.prog) (w := w) (base := base) (CMap := CMap) B C h_marks h_many h_arrows D_tries_at
  have h_tries := ok_tries (P := l.prog) (w := w) (base := base) (CMap := CMap) h_check_standing h_tries_at D_tries
  have h_worth_at := ok_worth_at (P := l.prog) (w := w) (base := base) (CMap := CMap) B C h_tries_at h_steps_to_go h_arrows D_worth_at
  have h_worth := ok_worth (P := l.prog) (w := w) (base := base) (CMap := CMap) h_check_standing h_worth_at D_worth
  have h_law_led := ok__law_led (P := l.prog) (w := w) (base := base) B D__law_led
  have h_law_is_world := ok__law_is_world (P := l.prog) (w := w) (base := base) B h_law_led D__law_is_world
  have h_law_is_standing := ok__law_is_standing (P := l.prog) (w := w) (base := base) B h_law_led h_law_is_world D__law_is_standing
  have h_law_hand := ok__law_hand (P := l.prog) (w := w) (base := base) B D__law_hand
  have h_law_draw := ok__law_draw (P := l.prog) (w := w) (base := base) B D__law_draw
  have h_law_shuffled := ok__law_shuffled (P := l.prog) (w := w) (base := base) B h_law_draw D__law_shuffled
  have h_law_tail := ok__law_tail (P := l.prog) (w := w) (base := base) B h_law_draw D__law_tail
  have h_law_renamed := ok__law_renamed (P := l.prog) (w := w) (base := base) B h_law_shuffled D__law_renamed
  have h_law_parts := ok__law_parts (P := l.prog) (w := w) (base := base) B h_law_draw h_law_tail h_law_shuffled h_law_renamed D__law_parts
  have h_law_standing := ok__law_standing (P := l.prog) (w := w) (base := base) B h_law_draw h_law_shuffled h_law_is_standing D__law_standing
  have h_is_flag := ok_is_flag (P := l.prog) (w := w) (base := base) B D_is_flag
  have h_with_item := ok_with_item (P := l.prog) (w := w) (base := base) B D_with_item
  have h_check_unreached := ok__check_unreached (P := l.prog) (w := w) (base := base) (CMap := CMap) C h_check_standing h_is_index h_many D__check_unreached
  have h_check_try := ok_check_try (P := l.prog) (w := w) (base := base) (CMap := CMap) B C h_is_index h_tries_at h_arrows D_check_try
  have h_news_at := ok_news_at (P := l.prog) (w := w) (base := base) (CMap := CMap) C h_with_item h_goals_are_open h_arrows D_news_at
  have h_checked_news_at := ok_checked_news_at (P := l.prog) (w := w) (base := base) (CMap := CMap) h_check_try h_is_flag h_news_at D_checked_news_at
  have h_news := ok_news (P := l.prog) (w := w) (base := base) (CMap := CMap) h_check_standing h_checked_news_at D_news
  have h_one_into_each := ok__one_into_each (P := l.prog) (w := w) (base := base) (CMap := CMap) B C h_marks h_pairs_left h_steps_from h_many h_arrows D__one_into_each
  have h_sure := ok_sure (P := l.prog) (w := w) (base := base) (CMap := CMap) B C h_check_standing h_one_into_each h_with_item h_goals_are_open D_sure
  have h_world_with := ok_world_with (P := l.prog) (w := w) (base := base) (CMap := CMap) B C h_check_standing h_is_index h_is_flag h_with_item h_holds_together h_goals_are_open h_arrows D_world_with
  have h_is_world := ok_is_world (P := l.prog) (w := w) (base := base) (CMap := CMap) B C h_is_lot h_goals_are_open h_arrows D_is_world
  have h_arrows_nearer := ok_arrows_nearer (P := l.prog) (w := w) (base := base) (CMap := CMap) B C h_marks h_arrows D_arrows_nearer
  have h_way_on := ok_way_on (P := l.prog) (w := w) (base := base) (CMap := CMap) B C h_check_unreached h_steps_to_go h_arrows_nearer h_arrows D_way_on
  have h_dead_end := ok_dead_end (P := l.prog) (w := w) (base := base) (CMap := CMap) B C h_check_unreached h_steps_to_go h_steps_from h_unreached_pairs h_many h_arrows D_dead_end
  have hX_check_try := okx_check_try (P := l.prog) (w := w) (base := base) B C T_NoTry h_check_try h_is_index h_tries_at h_arrows D_check_try
  have h_begin := ok_begin (P := l.prog) (w := w) (base := base) D_begin
  have h_are_tries := ok_are_tries (P := l.prog) (w := w) (base := base) (CMap := CMap) B C h_is_lot h_tries_at h_arrows D_are_tries
  have h_Course_init := ok_Course_init (P := l.prog) (w := w) (base := base) (CMap := CMap) (CCourse := CCourse) C_Course h_begin D_Course___init__
  have h_Party_init := ok_Party_init (P := l.prog) (w := w) (base := base) (CMap := CMap) (CCourse := CCourse) (CParty := CParty) C_Course C_Party h_is_world h_Course_init D_Party___init__
  have hg_is_integer := okg_is_integer (P := l.prog) (w := w) (base := base) B D_is_integer
  have hg_is_any_lot := okg_is_any_lot (P := l.prog) (w := w) (base := base) B hg_is_integer D_is_any_lot
  have hg_is_lot := okg_is_lot (P := l.prog) (w := w) (base := base) B hg_is_any_lot D_is_lot
  have hg_is_standing := okg_is_standing (P := l.prog) (w := w) (base := base) B C hg_is_lot h_marks h_holds_together h_goals_are_open h_many h_arrows D_is_standing
  have hX_check_standing := okx_check_standing (P := l.prog) (w := w) (base := base) T_NoStanding hg_is_standing D_check_standing
  have hX_check_unreached := okx__check_unreached (P := l.prog) (w := w) (base := base) C T_NoPlace h_check_unreached hX_check_standing h_is_index h_many D__check_unreached
  have h_sent_by := ok_sent_by (P := l.prog) (w := w) (base := base) B C G_NAMES h_check_standing h_worth_at h_steps_to_go h_arrows D_sent_by
  have hX_sent_by := okx_sent_by (P := l.prog) (w := w) (base := base) B C T_NoName G_NAMES h_sent_by hX_check_standing h_worth_at h_steps_to_go h_arrows D_sent_by
  have hX_is_done := okx_is_done (P := l.prog) (w := w) (base := base) h_is_done hX_check_standing h_done_at D_is_done
  have hX_alive := okx_alive (P := l.prog) (w := w) (base := base) h_alive hX_check_standing h_alive_at D_alive
  have hX_tries := okx_tries (P := l.prog) (w := w) (base := base) h_tries hX_check_standing h_tries_at D_tries
  have hX_worth := okx_worth (P := l.prog) (w := w) (base := base) h_worth hX_check_standing h_worth_at D_worth
  have hX_sure := okx_sure (P := l.prog) (w := w) (base := base) B C h_sure hX_check_standing h_one_into_each h_with_item h_goals_are_open D_sure
  have hg_is_flag := okg_is_flag (P := l.prog) (w := w) (base := base) B D_is_flag
  have hX_checked_news_at := okx_checked_news_at (P := l.prog) (w := w) (base := base) T_NoNews h_checked_news_at hX_check_try hg_is_flag h_news_at D_checked_news_at
  have hX_news := okx_news (P := l.prog) (w := w) (base := base) h_news hX_check_standing hX_checked_news_at D_news
  have hX_world_with := okx_world_with (P := l.prog) (w := w) (base := base) B C T_NoArrow T_NoNews h_world_with hX_check_standing h_is_index hg_is_flag h_with_item h_holds_together h_goals_are_open h_arrows D_world_with
  have hX_way_on := okx_way_on (P := l.prog) (w := w) (base := base) B C h_way_on hX_check_unreached h_steps_to_go h_arrows_nearer h_arrows D_way_on
  have hX_dead_end := okx_dead_end (P := l.prog) (w := w) (base := base) B C h_dead_end hX_check_unreached h_steps_to_go h_steps_from h_unreached_pairs h_many h_arrows D_dead_end
  have h_law_is_index := ok__law_is_index (P := l.prog) (w := w) (base := base) B D__law_is_index
  have h_law_is_lot := ok__law_is_lot (P := l.prog) (w := w) (base := base) B h_law_is_index D__law_is_lot
  have h_law_is_judged := ok__law_is_judged (P := l.prog) (w := w) (base := base) B h_law_is_lot h_law_is_standing D__law_is_judged
  have h_law_asked := ok__law_asked (P := l.prog) (w := w) (base := base) (CMap := CMap) T_NoStanding T_NoName T_WayError m_NoStanding_NoStanding m_NoName_NoStanding m_NoName_NoName m_NoTry_NoStanding m_NoTry_NoName m_NoTry_WayError m_NoNews_NoStanding m_NoNews_NoName m_NoNews_WayError m_NoPlace_NoStanding m_NoPlace_NoName m_NoPlace_WayError m_NoArrow_NoStanding m_NoArrow_NoName m_NoArrow_WayError hX_is_done hX_alive hX_tries hX_worth hX_sure hX_news hX_way_on hX_dead_end hX_world_with hX_sent_by D__law_asked
  have h_law_is_refused := ok__law_is_refused (P := l.prog) (w := w) (base := base) (CMap := CMap) h_law_asked D__law_is_refused
  have h_law_odd_lot := ok__law_odd_lot (P := l.prog) (w := w) (base := base) B h_law_draw D__law_odd_lot
  have h_law_deep := ok__law_deep (P := l.prog) (w := w) (base := base) B h_law_draw D__law_deep
  have h_law_thing := ok__law_thing (P := l.prog) (w := w) (base := base) (CMap := CMap) B h_law_draw h_law_odd_lot D__law_thing
  have h_law_is_far_refused := ok__law_is_far_refused (P := l.prog) (w := w) (base := base) (CMap := CMap) (CCourse := CCourse) (CParty := CParty) B C_Party h_law_draw h_law_deep h_Party_init h_law_is_refused D__law_is_far_refused
  exact ok_law (P := l.prog) (w := w) (base := base) (CMap := CMap) (CParty := CParty) B C O_Map O_Party h_init h_law_hand h_law_draw h_law_parts h_law_standing h_begin h_law_thing h_law_is_judged h_law_is_refused h_law_is_far_refused F_law
end
theorem walk {l : PySem.W.OpenLaw} {q : Program} {loose : List Str} {XP : (Str → Option Value) → Heap → Prop} {YP : World → Heap → Prop} {d : DefRec} {K : Params → PySem.W.Frag} (hn : l.most = some 63) (hdf : d.params.defaults = [])
    (hY : ∀ (w : World) (h : Heap), YP w h → (K w.params).In h)
    (F : ∀ (w : World) (mg : Str → Option Value) (fa : Addr) (h : Heap), (K w.params).In h → h.Ns mainGlobals mg → mg d.name = some (.ref fa) →
      ∃ fd : FuncData, (∀ (s : Shared) (u : Value), BindsTo s fd ⟨[u], []⟩ [("_law_script", u)]) ∧ ∀ base : Heap, (K w.params).In base → base.Ns mainGlobals mg → FnOk l.prog w (K w.params) mg base CX0 11 fa fd ["_law_script"] (spLaw (K w.params))) :
    PySem.W.WalkO q loose XP YP l.row.toRowW d [] (fun f vs => PySem.call f vs) :=
  L2.walk_of (n := 63) (k := 11) (x := "_law_script") (CX := fun _ => CX0) (sp := fun w => spLaw (K w.params)) hn (by decide) hdf ⟨rfl, by decide, by decide⟩ hY F (fun _ _ a ns hl _ hS => ⟨a, ns, rfl, hS, hl, fun _ => rfl⟩) fun _ _ _ _ _ z => z
end U
open PySem PySem.W PyProof.Rows
set_option maxRecDepth 100000 in
set_option maxHeartbeats 0 in
theorem PySem.Challenge.cw_untriedways_k03_standings_told_apart_holds : PySem.Challenge.rw_untriedways_k03_standings_told_apart.Holds := by
  w_on; o_law; k_head; (case hw => w_witness2)
  k_fill
  refine U.walk (l := PySem.Challenge.rw_untriedways_k03_standings_told_apart) rfl rfl (fun w h Y => PySem.W.kIn_of Y) ?F
  case F =>
    intro w mg fa h KX G hmg
    refine' U.all_mk KX G hmg ?z_len ?z_all ?z_any ?z_sorted ?z_isinstance ?z_abs ?z_min ?z_max ?z_range ?z_enumerate ?z_int ?z_list ?z_tuple ?z_str ?z_bool ?z_repr ?z_zip ?z_set ?z_sum ?aC ?pg ?hd ?po ?sa ?mk ?kc ?n1 ?n2 ?n3 ?c_FEWEST_PLACES ?c_MOST_PLACES ?c_MOST_ARROWS ?aC_Course ?pg_Course ?hd_Course ?po_Course ?sa_Course ?mk_Course ?kc_Course ?n0_Course ?n1_Course ?n2_Course ?aC_Party ?pg_Party ?hd_Party ?po_Party ?sa_Party ?mk_Party ?kc_Party ?n0_Party ?n1_Party ?n2_Party ?g_NoArrow ?e_NoArrow ?k_NoArrow ?i_NoArrow ?b_NoArrow ?t_NoArrow ?g_NoName ?e_NoName ?k_NoName ?i_NoName ?b_NoName ?t_NoName ?g_NoNews ?e_NoNews ?k_NoNews ?i_NoNews ?b_NoNews ?t_NoNews ?g_NoPlace ?e_NoPlace ?k_NoPlace ?i_NoPlace ?b_NoPlace ?t_NoPlace ?g_NoStanding ?e_NoStanding ?k_NoStanding ?i_NoStanding ?b_NoStanding ?t_NoStanding ?g_NoTry ?e_NoTry ?k_NoTry ?i_NoTry ?b_NoTry ?t_NoTry ?g_WayError ?e_WayError ?k_WayError ?i_WayError ?b_WayError ?t_WayError ?s_NoArrow_NoName ?s_NoArrow_NoStanding ?s_NoArrow_WayError ?s_NoName_NoName ?s_NoName_NoStanding ?s_NoNews_NoName ?s_NoNews_NoStanding ?s_NoNews_WayError ?s_NoPlace_NoName ?s_NoPlace_NoStanding ?s_NoPlace_WayError ?s_NoStanding_NoStanding ?s_NoTry_NoName ?s_NoTry_NoStanding ?s_NoTry_WayError ?oa_Map ?on_Map ?ot_Map ?om_Map ?okt_Map ?oki_Map ?okb_Map ?oa_Party ?on_Party ?ot_Party ?om_Party ?okt_Party ?oki_Party ?okb_Party ?gG_NAMES ?lG_NAMES ?a0 ?l0 ?c0 ?k0 ?a1 ?l1 ?c1 ?k1 ?a2 ?l2 ?c2 ?k2 ?a3 ?l3 ?c3 ?k3 ?a4 ?l4 ?c4 ?k4 ?a5 ?l5 ?c5 ?k5 ?a6 ?l6 ?c6 ?k6 ?a7 ?i7 ?l7 ?c7 ?k7 ?a8 ?i8 ?l8 ?c8 ?k8 ?a9 ?i9 ?l9 ?c9 ?k9 ?a10 ?l10 ?c10 ?k10 ?a11 ?l11 ?c11 ?k11 ?a12 ?l12 ?c12 ?k12 ?a13 ?l13 ?c13 ?k13 ?a14 ?i14 ?l14 ?c14 ?k14 ?a15 ?l15 ?c15 ?k15 ?a16 ?l16 ?c16 ?k16 ?a17 ?l17 ?c17 ?k17 ?a18 ?l18 ?c18 ?k18 ?a19 ?l19 ?c19 ?k19 ?a20 ?l20 ?c20 ?k20 ?a21 ?l21 ?c21 ?k21 ?a22 ?l22 ?c22 ?k22 ?a23 ?l23 ?c23 ?k23 ?a24 ?l24 ?c24 ?k24 ?a25 ?l25 ?c25 ?k25 ?a26 ?l26 ?c26 ?k26 ?a27 ?l27 ?c27 ?k27 ?a28 ?l28 ?c28 ?k28 ?a29 ?l29 ?c29 ?k29 ?a30 ?l30 ?c30 ?k30 ?a31 ?l31 ?c31 ?k31 ?a32 ?l32 ?c32 ?k32 ?a33 ?l33 ?c33 ?k33 ?a34 ?l34 ?c34 ?k34 ?a35 ?l35 ?c35 ?k35 ?a36 ?l36 ?c36 ?k36 ?a37 ?l37 ?c37 ?k37 ?a38 ?l38 ?c38 ?k38 ?a39 ?l39 ?c39 ?k39 ?a40 ?l40 ?c40 ?k40 ?a41 ?l41 ?c41 ?k41 ?a42 ?l42 ?c42 ?k42 ?a43 ?l43 ?c43 ?k43 ?a44 ?l44 ?c44 ?k44 ?a45 ?l45 ?c45 ?k45 ?a46 ?l46 ?c46 ?k46 ?a47 ?l47 ?c47 ?k47 ?a48 ?l48 ?c48 ?k48 ?a49 ?l49 ?c49 ?k49 ?a50 ?l50 ?c50 ?k50 ?a51 ?l51 ?c51 ?k51 ?a52 ?l52 ?c52 ?k52 ?a54 ?l54 ?c54 ?k54 ?a55 ?l55 ?c55 ?k55 ?a56 ?i56 ?l56 ?c56 ?k56 ?a57 ?i57 ?l57 ?c57 ?k57 ?a64 ?l64 ?c64 ?k64 ?a77 ?l77 ?c77 ?k77 ?a78 ?l78 ?c78 ?k78 ?a79 ?l79 ?c79 ?k79 ?a80 ?l80 ?c80 ?k80 ?a81 ?l81 ?c81 ?k81 ?a82 ?l82 ?c82 ?k82 ?a83 ?l83 ?c83 ?k83 ?a84 ?l84 ?c84 ?k84 ?a85 ?l85 ?c85 ?k85 ?a86 ?l86 ?c86 ?k86
    (case z_len => k_is)
    (case z_all => k_is)
    (case z_any => k_is)
    (case z_sorted => k_is)
    (case z_isinstance => k_is)
    (case z_abs => k_is)
    (case z_min => k_is)
    (case z_max => k_is)
    (case z_range => k_is)
    (case z_enumerate => k_is)
    (case z_int => k_is)
    (case z_list => k_is)
    (case z_tuple => k_is)
    (case z_str => k_is)
    (case z_bool => k_is)
    (case z_repr => k_is)
    (case z_zip => k_is)
    (case z_set => k_is)
    (case z_sum => k_is)
    (case aC => k_is)
    (case pg => k_is)
    (case hd => k_is)
    (case po => k_is)
    (case sa => k_is)
    (case mk => k_is)
    (case kc => k_is)
    (case n1 => k_is)
    (case n2 => k_is)
    (case n3 => k_is)
    (case c_FEWEST_PLACES => k_is)
    (case c_MOST_PLACES => k_is)
    (case c_MOST_ARROWS => k_is)
    (case aC_Course => k_is)
    (case pg_Course => k_is)
    (case hd_Course => k_is)
    (case po_Course => k_is)
    (case sa_Course => k_is)
    (case mk_Course => k_is)
    (case kc_Course => k_is)
    (case n0_Course => k_is)
    (case n1_Course => k_is)
    (case n2_Course => k_is)
    (case aC_Party => k_is)
    (case pg_Party => k_is)
    (case hd_Party => k_is)
    (case po_Party => k_is)
    (case sa_Party => k_is)
    (case mk_Party => k_is)
    (case kc_Party => k_is)
    (case n0_Party => k_is)
    (case n1_Party => k_is)
    (case n2_Party => k_is)
    (case g_NoArrow => k_is)
    (case e_NoArrow => k_exc)
    (case k_NoArrow => k_is)
    (case i_NoArrow => k_is)
    (case b_NoArrow => k_is)
    (case t_NoArrow => k_is)
    (case g_NoName => k_is)
    (case e_NoName => k_exc)
    (case k_NoName => k_is)
    (case i_NoName => k_is)
    (case b_NoName => k_is)
    (case t_NoName => k_is)
    (case g_NoNews => k_is)
    (case e_NoNews => k_exc)
    (case k_NoNews => k_is)
    (case i_NoNews => k_is)
    (case b_NoNews => k_is)
    (case t_NoNews => k_is)
    (case g_NoPlace => k_is)
    (case e_NoPlace => k_exc)
    (case k_NoPlace => k_is)
    (case i_NoPlace => k_is)
    (case b_NoPlace => k_is)
    (case t_NoPlace => k_is)
    (case g_NoStanding => k_is)
    (case e_NoStanding => k_exc)
    (case k_NoStanding => k_is)
    (case i_NoStanding => k_is)
    (case b_NoStanding => k_is)
    (case t_NoStanding => k_is)
    (case g_NoTry => k_is)
    (case e_NoTry => k_exc)
    (case k_NoTry => k_is)
    (case i_NoTry => k_is)
    (case b_NoTry => k_is)
    (case t_NoTry => k_is)
    (case g_WayError => k_is)
    (case e_WayError => k_exc)
    (case k_WayError => k_is)
    (case i_WayError => k_is)
    (case b_WayError => k_is)
    (case t_WayError => k_is)
    (case s_NoArrow_NoName => first | rfl | k_is)
    (case s_NoArrow_NoStanding => first | rfl | k_is)
    (case s_NoArrow_WayError => first | rfl | k_is)
    (case s_NoName_NoName => first | rfl | k_is)
    (case s_NoName_NoStanding => first | rfl | k_is)
    (case s_NoNews_NoName => first | rfl | k_is)
    (case s_NoNews_NoStanding => first | rfl | k_is)
    (case s_NoNews_WayError => first | rfl | k_is)
    (case s_NoPlace_NoName => first | rfl | k_is)
    (case s_NoPlace_NoStanding => first | rfl | k_is)
    (case s_NoPlace_WayError => first | rfl | k_is)
    (case s_NoStanding_NoStanding => first | rfl | k_is)
    (case s_NoTry_NoName => first | rfl | k_is)
    (case s_NoTry_NoStanding => first | rfl | k_is)
    (case s_NoTry_WayError => first | rfl | k_is)
    (case oa_Map => k_is)
    (case on_Map => k_is)
    (case ot_Map => k_is)
    (case om_Map => k_is)
    (case okt_Map => k_is)
    (case oki_Map => k_is)
    (case okb_Map => k_is)
    (case oa_Party => k_is)
    (case on_Party => k_is)
    (case ot_Party => k_is)
    (case om_Party => k_is)
    (case okt_Party => k_is)
    (case oki_Party => k_is)
    (case okb_Party => k_is)
    (case gG_NAMES => k_is)
    (case lG_NAMES => k_is)
    (case a0 => k_is)
    (case l0 => k_is)
    (case c0 => k_is)
    (case k0 => k_is)
    (case a1 => k_is)
    (case l1 => k_is)
    (case c1 => k_is)
    (case k1 => k_is)
    (case a2 => k_is)
    (case l2 => k_is)
    (case c2 => k_is)
    (case k2 => k_is)
    (case a3 => k_is)
    (case l3 => k_is)
    (case c3 => k_is)
    (case k3 => k_is)
    (case a4 => k_is)
    (case l4 => k_is)
    (case c4 => k_is)
    (case k4 => k_is)
    (case a5 => k_is)
    (case l5 => k_is)
    (case c5 => k_is)
    (case k5 => k_is)
    (case a6 => k_is)
    (case l6 => k_is)
    (case c6 => k_is)
    (case k6 => k_is)
    (case a7 => k_is)
    (case i7 => k_is)
    (case l7 => k_is)
    (case c7 => k_is)
    (case k7 => k_is)
    (case a8 => k_is)
    (case i8 => k_is)
    (case l8 => k_is)
    (case c8 => k_is)
    (case k8 => k_is)
    (case a9 => k_is)
    (case i9 => k_is)
    (case l9 => k_is)
    (case c9 => k_is)
    (case k9 => k_is)
    (case a10 => k_is)
    (case l10 => k_is)
    (case c10 => k_is)
    (case k10 => k_is)
    (case a11 => k_is)
    (case l11 => k_is)
    (case c11 => k_is)
    (case k11 => k_is)
    (case a12 => k_is)
    (case l12 => k_is)
    (case c12 => k_is)
    (case k12 => k_is)
    (case a13 => k_is)
    (case l13 => k_is)
    (case c13 => k_is)
    (case k13 => k_is)
    (case a14 => k_is)
    (case i14 => k_is)
    (case l14 => k_is)
    (case c14 => k_is)
    (case k14 => k_is)
    (case a15 => k_is)
    (case l15 => k_is)
    (case c15 => k_is)
    (case k15 => k_is)
    (case a16 => k_is)
    (case l16 => k_is)
    (case c16 => k_is)
    (case k16 => k_is)
    (case a17 => k_is)
    (case l17 => k_is)
    (case c17 => k_is)
    (case k17 => k_is)
    (case a18 => k_is)
    (case l18 => k_is)
    (case c18 => k_is)
    (case k18 => k_is)
    (case a19 => k_is)
    (case l19 => k_is)
    (case c19 => k_is)
    (case k19 => k_is)
    (case a20 => k_is)
    (case l20 => k_is)
    (case c20 => k_is)
    (case k20 => k_is)
    (case a21 => k_is)
    (case l21 => k_is)
    (case c21 => k_is)
    (case k21 => k_is)
    (case a22 => k_is)
    (case l22 => k_is)
    (case c22 => k_is)
    (case k22 => k_is)
    (case a23 => k_is)
    (case l23 => k_is)
    (case c23 => k_is)
    (case k23 => k_is)
    (case a24 => k_is)
    (case l24 => k_is)
    (case c24 => k_is)
    (case k24 => k_is)
    (case a25 => k_is)
    (case l25 => k_is)
    (case c25 => k_is)
    (case k25 => k_is)
    (case a26 => k_is)
    (case l26 => k_is)
    (case c26 => k_is)
    (case k26 => k_is)
    (case a27 => k_is)
    (case l27 => k_is)
    (case c27 => k_is)
    (case k27 => k_is)
    (case a28 => k_is)
    (case l28 => k_is)
    (case c28 => k_is)
    (case k28 => k_is)
    (case a29 => k_is)
    (case l29 => k_is)
    (case c29 => k_is)
    (case k29 => k_is)
    (case a30 => k_is)
    (case l30 => k_is)
    (case c30 => k_is)
    (case k30 => k_is)
    (case a31 => k_is)
    (case l31 => k_is)
    (case c31 => k_is)
    (case k31 => k_is)
    (case a32 => k_is)
    (case l32 => k_is)
    (case c32 => k_is)
    (case k32 => k_is)
    (case a33 => k_is)
    (case l33 => k_is)
    (case c33 => k_is)
    (case k33 => k_is)
    (case a34 => k_is)
    (case l34 => k_is)
    (case c34 => k_is)
    (case k34 => k_is)
    (case a35 => k_is)
    (case l35 => k_is)
    (case c35 => k_is)
    (case k35 => k_is)
    (case a36 => k_is)
    (case l36 => k_is)
    (case c36 => k_is)
    (case k36 => k_is)
    (case a37 => k_is)
    (case l37 => k_is)
    (case c37 => k_is)
    (case k37 => k_is)
    (case a38 => k_is)
    (case l38 => k_is)
    (case c38 => k_is)
    (case k38 => k_is)
    (case a39 => k_is)
    (case l39 => k_is)
    (case c39 => k_is)
    (case k39 => k_is)
    (case a40 => k_is)
    (case l40 => k_is)
    (case c40 => k_is)
    (case k40 => k_is)
    (case a41 => k_is)
    (case l41 => k_is)
    (case c41 => k_is)
    (case k41 => k_is)
    (case a42 => k_is)
    (case l42 => k_is)
    (case c42 => k_is)
    (case k42 => k_is)
    (case a43 => k_is)
    (case l43 => k_is)
    (case c43 => k_is)
    (case k43 => k_is)
    (case a44 => k_is)
    (case l44 => k_is)
    (case c44 => k_is)
    (case k44 => k_is)
    (case a45 => k_is)
    (case l45 => k_is)
    (case c45 => k_is)
    (case k45 => k_is)
    (case a46 => k_is)
    (case l46 => k_is)
    (case c46 => k_is)
    (case k46 => k_is)
    (case a47 => k_is)
    (case l47 => k_is)
    (case c47 => k_is)
    (case k47 => k_is)
    (case a48 => k_is)
    (case l48 => k_is)
    (case c48 => k_is)
    (case k48 => k_is)
    (case a49 => k_is)
    (case l49 => k_is)
    (case c49 => k_is)
    (case k49 => k_is)
    (case a50 => k_is)
    (case l50 => k_is)
    (case c50 => k_is)
    (case k50 => k_is)
    (case a51 => k_is)
    (case l51 => k_is)
    (case c51 => k_is)
    (case k51 => k_is)
    (case a52 => k_is)
    (case l52 => k_is)
    (case c52 => k_is)
    (case k52 => k_is)
    (case a54 => k_is)
    (case l54 => k_is)
    (case c54 => k_is)
    (case k54 => k_is)
    (case a55 => k_is)
    (case l55 => k_is)
    (case c55 => k_is)
    (case k55 => k_is)
    (case a56 => k_is)
    (case i56 => k_is)
    (case l56 => k_is)
    (case c56 => k_is)
    (case k56 => k_is)
    (case a57 => k_is)
    (case i57 => k_is)
    (case l57 => k_is)
    (case c57 => k_is)
    (case k57 => k_is)
    (case a64 => k_is)
    (case l64 => k_is)
    (case c64 => k_is)
    (case k64 => k_is)
    (case a77 => k_is)
    (case l77 => k_is)
    (case c77 => k_is)
    (case k77 => k_is)
    (case a78 => k_is)
    (case l78 => k_is)
    (case c78 => k_is)
    (case k78 => k_is)
    (case a79 => k_is)
    (case l79 => k_is)
    (case c79 => k_is)
    (case k79 => k_is)
    (case a80 => k_is)
    (case l80 => k_is)
    (case c80 => k_is)
    (case k80 => k_is)
    (case a81 => k_is)
    (case l81 => k_is)
    (case c81 => k_is)
    (case k81 => k_is)
    (case a82 => k_is)
    (case l82 => k_is)
    (case c82 => k_is)
    (case k82 => k_is)
    (case a83 => k_is)
    (case l83 => k_is)
    (case c83 => k_is)
    (case k83 => k_is)
    (case a84 => k_is)
    (case l84 => k_is)
    (case c84 => k_is)
    (case k84 => k_is)
    (case a85 => k_is)
    (case l85 => k_is)
    (case c85 => k_is)
    (case k85 => k_is)
    (case a86 => k_is)
    (case l86 => k_is)
    (case c86 => k_is)
    (case k86 => k_is)
