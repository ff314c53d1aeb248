import PyProof.Rows.All
import Wide.All
import OpenK.AllK
import Wide.FinOn
import HandS.ForMost
import HandS.IsInst
import HandS.Style
import HandS.RevRange
import HandS.OwnEq
import HandS.SortKw
import KE.DataMinMax
import HandS.Deep
import HandS.Zip
import HandS.ListItems
import KE.KDictZip
import HandS.Ends
import HandS.RaiseMore
import PyProof.ReprRoads
import HandS.Text
import KE.KRevSl
import HandS.Dict
import KE.KDictKeyed
import HandS.Iter
import HandS.DictTup
import KE.KDictDisplayH
import HandS.Star
import HandS.ClsMeth
import HandS.Defaults
import PyProof.StrOps2
import HandS.WideBits
import HandS.Walk
import HandS.DictComp
import HandS.Wide
import PySem.Challenge.RW_waystaken_k25_whole_counted_long_texts
set_option Elab.async false
set_option linter.all false
set_option maxRecDepth 100000
set_option maxHeartbeats 4000000
namespace Wv
open PySem PySem.Spec PyProof.Rows L2
/-! ### a def of the module, called by its name -/
section
variable {P : Program} {w : World} {K : PySem.W.Frag} {mg : Str → Option Value} {base : Heap}
structure DefOk (P : Program) (w : World) (K : PySem.W.Frag) (mg : Str → Option Value) (base : Heap) (k : Nat) (x : Str) (ps : List Str) (sp : Sp) : Prop where
  ex : ∃ (f : Addr) (fd : FuncData), mg x = some (.ref f) ∧ PySem.W.keepIn K (.ref f) = true ∧ Binds K fd ps [] ∧ FnOk P w K mg base CX0 k f fd ps sp
theorem DefOk.mono {j k : Nat} {x : Str} {ps : List Str} {sp : Sp} (h : DefOk P w K mg base j x ps sp) (q : j ≤ k) : DefOk P w K mg base k x ps sp := by
  obtain ⟨f, fd, a, b, c, d⟩ := h.ex
  exact ⟨f, fd, a, b, c, d.mono q⟩
/-- the def as the top left it -/
structure Here (K : PySem.W.Frag) (mg : Str → Option Value) (x : Str) (st : Stmt) (ps : List Str) : Prop where
  ex : ∃ (f : Addr) (fd : FuncData), Fun K x x st f fd ∧ mg x = some (.ref f) ∧ Binds K fd ps []
theorem Here.ok {x : Str} {st : Stmt} {N ps : List Str} {k : Nat} {sp : Sp} (h : Here K mg x st ps) (S : FnScope N ps (defScope st)) (len : ∀ vs H Q E, sp vs H Q E → vs.length = ps.length)
    (hbody : ∀ (f : Addr) (cdv : Value) (A : Around) (outer : List Env) (s : Shared) (H : Hp) (vs : List V) (Q : VK) (E : XK), Room k (A.deeper (envOfC x (defScope st) s.heap.objs.size f cdv)) → sp vs H Q E →
      ∃ t, PSs (cxOf CX0 P w K mg base N x (defScope st) f cdv A outer s H E).nox (defBody st) t ∧ t { nx := fun _ H' => Q .non H', rt := Q } (start N vs) H) : DefOk P w K mg base (k + 1) x ps sp := by
  obtain ⟨f, fd, F, m, b⟩ := h.ex
  exact ⟨f, fd, m, F.kp, b, F.ok S len fun cdv A outer s H vs Q E hr q => hbody f cdv A outer s H vs Q E hr q⟩
end
section
variable {X : Cx} {k : Nat} {x : Str} {ps : List Str} {sp : Sp} {e : Expr} {es : List Expr} {t : TA} {p pos : Pos}
theorem pe_callD (G : DefOk X.prog X.w X.K X.mg X.base k x ps sp) (hr : Room k X.A) (hg : Gl X x) (ha : PA X (e :: es) t) (hdb : (x == ("__debug__" : Str)) = false := by decide)
    (he : starEach (e :: es) X.env = (false, eval e X.env) :: starEach es X.env := by rfl) (hpl : (backTo pos (starEach es X.env)).any (·.1) = false := by rfl) :
    PE X (.Call (.Name x p) (e :: es) [] pos) (tCall sp [] E0 t) := by
  obtain ⟨f, fd, m, kp, b, F⟩ := G.ex
  exact pe_call F hr hg m kp b .nil pass0 ha hdb he hpl
theorem pe_callD0 (G : DefOk X.prog X.w X.K X.mg X.base k x ps sp) (hr : Room k X.A) (hg : Gl X x) (hdb : (x == ("__debug__" : Str)) = false := by decide) :
    PE X (.Call (.Name x p) [] [] pos) (tCall sp [] E0 tNil) := by
  obtain ⟨f, fd, m, kp, b, F⟩ := G.ex
  exact pe_call0 F hr hg m kp b .nil pass0 hdb
end
/-! ### a class of the module, made by its name -/
structure ClsOk (P : Program) (w : World) (K : PySem.W.Frag) (mg : Str → Option Value) (base : Heap) (k : Nat) (x : Str) (C : Addr) (ps : List Str) (sp : Sp) : Prop where
  ex : ∃ (f : Addr) (fd : FuncData), mg x = some (.ref C) ∧ Mk K C f ∧ Binds K fd ps [] ∧ FnOk P w K mg base CX0 k f fd ps sp
section
variable {X : Cx} {k : Nat} {x : Str} {C : Addr} {ps : List Str} {sp : Sp} {e : Expr} {es : List Expr} {t : TA} {p pos : Pos}
theorem pe_makeD (G : ClsOk X.prog X.w X.K X.mg X.base k x C ps sp) (hr : Room (k + 1) X.A) (hg : Gl X x) (ha : PA X (e :: es) t) (hdb : (x == ("__debug__" : Str)) = false := by decide)
    (he : starEach (e :: es) X.env = (false, eval e X.env) :: starEach es X.env := by rfl) (hpl : (backTo pos (starEach es X.env)).any (·.1) = false := by rfl) :
    PE X (.Call (.Name x p) (e :: es) [] pos) (tMake C sp [] E0 t) := by
  obtain ⟨f, fd, m, M, b, F⟩ := G.ex
  exact pe_make M F hr hg m b .nil pass0 ha hdb he hpl
theorem pe_makeD0 (G : ClsOk X.prog X.w X.K X.mg X.base k x C ps sp) (hr : Room (k + 1) X.A) (hg : Gl X x) (hdb : (x == ("__debug__" : Str)) = false := by decide) :
    PE X (.Call (.Name x p) [] [] pos) (tMake C sp [] E0 tNil) := by
  obtain ⟨f, fd, m, M, b, F⟩ := G.ex
  exact pe_make0 M F hr hg m b .nil pass0 hdb
end
/-! ### a class of the module without an __init__ of its own -/
structure Mk0 (K : PySem.W.Frag) (mg : Str → Option Value) (x : Str) (C : Addr) : Prop where
  m : mg x = some (.ref C)
  makes : PySem.W.makesIn K C = true
  init : PySem.W.findIn K (.ref C) "__init__" = some (some (.builtin "object.__init__"))
  kp : PySem.W.keepIn K (.ref C) = true
def tMake0 (C : Addr) : TE := fun _ H Q => ∀ x dx, H x = none → H dx = none → dx ≠ x → Q (.ref x) (upd (upd H dx (.own x)) x (.ins C dx []))
section
open PySem.W
variable {X : Cx} {C : Addr} {x : Str} {p pos : Pos}
theorem make0_raw {prog : Program} {w : World} {A : Around} {K : Frag} {C : Addr} {s : Shared} {R : Result → Shared → Prop} (X : K.In s.heap) (hm : makesIn K C = true) (hi : findIn K (.ref C) "__init__" = some (some (.builtin "object.__init__")))
    (z : R (.ok (.ret (.ref (s.heap.objs.size + 1)))) { s with heap := (s.heap.push emptyDict).push (instObj C s.heap.objs.size) }) :
    codeAny (model prog w) A (.call (.ref C) ⟨[], []⟩) R s := by
  obtain ⟨hh, g, d, t, os⟩ := s
  have Y := makes_of (M := model prog w) X hm
  have hx : ((hh.push emptyDict).push (instObj C hh.objs.size)).get? (hh.objs.size + 1) = some (instObj C hh.objs.size) := by heap_get
  refine make_core Y (looks_findIn X hi) (fun self => Looks.of_pure (oi_bind self)) (.inr ⟨rfl, rfl⟩) ?_
  have t1 : Looks (model prog w) ((hh.push emptyDict).push (instObj C hh.objs.size)) (typeOf (.ref (hh.objs.size + 1))) (.ref C) := (Looks.ld hx).andThen .now
  have t2 : Looks (model prog w) ((hh.push emptyDict).push (instObj C hh.objs.size)) (isInstance (.ref (hh.objs.size + 1)) (.type "object")) true := t1.andThen (Y.top.keeps fun b o e => Heap.get?_push_of_some _ (Heap.get?_push_of_some _ e))
  refine codeAny_call_builtin oi_plain entry_oi (@check_slot (model prog w) _ _ _ "object.__init__" "object" "__init__" (.ref (hh.objs.size + 1)) [] [] _ oi_kind oi_split t2 (oi_args (.ref (hh.objs.size + 1))) ?_)
  rw [oi_run]
  exact wpAny_pure (And.intro rfl z)
theorem pe_make00 (M : Mk0 X.K X.mg x C) (hg : Gl X x) (hdb : (x == ("__debug__" : Str)) = false := by decide) : PE X (.Call (.Name x p) [] [] pos) (tMake0 C) := by
  refine ⟨fun pins s σ H Q I h => ?_⟩
  refine wpAny_Call_Name_kw (ld_glob I hg M.m ?_ hdb)
  refine PySem.W.callWith_K0 I.kIn M.kp ?_
  have hq := h (s.heap.objs.size + 1) s.heap.objs.size (I.hok.fresh (Nat.le_succ _)) (I.hok.fresh (Nat.le_refl _)) (Nat.ne_of_lt (Nat.lt_succ_self _))
  have I2 := Inv.made (C := C) I
  exact wpAny_call (make0_raw I.kIn M.makes M.init ⟨.ref _, _, I2, rfl, hq⟩)
end
/-- the built-ins' names that the text leaves as they are -/
structure Bs (mg : Str → Option Value) : Prop where
  len : mg "len" = none
  int : mg "int" = none
  list : mg "list" = none
  range : mg "range" = none
  min : mg "min" = none
  tuple : mg "tuple" = none
  isinstance : mg "isinstance" = none
  zip : mg "zip" = none
  sum : mg "sum" = none
  max : mg "max" = none
  reversed : mg "reversed" = none
  enumerate : mg "enumerate" = none
  repr : mg "repr" = none
/-! ### a part of a reading by itself: what it gives, whatever follows -/
theorem withQ {E : TE} {σ : L2.St} {H : Hp} {Q : VK} (C : V → Hp → Prop) (h : ∀ Q' : VK, (∀ x H', C x H' → Q' x H') → E σ H Q') (g : ∀ x H', C x H' → Q x H') : E σ H Q := h Q g
theorem withB {E : TT} {σ : L2.St} {H : Hp} {Q : Bool → Hp → Prop} (C : Bool → Hp → Prop) (h : ∀ Q' : Bool → Hp → Prop, (∀ x H', C x H' → Q' x H') → E σ H Q') (g : ∀ x H', C x H' → Q x H') : E σ H Q := h Q g
theorem gset {i : Nat} {x : V} {σ : L2.St} {H : Hp} {Q : L2.St → Hp → Prop} (h : Q (σ.set i (some x)) H) : gName i x σ H Q := h
theorem st_seq {t u : TS} {D : Ends} {σ : L2.St} {H : Hp} (h : t { D with nx := u D } σ H) : tSeq t u D σ H := h
theorem st_asg {te : TE} {g : TG} {D : Ends} {σ : L2.St} {H : Hp} (h : te σ H fun x H1 => g x σ H1 D.nx) : tAsg te g D σ H := h
theorem st_next {D : Ends} {σ : L2.St} {H : Hp} (h : D.nx σ H) : tNext D σ H := h
theorem st_drop {te : TE} {D : Ends} {σ : L2.St} {H : Hp} (h : te σ H fun _ H1 => D.nx σ H1) : tDrop te D σ H := h
theorem st_ret {te : TE} {D : Ends} {σ : L2.St} {H : Hp} (h : te σ H D.rt) : tRet te D σ H := h
/-! ### heaps: all but the dicts stay -/
/-- the dict of a pen -/
def Penny (kvs : List (Key × V)) : Prop := ∃ v r, kvs = (.inr (Str.ofString "cells"), v) :: r
/-- one dict of a pen instead of another -/
def Moves (o : HO) (u : Option HO) : Prop := ∃ kvs kvs', (o = .dK kvs ∧ u = some (.dK kvs')) ∧ Penny kvs ∧ Penny kvs'
def Keep (H H' : Hp) : Prop := ∀ b o, H b = some o → H' b = some o ∨ Moves o (H' b)
theorem Keep.refl (H : Hp) : Keep H H := fun _ _ h => .inl h
theorem Keep.trans {H H1 H2 : Hp} (a : Keep H H1) (b : Keep H1 H2) : Keep H H2 := fun c o h => by
  rcases a c o h with h1 | ⟨k1, k2, ⟨e, h1⟩, p1, p2⟩
  · exact b c o h1
  · rcases b c _ h1 with h2 | ⟨k3, k4, ⟨e2, h2⟩, _, p4⟩
    · exact .inr ⟨k1, k2, ⟨e, h2⟩, p1, p2⟩
    · exact .inr ⟨k1, k4, ⟨e, h2⟩, p1, p4⟩
theorem Keep.of {H H' : Hp} (s : Same H H') : Keep H H' := fun b o h => .inl (s b o h)
theorem Keep.at_ {H H' : Hp} {a : Addr} {o : HO} (k : Keep H H') (h : H a = some o) (n : ∀ kvs, o ≠ .dK kvs) : H' a = some o := by
  rcases k a o h with q | ⟨k1, _, ⟨e, _⟩, _⟩
  · exact q
  · exact absurd e (n k1)
theorem Keep.dict {H H' : Hp} {a : Addr} {kvs : List (Key × V)} (k : Keep H H') (h : H a = some (.dK kvs)) (n : ¬ Penny kvs) : H' a = some (.dK kvs) := by
  rcases k a _ h with q | ⟨k1, _, ⟨e, _⟩, p, _⟩
  · exact q
  · cases e
    exact absurd p n
theorem Keep.free {H H' : Hp} {a : Addr} (k : Keep H H') (h : H' a = none) : H a = none := by
  cases e : H a with
  | none => rfl
  | some o =>
    rcases k a o e with q | ⟨_, _, ⟨_, q⟩, _⟩
    · rw [h] at q; cases q
    · rw [h] at q; cases q
theorem Keep.lst {H H' : Hp} {a : Addr} {xs : List V} (k : Keep H H') (h : H a = some (.lst xs)) : H' a = some (.lst xs) := k.at_ h (fun _ z => by cases z)
theorem Keep.tup {H H' : Hp} {a : Addr} {xs : List V} (k : Keep H H') (h : H a = some (.tup xs)) : H' a = some (.tup xs) := k.at_ h (fun _ z => by cases z)
theorem Keep.ins {H H' : Hp} {a C d : Addr} {fs : List (Str × V)} (k : Keep H H') (h : H a = some (.ins C d fs)) : H' a = some (.ins C d fs) := k.at_ h (fun _ z => by cases z)
theorem Keep.seq {K : PySem.W.Frag} {H H' : Hp} {a : Addr} {xs : List V} (k : Keep H H') (h : SqL K H a xs) : SqL K H' a xs := by
  rcases h with (h | ⟨o, h⟩) | h
  · exact .inl (.inl (k.lst h))
  · exact .inl (.inr ⟨o, k.at_ h (fun _ z => by cases z)⟩)
  · exact .inr h
theorem Keep.seqT {K : PySem.W.Frag} {H H' : Hp} {a : Addr} {xs : List V} (k : Keep H H') (h : SqT K H a xs) : SqT K H' a xs := by
  rcases h with (h | ⟨o, h⟩) | h
  · exact .inl (.inl (k.tup h))
  · exact .inl (.inr ⟨o, k.at_ h (fun _ z => by cases z)⟩)
  · exact .inr h
theorem Same.new {H : Hp} {p : Addr} (h : H p = none) (o : HO) : Same H (upd H p o) := fun b u q => by rw [upd_ne (ne_of_none q h)]; exact q
theorem Same.put {H H' : Hp} {p : Addr} (h : H p = none) (s : Same H H') (o : HO) : Same H (upd H' p o) := fun b u q => by rw [upd_ne (ne_of_none q h)]; exact s b u q
theorem Keep.new {H : Hp} {p : Addr} (h : H p = none) (o : HO) : Keep H (upd H p o) := .of (Same.new h o)
theorem Keep.put {H H' : Hp} {p : Addr} (h : H p = none) (s : Keep H H') (o : HO) : Keep H (upd H' p o) := fun b u q => by rw [upd_ne (ne_of_none q h)]; exact s b u q
/-! ### what is new in a heap -/
def newer (H H' : Hp) : Hp := fun a => if (H a).isSome = true then none else H' a
theorem newer_at {H H' : Hp} {a : Addr} (h : H a = none) : newer H H' a = H' a := by unfold newer; rw [h]; exact if_neg (by decide)
theorem newer_old {H H' : Hp} {a : Addr} {o : HO} (h : H a = some o) : newer H H' a = none := by unfold newer; rw [h]; exact if_pos rfl
theorem newer_of {H H' : Hp} {a : Addr} {o : HO} (h : newer H H' a = some o) : H a = none ∧ H' a = some o := by
  cases e : H a with
  | none => rw [newer_at e] at h; exact ⟨rfl, h⟩
  | some u => rw [newer_old e] at h; cases h
theorem newer_le {H H' : Hp} : Keep (newer H H') H' := fun _ _ h => .inl (newer_of h).2
theorem newer_up {H H' H'' : Hp} (k : Keep H' H'') : Keep (newer H H') (newer H H'') := fun a o h => by
  obtain ⟨h1, h2⟩ := newer_of h
  rw [newer_at h1]
  exact k a o h2
theorem newer_down {H H0 H' : Hp} (k : Keep H H0) : Keep (newer H0 H') (newer H H') := fun a o h => by
  obtain ⟨h1, h2⟩ := newer_of h
  rw [newer_at (k.free h1)]
  exact .inl h2
def Sub (H H' : Hp) : Prop := ∀ a, H' a = none → H a = none
theorem Keep.sub {H H' : Hp} (k : Keep H H') : Sub H H' := fun _ h => k.free h
theorem Sub.trans {H H1 H2 : Hp} (a : Sub H H1) (b : Sub H1 H2) : Sub H H2 := fun c h => a c (b c h)
theorem Sub.put {H H' : Hp} (s : Sub H H') (p : Addr) (o : HO) : Sub H (upd H' p o) := fun a h => by
  by_cases e : a = p
  · rw [e, upd_same] at h; cases h
  · rw [upd_ne e] at h; exact s a h
theorem newer_sub {H H0 H' : Hp} (k : Sub H H0) : Keep (newer H0 H') (newer H H') := fun a o h => by
  obtain ⟨h1, h2⟩ := newer_of h
  rw [newer_at (k a h1)]
  exact .inl h2
theorem newer_put {H H' : Hp} {p : Addr} {o u : HO} (h : H p = some u) : newer H (upd H' p o) = newer H H' := by
  funext a
  unfold newer
  by_cases e : a = p
  · rw [e, h]; rfl
  · rw [upd_ne e]
/-! ### arithmetic -/
theorem fmod_in (x : Int) {m : Int} (h : 0 < m) : 0 ≤ x.fmod m ∧ x.fmod m < m := ⟨Int.fmod_nonneg_of_pos x h, Int.fmod_lt_of_pos x h⟩
theorem small' {n : Nat} (h : n ≤ 1000000) : n < sizeLine := Nat.lt_of_le_of_lt h (by decide)
theorem atI_of {xs : List V} {i : Int} (h0 : 0 ≤ i) (h1 : i < (xs.length : Int)) : ∃ v, xs[i.toNat]? = some v ∧ atI xs i = some v := by
  have hk : i.toNat < xs.length := by omega
  have ek : i = ((i.toNat : Nat) : Int) := by omega
  refine ⟨xs[i.toNat], List.getElem?_eq_getElem hk, ?_⟩
  have q : atI xs ((i.toNat : Nat) : Int) = some xs[i.toNat] := atI_nat (List.getElem?_eq_getElem hk)
  rw [← ek] at q
  exact q
/-- a text of one sign -/
abbrev sg (c : Nat) : Str := ⟨#[c]⟩
/-- a text by its codes -/
def tx (l : List Nat) : Str := ⟨l.toArray⟩
end Wv
local macro_rules | `(tactic| walk_at "rd") => `(tactic| (repeat (first | refine ⟨_, rfl, ?_⟩ | refine ⟨_, _, rfl, rfl, ?_⟩ | refine ⟨rfl, ?_⟩ | refine Or.inl ⟨_, rfl, ?_⟩)))
local macro_rules | `(tactic| walk_at "nx") => `(tactic| (repeat (first | (with_reducible refine Wv.gset ?_) | (with_reducible refine Wv.st_seq ?_) | (with_reducible refine Wv.st_asg ?_) | (with_reducible refine Wv.st_next ?_) | (with_reducible refine Wv.st_drop ?_) | (with_reducible refine Wv.st_ret ?_))))
/-! max([..], default=d) of integers -/
namespace Wv
open PySem PySem.Spec PyProof.Rows L2
/-- the greatest one, d if there is none -/
def mx (d : Int) : List Int → Int
  | [] => d
  | n :: r => r.foldl max n
def rMaxDef (K : PySem.W.Frag) : List V → List V → Hp → VK → Prop := fun xs zs H Q => ∃ (a : Addr) (ns : List Int) (d : Int), xs = [.ref a] ∧ zs = [.int d] ∧ SqL K H a (ns.map V.int) ∧
  Q (.int (mx d ns)) H
theorem ints_alike (ns : List Int) : PySem.W.AlikeAll (ns.map PyData.int) := by
  refine ⟨fun x hx y hy => ?_, fun x hx => ?_⟩
  · obtain ⟨n, _, rfl⟩ := List.mem_map.mp hx
    obtain ⟨m, _, rfl⟩ := List.mem_map.mp hy
    rfl
  · obtain ⟨n, _, rfl⟩ := List.mem_map.mp hx
    intro e; cases e
theorem depth_ints0 : ∀ ns : List Int, PyData.depthAll (ns.map PyData.int) = 0
  | [] => rfl
  | n :: r => by
    rw [List.map_cons, PyData.depthAll, depth_ints0 r]; rfl
theorem cr_maxDef {X : Cx} (hc : X.calm = true) (hu : X.A.units + 1 < cLine) : CallRK X (.builtin "max") [Str.ofString "default"] (rMaxDef X.K) := by
  intro pins s σ H vs zs us ws Q I r1 r2 h
  obtain ⟨a, ns, d, rfl, rfl, hs, q⟩ := h
  obtain ⟨its, rv, hl, _⟩ := I.list hs
  rw [Vals.ref1 r1]
  obtain ⟨u, rfl, ru⟩ := r2.one
  obtain ⟨t, rfl⟩ := ru
  have hi := rv.ints
  obtain ⟨as, hr⟩ : ∃ as, ReadsAll s.heap its (ns.map PyData.int) as := ⟨_, hi.reads s.heap⟩
  show wpAny _ X.A (call (.builtin "max") [.ref a] [(Str.ofString "default", .int d t)]) _ _ s
  refine PySem.W.max_list_default (xs := ns.map PyData.int) (I.ok.hd hc) hl.isList (by simpa using hr) (ints_alike ns) (by rw [depth_ints0]; exact hu) (fun e h' tk hk => ?_) (fun y ys i v h' tk bs e hv hr' hk => ?_)
  · have : ns = [] := by simpa using e
    subst this
    exact ⟨.int d, H, I.kept hk, ⟨_, rfl⟩, q⟩
  · cases ns with
    | nil => cases e
    | cons n r =>
      rw [List.map_cons] at e
      obtain ⟨rfl, rfl⟩ := List.cons.inj e
      rw [PySem.W.maxD_ints] at hr'
      cases hr'
      exact ⟨.int _, H, I.kept hk, ⟨_, rfl⟩, q⟩
/-- an attribute, where K is told by itself -/
theorem pe_fldK {X : Cx} {K : PySem.W.Frag} {e : Expr} {f : Str} {pos : Pos} {ta : TE} (q : X.K = K) (he : PE X e ta) (hb : attributeBase e f X.env (eval e X.env) = eval e X.env) : PE X (.Attribute e f pos) (tFld K ta f) := q ▸ pe_fld he hb
end Wv
namespace Wv
open PySem PySem.Spec PyProof.Rows L2
/-! ### ways as data -/
inductive W where
  | nothing | one | letter (c : Nat) | call (x : Str)
  | row (ws : List W) | choice (ws : List W)
  | again (w : W) | maybe (w : W) | ahead (w : W) | unless (w : W)
mutual
def W.size : W → Nat
  | .nothing => 1 | .one => 1 | .letter _ => 1 | .call _ => 1
  | .row ws => 1 + W.sizes ws | .choice ws => 1 + W.sizes ws
  | .again w => 1 + W.size w | .maybe w => 1 + W.size w | .ahead w => 1 + W.size w | .unless w => 1 + W.size w
def W.sizes : List W → Nat
  | [] => 0
  | w :: ws => W.size w + W.sizes ws
end
theorem W.size_pos (w : W) : 0 < w.size := by cases w <;> simp only [W.size] <;> omega
theorem W.sizes_app : ∀ (a b : List W), W.sizes (a ++ b) = W.sizes a + W.sizes b
  | [], b => by simp [W.sizes]
  | x :: a, b => by simp only [List.cons_append, W.sizes, W.sizes_app a b]; omega
theorem W.sizes_len : ∀ ws : List W, ws.length ≤ W.sizes ws
  | [] => Nat.le_refl _
  | w :: ws => by
    have h := W.sizes_len ws
    have h2 := w.size_pos
    simp only [List.length_cons, W.sizes]
    omega
-- letters among these codes, rows and choices of two or more, no calls
mutual
def W.wf (z : List Nat) : W → Prop
  | .nothing => True | .one => True | .letter c => c ∈ z | .call _ => False
  | .row ws => 2 ≤ ws.length ∧ W.wfs z ws | .choice ws => 2 ≤ ws.length ∧ W.wfs z ws
  | .again w => W.wf z w | .maybe w => W.wf z w | .ahead w => W.wf z w | .unless w => W.wf z w
def W.wfs (z : List Nat) : List W → Prop
  | [] => True
  | w :: ws => W.wf z w ∧ W.wfs z ws
end
theorem W.wfs_app (z : List Nat) : ∀ (a b : List W), W.wfs z (a ++ b) ↔ W.wfs z a ∧ W.wfs z b
  | [], b => by simp [W.wfs]
  | x :: a, b => by simp only [List.cons_append, W.wfs, W.wfs_app z a b, and_assoc]
mutual

def W.data : W → PyData
  | .nothing => .tuple [.str (Str.ofString "nothing")]
  | .one => .tuple [.str (Str.ofString "one")]
  | .letter c => .tuple [.str (Str.ofString "letter"), .str (sg c)]
  | .call x => .tuple [.str (Str.ofString "call"), .str x]
  | .row ws => .tuple [.str (Str.ofString "row"), .list (W.datas ws)]
  | .choice ws => .tuple [.str (Str.ofString "choice"), .list (W.datas ws)]
  | .again w => .tuple [.str (Str.ofString "again"), W.data w]
  | .maybe w => .tuple [.str (Str.ofString "maybe"), W.data w]
  | .ahead w => .tuple [.str (Str.ofString "ahead"), W.data w]
  | .unless w => .tuple [.str (Str.ofString "unless"), W.data w]
def W.datas : List W → List PyData
  | [] => []
  | w :: ws => W.data w :: W.datas ws
end
mutual
theorem W.depth_data : ∀ w : W, (W.data w).depth ≤ 2 * w.size
  | .nothing => by simp only [W.data, W.size, PyData.depth, PyData.depthAll]; omega
  | .one => by simp only [W.data, W.size, PyData.depth, PyData.depthAll]; omega
  | .letter c => by simp only [W.data, W.size, PyData.depth, PyData.depthAll]; omega
  | .call x => by simp only [W.data, W.size, PyData.depth, PyData.depthAll]; omega
  | .row ws => by
    have h := W.depth_datas ws
    simp only [W.data, W.size, PyData.depth, PyData.depthAll]; omega
  | .choice ws => by
    have h := W.depth_datas ws
    simp only [W.data, W.size, PyData.depth, PyData.depthAll]; omega
  | .again w => by
    have h := W.depth_data w
    simp only [W.data, W.size, PyData.depth, PyData.depthAll]; omega
  | .maybe w => by
    have h := W.depth_data w
    simp only [W.data, W.size, PyData.depth, PyData.depthAll]; omega
  | .ahead w => by
    have h := W.depth_data w
    simp only [W.data, W.size, PyData.depth, PyData.depthAll]; omega
  | .unless w => by
    have h := W.depth_data w
    simp only [W.data, W.size, PyData.depth, PyData.depthAll]; omega
theorem W.depth_datas : ∀ ws : List W, PyData.depthAll (W.datas ws) ≤ 2 * W.sizes ws
  | [] => by simp [W.datas, PyData.depthAll]
  | w :: ws => by
    have h := W.depth_data w
    have h2 := W.depth_datas ws
    simp only [W.datas, W.sizes, PyData.depthAll]; omega
end
def W.tag : W → Str
  | .nothing => Str.ofString "nothing"
  | .one => Str.ofString "one"
  | .again _ => Str.ofString "again"
  | .maybe _ => Str.ofString "maybe"
  | .ahead _ => Str.ofString "ahead"
  | .unless _ => Str.ofString "unless"
  | .letter _ => Str.ofString "letter"
  | .call _ => Str.ofString "call"
  | .row _ => Str.ofString "row"
  | .choice _ => Str.ofString "choice"
mutual
def WayAt (H : Hp) : V → W → Prop
  | v, .nothing => ∃ a, v = .ref a ∧ H a = some (.tup [.str (Str.ofString "nothing")])
  | v, .one => ∃ a, v = .ref a ∧ H a = some (.tup [.str (Str.ofString "one")])
  | v, .letter c => ∃ a, v = .ref a ∧ H a = some (.tup [.str (Str.ofString "letter"), .str (sg c)])
  | v, .call x => ∃ a, v = .ref a ∧ H a = some (.tup [.str (Str.ofString "call"), .str x])
  | v, .row ws => ∃ a l vs, v = .ref a ∧ H a = some (.tup [.str (Str.ofString "row"), .ref l]) ∧ H l = some (.lst vs) ∧ WaysAt H vs ws
  | v, .choice ws => ∃ a l vs, v = .ref a ∧ H a = some (.tup [.str (Str.ofString "choice"), .ref l]) ∧ H l = some (.lst vs) ∧ WaysAt H vs ws
  | v, .again w => ∃ a u, v = .ref a ∧ H a = some (.tup [.str (Str.ofString "again"), u]) ∧ WayAt H u w
  | v, .maybe w => ∃ a u, v = .ref a ∧ H a = some (.tup [.str (Str.ofString "maybe"), u]) ∧ WayAt H u w
  | v, .ahead w => ∃ a u, v = .ref a ∧ H a = some (.tup [.str (Str.ofString "ahead"), u]) ∧ WayAt H u w
  | v, .unless w => ∃ a u, v = .ref a ∧ H a = some (.tup [.str (Str.ofString "unless"), u]) ∧ WayAt H u w
def WaysAt (H : Hp) : List V → List W → Prop
  | vs, [] => vs = []
  | vs, w :: ws => ∃ u us, vs = u :: us ∧ WayAt H u w ∧ WaysAt H us ws
end
theorem WaysAt.len {H : Hp} : ∀ (ws : List W) (vs : List V), WaysAt H vs ws → vs.length = ws.length
  | [], vs, h => by rw [show vs = [] from h]; rfl
  | w :: ws, vs, ⟨u, us, e, _, h⟩ => by rw [e, List.length_cons, List.length_cons, WaysAt.len ws us h]
theorem WaysAt.app {H : Hp} : ∀ (ws : List W) (vs : List V) {us : List V} {xs : List W}, WaysAt H vs ws → WaysAt H us xs → WaysAt H (vs ++ us) (ws ++ xs)
  | [], vs, us, xs, h, h2 => by rw [show vs = [] from h]; exact h2
  | w :: ws, vs, us, xs, ⟨u, r, e, hu, h⟩, h2 => by rw [e]; exact ⟨u, r ++ us, rfl, hu, WaysAt.app ws r h h2⟩
theorem WaysAt.at_ {H : Hp} : ∀ (ws : List W) (vs : List V) (i : Nat) (w : W), WaysAt H vs ws → ws[i]? = some w → ∃ v, vs[i]? = some v ∧ WayAt H v w
  | [], vs, i, w, h, e => by simp at e
  | x :: ws, vs, 0, w, ⟨u, us, ev, hu, h⟩, e => by
    have q : x = w := by simpa using e
    subst q
    exact ⟨u, by rw [ev]; rfl, hu⟩
  | x :: ws, vs, i + 1, w, ⟨u, us, ev, hu, h⟩, e => by
    obtain ⟨v, h1, h2⟩ := WaysAt.at_ ws us i w h (by simpa using e)
    exact ⟨v, by rw [ev]; simpa using h1, h2⟩
mutual
theorem WayAt.keep {H H' : Hp} (k : Keep H H') : ∀ (w : W) (v : V), WayAt H v w → WayAt H' v w
  | .nothing, v, ⟨a, e, h⟩ => ⟨a, e, k.tup h⟩
  | .one, v, ⟨a, e, h⟩ => ⟨a, e, k.tup h⟩
  | .letter _, v, ⟨a, e, h⟩ => ⟨a, e, k.tup h⟩
  | .call _, v, ⟨a, e, h⟩ => ⟨a, e, k.tup h⟩
  | .row ws, v, ⟨a, l, vs, e, h, h2, h3⟩ => ⟨a, l, vs, e, k.tup h, k.lst h2, WaysAt.keep k ws vs h3⟩
  | .choice ws, v, ⟨a, l, vs, e, h, h2, h3⟩ => ⟨a, l, vs, e, k.tup h, k.lst h2, WaysAt.keep k ws vs h3⟩
  | .again w, v, ⟨a, u, e, h, h2⟩ => ⟨a, u, e, k.tup h, WayAt.keep k w u h2⟩
  | .maybe w, v, ⟨a, u, e, h, h2⟩ => ⟨a, u, e, k.tup h, WayAt.keep k w u h2⟩
  | .ahead w, v, ⟨a, u, e, h, h2⟩ => ⟨a, u, e, k.tup h, WayAt.keep k w u h2⟩
  | .unless w, v, ⟨a, u, e, h, h2⟩ => ⟨a, u, e, k.tup h, WayAt.keep k w u h2⟩
theorem WaysAt.keep {H H' : Hp} (k : Keep H H') : ∀ (ws : List W) (vs : List V), WaysAt H vs ws → WaysAt H' vs ws
  | [], _, h => h
  | w :: ws, vs, ⟨u, us, e, h, h2⟩ => ⟨u, us, e, WayAt.keep k w u h, WaysAt.keep k ws us h2⟩
end
mutual
theorem WayAt.dp {K : PySem.W.Frag} {H : Hp} : ∀ (w : W) (v : V), WayAt H v w → Dp K H v (W.data w)
  | .nothing, v, ⟨a, e, h⟩ => by rw [e]; exact .tup (SqT.of h) (.cons (.str _) .nil)
  | .one, v, ⟨a, e, h⟩ => by rw [e]; exact .tup (SqT.of h) (.cons (.str _) .nil)
  | .letter _, v, ⟨a, e, h⟩ => by rw [e]; exact .tup (SqT.of h) (.cons (.str _) (.cons (.str _) .nil))
  | .call _, v, ⟨a, e, h⟩ => by rw [e]; exact .tup (SqT.of h) (.cons (.str _) (.cons (.str _) .nil))
  | .row ws, v, ⟨a, l, vs, e, h, h2, h3⟩ => by rw [e]; exact .tup (SqT.of h) (.cons (.str _) (.cons (.lst (SqL.of h2) (WaysAt.dp ws vs h3)) .nil))
  | .choice ws, v, ⟨a, l, vs, e, h, h2, h3⟩ => by rw [e]; exact .tup (SqT.of h) (.cons (.str _) (.cons (.lst (SqL.of h2) (WaysAt.dp ws vs h3)) .nil))
  | .again w, v, ⟨a, u, e, h, h2⟩ => by rw [e]; exact .tup (SqT.of h) (.cons (.str _) (.cons (WayAt.dp w u h2) .nil))
  | .maybe w, v, ⟨a, u, e, h, h2⟩ => by rw [e]; exact .tup (SqT.of h) (.cons (.str _) (.cons (WayAt.dp w u h2) .nil))
  | .ahead w, v, ⟨a, u, e, h, h2⟩ => by rw [e]; exact .tup (SqT.of h) (.cons (.str _) (.cons (WayAt.dp w u h2) .nil))
  | .unless w, v, ⟨a, u, e, h, h2⟩ => by rw [e]; exact .tup (SqT.of h) (.cons (.str _) (.cons (WayAt.dp w u h2) .nil))
theorem WaysAt.dp {K : PySem.W.Frag} {H : Hp} : ∀ (ws : List W) (vs : List V), WaysAt H vs ws → DpAll K H vs (W.datas ws)
  | [], vs, h => by rw [show vs = [] from h]; exact .nil
  | w :: ws, vs, ⟨u, us, e, h, h2⟩ => by rw [e]; exact .cons (WayAt.dp w u h) (WaysAt.dp ws us h2)
end
-- letters that are letters
abbrev Az (z : List Nat) : Prop := ∀ c ∈ z, 97 ≤ c ∧ c ≤ 122
theorem strOk_sg {c : Nat} (h : c ≤ 122) : PyData.strOk (sg c) = true := by
  show (#[c] : Array Nat).all (fun x => decide (x < 0x110000)) = true
  simp
  omega
mutual
theorem W.lay {z : List Nat} (hz : Az z) : ∀ w : W, w.wf z → (W.data w).canLay0 = true
  | .nothing, _ => by decide +kernel
  | .one, _ => by decide +kernel
  | .letter c, h => by
    have q := strOk_sg (hz c h).2
    simp only [W.data, PyData.canLay0, PyData.canLayAll0, q, Bool.and_true, Bool.and_eq_true, and_true]
    decide +kernel
  | .call x, h => by cases h
  | .row ws, h => by
    have q := W.lays hz ws h.2
    simp only [W.data, PyData.canLay0, PyData.canLayAll0, q, Bool.and_true, Bool.and_eq_true, and_true]
    decide +kernel
  | .choice ws, h => by
    have q := W.lays hz ws h.2
    simp only [W.data, PyData.canLay0, PyData.canLayAll0, q, Bool.and_true, Bool.and_eq_true, and_true]
    decide +kernel
  | .again w, h => by
    have q := W.lay hz w h
    simp only [W.data, PyData.canLay0, PyData.canLayAll0, q, Bool.and_true, Bool.and_eq_true, and_true]
    decide +kernel
  | .maybe w, h => by
    have q := W.lay hz w h
    simp only [W.data, PyData.canLay0, PyData.canLayAll0, q, Bool.and_true, Bool.and_eq_true, and_true]
    decide +kernel
  | .ahead w, h => by
    have q := W.lay hz w h
    simp only [W.data, PyData.canLay0, PyData.canLayAll0, q, Bool.and_true, Bool.and_eq_true, and_true]
    decide +kernel
  | .unless w, h => by
    have q := W.lay hz w h
    simp only [W.data, PyData.canLay0, PyData.canLayAll0, q, Bool.and_true, Bool.and_eq_true, and_true]
    decide +kernel
theorem W.lays {z : List Nat} (hz : Az z) : ∀ ws : List W, W.wfs z ws → PyData.canLayAll0 (W.datas ws) = true
  | [], _ => rfl
  | w :: ws, h => by
    simp only [W.datas, PyData.canLayAll0, W.lay hz w h.1, W.lays hz ws h.2, Bool.and_self]
end
theorem W.shaped_list {z : List Nat} (hz : Az z) {ws : List W} (h : W.wfs z ws) (hs : W.sizes ws ≤ 31) : SeqAt.shaped (.list (W.datas ws)) = true := by
  unfold SeqAt.shaped
  have d := W.depth_datas ws
  rw [Bool.and_eq_true]
  refine ⟨W.lays hz ws h, decide_eq_true ?_⟩
  simp only [PyData.depth]
  omega
theorem datas_empty (ws : List W) : (W.datas ws).isEmpty = ws.isEmpty := by cases ws <;> rfl
end Wv
namespace Wv
open PySem PySem.Spec PyProof.Rows L2
def top (i : Nat) : Stmt := PySem.Challenge.pw_waystaken_k25_whole_counted_long_texts.main.body.getD i (.Pass ⟨0, 0, 0, 0⟩)
/-! ### the source of draws: what holds of it, whatever it draws -/
abbrev kC : Key := .inr (Str.ofString "cells")
abbrev kA : Key := .inr (Str.ofString "at")
abbrev kL : Key := .inr (Str.ofString "left")
def penF (l : Addr) (a b : Int) : List (Key × V) := [(kC, .ref l), (kA, .int a), (kL, .int b)]
theorem k12 : ¬ (kC = kA) := by decide
theorem k13 : ¬ (kC = kL) := by decide
theorem k23 : ¬ (kA = kL) := by decide
theorem k32 : ¬ (kL = kA) := by decide
theorem pen_cells (l : Addr) (a b : Int) : valV (penF l a b) kC = some (.ref l) := by
  unfold penF; rw [valV_pos rfl]
theorem pen_at (l : Addr) (a b : Int) : valV (penF l a b) kA = some (.int a) := by
  unfold penF; rw [valV_neg k12, valV_pos rfl]
theorem pen_left (l : Addr) (a b : Int) : valV (penF l a b) kL = some (.int b) := by
  unfold penF; rw [valV_neg k13, valV_neg k23, valV_pos rfl]
theorem put_at (l : Addr) (a b c : Int) : putK (penF l a b) kA (.int c) = penF l c b := by
  unfold putK
  rw [valV_any, pen_at, if_pos (show (some (V.int a)).isSome = true from rfl)]
  have h1 := k12; have h2 := k32
  unfold penF
  rw [List.map_cons, List.map_cons, List.map_cons, List.map_nil, if_neg h1, if_pos rfl, if_neg h2]
theorem put_left (l : Addr) (a b c : Int) : putK (penF l a b) kL (.int c) = penF l a c := by
  unfold putK
  rw [valV_any, pen_left, if_pos (show (some (V.int b)).isSome = true from rfl)]
  have h1 := k13; have h2 := k23
  unfold penF
  rw [List.map_cons, List.map_cons, List.map_cons, List.map_nil, if_neg h1, if_neg h2, if_pos rfl]
theorem get_cells {H : Hp} {p l : Addr} {a b : Int} (h : H p = some (.dK (penF l a b))) : DGet H p (.str "cells") (some (.ref l)) := by
  rw [← pen_cells l a b]; exact DGet.k (k := kC) h
theorem get_at {H : Hp} {p l : Addr} {a b : Int} (h : H p = some (.dK (penF l a b))) : DGet H p (.str "at") (some (.int a)) := by
  rw [← pen_at l a b]; exact DGet.k (k := kA) h
theorem get_left {H : Hp} {p l : Addr} {a b : Int} (h : H p = some (.dK (penF l a b))) : DGet H p (.str "left") (some (.int b)) := by
  rw [← pen_left l a b]; exact DGet.k (k := kL) h
theorem dput_at {H : Hp} {p l : Addr} {a b : Int} (c : Int) (h : H p = some (.dK (penF l a b))) : DPut H p (.str "at") (.int c) (upd H p (.dK (penF l c b))) := by
  rw [← put_at l a b c]; exact DPut.k (k := kA) h (by show 3 < sizeLine; decide)
theorem dput_left {H : Hp} {p l : Addr} {a b : Int} (c : Int) (h : H p = some (.dK (penF l a b))) : DPut H p (.str "left") (.int c) (upd H p (.dK (penF l a c))) := by
  rw [← put_left l a b c]; exact DPut.k (k := kL) h (by show 3 < sizeLine; decide)
/-- a pen: its dict, the list of its cells -/
structure Pen where
  d : Addr
  l : Addr
/-- the pen p, of which at most n draws have been made -/
structure PenAt (K : PySem.W.Frag) (H : Hp) (p : Pen) (n : Nat) : Prop where
  ex : ∃ (a b : Int) (cs : List Int), H p.d = some (.dK (penF p.l a b)) ∧ SqL K H p.l (cs.map V.int) ∧ cs.length ≤ 63 ∧ 0 ≤ a ∧ a ≤ (n : Int)
theorem PenAt.same {K : PySem.W.Frag} {H H' : Hp} {p : Pen} {n : Nat} (h : PenAt K H p n) (s : Same H H') : PenAt K H' p n := by
  obtain ⟨a, b, cs, h1, h2, h3, h4⟩ := h.ex
  exact ⟨a, b, cs, s _ _ h1, s.seq h2, h3, h4⟩
theorem PenAt.mono {K : PySem.W.Frag} {H : Hp} {p : Pen} {n m : Nat} (h : PenAt K H p n) (q : n ≤ m) : PenAt K H p m := by
  obtain ⟨a, b, cs, h1, h2, h3, h4, h5⟩ := h.ex
  exact ⟨a, b, cs, h1, h2, h3, h4, by omega⟩
theorem Keep.pen {H : Hp} {p l : Addr} {a b a' b' : Int} (h : H p = some (.dK (penF l a b))) : Keep H (upd H p (.dK (penF l a' b'))) := fun c o e => by
  by_cases z : c = p
  · rw [z, h] at e
    exact .inr ⟨_, _, ⟨(Option.some.inj e).symm, by rw [z]; exact upd_same⟩, ⟨_, _, rfl⟩, ⟨_, _, rfl⟩⟩
  · rw [upd_ne z]; exact .inl e
theorem PenAt.mk' {K : PySem.W.Frag} {H : Hp} {p : Pen} {a b a' b' : Int} {cs : List Int} {n : Nat} (h : H p.d = some (.dK (penF p.l a b))) (hs : SqL K H p.l (cs.map V.int)) (hl : cs.length ≤ 63) (h0 : 0 ≤ a') (h1 : a' ≤ (n : Int)) :
    PenAt K (upd H p.d (.dK (penF p.l a' b'))) p n := ⟨a', b', cs, upd_same, (Keep.pen h).seq hs, hl, h0, h1⟩
/-- a list that was new is written -/
theorem PenAt.put {K : PySem.W.Frag} {H H' : Hp} {p : Pen} {n m : Nat} {q : Addr} {xs ys : List V} (h0 : PenAt K H p m) (hq : H q = none) (h : PenAt K H' p n) (k : Keep H H') (e : H' q = some (.lst xs)) : PenAt K (upd H' q (.lst ys)) p n := by
  obtain ⟨_, _, cs, _, h2, h3, _⟩ := h0.ex
  obtain ⟨a, b, _, h1, _, _, h4, h5⟩ := h.ex
  have hpq : p.d ≠ q := ne_of h1 e (by intro z; cases z)
  exact ⟨a, b, cs, by rw [upd_ne hpq]; exact h1, (Keep.put hq k _).seq h2, h3, h4, h5⟩
/-! ### their promises -/
def LIM : Nat := 1000000000000
def spPen (K : PySem.W.Frag) : Sp := fun vs H Q _ => ∃ (a : Addr) (ns : List Int), vs = [.ref a] ∧ SqL K H a (ns.map V.int) ∧ ns.length ≤ 63 ∧ ∀ (p : Pen) (H' : Hp), Same H H' → PenAt K H' p 0 → Q (.ref p.d) H'
def spDraw (K : PySem.W.Frag) : Sp := fun vs H Q _ => ∃ (p : Pen) (m : Int) (n : Nat), vs = [.ref p.d, .int m] ∧ PenAt K H p n ∧ n < LIM ∧ 0 < m ∧ m < 1073741824 ∧
  ∀ (d : Int) (H' : Hp), 0 ≤ d → d < m → Keep H H' → PenAt K H' p (n + 1) → Q (.int d) H'
def spPick (K : PySem.W.Frag) : Sp := fun vs H Q _ => ∃ (p : Pen) (y : V) (n : Nat), vs = [.ref p.d, y] ∧ PenAt K H p n ∧ n < LIM ∧
  ((∃ (q : Addr) (xs : List V), y = .ref q ∧ SqL K H q xs ∧ 0 < xs.length ∧ xs.length ≤ 1000 ∧ ∀ (v : V) (H' : Hp), v ∈ xs → Keep H H' → PenAt K H' p (n + 1) → Q v H') ∨
   (∃ (z : List Nat), y = .str (tx z) ∧ 0 < z.length ∧ z.length ≤ 1000 ∧ ∀ (c : Nat) (H' : Hp), c ∈ z → Keep H H' → PenAt K H' p (n + 1) → Q (.str (sg c)) H'))
section
variable {P : Program} {w : World} {K : PySem.W.Frag} {mg : Str → Option Value} {base : Heap}
theorem dpAll_ints {H : Hp} : ∀ ns : List Int, DpAll K H (ns.map V.int) (ns.map PyData.int)
  | [] => .nil
  | n :: r => .cons (.int n) (dpAll_ints r)
theorem canLay_ints : ∀ ns : List Int, PyData.canLayAll0 (ns.map PyData.int) = true
  | [] => rfl
  | n :: r => by
    show (PyData.canLay0 (.int n) && PyData.canLayAll0 (r.map PyData.int)) = true
    rw [canLay_ints r]; rfl
theorem depth_ints : ∀ ns : List Int, PyData.depthAll (ns.map PyData.int) ≤ 1
  | [] => by decide
  | n :: r => by
    have h := depth_ints r
    simp only [List.map_cons, PyData.depthAll, PyData.depth]
    omega
theorem shaped_ints (ns : List Int) : SeqAt.shaped (.list (ns.map PyData.int)) = true := by
  unfold SeqAt.shaped
  have h := depth_ints ns
  rw [Bool.and_eq_true]
  refine ⟨?_, decide_eq_true ?_⟩
  · show PyData.canLayAll0 (ns.map PyData.int) = true
    exact canLay_ints ns
  · simp only [PyData.depth]
    omega
theorem eqv_nil (ds : List PyData) : PyData.eqv (.list ds) (.list []) = ds.isEmpty := by
  cases ds <;> simp [PyData.eqv, PyData.eqvAll]
theorem ints_get {ns : List Int} {i : Nat} {v : V} (h : (ns.map V.int)[i]? = some v) : ∃ z, v = .int z := by
  rw [List.getElem?_map] at h
  cases e : ns[i]? with
  | none => rw [e] at h; cases h
  | some z => rw [e] at h; exact ⟨z, (Option.some.inj h).symm⟩
theorem cmul_fmod (x : Int) {m : Int} (h0 : 0 < m) (h1 : m < 18446744073709551616) (j : Int) : CMul (x.fmod m) j := by
  have h := fmod_in x h0
  exact .inl ⟨by omega, by omega⟩
abbrev s_l_pen : Stmt := top 67
theorem sc_l_pen : FnScope ["_law_script"] ["_law_script"] (defScope s_l_pen) := ⟨rfl, rfl, rfl, by decide +kernel, rfl, by decide +kernel, by decide +kernel⟩
theorem cutV_len (xs : List V) (lo hi : Option Int) : (cutV xs lo hi).length ≤ xs.length := by
  unfold cutV
  rw [List.length_take, List.length_drop]
  omega
theorem cutV_ints (ns : List Int) (lo hi : Option Int) : ∃ cs : List Int, cutV (ns.map V.int) lo hi = cs.map V.int ∧ cs.length ≤ ns.length := by
  unfold cutV
  refine ⟨(ns.drop (HT.sIx (ns.map V.int).length 0 lo)).take (HT.sIx (ns.map V.int).length (ns.map V.int).length hi - HT.sIx (ns.map V.int).length 0 lo), by rw [List.map_take, List.map_drop], ?_⟩
  rw [List.length_take, List.length_drop]
  omega
theorem mergePen (l : Addr) : mergeK [] (penF l 0 0) = penF l 0 0 := by
  have e1 : putK ([] : List (Key × V)) kC (.ref l) = [(kC, V.ref l)] := putK_new _ rfl
  have e2 : putK ([(kC, V.ref l)] : List (Key × V)) kA (.int 0) = [(kC, V.ref l), (kA, V.int 0)] := putK_new _ (by rw [valV_neg k12]; rfl)
  have e3 : putK ([(kC, V.ref l), (kA, V.int 0)] : List (Key × V)) kL (.int 0) = penF l 0 0 := putK_new _ (by rw [valV_neg k13, valV_neg k23]; rfl)
  show putK (putK (putK ([] : List (Key × V)) kC (.ref l)) kA (.int 0)) kL (.int 0) = _
  rw [e1, e2, e3]
theorem d_l_pen (h : Here K mg "_law_pen" s_l_pen ["_law_script"]) (B : Bs mg) : DefOk P w K mg base 1 "_law_pen" ["_law_script"] (spPen K) := by
  have B_list := B.list
  refine h.ok sc_l_pen (fun vs H Q E h => by obtain ⟨a, ns, rfl, _⟩ := h; rfl) (fun f cdv A outer s H vs Q E hr h => ?_)
  obtain ⟨a, ns, rfl, hS, hl, k⟩ := h
  refine ⟨_, (pss_one (ps_ret (pe_disp (pps_cons pe_str (pe_callTy call_list_of rfl B_list (by decide +kernel) (pa_cons (pe_slice sl_list (pv 0) po_none (po_some pe_int)) pa_nil)) (pps_cons pe_str pe_int (pps_cons pe_str pe_int pps_nil))) (by rfl) (by rfl) (fun z => by cases z) (by decide)))), ?_⟩
  intro p hp
  have s0 : Same H (upd H p (.dK [])) := Same.new hp _
  refine ⟨_, rfl, _, rfl, a, _, rfl, s0.seq hS, fun q hq => ?_⟩
  obtain ⟨cs, ec, hc⟩ := cutV_ints ns none (some 63)
  have npq : p ≠ q := ne_of_none upd_same hq
  refine ⟨q, _, rfl, .inl (SqL.of upd_same), fun l hl' => ?_⟩
  have npl : p ≠ l := ne_of_none (by rw [upd_ne npq]; exact upd_same) hl'
  refine ⟨by rw [upd_ne npl, upd_ne npq, upd_same], penF l 0 0, rfl, by show 3 ≤ 15; decide, ?_⟩
  rw [mergePen]
  refine k ⟨p, l⟩ _ ?_ ⟨0, 0, cs, upd_same, ?_, by omega, by omega, by omega⟩
  · exact Same.put hp ((s0.trans (Same.new hq _)).trans (Same.new hl' _)) _
  · refine SqL.of ?_
    rw [upd_ne (Ne.symm npl), upd_same, ec]
abbrev s_l_draw : Stmt := top 68
theorem sc_l_draw : FnScope ["_law_pen_here", "_law_many", "_law_digit", "_law_at", "_law_cell", "_law_mixed"] ["_law_pen_here", "_law_many"] (defScope s_l_draw) := ⟨rfl, rfl, rfl, by decide +kernel, rfl, by decide +kernel, by decide +kernel⟩
theorem d_l_draw (h : Here K mg "_law_draw" s_l_draw ["_law_pen_here", "_law_many"]) (B : Bs mg) : DefOk P w K mg base 1 "_law_draw" ["_law_pen_here", "_law_many"] (spDraw K) := by
  have B_int := B.int
  have B_len := B.len
  refine h.ok sc_l_draw (fun vs H Q E h => by obtain ⟨a, ns, n, rfl, _⟩ := h; rfl) (fun f cdv A outer s H vs Q E hr h => ?_)
  obtain ⟨p, m, n, rfl, hP, hn, hm0, hm1, k⟩ := h
  obtain ⟨a, b, cs, hp, hS, hc, ha0, ha1⟩ := hP.ex
  have hu := hu_of hr
  have hnl : (n : Int) < 1000000000000 := by unfold LIM at hn; omega
  have hmn : m ≠ 0 := by omega
  have hdiv : CDivN b m := ⟨hmn, by omega⟩
  refine ⟨_, (pss_cons (ps_if (pt_cmpR op_ge (pe_dget hu (pv 0) pe_str (fun _ _ => rfl)) (pv 1) (nomark _)) (pss_cons (ps_set (i := 2) sc_l_draw.nd rfl (Or.inl rfl) (pe_op op_modN (pe_callTy call_int1 rfl B_int (by decide +kernel) (pa_cons (pe_dget hu (pv 0) pe_str (fun _ _ => rfl)) pa_nil)) (pv 1)))
  (pss_cons (ps_dput hu (pv 0) pe_str (pe_op op_fdivN (pe_dget hu (pv 0) pe_str (fun _ _ => rfl)) (pv 1)) rfl)
  (pss_one (ps_ret (pv 2))))) pss_nil)
  (pss_cons (ps_set (i := 3) sc_l_draw.nd rfl (Or.inl rfl) (pe_dget hu (pv 0) pe_str (fun _ _ => rfl)))
  (pss_cons (ps_dput hu (pv 0) pe_str (pe_op op_add (pv 3) pe_int) rfl)
  (pss_cons (ps_set (i := 4) sc_l_draw.nd rfl (Or.inl rfl) (pe_op op_add (pe_op op_mul pe_int (pv 3)) pe_int))
  (pss_cons (ps_if (pt_cmpR (op_neD hr.units) (pe_dget hu (pv 0) pe_str (fun _ _ => rfl)) (pe_lst pa_nil) (nomark _)) (pss_one (ps_set (i := 4) sc_l_draw.nd rfl (Or.inl rfl) (pe_ix ix_list (pe_dget hu (pv 0) pe_str (fun _ _ => rfl)) (pe_op op_modN (pe_callTy call_int1 rfl B_int (by decide +kernel) (pa_cons (pv 3) pa_nil)) (pe_callB call_len_seq rfl B_len PySem.boot_len (pa_cons (pe_dget hu (pv 0) pe_str (fun _ _ => rfl)) pa_nil))) (fun _ _ => rfl)))) pss_nil)
  (pss_cons (ps_if (PW.pt (pw_and (pt_cmpR op_lt (pv 3) (pe_callB call_len_seq rfl B_len PySem.boot_len (pa_cons (pe_dget hu (pv 0) pe_str (fun _ _ => rfl)) pa_nil)) (nomark _)) (pw_and1 (pt_cmpR op_ge (pv 4) (pe_op op_pow pe_int pe_int) (nomark _))))) (pss_cons (ps_dput hu (pv 0) pe_str (pe_op op_fdivN (pe_op op_sub (pv 4) (pe_op op_pow pe_int pe_int)) (pv 1)) rfl)
  (pss_one (ps_ret (pe_op op_modN (pe_callTy call_int1 rfl B_int (by decide +kernel) (pa_cons (pe_op op_sub (pv 4) (pe_op op_pow pe_int pe_int)) pa_nil)) (pv 1))))) pss_nil)
  (pss_cons (ps_set (i := 5) sc_l_draw.nd rfl (Or.inl rfl) (pe_op op_add (pe_op op_add (pe_op op_add (pe_op op_mul (pe_op op_modN (pe_callTy call_int1 rfl B_int (by decide +kernel) (pa_cons (pv 4) pa_nil)) pe_int) pe_int) (pe_op op_mul (pe_op op_mul pe_int (pv 3)) (pv 3))) (pe_op op_mul pe_int (pv 3))) pe_int))
  (pss_cons (ps_set (i := 5) sc_l_draw.nd rfl (Or.inl rfl) (pe_op op_modN (pe_callTy call_int1 rfl B_int (by decide +kernel) (pa_cons (pv 5) pa_nil)) pe_int))
  (pss_cons (ps_set (i := 5) sc_l_draw.nd rfl (Or.inl rfl) (pe_op op_modN (pe_callTy call_int1 rfl B_int (by decide +kernel) (pa_cons (pe_op op_mul (pv 5) (pe_op op_add (pv 5) pe_int)) pa_nil)) pe_int))
  (pss_one (ps_ret (pe_op op_modN (pe_callTy call_int1 rfl B_int (by decide +kernel) (pa_cons (pe_op op_fdivN (pe_op op_modN (pe_callTy call_int1 rfl B_int (by decide +kernel) (pa_cons (pe_op op_mul (pv 5) (pv 5)) pa_nil)) pe_int) pe_int) pa_nil)) (pv 1))))))))))))), ?_⟩
  -- if pen["left"] >= many
  refine ⟨_, rfl, p.d, _, rfl, get_left hp, _, rfl, _, _, rfl, rfl, _, rfl, ?_⟩
  refine ite2 (fun _ => ?_) (fun _ => ?_)
  · refine ⟨_, rfl, p.d, _, rfl, get_left hp, .inl ⟨_, rfl, _, rfl, _, _, rfl, rfl, hmn, ?_⟩⟩
    refine ⟨_, rfl, p.d, _, rfl, get_left hp, _, rfl, _, _, rfl, rfl, ⟨hmn, by omega⟩, _, rfl, p.d, _, rfl, dput_left _ hp, _, rfl, ?_⟩
    exact k _ _ (fmod_in _ hm0).1 (fmod_in _ hm0).2 (Keep.pen hp) (.mk' hp hS hc ha0 (by omega))
  · refine ⟨_, rfl, p.d, _, rfl, get_at hp, ?_⟩
    refine ⟨_, rfl, _, _, rfl, rfl, _, rfl, p.d, _, rfl, dput_at _ hp, ?_⟩
    have hp1 : upd H p.d (.dK (penF p.l (a + 1) b)) p.d = some (.dK (penF p.l (a + 1) b)) := upd_same
    have hS1 := (Keep.pen (a' := a + 1) (b' := b) hp).seq hS
    refine ⟨_, rfl, _, _, rfl, rfl, .inl ⟨by decide, by decide⟩, _, _, rfl, rfl, ?_⟩
    refine ⟨_, rfl, p.d, _, rfl, get_cells hp1, ?_⟩
    refine ⟨by show 0 ≤ sizeLine; decide, fun q hq => ?_⟩
    have s1 := Same.new hq (.lst [])
    have npq : p.d ≠ q := ne_of_none hp1 hq
    have hp2 := s1 _ _ hp1
    have hS2 := s1.seq hS1
    refine ⟨.list (cs.map PyData.int), .list [], .lst hS2 (dpAll_ints cs), .lst (SqL.of upd_same) .nil, shaped_ints cs, by decide, _, rfl, ?_⟩
    rw [eqv_nil]
    have hk : Keep H (upd (upd H p.d (.dK (penF p.l (a + 1) b))) q (.lst [])) := (Keep.pen hp).trans (.of s1)
    have hP2 : PenAt K (upd (upd H p.d (.dK (penF p.l (a + 1) b))) q (.lst [])) p (n + 1) := ⟨a + 1, b, cs, hp2, hS2, hc, by omega, by omega⟩
    have hlen : ((cs.map V.int).length : Int) ≤ 63 := by rw [List.length_map]; omega
    refine ite2 (fun e => ?_) (fun _ => ?_)
    · have hpos : 0 < ((cs.map V.int).length : Int) := by
        cases cs with
        | nil => simp at e
        | cons c r => rw [List.length_map, List.length_cons]; omega
      have hb := fmod_in a hpos
      obtain ⟨v, hv1, hv2⟩ := atI_of (xs := cs.map V.int) hb.1 hb.2
      obtain ⟨z, rfl⟩ := ints_get hv1
      refine ⟨_, rfl, p.d, _, rfl, get_cells hp2, ?_⟩
      walk_at "rd"
      refine ⟨p.d, _, rfl, get_cells hp2, _, _, rfl, .inl hS2, ?_⟩
      walk_at "rd"
      refine ⟨by omega, _, _, _, _, rfl, rfl, hS2, hv2, ?_⟩
      walk_at "rd"
      refine ⟨p.d, _, rfl, get_cells hp2, _, _, rfl, .inl hS2, ?_⟩
      walk_at "rd"
      refine ite2 (fun _ => ?_) (fun _ => ?_)
      · walk_at "rd"
        refine ⟨⟨by decide, by decide, by decide⟩, ?_⟩
        walk_at "rd"
        refine ite2 (fun _ => ?_) (fun _ => ?_)
        · walk_at "rd"
          refine ⟨⟨by decide, by decide, by decide⟩, ?_⟩
          walk_at "rd"
          refine ⟨⟨hmn, by omega⟩, ?_⟩
          walk_at "rd"
          refine ⟨p.d, _, rfl, dput_left _ hp2, ?_⟩
          walk_at "rd"
          refine ⟨⟨by decide, by decide, by decide⟩, ?_⟩
          walk_at "rd"
          refine ⟨hmn, ?_⟩
          exact k _ _ (fmod_in _ hm0).1 (fmod_in _ hm0).2 (hk.trans (Keep.pen hp2)) (.mk' hp2 hS2 hc (by omega) (by omega))
        · walk_at "rd"
          refine ⟨show (2147483587 : Int) ≠ 0 by decide, ?_⟩
          walk_at "rd"
          refine ⟨.inr ⟨by decide, by decide⟩, ?_⟩
          walk_at "rd"
          refine ⟨.inl ⟨by decide, by decide⟩, ?_⟩
          walk_at "rd"
          refine ⟨.inr ⟨by omega, by omega⟩, ?_⟩
          walk_at "rd"
          refine ⟨.inl ⟨by decide, by decide⟩, ?_⟩
          walk_at "rd"
          refine ⟨show (2147483629 : Int) ≠ 0 by decide, ?_⟩
          walk_at "rd"
          refine ⟨cmul_fmod _ (by decide) (by decide) _, ?_⟩
          walk_at "rd"
          refine ⟨show (2147483549 : Int) ≠ 0 by decide, ?_⟩
          walk_at "rd"
          refine ⟨cmul_fmod _ (by decide) (by decide) _, ?_⟩
          walk_at "rd"
          refine ⟨show (2147483579 : Int) ≠ 0 by decide, ?_⟩
          walk_at "rd"
          refine ⟨⟨by decide, by decide⟩, ?_⟩
          walk_at "rd"
          refine ⟨hmn, ?_⟩
          exact k _ _ (fmod_in _ hm0).1 (fmod_in _ hm0).2 hk hP2
      · walk_at "rd"
        refine ⟨show (2147483587 : Int) ≠ 0 by decide, ?_⟩
        walk_at "rd"
        refine ⟨.inr ⟨by decide, by decide⟩, ?_⟩
        walk_at "rd"
        refine ⟨.inl ⟨by decide, by decide⟩, ?_⟩
        walk_at "rd"
        refine ⟨.inr ⟨by omega, by omega⟩, ?_⟩
        walk_at "rd"
        refine ⟨.inl ⟨by decide, by decide⟩, ?_⟩
        walk_at "rd"
        refine ⟨show (2147483629 : Int) ≠ 0 by decide, ?_⟩
        walk_at "rd"
        refine ⟨cmul_fmod _ (by decide) (by decide) _, ?_⟩
        walk_at "rd"
        refine ⟨show (2147483549 : Int) ≠ 0 by decide, ?_⟩
        walk_at "rd"
        refine ⟨cmul_fmod _ (by decide) (by decide) _, ?_⟩
        walk_at "rd"
        refine ⟨show (2147483579 : Int) ≠ 0 by decide, ?_⟩
        walk_at "rd"
        refine ⟨⟨by decide, by decide⟩, ?_⟩
        walk_at "rd"
        refine ⟨hmn, ?_⟩
        exact k _ _ (fmod_in _ hm0).1 (fmod_in _ hm0).2 hk hP2
    · walk_at "rd"
      refine ⟨p.d, _, rfl, get_cells hp2, _, _, rfl, .inl hS2, ?_⟩
      walk_at "rd"
      refine ite2 (fun _ => ?_) (fun _ => ?_)
      · walk_at "rd"
        refine ⟨⟨by decide, by decide, by decide⟩, ?_⟩
        walk_at "rd"
        refine ite2 (fun _ => ?_) (fun _ => ?_)
        · walk_at "rd"
          refine ⟨⟨by decide, by decide, by decide⟩, ?_⟩
          walk_at "rd"
          refine ⟨⟨hmn, by omega⟩, ?_⟩
          walk_at "rd"
          refine ⟨p.d, _, rfl, dput_left _ hp2, ?_⟩
          walk_at "rd"
          refine ⟨⟨by decide, by decide, by decide⟩, ?_⟩
          walk_at "rd"
          refine ⟨hmn, ?_⟩
          exact k _ _ (fmod_in _ hm0).1 (fmod_in _ hm0).2 (hk.trans (Keep.pen hp2)) (.mk' hp2 hS2 hc (by omega) (by omega))
        · walk_at "rd"
          refine ⟨show (2147483587 : Int) ≠ 0 by decide, ?_⟩
          walk_at "rd"
          refine ⟨.inr ⟨by decide, by decide⟩, ?_⟩
          walk_at "rd"
          refine ⟨.inl ⟨by decide, by decide⟩, ?_⟩
          walk_at "rd"
          refine ⟨.inr ⟨by omega, by omega⟩, ?_⟩
          walk_at "rd"
          refine ⟨.inl ⟨by decide, by decide⟩, ?_⟩
          walk_at "rd"
          refine ⟨show (2147483629 : Int) ≠ 0 by decide, ?_⟩
          walk_at "rd"
          refine ⟨cmul_fmod _ (by decide) (by decide) _, ?_⟩
          walk_at "rd"
          refine ⟨show (2147483549 : Int) ≠ 0 by decide, ?_⟩
          walk_at "rd"
          refine ⟨cmul_fmod _ (by decide) (by decide) _, ?_⟩
          walk_at "rd"
          refine ⟨show (2147483579 : Int) ≠ 0 by decide, ?_⟩
          walk_at "rd"
          refine ⟨⟨by decide, by decide⟩, ?_⟩
          walk_at "rd"
          refine ⟨hmn, ?_⟩
          exact k _ _ (fmod_in _ hm0).1 (fmod_in _ hm0).2 hk hP2
      · walk_at "rd"
        refine ⟨show (2147483587 : Int) ≠ 0 by decide, ?_⟩
        walk_at "rd"
        refine ⟨.inr ⟨by decide, by decide⟩, ?_⟩
        walk_at "rd"
        refine ⟨.inl ⟨by decide, by decide⟩, ?_⟩
        walk_at "rd"
        refine ⟨.inr ⟨by omega, by omega⟩, ?_⟩
        walk_at "rd"
        refine ⟨.inl ⟨by decide, by decide⟩, ?_⟩
        walk_at "rd"
        refine ⟨show (2147483629 : Int) ≠ 0 by decide, ?_⟩
        walk_at "rd"
        refine ⟨cmul_fmod _ (by decide) (by decide) _, ?_⟩
        walk_at "rd"
        refine ⟨show (2147483549 : Int) ≠ 0 by decide, ?_⟩
        walk_at "rd"
        refine ⟨cmul_fmod _ (by decide) (by decide) _, ?_⟩
        walk_at "rd"
        refine ⟨show (2147483579 : Int) ≠ 0 by decide, ?_⟩
        walk_at "rd"
        refine ⟨⟨by decide, by decide⟩, ?_⟩
        walk_at "rd"
        refine ⟨hmn, ?_⟩
        exact k _ _ (fmod_in _ hm0).1 (fmod_in _ hm0).2 hk hP2
end
end Wv
namespace Wv
open PySem PySem.Spec PyProof.Rows L2
/-! ### texts as codes -/
theorem tx_len (l : List Nat) : (tx l).length = l.length := by simp [tx, Str.length]
theorem tx_app (a b : List Nat) : tx a ++ tx b = tx (a ++ b) := by
  show Str.mk (a.toArray ++ b.toArray) = Str.mk (a ++ b).toArray
  simp
theorem tx_list (l : List Nat) : (tx l).cps.toList = l := rfl
theorem tx_take (l : List Nat) (k : Nat) : cutS (tx l) none (some (k : Int)) = tx (l.take k) := by
  unfold cutS
  rw [tx_len, tx_list, HT.sIx_none, HT.sIx_nat, List.drop_zero, Nat.sub_zero]
  unfold tx
  congr 2
  rw [List.take_eq_take_iff]
  omega
theorem tx_drop (l : List Nat) (k : Nat) : cutS (tx l) (some (k : Int)) none = tx (l.drop k) := by
  unfold cutS
  rw [tx_len, tx_list, HT.sIx_none, HT.sIx_nat]
  unfold tx
  congr 2
  by_cases h : k ≤ l.length
  · rw [Nat.min_eq_left h, List.take_of_length_le (by rw [List.length_drop]; omega)]
  · rw [Nat.min_eq_right (by omega), Nat.sub_self, List.take_zero, List.drop_eq_nil_of_le (by omega)]
abbrev alpha : List Nat := [97, 98, 99, 100, 101, 102, 103, 104, 105, 106, 107, 108, 109, 110, 111, 112, 113, 114, 115, 116, 117, 118, 119, 120, 121, 122]
theorem alpha_tx : Str.ofString "abcdefghijklmnopqrstuvwxyz" = tx alpha := by decide +kernel
theorem empty_tx : Str.ofString "" = tx [] := by decide +kernel
theorem alpha_az : Az alpha := by decide
theorem alpha_nd : alpha.Nodup := by decide
theorem perm_move {l fd : List Nat} {k : Nat} (h : k < l.length) (q : (fd ++ l).Perm alpha) : ((fd ++ [l[k]]) ++ (l.take k ++ l.drop (k + 1))).Perm alpha := by
  refine List.Perm.trans ?_ q
  rw [List.append_assoc]
  refine List.Perm.append_left fd ?_
  have e : l = l.take k ++ (l[k] :: l.drop (k + 1)) := by rw [← List.drop_eq_getElem_cons h, List.take_append_drop]
  refine List.Perm.trans ?_ (List.Perm.of_eq e.symm)
  exact (List.perm_middle (a := l[k]) (l₁ := l.take k) (l₂ := l.drop (k + 1))).symm
def spSigns (K : PySem.W.Frag) : Sp := fun vs H Q _ => ∃ (p : Pen) (m n : Nat), vs = [.ref p.d, .int (m : Int)] ∧ PenAt K H p n ∧ n + 30 < LIM ∧ m ≤ 20 ∧
  ∀ (z : List Nat) (H' : Hp), z.length = m → z.Nodup → Az z → Keep H H' → PenAt K H' p (n + m) → Q (.str (tx z)) H'
/-- leaves: the draws that they may make are counted -/
def spLeaf (K : PySem.W.Frag) : Sp := fun vs H Q _ => ∃ (p : Pen) (z : List Nat) (n : Nat), vs = [.ref p.d, .str (tx z)] ∧ PenAt K H p n ∧ n + 30 < LIM ∧ 0 < z.length ∧ z.length ≤ 100 ∧
  ∀ (v : V) (w : W) (H' : Hp), w.size = 1 → w.wf z → WayAt (newer H H') v w → Keep H H' → PenAt K H' p (n + 2) → Q v H'
def spWayOf (K : PySem.W.Frag) (s : Nat) : Sp := fun vs H Q _ => ∃ (p : Pen) (z : List Nat) (m n : Nat), vs = [.ref p.d, .str (tx z), .int (m : Int)] ∧ PenAt K H p n ∧ n + 4 * m + 30 < LIM ∧ 0 < z.length ∧ z.length ≤ 100 ∧ Az z ∧ 0 < m ∧ m ≤ s ∧ m ≤ 30 ∧
  ∀ (v : V) (w : W) (H' : Hp), w.size = m → w.wf z → WayAt (newer H H') v w → Keep H H' → PenAt K H' p (n + (4 * m - 2)) → Q v H'
def spWay (K : PySem.W.Frag) : Sp := fun vs H Q _ => ∃ (p : Pen) (z : List Nat) (m n : Nat), vs = [.ref p.d, .str (tx z), .int (m : Int)] ∧ PenAt K H p n ∧ n + 300 < LIM ∧ 0 < z.length ∧ z.length ≤ 100 ∧ Az z ∧ 0 < m ∧ m ≤ 30 ∧
  ∀ (v : V) (w : W) (H' : Hp), w.size ≤ m → w.wf z → WayAt (newer H H') v w → Keep H H' → PenAt K H' p (n + 200) → Q v H'
section
variable {P : Program} {w : World} {K : PySem.W.Frag} {mg : Str → Option Value} {base : Heap}
abbrev s_l_pick : Stmt := top 69
theorem sc_l_pick : FnScope ["_law_pen_here", "_law_items"] ["_law_pen_here", "_law_items"] (defScope s_l_pick) := ⟨rfl, rfl, rfl, by decide +kernel, rfl, by decide +kernel, by decide +kernel⟩
theorem d_l_pick (h : Here K mg "_law_pick" s_l_pick ["_law_pen_here", "_law_items"]) (B : Bs mg) (G_l_draw : DefOk P w K mg base 1 "_law_draw" ["_law_pen_here", "_law_many"] (spDraw K)) : DefOk P w K mg base 2 "_law_pick" ["_law_pen_here", "_law_items"] (spPick K) := by
  have B_len := B.len
  refine h.ok sc_l_pick (fun vs H Q E h => by obtain ⟨a, q, n, rfl, _⟩ := h; rfl) (fun f cdv A outer s H vs Q E hr h => ?_)
  obtain ⟨p, y, n, rfl, hP, hn, ⟨q, xs, rfl, hS, h0, h1, k⟩ | ⟨z, rfl, h0, h1, k⟩⟩ := h
  · refine ⟨_, (pss_one (ps_ret (pe_ix (IxR.or ix_list (IxR.or ix_str ix_tup)) (pv 1) (pe_callD G_l_draw (hr.mono (by first | decide | omega)) rfl (pa_cons (pv 0) (pa_cons (pe_callB (CallR.or call_len_seq call_len_str) rfl B_len PySem.boot_len (pa_cons (pv 1) pa_nil)) pa_nil))) (fun _ _ => rfl)))), ?_⟩
    refine ⟨_, rfl, _, rfl, _, rfl, .inl ⟨q, _, rfl, .inl hS, ?_⟩⟩
    refine ⟨p, _, n, rfl, hP, hn, by omega, by omega, fun d H' d0 d1 kp hP' => ?_⟩
    obtain ⟨v, hv1, hv2⟩ := atI_of d0 d1
    exact .inl ⟨q, _, _, _, rfl, rfl, kp.seq hS, hv2, k v H' (List.mem_of_getElem? hv1) kp hP'⟩
  · have hl : (tx z).length = z.length := tx_len z
    have hz : (tx z).length ≤ sizeLine := by rw [hl]; exact Nat.le_of_lt (small' (by omega))
    refine ⟨_, (pss_one (ps_ret (pe_ix (IxR.or ix_list (IxR.or ix_str ix_tup)) (pv 1) (pe_callD G_l_draw (hr.mono (by first | decide | omega)) rfl (pa_cons (pv 0) (pa_cons (pe_callB (CallR.or call_len_seq call_len_str) rfl B_len PySem.boot_len (pa_cons (pv 1) pa_nil)) pa_nil))) (fun _ _ => rfl)))), ?_⟩
    refine ⟨_, rfl, _, rfl, _, rfl, .inr ⟨_, rfl, hz, ?_⟩⟩
    refine ⟨p, _, n, rfl, hP, hn, by rw [hl]; omega, by rw [hl]; omega, fun d H' d0 d1 kp hP' => ?_⟩
    rw [hl] at d1
    obtain ⟨j, rfl⟩ : ∃ j : Nat, d = (j : Int) := ⟨d.toNat, by omega⟩
    have hj : j < z.length := by omega
    exact .inr (.inl ⟨tx z, _, z[j], rfl, rfl, hz, atI_nat (by rw [tx_list]; exact List.getElem?_eq_getElem hj), k _ H' (List.getElem_mem hj) kp hP'⟩)
abbrev s_l_signs : Stmt := top 70
theorem sc_l_signs : FnScope ["_law_pen_here", "_law_many", "_law_left", "_law_found", "_law_turn", "_law_at"] ["_law_pen_here", "_law_many"] (defScope s_l_signs) := ⟨rfl, rfl, rfl, by decide +kernel, rfl, by decide +kernel, by decide +kernel⟩
theorem d_l_signs (h : Here K mg "_law_signs" s_l_signs ["_law_pen_here", "_law_many"]) (B : Bs mg) (G_l_draw : DefOk P w K mg base 1 "_law_draw" ["_law_pen_here", "_law_many"] (spDraw K)) : DefOk P w K mg base 2 "_law_signs" ["_law_pen_here", "_law_many"] (spSigns K) := by
  have B_len := B.len
  have B_range := B.range
  refine h.ok sc_l_signs (fun vs H Q E h => by obtain ⟨a, q, n, rfl, _⟩ := h; rfl) (fun f cdv A outer s H vs Q E hr h => ?_)
  obtain ⟨p, m, n, rfl, hP, hn, hm, k⟩ := h
  refine ⟨_, (pss_cons (ps_asg (pe_tup (pa_cons pe_str (pa_cons pe_str pa_nil))) (pg_tup rfl (pgs_cons (pg_name (i := 2) sc_l_signs.nd rfl (Or.inl rfl)) (pgs_cons (pg_name (i := 3) sc_l_signs.nd rfl (Or.inl rfl)) pgs_nil))))
  (pss_cons (ps_for PassesOwn.never rfl (pi_range1 rfl B_range (pa_cons (pv 1) pa_nil)) (pg_name (i := 4) sc_l_signs.nd rfl (Or.inl rfl))
   (pss_cons (ps_set (i := 5) sc_l_signs.nd rfl (Or.inl rfl) (pe_callD G_l_draw (hr.mono (by first | decide | omega)) rfl (pa_cons (pv 0) (pa_cons (pe_callB call_len_str rfl B_len PySem.boot_len (pa_cons (pv 2) pa_nil)) pa_nil))))
  (pss_one (ps_par (i := 3) (j := 2) rfl sc_l_signs.nd rfl rfl (by decide) rfl rfl (pa_cons (pe_op op_add_str (pv 3) (pe_ix ix_str (pv 2) (pv 5) (fun _ _ => rfl))) (pa_cons (pe_op op_add_str (pe_slice sl_str (pv 2) po_none (po_some (pv 5))) (pe_slice sl_str (pv 2) (po_some (pe_op op_add (pv 5) pe_int)) po_none)) pa_nil)) (by rfl)))))
  (pss_one (ps_ret (pv 3))))), ?_⟩
  refine ⟨by show 2 ≤ sizeLine; decide, fun t ht => ?_⟩
  have st := Same.new ht (.tup [.str (Str.ofString "abcdefghijklmnopqrstuvwxyz"), .str (Str.ofString "")])
  refine ⟨t, _, rfl, SqT.of upd_same, rfl, ?_⟩
  refine ⟨_, _, rfl, _, _, rfl, rfl, _, rfl, (m : Int), rfl, by omega, by omega, ?_⟩
  refine for_range (lo := 0) (n := (m : Int).toNat) (fun i σ H' => ∃ (lf fd : List Nat) (v4 v5 : Option V), σ = [some (.ref p.d), some (.int m), some (.str (tx lf)), some (.str (tx fd)), v4, v5] ∧ fd.length = i ∧ (fd ++ lf).Perm alpha ∧ Keep H H' ∧ PenAt K H' p (n + i)) ?_ ?_ ?_
  · exact ⟨alpha, [], none, none, by rw [← alpha_tx, ← empty_tx]; rfl, rfl, .refl _, .of st, hP.same st⟩
  · rintro i σ H1 hi ⟨lf, fd, v4, v5, rfl, hl, hp, hk, hP1⟩
    have e26 : fd.length + lf.length = 26 := by rw [← List.length_append, hp.length_eq]; rfl
    have hsz : (tx lf).length = lf.length := tx_len lf
    refine ⟨_, rfl, _, rfl, _, rfl, by rw [hsz]; exact Nat.le_of_lt (small' (by omega)), p, _, _, rfl, hP1, by omega, by rw [hsz]; omega, by rw [hsz]; omega, fun d H2 d0 d1 k2 hP2 => ?_⟩
    rw [hsz] at d1
    obtain ⟨j, rfl⟩ : ∃ j : Nat, d = (j : Int) := ⟨d.toNat, by omega⟩
    have hj : j < lf.length := by omega
    have g1 : (tx fd).length + (sg lf[j]).length ≤ sizeLine := by rw [tx_len]; exact Nat.le_of_lt (small' (by show fd.length + 1 ≤ _; omega))
    walk_at "rd"
    have hz : (tx lf).length ≤ sizeLine := by rw [tx_len]; exact Nat.le_of_lt (small' (by omega))
    refine ⟨tx lf, _, lf[j], rfl, rfl, hz, atI_nat (by rw [tx_list]; exact List.getElem?_eq_getElem hj), ?_⟩
    walk_at "rd"
    refine ⟨g1, ?_⟩
    walk_at "rd"
    refine ⟨hz, ?_⟩
    walk_at "rd"
    refine ⟨hz, ?_⟩
    walk_at "rd"
    have ej : ((j : Int) + 1) = ((j + 1 : Nat) : Int) := by omega
    have g2 : (cutS (tx lf) none (some (j : Int))).length + (cutS (tx lf) (some ((j : Int) + 1)) none).length ≤ sizeLine := by
      rw [ej, tx_take, tx_drop, tx_len, tx_len, List.length_take, List.length_drop]
      exact Nat.le_of_lt (small' (by omega))
    refine ⟨g2, ?_⟩
    walk_at "rd"
    refine ⟨_, _, rfl, lf.take j ++ lf.drop (j + 1), fd ++ [lf[j]], some (.int (0 + i)), some (.int j), ?_, by rw [List.length_append, hl]; rfl, perm_move hj hp, hk.trans k2, hP2⟩
    show [some (V.ref p.d), some (V.int m), some (V.str (cutS (tx lf) none (some (j : Int)) ++ cutS (tx lf) (some ((j : Int) + 1)) none)), some (V.str (tx fd ++ sg lf[j])), some (V.int (0 + i)), some (V.int j)] = _
    rw [ej, tx_take, tx_drop, tx_app, show sg lf[j] = tx [lf[j]] from rfl, tx_app]
  · rintro σ H1 ⟨lf, fd, v4, v5, rfl, hl, hp, hk, hP1⟩
    refine ⟨_, rfl, ?_⟩
    have nd : (fd ++ lf).Nodup := hp.nodup_iff.mpr alpha_nd
    exact k fd H1 (by omega) (List.nodup_append.mp nd).1 (fun c hc => alpha_az c (hp.mem_iff.mp (List.mem_append_left _ hc))) hk (by rw [Int.toNat_natCast] at hP1; exact hP1)
abbrev s_l_leaf : Stmt := top 71
theorem sc_l_leaf : FnScope ["_law_pen_here", "_law_signs_here", "_law_sort"] ["_law_pen_here", "_law_signs_here"] (defScope s_l_leaf) := ⟨rfl, rfl, rfl, by decide +kernel, rfl, by decide +kernel, by decide +kernel⟩
theorem d_l_leaf (h : Here K mg "_law_leaf" s_l_leaf ["_law_pen_here", "_law_signs_here"]) (B : Bs mg) (G_l_draw : DefOk P w K mg base 1 "_law_draw" ["_law_pen_here", "_law_many"] (spDraw K)) (G_l_pick : DefOk P w K mg base 2 "_law_pick" ["_law_pen_here", "_law_items"] (spPick K)) : DefOk P w K mg base 3 "_law_leaf" ["_law_pen_here", "_law_signs_here"] (spLeaf K) := by
  refine h.ok sc_l_leaf (fun vs H Q E h => by obtain ⟨a, q, n, rfl, _⟩ := h; rfl) (fun f cdv A outer s H vs Q E hr h => ?_)
  obtain ⟨p, z, n, rfl, hP, hn, hz0, hz1, k⟩ := h
  refine ⟨_, (pss_cons (ps_set (i := 2) sc_l_leaf.nd rfl (Or.inl rfl) (pe_callD G_l_draw (hr.mono (by first | decide | omega)) rfl (pa_cons (pv 0) (pa_cons pe_int pa_nil))))
  (pss_cons (ps_if (pt_cmpR op_eq (pv 2) pe_int (nomark _)) (pss_one (ps_ret (pe_tup (pa_cons pe_str pa_nil)))) pss_nil)
  (pss_one (ps_ret (pe_ifExp (pt_cmpR op_lt (pv 2) pe_int (nomark _)) (pe_tup (pa_cons pe_str pa_nil)) (pe_tup (pa_cons pe_str (pa_cons (pe_callD G_l_pick (hr.mono (by first | decide | omega)) rfl (pa_cons (pv 0) (pa_cons (pv 1) pa_nil))) pa_nil)))))))), ?_⟩
  refine ⟨_, rfl, p, 8, n, rfl, hP, by omega, by decide, by decide, fun d H1 d0 d1 k1 hP1 => ?_⟩
  walk_at "rd"
  refine ite2 (fun _ => ?_) (fun _ => ?_)
  · refine ⟨by show 1 ≤ sizeLine; decide, fun t ht => ?_⟩
    have s1 := Same.new ht (.tup [.str (Str.ofString "nothing")])
    exact k _ .nothing _ rfl trivial ⟨t, rfl, by rw [newer_at (k1.free ht)]; exact upd_same⟩ (k1.trans (.of s1)) ((hP1.same s1).mono (by omega))
  · walk_at "rd"
    refine ite2 (fun _ => ?_) (fun _ => ?_)
    · refine ⟨by show 1 ≤ sizeLine; decide, fun t ht => ?_⟩
      have s1 := Same.new ht (.tup [.str (Str.ofString "one")])
      exact k _ .one _ rfl trivial ⟨t, rfl, by rw [newer_at (k1.free ht)]; exact upd_same⟩ (k1.trans (.of s1)) ((hP1.same s1).mono (by omega))
    · walk_at "rd"
      refine ⟨p, _, n + 1, rfl, hP1, by omega, .inr ⟨z, rfl, hz0, by omega, fun c H2 hc k2 hP2 => ?_⟩⟩
      refine ⟨by show 2 ≤ sizeLine; decide, fun t ht => ?_⟩
      have s1 := Same.new ht (.tup [.str (Str.ofString "letter"), .str (sg c)])
      exact k _ (.letter c) _ rfl hc ⟨t, rfl, by rw [newer_at ((k1.trans k2).free ht)]; exact upd_same⟩ ((k1.trans k2).trans (.of s1)) (hP2.same s1)
/-- the number in a slot -/
def slotN (k : Nat) (σ : L2.St) : Nat := match σ[k]? with
  | some (some (V.int i)) => i.toNat
  | _ => 0
theorem dec_t {a b : Int} (h : decide (V.int a = V.int b) = true) : a = b := V.int.inj (of_decide_eq_true h)
theorem dec_f {a b : Int} (h : ¬ decide (V.int a = V.int b) = true) : a ≠ b := fun e => h (decide_eq_true (by rw [e]))
abbrev s_l_way_of : Stmt := top 73
theorem sc_l_way_of : FnScope ["_law_pen_here", "_law_signs_here", "_law_size", "_law_word", "_law_left", "_law_found", "_law_rest", "_law_share"] ["_law_pen_here", "_law_signs_here", "_law_size"] (defScope s_l_way_of) := ⟨rfl, rfl, rfl, by decide +kernel, rfl, by decide +kernel, by decide +kernel⟩
theorem none_way_of {f : Addr} {fd : FuncData} : FnOk P w K mg base CX0 3 f fd ["_law_pen_here", "_law_signs_here", "_law_size"] (spWayOf K 0) := by
  have no : ∀ vs H Q E, ¬ spWayOf K 0 vs H Q E := fun vs H Q E h => by
    obtain ⟨p, z, m, n, _, _, _, _, _, _, h1, h2, _⟩ := h
    omega
  exact ⟨fun vs H Q E h => absurd h (no vs H Q E), fun A outer s H args us vs Q E _ _ _ _ h => absurd h (no vs H Q E)⟩
theorem step_l_way_of (s : Nat) (h : Here K mg "_law_way_of" s_l_way_of ["_law_pen_here", "_law_signs_here", "_law_size"]) (B : Bs mg) (G_l_draw : DefOk P w K mg base 1 "_law_draw" ["_law_pen_here", "_law_many"] (spDraw K)) (G_l_pick : DefOk P w K mg base 2 "_law_pick" ["_law_pen_here", "_law_items"] (spPick K))
    (G_l_leaf : DefOk P w K mg base 3 "_law_leaf" ["_law_pen_here", "_law_signs_here"] (spLeaf K)) (G_l_way_of : DefOk P w K mg base (3 + s) "_law_way_of" ["_law_pen_here", "_law_signs_here", "_law_size"] (spWayOf K s)) : DefOk P w K mg base (3 + s + 1) "_law_way_of" ["_law_pen_here", "_law_signs_here", "_law_size"] (spWayOf K (s + 1)) := by
  refine h.ok sc_l_way_of (fun vs H Q E h => by obtain ⟨a, q, m, n, rfl, _⟩ := h; rfl) (fun f cdv A outer s' H vs Q E hr h => ?_)
  obtain ⟨p, z, m, n, rfl, hP, hn, hz0, hz1, hz, hm0, hm1, hm2, k⟩ := h
  refine ⟨_, (pss_cons (ps_if (pt_cmpR op_eq (pv 2) pe_int (nomark _)) (pss_one (ps_ret (pe_callD G_l_leaf (hr.mono (by first | decide | omega)) rfl (pa_cons (pv 0) (pa_cons (pv 1) pa_nil))))) pss_nil)
  (pss_cons (ps_if (PW.pt (pw_or (pt_cmpR op_eq (pv 2) pe_int (nomark _)) (pw_or1 (pt_cmpR op_eq (pe_callD G_l_draw (hr.mono (by first | decide | omega)) rfl (pa_cons (pv 0) (pa_cons pe_int pa_nil))) pe_int (nomark _))))) (pss_cons (ps_set (i := 3) sc_l_way_of.nd rfl (Or.inl rfl) (pe_callD G_l_pick (hr.mono (by first | decide | omega)) rfl (pa_cons (pv 0) (pa_cons (pe_lst (pa_cons pe_str (pa_cons pe_str (pa_cons pe_str (pa_cons pe_str (pa_cons pe_str pa_nil)))))) pa_nil))))
  (pss_one (ps_ret (pe_tup (pa_cons (pv 3) (pa_cons (pe_callD G_l_way_of (hr.mono (by first | decide | omega)) rfl (pa_cons (pv 0) (pa_cons (pv 1) (pa_cons (pe_op op_sub (pv 2) pe_int) pa_nil)))) pa_nil)))))) pss_nil)
  (pss_cons (ps_par3 (i := 3) (j := 4) (l := 5) rfl sc_l_way_of.nd rfl rfl rfl (by decide) (by decide) (by decide) rfl rfl rfl (pa_cons (pe_callD G_l_pick (hr.mono (by first | decide | omega)) rfl (pa_cons (pv 0) (pa_cons (pe_lst (pa_cons pe_str (pa_cons pe_str (pa_cons pe_str pa_nil)))) pa_nil))) (pa_cons (pe_op op_sub (pv 2) pe_int) (pa_cons (pe_lst pa_nil) pa_nil))) (by rfl))
  (pss_cons (ps_while PassesOwn.never (pt_cmpR op_gt (pv 4) pe_int (nomark _)) (pss_cons (ps_set (i := 6) sc_l_way_of.nd rfl (Or.inl rfl) (pe_and (pe_cmpR (op_neD hr.units) (pv 5) (pe_lst pa_nil) (nomark _)) (pe_one (pe_cmpR op_eq (pe_callD G_l_draw (hr.mono (by first | decide | omega)) rfl (pa_cons (pv 0) (pa_cons pe_int pa_nil))) pe_int (nomark _)))))
  (pss_cons (ps_set (i := 7) sc_l_way_of.nd rfl (Or.inl rfl) (pe_ifExp (pt_val (pv 6)) (pv 4) (pe_op op_add pe_int (pe_callD G_l_draw (hr.mono (by first | decide | omega)) rfl (pa_cons (pv 0) (pa_cons (pv 4) pa_nil))))))
  (pss_cons (ps_set (i := 7) sc_l_way_of.nd rfl (Or.inl rfl) (pe_ifExp (PW.pt (pw_and (pt_cmpR (op_eqD hr.units) (pv 5) (pe_lst pa_nil) (nomark _)) (pw_and1 (pt_cmpR op_eq (pv 7) (pv 4) (nomark _))))) (pe_op op_sub (pv 4) pe_int) (pv 7)))
  (pss_cons (ps_expr (pe_bm PySem.F.plainAttrs_list PySem.F.slot_list_append PySem.F.type_list_append mt_append (pv 5) (pa_cons (pe_callD G_l_way_of (hr.mono (by first | decide | omega)) rfl (pa_cons (pv 0) (pa_cons (pv 1) (pa_cons (pv 7) pa_nil)))) pa_nil)))
  (pss_one (ps_set (i := 4) sc_l_way_of.nd rfl (Or.inl rfl) (pe_op op_sub (pv 4) (pv 7)))))))))
  (pss_one (ps_ret (pe_tup (pa_cons (pv 3) (pa_cons (pv 5) pa_nil))))))))), ?_⟩
  walk_at "rd"
  refine ite2 (fun e1 => ?_) (fun e1 => ?_)
  · have e1 := dec_t e1
    walk_at "rd"
    refine ⟨p, z, n, rfl, hP, by omega, hz0, hz1, fun v w' H' hs hw hv kk hP' => k v w' H' (by omega) hw hv kk (hP'.mono (by omega))⟩
  · have e1 := dec_f e1
    walk_at "rd"
    refine ite2 (fun e2 => ?_) (fun e2 => ?_)
    · have e2 := dec_t e2
      obtain ⟨n1, hn1, en1⟩ : ∃ n1, n1 ≤ n + 1 ∧ n1 = n := ⟨n, by omega, rfl⟩
      have hP1 : PenAt K H p n1 := by rw [en1]; exact hP
      have k1 : Keep H H := .refl H
      refine iteT ?_
      walk_at "rd"
      refine ⟨by show 5 ≤ sizeLine; decide, fun q hq => ?_⟩
      have s2 := Same.new hq (.lst [.str (Str.ofString "again"), .str (Str.ofString "again"), .str (Str.ofString "maybe"), .str (Str.ofString "ahead"), .str (Str.ofString "unless")])
      refine ⟨p, _, n1, rfl, hP1.same s2, by omega, .inl ⟨q, _, rfl, SqL.of upd_same, by decide, by decide, fun v H2 hv k2 hP2 => ?_⟩⟩
      walk_at "rd"
      have em : ((m : Int) - 1) = ((m - 1 : Nat) : Int) := by omega
      have k12 := (k1.trans (.of s2)).trans k2
      refine ⟨p, z, m - 1, n1 + 1, by rw [← em]; rfl, hP2, by omega, hz0, hz1, hz, by omega, by omega, by omega, fun u wu H3 hs hw hu k3 hP3 => ?_⟩
      refine ⟨by show 2 ≤ sizeLine; decide, fun t ht => ?_⟩
      have s4 := Same.new ht (.tup [v, u])
      have k13 := k12.trans k3
      have hu' : WayAt (newer H (upd H3 t (.tup [v, u]))) u wu := WayAt.keep ((newer_down k12).trans (newer_up (.of s4))) _ _ hu
      have ht' : newer H (upd H3 t (.tup [v, u])) t = some (.tup [v, u]) := by rw [newer_at (k13.free ht)]; exact upd_same
      have kf := k13.trans (.of s4)
      have pf := (hP3.same s4).mono (show n1 + 1 + (4 * (m - 1) - 2) ≤ n + (4 * m - 2) by omega)
      simp only [List.mem_cons, List.not_mem_nil, or_false] at hv
      rcases hv with rfl | rfl | rfl | rfl | rfl
      · exact k _ (.again wu) _ (by simp only [W.size]; omega) hw ⟨t, u, rfl, ht', hu'⟩ kf pf
      · exact k _ (.again wu) _ (by simp only [W.size]; omega) hw ⟨t, u, rfl, ht', hu'⟩ kf pf
      · exact k _ (.maybe wu) _ (by simp only [W.size]; omega) hw ⟨t, u, rfl, ht', hu'⟩ kf pf
      · exact k _ (.ahead wu) _ (by simp only [W.size]; omega) hw ⟨t, u, rfl, ht', hu'⟩ kf pf
      · exact k _ (.unless wu) _ (by simp only [W.size]; omega) hw ⟨t, u, rfl, ht', hu'⟩ kf pf
    · have e2 := dec_f e2
      refine ⟨_, rfl, p, 3, n, rfl, hP, by omega, by decide, by decide, fun d H1 d0 d1 k1 hP1 => ?_⟩
      walk_at "rd"
      obtain ⟨n1, hn1, en1⟩ : ∃ n1, n1 ≤ n + 1 ∧ n1 = n + 1 := ⟨n + 1, by omega, rfl⟩
      rw [← en1] at hP1
      refine ite2 (fun e3 => ?_) (fun e3 => ?_)
      · walk_at "rd"
        refine ⟨by show 5 ≤ sizeLine; decide, fun q hq => ?_⟩
        have s2 := Same.new hq (.lst [.str (Str.ofString "again"), .str (Str.ofString "again"), .str (Str.ofString "maybe"), .str (Str.ofString "ahead"), .str (Str.ofString "unless")])
        refine ⟨p, _, n1, rfl, hP1.same s2, by omega, .inl ⟨q, _, rfl, SqL.of upd_same, by decide, by decide, fun v H2 hv k2 hP2 => ?_⟩⟩
        walk_at "rd"
        have em : ((m : Int) - 1) = ((m - 1 : Nat) : Int) := by omega
        have k12 := (k1.trans (.of s2)).trans k2
        refine ⟨p, z, m - 1, n1 + 1, by rw [← em]; rfl, hP2, by omega, hz0, hz1, hz, by omega, by omega, by omega, fun u wu H3 hs hw hu k3 hP3 => ?_⟩
        refine ⟨by show 2 ≤ sizeLine; decide, fun t ht => ?_⟩
        have s4 := Same.new ht (.tup [v, u])
        have k13 := k12.trans k3
        have hu' : WayAt (newer H (upd H3 t (.tup [v, u]))) u wu := WayAt.keep ((newer_down k12).trans (newer_up (.of s4))) _ _ hu
        have ht' : newer H (upd H3 t (.tup [v, u])) t = some (.tup [v, u]) := by rw [newer_at (k13.free ht)]; exact upd_same
        have kf := k13.trans (.of s4)
        have pf := (hP3.same s4).mono (show n1 + 1 + (4 * (m - 1) - 2) ≤ n + (4 * m - 2) by omega)
        simp only [List.mem_cons, List.not_mem_nil, or_false] at hv
        rcases hv with rfl | rfl | rfl | rfl | rfl
        · exact k _ (.again wu) _ (by simp only [W.size]; omega) hw ⟨t, u, rfl, ht', hu'⟩ kf pf
        · exact k _ (.again wu) _ (by simp only [W.size]; omega) hw ⟨t, u, rfl, ht', hu'⟩ kf pf
        · exact k _ (.maybe wu) _ (by simp only [W.size]; omega) hw ⟨t, u, rfl, ht', hu'⟩ kf pf
        · exact k _ (.ahead wu) _ (by simp only [W.size]; omega) hw ⟨t, u, rfl, ht', hu'⟩ kf pf
        · exact k _ (.unless wu) _ (by simp only [W.size]; omega) hw ⟨t, u, rfl, ht', hu'⟩ kf pf
      · walk_at "rd"
        refine ⟨by show 3 ≤ sizeLine; decide, fun q0 hq0 => ?_⟩
        have s2 := Same.new hq0 (.lst [.str (Str.ofString "row"), .str (Str.ofString "row"), .str (Str.ofString "choice")])
        refine ⟨p, _, n1, rfl, hP1.same s2, by omega, .inl ⟨q0, _, rfl, SqL.of upd_same, by decide, by decide, fun v H2 hv k2 hP2 => ?_⟩⟩
        walk_at "rd"
        refine ⟨Nat.zero_le _, fun q hq => ?_⟩
        have s3 := Same.new hq (.lst [])
        have k13 := (k1.trans (.of s2)).trans k2
        have k14 := k13.trans (.of s3)
        have hqH := k13.free hq
        have hP4 := hP2.same s3
        generalize hH4 : upd H2 q (.lst []) = H4 at *
        have hq4 : H4 q = some (.lst []) := by rw [← hH4]; exact upd_same
        refine ⟨_, _, _, rfl, ?_⟩
        refine while_by (fun σ H' => ∃ (lf : Nat) (ws : List W) (vs : List V) (v6 v7 : Option V), σ = [some (.ref p.d), some (.str (tx z)), some (.int m), some v, some (.int lf), some (.ref q), v6, v7] ∧ H' q = some (.lst vs) ∧ WaysAt (newer H4 H') vs ws ∧ W.wfs z ws ∧
            W.sizes ws + lf + 1 = m ∧ (lf = 0 → 2 ≤ ws.length) ∧ Keep H H' ∧ Sub H4 H' ∧ PenAt K H' p (n + 2 + 4 * W.sizes ws)) (fun σ _ => slotN 4 σ) ?_ ?_ (fun σ H Q Q' hq ⟨v, e, i, j, e1, e2, k, e3, h⟩ => ⟨v, e, i, j, e1, e2, k, e3, hq _ _ h⟩)
        · refine ⟨m - 1, [], [], none, none, ?_, hq4, rfl, trivial, by simp only [W.sizes]; omega, fun _ => by omega, k14, fun _ h => h, hP4.mono (by simp only [W.sizes]; omega)⟩
          have em : ((m : Int) - 1) = ((m - 1 : Nat) : Int) := by omega
          rw [← em]
          rfl
        · rintro σ H5 ⟨lf, ws, vs, v6, v7, rfl, hq5, hws, hwf, hsum, h0, k5, k45, hP5⟩
          walk_at "rd"
          refine ite2 (fun e4 => ?_) (fun e4 => ?_)
          · have e4 : (0 : Int) < lf := of_decide_eq_true e4
            have hlen := WaysAt.len _ _ hws
            have hll := W.sizes_len ws
            have hshape := W.shaped_list hz hwf (show W.sizes ws ≤ 31 by omega)
            -- whether the last one takes all that is left
            refine withQ (E := tAndV _ _) (fun x H6 => ∃ b : Bool, x = .bl b ∧ (b = true → ws ≠ []) ∧ Keep H5 H6 ∧ PenAt K H6 p (n + 2 + 4 * W.sizes ws + 1)) (fun Q' go => ?_) ?_
            · walk_at "rd"
              refine ⟨Nat.zero_le _, fun qe hqe => ?_⟩
              have se := Same.new hqe (.lst [])
              refine ⟨.list (W.datas ws), .list [], .lst (SqL.of (se _ _ hq5)) (WaysAt.dp _ _ (WaysAt.keep (newer_le.trans (.of se)) _ _ hws)), .lst (SqL.of upd_same) .nil, hshape, by decide, ?_⟩
              rw [eqv_nil, datas_empty]
              refine ⟨_, rfl, ?_⟩
              refine ite2 (fun e5 => ?_) (fun e5 => ?_)
              · refine ⟨_, rfl, p, 2, _, rfl, hP5.same se, by omega, by decide, by decide, fun d H6 d0 d1 k6 hP6 => ?_⟩
                refine ⟨rfl, go _ _ ⟨_, rfl, fun _ e => ?_, (Keep.of se).trans k6, hP6⟩⟩
                rw [e] at e5
                cases e5
              · exact go _ _ ⟨false, rfl, fun e => Bool.noConfusion e, Keep.of se, (hP5.same se).mono (by omega)⟩
            rintro x H6 ⟨b, rfl, hb, k6, hP6⟩
            -- the share
            walk_at "nx"
            refine withQ (E := tIf _ _ _) (fun x H7 => ∃ sh : Nat, x = .int sh ∧ 0 < sh ∧ sh ≤ lf ∧ Keep H5 H7 ∧ PenAt K H7 p (n + 2 + 4 * W.sizes ws + 2)) (fun Q' go => ?_) ?_
            · walk_at "rd"
              refine ite2 (fun e5 => ?_) (fun e5 => ?_)
              · walk_at "rd"
                exact go _ _ ⟨lf, rfl, by omega, Nat.le_refl _, k6, hP6.mono (by omega)⟩
              · refine ⟨_, rfl, _, rfl, p, lf, _, rfl, hP6, by omega, e4, by omega, fun d H7 d0 d1 k7 hP7 => ?_⟩
                walk_at "rd"
                exact go _ _ ⟨d.toNat + 1, by show V.int (1 + d) = _; congr 1; omega, by omega, by omega, k6.trans k7, hP7⟩
            rintro x H7 ⟨sh, rfl, hs0, hs1, k7, hP7⟩
            walk_at "nx"
            refine withQ (E := tIf _ _ _) (fun x H8 => ∃ sh : Nat, x = .int sh ∧ 0 < sh ∧ sh ≤ lf ∧ (ws = [] → sh < lf) ∧ Keep H5 H8 ∧ PenAt K H8 p (n + 2 + 4 * W.sizes ws + 2)) (fun Q' go => ?_) ?_
            · refine withB (E := tAnd _ _) (fun b H8 => (b = true ↔ (ws = [] ∧ sh = lf)) ∧ Keep H5 H8 ∧ PenAt K H8 p (n + 2 + 4 * W.sizes ws + 2)) (fun Q' go => ?_) ?_
              · walk_at "rd"
                refine ⟨Nat.zero_le _, fun qe hqe => ?_⟩
                have se := Same.new hqe (.lst [])
                have k75 : Keep H5 (upd H7 qe (.lst [])) := k7.trans (.of se)
                refine ⟨.list (W.datas ws), .list [], .lst (SqL.of (k75.lst hq5)) (WaysAt.dp _ _ (WaysAt.keep (newer_le.trans k75) _ _ hws)), .lst (SqL.of upd_same) .nil, hshape, by decide, _, rfl, ?_⟩
                rw [eqv_nil, datas_empty]
                refine ite2 (fun e5 => ?_) (fun e5 => ?_)
                · walk_at "rd"
                  refine go _ _ ⟨⟨fun e => ⟨List.isEmpty_iff.mp e5, ?_⟩, fun e => decide_eq_true (by rw [e.2])⟩, k75, hP7.same se⟩
                  have := dec_t e
                  omega
                · exact go _ _ ⟨⟨fun e => Bool.noConfusion e, fun e => absurd (List.isEmpty_iff.mpr e.1) e5⟩, k75, hP7.same se⟩
              · rintro b' H8 ⟨hb', k8, hP8⟩
                refine ite2 (fun e5 => ?_) (fun e5 => ?_)
                · obtain ⟨e6, e7⟩ := hb'.mp e5
                  walk_at "rd"
                  have hz0 : W.sizes ws = 0 := by rw [e6]; rfl
                  refine go _ _ ⟨lf - 1, ?_, by omega, by omega, fun _ => by omega, k8, hP8⟩
                  show V.int ((lf : Int) - 1) = _
                  congr 1
                  omega
                · walk_at "rd"
                  refine go _ _ ⟨sh, rfl, hs0, hs1, fun e => ?_, k8, hP8⟩
                  by_cases e7 : sh = lf
                  · exact absurd (hb'.mpr ⟨e, e7⟩) e5
                  · omega
            rintro x H8 ⟨sh', rfl, hs0', hs1', hne, k8, hP8⟩
            walk_at "nx"
            refine ⟨_, rfl, .inl ⟨rfl, _, SqL.of (k8.lst hq5)⟩, _, rfl, _, rfl, _, rfl, ?_⟩
            refine ⟨p, z, sh', _, rfl, hP8, by omega, hz0, hz1, hz, hs0', by omega, by omega, fun u wu H9 hs hw hu k9 hP9 => ?_⟩
            have k59 := k8.trans k9
            refine ⟨q, vs, u, rfl, rfl, k59.lst hq5, small' (by omega), ?_⟩
            walk_at "rd"
            have esz : W.sizes (ws ++ [wu]) = W.sizes ws + sh' := by rw [W.sizes_app]; simp only [W.sizes]; omega
            have elf : ((lf : Int) - sh') = ((lf - sh' : Nat) : Int) := by omega
            refine ⟨⟨lf - sh', ws ++ [wu], vs ++ [u], some (.bl b), some (.int sh'), ?_, upd_same, ?_, (W.wfs_app _ _ _).mpr ⟨hwf, hw, trivial⟩, by rw [esz]; omega, fun e => ?_, Keep.put hqH (k5.trans k59) _, (k45.trans k59.sub).put _ _, ?_⟩, ?_⟩
            · show [some (V.ref p.d), some (V.str (tx z)), some (V.int m), some v, some (V.int ((lf : Int) - sh')), some (V.ref q), some (V.bl b), some (V.int sh')] = _
              rw [elf]
            · rw [newer_put hq4]
              exact WaysAt.app _ _ (WaysAt.keep (newer_up k59) _ _ hws) ⟨u, [], rfl, WayAt.keep (newer_sub (k45.trans k8.sub)) _ _ hu, rfl⟩
            · have : ws ≠ [] := fun e' => by have := hne e'; omega
              have : 0 < ws.length := List.length_pos_iff.mpr this
              rw [List.length_append]
              show 2 ≤ ws.length + 1
              omega
            · rw [esz]
              exact hP.put hqH (hP9.mono (by omega)) (k5.trans k59) (k59.lst hq5)
            · show slotN 4 _ < slotN 4 _
              have e1 : slotN 4 [some (V.ref p.d), some (V.str (tx z)), some (V.int m), some v, some (V.int ((lf : Int) - sh')), some (V.ref q), some (V.bl b), some (V.int sh')] = ((lf : Int) - sh').toNat := rfl
              have e2 : slotN 4 [some (V.ref p.d), some (V.str (tx z)), some (V.int m), some v, some (V.int lf), some (V.ref q), v6, v7] = (lf : Int).toNat := rfl
              rw [show slotN 4 _ = _ from e2]
              refine Nat.lt_of_le_of_lt (Nat.le_of_eq e1) ?_
              omega
          · have e4 : lf = 0 := by
              by_cases h : lf = 0
              · exact h
              · exact absurd (decide_eq_true (show (0 : Int) < lf by omega)) e4
            walk_at "nx"
            walk_at "rd"
            refine ⟨by show 2 ≤ sizeLine; decide, fun t ht => ?_⟩
            have s6 := Same.new ht (.tup [v, .ref q])
            have kf := k5.trans (.of s6)
            have ht' : newer H (upd H5 t (.tup [v, .ref q])) t = some (.tup [v, .ref q]) := by rw [newer_at (k5.free ht)]; exact upd_same
            have hq' : newer H (upd H5 t (.tup [v, .ref q])) q = some (.lst vs) := by rw [newer_at hqH]; exact s6 _ _ hq5
            have hw' : WaysAt (newer H (upd H5 t (.tup [v, .ref q]))) vs ws := WaysAt.keep ((newer_up (.of s6)).trans (newer_down k14)) _ _ hws
            have pf := (hP5.same s6).mono (show n + 2 + 4 * W.sizes ws ≤ n + (4 * m - 2) by omega)
            simp only [List.mem_cons, List.not_mem_nil, or_false] at hv
            rcases hv with rfl | rfl | rfl
            · exact k _ (.row ws) _ (by simp only [W.size]; omega) ⟨h0 e4, hwf⟩ ⟨t, q, vs, rfl, ht', hq', hw'⟩ kf pf
            · exact k _ (.row ws) _ (by simp only [W.size]; omega) ⟨h0 e4, hwf⟩ ⟨t, q, vs, rfl, ht', hq', hw'⟩ kf pf
            · exact k _ (.choice ws) _ (by simp only [W.size]; omega) ⟨h0 e4, hwf⟩ ⟨t, q, vs, rfl, ht', hq', hw'⟩ kf pf
theorem d_l_way_of (h : Here K mg "_law_way_of" s_l_way_of ["_law_pen_here", "_law_signs_here", "_law_size"]) (B : Bs mg) (G_l_draw : DefOk P w K mg base 1 "_law_draw" ["_law_pen_here", "_law_many"] (spDraw K)) (G_l_pick : DefOk P w K mg base 2 "_law_pick" ["_law_pen_here", "_law_items"] (spPick K))
    (G_l_leaf : DefOk P w K mg base 3 "_law_leaf" ["_law_pen_here", "_law_signs_here"] (spLeaf K)) : ∀ s, DefOk P w K mg base (3 + s) "_law_way_of" ["_law_pen_here", "_law_signs_here", "_law_size"] (spWayOf K s)
  | 0 => by
    obtain ⟨f, fd, F, m, b⟩ := h.ex
    exact ⟨f, fd, m, F.kp, b, none_way_of⟩
  | s + 1 => step_l_way_of s h B G_l_draw G_l_pick G_l_leaf (d_l_way_of h B G_l_draw G_l_pick G_l_leaf s)
end
end Wv
namespace Wv
open PySem PySem.Spec PyProof.Rows L2
/-! ### ways as objects of the program -/
structure Cs where
  lt : Addr
  on : Addr
  no : Addr
  ro : Addr
  ch : Addr
  ag : Addr
  ma : Addr
  ah : Addr
  un : Addr
  ca : Addr
/-- the class of a way -/
def Cs.of (c : Cs) : W → Addr
  | .one => c.on
  | .nothing => c.no
  | .letter _ => c.lt
  | .call _ => c.ca
  | .row _ => c.ro
  | .choice _ => c.ch
  | .again _ => c.ag
  | .maybe _ => c.ma
  | .ahead _ => c.ah
  | .unless _ => c.un
/-- what a way notes of itself: the name of its first call, how many Agains stand within one another -/
def fV : Option Str → V
  | none => .non
  | some x => .str x
mutual
def W.called : W → Option Str
  | .call x => some x
  | .row ws => W.calleds ws | .choice ws => W.calleds ws
  | .again w => w.called | .maybe w => w.called | .ahead w => w.called | .unless w => w.called
  | _ => none
def W.calleds : List W → Option Str
  | [] => none
  | w :: ws => match w.called with
    | some x => some x
    | none => W.calleds ws
end
mutual
def W.rounds : W → Nat
  | .row ws => W.roundss ws | .choice ws => W.roundss ws
  | .again w => w.rounds + 1 | .maybe w => w.rounds | .ahead w => w.rounds | .unless w => w.rounds
  | _ => 0
def W.roundss : List W → Nat
  | [] => 0
  | w :: ws => max w.rounds (W.roundss ws)
end
def nts (o : Option Str) (n : Nat) (r : List (Str × V)) : List (Str × V) := (Str.ofString "called", fV o) :: (Str.ofString "rounds", .int (n : Nat)) :: r
mutual
def ObjAt (c : Cs) (H : Hp) : V → W → Prop
  | v, .one => ∃ a d, v = .ref a ∧ H a = some (.ins c.on d (nts none 0 []))
  | v, .nothing => ∃ a d, v = .ref a ∧ H a = some (.ins c.no d (nts none 0 []))
  | v, .letter x => ∃ a d, v = .ref a ∧ H a = some (.ins c.lt d ((Str.ofString "letter", .str (sg x)) :: nts none 0 []))
  | v, .call x => ∃ a d, v = .ref a ∧ H a = some (.ins c.ca d ((Str.ofString "name", .str x) :: nts (some x) 0 []))
  | v, .row ws => ∃ a d t vs, v = .ref a ∧ H a = some (.ins c.ro d ((Str.ofString "ways", .ref t) :: nts (W.calleds ws) (W.roundss ws) [])) ∧ H t = some (.tup vs) ∧ ObjsAt c H vs ws
  | v, .choice ws => ∃ a d t vs, v = .ref a ∧ H a = some (.ins c.ch d ((Str.ofString "ways", .ref t) :: nts (W.calleds ws) (W.roundss ws) [])) ∧ H t = some (.tup vs) ∧ ObjsAt c H vs ws
  | v, .again w => ∃ a d u mk, v = .ref a ∧ H a = some (.ins c.ag d ((Str.ofString "part", u) :: nts w.called (w.rounds + 1) [(Str.ofString "mark", mk)])) ∧ ObjAt c H u w
  | v, .maybe w => ∃ a d u, ∃ _ : V, v = .ref a ∧ H a = some (.ins c.ma d ((Str.ofString "part", u) :: nts w.called w.rounds [])) ∧ ObjAt c H u w
  | v, .ahead w => ∃ a d u, ∃ _ : V, v = .ref a ∧ H a = some (.ins c.ah d ((Str.ofString "part", u) :: nts w.called w.rounds [])) ∧ ObjAt c H u w
  | v, .unless w => ∃ a d u, ∃ _ : V, v = .ref a ∧ H a = some (.ins c.un d ((Str.ofString "part", u) :: nts w.called w.rounds [])) ∧ ObjAt c H u w
def ObjsAt (c : Cs) (H : Hp) : List V → List W → Prop
  | vs, [] => vs = []
  | vs, w :: ws => ∃ u us, vs = u :: us ∧ ObjAt c H u w ∧ ObjsAt c H us ws
end
theorem ObjsAt.len {c : Cs} {H : Hp} : ∀ (ws : List W) (vs : List V), ObjsAt c H vs ws → vs.length = ws.length
  | [], vs, h => by rw [show vs = [] from h]; rfl
  | w :: ws, vs, ⟨u, us, e, _, h⟩ => by rw [e, List.length_cons, List.length_cons, ObjsAt.len ws us h]
theorem ObjsAt.app {c : Cs} {H : Hp} : ∀ (ws : List W) (vs : List V) {us : List V} {xs : List W}, ObjsAt c H vs ws → ObjsAt c H us xs → ObjsAt c H (vs ++ us) (ws ++ xs)
  | [], vs, us, xs, h, h2 => by rw [show vs = [] from h]; exact h2
  | w :: ws, vs, us, xs, ⟨u, r, e, hu, h⟩, h2 => by rw [e]; exact ⟨u, r ++ us, rfl, hu, ObjsAt.app ws r h h2⟩
theorem ObjsAt.at_ {c : Cs} {H : Hp} : ∀ (ws : List W) (vs : List V) (i : Nat) (w : W), ObjsAt c H vs ws → ws[i]? = some w → ∃ v, vs[i]? = some v ∧ ObjAt c H v w
  | [], vs, i, w, h, e => by simp at e
  | x :: ws, vs, 0, w, ⟨u, us, ev, hu, h⟩, e => by
    have q : x = w := by simpa using e
    subst q
    exact ⟨u, by rw [ev]; rfl, hu⟩
  | x :: ws, vs, i + 1, w, ⟨u, us, ev, hu, h⟩, e => by
    obtain ⟨v, h1, h2⟩ := ObjsAt.at_ ws us i w h (by simpa using e)
    exact ⟨v, by rw [ev]; simpa using h1, h2⟩
theorem ObjsAt.rev {c : Cs} {H : Hp} : ∀ (ws : List W) (vs : List V), ObjsAt c H vs ws → ObjsAt c H vs.reverse ws.reverse
  | [], vs, h => by rw [show vs = [] from h]; rfl
  | w :: ws, vs, ⟨u, us, e, hu, h⟩ => by
    rw [e, List.reverse_cons, List.reverse_cons]
    exact ObjsAt.app _ _ (ObjsAt.rev ws us h) ⟨u, [], rfl, hu, rfl⟩
/-- tuples and instances stay -/
structure Still (H H' : Hp) : Prop where
  tup : ∀ {a : Addr} {xs : List V}, H a = some (.tup xs) → H' a = some (.tup xs)
  ins : ∀ {a C d : Addr} {fs : List (Str × V)}, H a = some (.ins C d fs) → H' a = some (.ins C d fs)
theorem Still.refl (H : Hp) : Still H H := ⟨fun h => h, fun h => h⟩
theorem Still.trans {H H1 H2 : Hp} (a : Still H H1) (b : Still H1 H2) : Still H H2 := ⟨fun h => b.tup (a.tup h), fun h => b.ins (a.ins h)⟩
theorem Keep.still {H H' : Hp} (k : Keep H H') : Still H H' := ⟨fun h => k.tup h, fun h => k.ins h⟩
theorem stillS {H H' : Hp} (k : Same H H') : Still H H' := (Keep.of k).still
theorem Still.put {H : Hp} {q : Addr} {xs ys : List V} (h : H q = some (.lst xs)) : Still H (upd H q (.lst ys)) :=
  ⟨fun {a} _ e => by rw [upd_ne (ne_of e h (by intro z; cases z))]; exact e, fun {a} _ _ _ e => by rw [upd_ne (ne_of e h (by intro z; cases z))]; exact e⟩
mutual
theorem ObjAt.keep {c : Cs} {H H' : Hp} (k : Still H H') : ∀ (w : W) (v : V), ObjAt c H v w → ObjAt c H' v w
  | .one, v, ⟨a, d, e, h⟩ => ⟨a, d, e, k.ins h⟩
  | .nothing, v, ⟨a, d, e, h⟩ => ⟨a, d, e, k.ins h⟩
  | .letter _, v, ⟨a, d, e, h⟩ => ⟨a, d, e, k.ins h⟩
  | .call _, v, ⟨a, d, e, h⟩ => ⟨a, d, e, k.ins h⟩
  | .row ws, v, ⟨a, d, t, vs, e, h, h2, h3⟩ => ⟨a, d, t, vs, e, k.ins h, k.tup h2, ObjsAt.keep k ws vs h3⟩
  | .choice ws, v, ⟨a, d, t, vs, e, h, h2, h3⟩ => ⟨a, d, t, vs, e, k.ins h, k.tup h2, ObjsAt.keep k ws vs h3⟩
  | .again w, v, ⟨a, d, u, m, e, h, h2⟩ => ⟨a, d, u, m, e, k.ins h, ObjAt.keep k w u h2⟩
  | .maybe w, v, ⟨a, d, u, m, e, h, h2⟩ => ⟨a, d, u, m, e, k.ins h, ObjAt.keep k w u h2⟩
  | .ahead w, v, ⟨a, d, u, m, e, h, h2⟩ => ⟨a, d, u, m, e, k.ins h, ObjAt.keep k w u h2⟩
  | .unless w, v, ⟨a, d, u, m, e, h, h2⟩ => ⟨a, d, u, m, e, k.ins h, ObjAt.keep k w u h2⟩
theorem ObjsAt.keep {c : Cs} {H H' : Hp} (k : Still H H') : ∀ (ws : List W) (vs : List V), ObjsAt c H vs ws → ObjsAt c H' vs ws
  | [], _, h => h
  | w :: ws, vs, ⟨u, us, e, h, h2⟩ => ⟨u, us, e, ObjAt.keep k w u h, ObjsAt.keep k ws us h2⟩
end
/-- the ways of which a way is made -/
def W.inner : W → List W
  | .row ws => ws
  | .choice ws => ws
  | .again w => [w]
  | .maybe w => [w]
  | .ahead w => [w]
  | .unless w => [w]
  | _ => []
theorem W.size_inner (w : W) : w.size = 1 + W.sizes w.inner := by
  cases w <;> simp [W.size, W.inner, W.sizes]
theorem W.size_mem : ∀ {ws : List W} {i : Nat} {w : W}, ws[i]? = some w → w.size ≤ W.sizes ws
  | [], i, w, h => by simp at h
  | x :: ws, 0, w, h => by
    have q : x = w := by simpa using h
    subst q
    simp only [W.sizes]; omega
  | x :: ws, i + 1, w, h => by
    have q := W.size_mem (ws := ws) (i := i) (w := w) (by simpa using h)
    simp only [W.sizes]; omega
theorem take_more' {α : Type} : ∀ {l : List α} {i : Nat} {x : α}, l[i]? = some x → l.take (i + 1) = l.take i ++ [x]
  | [], i, x, h => by simp at h
  | a :: l, 0, x, h => by
    have e : a = x := Option.some.inj h
    subst e
    rfl
  | a :: l, i + 1, x, h => by
    have ih := take_more' (l := l) (i := i) (x := x) h
    show a :: l.take (i + 1) = a :: l.take i ++ [x]
    rw [ih]
    rfl
/-! ### tests by the tag -/
def W.is_lc : W → Bool
  | .letter _ => true
  | .call _ => true
  | _ => false
theorem in_lc (w : W) : inV (.str w.tag) [.str (Str.ofString "letter"), .str (Str.ofString "call")] = w.is_lc := by cases w <;> (simp only [W.tag, W.is_lc]; decide +kernel)
def W.is_on : W → Bool
  | .one => true
  | .nothing => true
  | _ => false
theorem in_on (w : W) : inV (.str w.tag) [.str (Str.ofString "one"), .str (Str.ofString "nothing")] = w.is_on := by cases w <;> (simp only [W.tag, W.is_on]; decide +kernel)
def W.is_rc : W → Bool
  | .row _ => true
  | .choice _ => true
  | _ => false
theorem in_rc (w : W) : inV (.str w.tag) [.str (Str.ofString "row"), .str (Str.ofString "choice")] = w.is_rc := by cases w <;> (simp only [W.tag, W.is_rc]; decide +kernel)
def W.is_am : W → Bool
  | .again _ => true
  | .maybe _ => true
  | _ => false
theorem in_am (w : W) : inV (.str w.tag) [.str (Str.ofString "again"), .str (Str.ofString "maybe")] = w.is_am := by cases w <;> (simp only [W.tag, W.is_am]; decide +kernel)
def W.is_un : W → Bool
  | .again _ => true
  | .maybe _ => true
  | .ahead _ => true
  | .unless _ => true
  | _ => false
theorem in_un (w : W) : inV (.str w.tag) [.str (Str.ofString "again"), .str (Str.ofString "maybe"), .str (Str.ofString "ahead"), .str (Str.ofString "unless")] = w.is_un := by cases w <;> (simp only [W.tag, W.is_un]; decide +kernel)
def W.is_nothing' : W → Bool
  | .nothing => true
  | _ => false
theorem eq_nothing (w : W) : decide (V.str w.tag = V.str (Str.ofString "nothing")) = w.is_nothing' := by
  cases w <;> first
    | exact decide_eq_true rfl
    | exact decide_eq_false (fun h => absurd (V.str.inj h) (by simp only [W.tag]; decide +kernel))
def W.is_one' : W → Bool
  | .one => true
  | _ => false
theorem eq_one (w : W) : decide (V.str w.tag = V.str (Str.ofString "one")) = w.is_one' := by
  cases w <;> first
    | exact decide_eq_true rfl
    | exact decide_eq_false (fun h => absurd (V.str.inj h) (by simp only [W.tag]; decide +kernel))
def W.is_letter' : W → Bool
  | .letter _ => true
  | _ => false
theorem eq_letter (w : W) : decide (V.str w.tag = V.str (Str.ofString "letter")) = w.is_letter' := by
  cases w <;> first
    | exact decide_eq_true rfl
    | exact decide_eq_false (fun h => absurd (V.str.inj h) (by simp only [W.tag]; decide +kernel))
def W.is_call' : W → Bool
  | .call _ => true
  | _ => false
theorem eq_call (w : W) : decide (V.str w.tag = V.str (Str.ofString "call")) = w.is_call' := by
  cases w <;> first
    | exact decide_eq_true rfl
    | exact decide_eq_false (fun h => absurd (V.str.inj h) (by simp only [W.tag]; decide +kernel))
def W.is_row' : W → Bool
  | .row _ => true
  | _ => false
theorem eq_row (w : W) : decide (V.str w.tag = V.str (Str.ofString "row")) = w.is_row' := by
  cases w <;> first
    | exact decide_eq_true rfl
    | exact decide_eq_false (fun h => absurd (V.str.inj h) (by simp only [W.tag]; decide +kernel))
def W.is_choice' : W → Bool
  | .choice _ => true
  | _ => false
theorem eq_choice (w : W) : decide (V.str w.tag = V.str (Str.ofString "choice")) = w.is_choice' := by
  cases w <;> first
    | exact decide_eq_true rfl
    | exact decide_eq_false (fun h => absurd (V.str.inj h) (by simp only [W.tag]; decide +kernel))
def W.is_again' : W → Bool
  | .again _ => true
  | _ => false
theorem eq_again (w : W) : decide (V.str w.tag = V.str (Str.ofString "again")) = w.is_again' := by
  cases w <;> first
    | exact decide_eq_true rfl
    | exact decide_eq_false (fun h => absurd (V.str.inj h) (by simp only [W.tag]; decide +kernel))
def W.is_maybe' : W → Bool
  | .maybe _ => true
  | _ => false
theorem eq_maybe (w : W) : decide (V.str w.tag = V.str (Str.ofString "maybe")) = w.is_maybe' := by
  cases w <;> first
    | exact decide_eq_true rfl
    | exact decide_eq_false (fun h => absurd (V.str.inj h) (by simp only [W.tag]; decide +kernel))
def W.is_ahead' : W → Bool
  | .ahead _ => true
  | _ => false
theorem eq_ahead (w : W) : decide (V.str w.tag = V.str (Str.ofString "ahead")) = w.is_ahead' := by
  cases w <;> first
    | exact decide_eq_true rfl
    | exact decide_eq_false (fun h => absurd (V.str.inj h) (by simp only [W.tag]; decide +kernel))
def W.is_unless' : W → Bool
  | .unless _ => true
  | _ => false
theorem eq_unless (w : W) : decide (V.str w.tag = V.str (Str.ofString "unless")) = w.is_unless' := by
  cases w <;> first
    | exact decide_eq_true rfl
    | exact decide_eq_false (fun h => absurd (V.str.inj h) (by simp only [W.tag]; decide +kernel))
theorem WayAt.head {H : Hp} {v : V} {w : W} (h : WayAt H v w) : ∃ a rest, v = .ref a ∧ H a = some (.tup (.str w.tag :: rest)) := by
  cases w <;> first
    | (obtain ⟨a, e, h⟩ := h; exact ⟨a, _, e, h⟩)
    | (obtain ⟨a, u, e, h, _⟩ := h; exact ⟨a, _, e, h⟩)
    | (obtain ⟨a, l, vs, e, h, _⟩ := h; exact ⟨a, _, e, h⟩)
theorem atI0 {x : V} {r : List V} : atI (x :: r) 0 = some x := atI_nat (j := 0) rfl
theorem atI1 {x y : V} {r : List V} : atI (x :: y :: r) 1 = some y := atI_nat (j := 1) rfl
/-! ### what the written part says of a class of ways -/
structure ClsF (K : PySem.W.Frag) (C : Addr) : Prop where
  cl : Cls K C
  nl : NoAttr K C "letter"
  nn : NoAttr K C "name"
  nw : NoAttr K C "ways"
  np : NoAttr K C "part"
  nc : NoAttr K C "called"
  nr : NoAttr K C "rounds"
  nm : NoAttr K C "mark"
  ha : PySem.W.findIn K (.ref C) "__class__" = some (some (.builtin "object.__class__"))
  hm : PySem.W.mroIn K C (.type "object") = some true
/-- what kind_of asks of the classes -/
structure AllF (K : PySem.W.Frag) (mg : Str → Option Value) (c : Cs) : Prop where
  f : ∀ w : W, ClsF K (c.of w)
  hn : PySem.W.specialIn K (.builtin "object.__class__") "__get__" = some (some (.builtin "getset_descriptor.__get__"))
  ht : PySem.W.takesIn K (.builtin "object.__class__") = some true
  kit : ∀ w u : W, PySem.W.kitOne K (.ref (c.of w)) (.ref (c.of u)) = some (decide (w.tag = u.tag))
  mLt : mg "Letter" = some (.ref c.lt)
  mOn : mg "One" = some (.ref c.on)
  mNo : mg "Nothing" = some (.ref c.no)
  mRo : mg "Row" = some (.ref c.ro)
  mCh : mg "Choice" = some (.ref c.ch)
  mAg : mg "Again" = some (.ref c.ag)
  mMa : mg "Maybe" = some (.ref c.ma)
  mAh : mg "Ahead" = some (.ref c.ah)
  mUn : mg "Unless" = some (.ref c.un)
  mCa : mg "Call" = some (.ref c.ca)
theorem ObjAt.head {c : Cs} {H : Hp} {v : V} {w : W} (h : ObjAt c H v w) : ∃ a d fs, v = .ref a ∧ H a = some (.ins (c.of w) d fs) := by
  cases w <;> first
    | (obtain ⟨a, d, e, h⟩ := h; exact ⟨a, d, _, e, h⟩)
    | (obtain ⟨a, d, u, m, e, h, _⟩ := h; exact ⟨a, d, _, e, h⟩)
/-- no attribute of a way has another name -/
def Names7 (m : Str) : Prop := m ≠ Str.ofString "letter" ∧ m ≠ Str.ofString "name" ∧ m ≠ Str.ofString "ways" ∧ m ≠ Str.ofString "part" ∧ m ≠ Str.ofString "called" ∧ m ≠ Str.ofString "rounds" ∧ m ≠ Str.ofString "mark"
theorem look_cons {f m : Str} {v : V} {r : List (Str × V)} (h : m ≠ f) : List.lookup m ((f, v) :: r) = List.lookup m r := by
  have q : (m == f) = false := by simpa using h
  simp [List.lookup, q]
theorem look_nts {o : Option Str} {n : Nat} {r : List (Str × V)} {m : Str} (h1 : m ≠ Str.ofString "called") (h2 : m ≠ Str.ofString "rounds") : List.lookup m (nts o n r) = List.lookup m r := by
  unfold nts
  rw [look_cons h1, look_cons h2]
theorem ObjAt.head' {c : Cs} {H : Hp} {v : V} {w : W} (h : ObjAt c H v w) : ∃ a d fs, v = .ref a ∧ H a = some (.ins (c.of w) d fs) ∧ ∀ m : Str, Names7 m → fs.lookup m = none := by
  cases w <;> first
    | (obtain ⟨a, d, e, h⟩ := h; exact ⟨a, d, _, e, h, fun m ⟨h1, h2, h3, h4, h5, h6, h7⟩ => by first | (rw [look_nts h5 h6]; rfl) | (rw [look_cons h1, look_nts h5 h6]; rfl) | (rw [look_cons h2, look_nts h5 h6]; rfl)⟩)
    | (obtain ⟨a, d, t, vs, e, h, _⟩ := h; exact ⟨a, d, _, e, h, fun m ⟨h1, h2, h3, h4, h5, h6, h7⟩ => by first | (rw [look_cons h3, look_nts h5 h6]; rfl) | (rw [look_cons h4, look_nts h5 h6]; rfl) | (rw [look_cons h4, look_nts h5 h6, look_cons h7]; rfl)⟩)
/-- what a way notes of itself, whatever its kind -/
theorem ObjAt.notes {c : Cs} {H : Hp} {v : V} {w : W} (h : ObjAt c H v w) : ∃ a d fs, v = .ref a ∧ H a = some (.ins (c.of w) d fs) ∧ fs.lookup (Str.ofString "called") = some (fV w.called) ∧ fs.lookup (Str.ofString "rounds") = some (.int (w.rounds : Nat)) := by
  cases w <;> first
    | (obtain ⟨a, d, e, h⟩ := h; exact ⟨a, d, _, e, h, rfl, rfl⟩)
    | (obtain ⟨a, d, t, vs, e, h, _⟩ := h; exact ⟨a, d, _, e, h, rfl, rfl⟩)
end Wv
namespace Wv
open PySem PySem.Spec PyProof.Rows L2
/-! ### the classes' __init__ -/
/-- what an __init__ leaves: the fields of the object at p; what was there ahead of the object stays -/
def Left (C p dx : Addr) (H0 : Hp) (fs : List (Str × V)) (Q : VK) : Prop := ∀ H' : Hp, H' p = some (.ins C dx fs) → Same H0 H' → Q .non H'
def At0 (C p dx : Addr) (H0 H : Hp) : Prop := H p = some (.ins C dx []) ∧ H0 p = none ∧ Same H0 H
def spInit0 (C : Addr) : Sp := fun vs H Q _ => ∃ (p dx : Addr) (H0 : Hp), vs = [.ref p] ∧ At0 C p dx H0 H ∧ Left C p dx H0 (nts none 0 []) Q
def spInitL (C : Addr) : Sp := fun vs H Q _ => ∃ (p dx : Addr) (v : V) (H0 : Hp), vs = [.ref p, v] ∧ At0 C p dx H0 H ∧ Left C p dx H0 ((Str.ofString "letter", v) :: nts none 0 []) Q
def spInitC (C : Addr) : Sp := fun vs H Q _ => ∃ (p dx : Addr) (v : V) (H0 : Hp), vs = [.ref p, v] ∧ At0 C p dx H0 H ∧ Left C p dx H0 ((Str.ofString "name", v) :: (Str.ofString "called", v) :: (Str.ofString "rounds", .int 0) :: []) Q
def spInitP (c : Cs) (C : Addr) : Sp := fun vs H Q _ => ∃ (p dx : Addr) (u : V) (w : W) (H0 : Hp), vs = [.ref p, u] ∧ At0 C p dx H0 H ∧ ObjAt c H0 u w ∧ Left C p dx H0 ((Str.ofString "part", u) :: nts w.called w.rounds []) Q
def spInitA (c : Cs) (C : Addr) : Sp := fun vs H Q _ => ∃ (p dx : Addr) (u : V) (w : W) (H0 : Hp), vs = [.ref p, u] ∧ At0 C p dx H0 H ∧ ObjAt c H0 u w ∧ ∀ mk : V, Left C p dx H0 ((Str.ofString "part", u) :: nts w.called (w.rounds + 1) [(Str.ofString "mark", mk)]) Q
def spInitT (K : PySem.W.Frag) (c : Cs) (C : Addr) : Sp := fun vs H Q _ => ∃ (p dx q : Addr) (xs : List V) (ws : List W) (H0 : Hp), vs = [.ref p, .ref q] ∧ At0 C p dx H0 H ∧ (H0 q = some (.lst xs) ∨ H0 q = some (.tup xs)) ∧ ObjsAt c H0 xs ws ∧ ws.length ≤ 1000000 ∧
  ∀ (t : Addr) (H' : Hp), H' t = some (.tup xs) → H' p = some (.ins C dx ((Str.ofString "ways", .ref t) :: nts (W.calleds ws) (W.roundss ws) [])) → Same H0 H' → Q .non H'
theorem at0 {H : Hp} {x dx C : Addr} (hx : H x = none) (hd : H dx = none) : At0 C x dx H (upd (upd H dx (.own x)) x (.ins C dx [])) :=
  ⟨upd_same, hx, fun b o e => by rw [upd_ne (ne_of_none e hx), upd_ne (ne_of_none e hd)]; exact e⟩
section
variable {c : Cs} {K : PySem.W.Frag} {C : Addr} {H : Hp} {Q : VK} {E : XK}
theorem make0 (h : ∀ x dx H', Same H H' → H' x = some (.ins C dx (nts none 0 [])) → Q (.ref x) H') :
    ∀ x dx, H x = none → H dx = none → dx ≠ x → spInit0 C (.ref x :: []) (upd (upd H dx (.own x)) x (.ins C dx [])) (fun v H2 => v = .non ∧ Q (.ref x) H2) E := fun x dx hx hd _ =>
  ⟨x, dx, H, rfl, at0 hx hd, fun H' e s => ⟨rfl, h x dx H' s e⟩⟩
theorem makeL {v : V} (h : ∀ x dx H', Same H H' → H' x = some (.ins C dx ((Str.ofString "letter", v) :: nts none 0 [])) → Q (.ref x) H') :
    ∀ x dx, H x = none → H dx = none → dx ≠ x → spInitL C (.ref x :: ([v] ++ [])) (upd (upd H dx (.own x)) x (.ins C dx [])) (fun v H2 => v = .non ∧ Q (.ref x) H2) E := fun x dx hx hd _ =>
  ⟨x, dx, v, H, rfl, at0 hx hd, fun H' e s => ⟨rfl, h x dx H' s e⟩⟩
theorem makeC {y : Str} (h : ∀ x dx H', Same H H' → H' x = some (.ins C dx ((Str.ofString "name", .str y) :: nts (some y) 0 [])) → Q (.ref x) H') :
    ∀ x dx, H x = none → H dx = none → dx ≠ x → spInitC C (.ref x :: ([.str y] ++ [])) (upd (upd H dx (.own x)) x (.ins C dx [])) (fun v H2 => v = .non ∧ Q (.ref x) H2) E := fun x dx hx hd _ =>
  ⟨x, dx, .str y, H, rfl, at0 hx hd, fun H' e s => ⟨rfl, h x dx H' s e⟩⟩
theorem makeP {u : V} {w : W} (hu : ObjAt c H u w) (h : ∀ x dx H', Same H H' → H' x = some (.ins C dx ((Str.ofString "part", u) :: nts w.called w.rounds [])) → Q (.ref x) H') :
    ∀ x dx, H x = none → H dx = none → dx ≠ x → spInitP c C (.ref x :: ([u] ++ [])) (upd (upd H dx (.own x)) x (.ins C dx [])) (fun v H2 => v = .non ∧ Q (.ref x) H2) E := fun x dx hx hd _ =>
  ⟨x, dx, u, w, H, rfl, at0 hx hd, hu, fun H' e s => ⟨rfl, h x dx H' s e⟩⟩
theorem makeA {u : V} {w : W} (hu : ObjAt c H u w) (h : ∀ x dx mk H', Same H H' → H' x = some (.ins C dx ((Str.ofString "part", u) :: nts w.called (w.rounds + 1) [(Str.ofString "mark", mk)])) → Q (.ref x) H') :
    ∀ x dx, H x = none → H dx = none → dx ≠ x → spInitA c C (.ref x :: ([u] ++ [])) (upd (upd H dx (.own x)) x (.ins C dx [])) (fun v H2 => v = .non ∧ Q (.ref x) H2) E := fun x dx hx hd _ =>
  ⟨x, dx, u, w, H, rfl, at0 hx hd, hu, fun mk H' e s => ⟨rfl, h x dx mk H' s e⟩⟩
theorem makeT {q : Addr} {xs : List V} {ws : List W} (hq : H q = some (.lst xs) ∨ H q = some (.tup xs)) (hw : ObjsAt c H xs ws) (hl : ws.length ≤ 1000000) (h : ∀ x dx t H', Same H H' → H' t = some (.tup xs) → H' x = some (.ins C dx ((Str.ofString "ways", .ref t) :: nts (W.calleds ws) (W.roundss ws) [])) → Q (.ref x) H') :
    ∀ x dx, H x = none → H dx = none → dx ≠ x → spInitT K c C (.ref x :: ([.ref q] ++ [])) (upd (upd H dx (.own x)) x (.ins C dx [])) (fun v H2 => v = .non ∧ Q (.ref x) H2) E := fun x dx hx hd _ =>
  ⟨x, dx, q, xs, ws, H, rfl, at0 hx hd, hq, hw, hl, fun t H' ht e s => ⟨rfl, h x dx t H' s ht e⟩⟩
end
def spFirst (c : Cs) : Sp := fun vs H Q _ => ∃ (t : Addr) (xs : List V) (ws : List W), vs = [.ref t] ∧ H t = some (.tup xs) ∧ ObjsAt c H xs ws ∧ ws.length ≤ 1000000 ∧ ∀ H', Same H H' → Q (fV (W.calleds ws)) H'
def spMost (c : Cs) : Sp := fun vs H Q _ => ∃ (t : Addr) (xs : List V) (ws : List W), vs = [.ref t] ∧ H t = some (.tup xs) ∧ ObjsAt c H xs ws ∧ ws.length ≤ 1000000 ∧ ∀ H', Same H H' → Q (.int (W.roundss ws : Nat)) H'
section
variable {P : Program} {w : World} {K : PySem.W.Frag} {mg : Str → Option Value} {base : Heap}
theorem calleds_map : ∀ ws : List W, W.calleds ws = (ws.filterMap W.called).head?
  | [] => rfl
  | w :: ws => by
    rw [W.calleds, List.filterMap_cons]
    cases h : w.called with
    | none => exact calleds_map ws
    | some x => rfl
theorem rounds_max : ∀ (ws : List W) (n : Nat), (ws.map fun w => ((w.rounds : Nat) : Int)).foldl max ((n : Nat) : Int) = ((max n (W.roundss ws) : Nat) : Int)
  | [], n => by rw [W.roundss, Nat.max_zero]; rfl
  | w :: ws, n => by
    rw [List.map_cons, List.foldl_cons, W.roundss]
    have e : max ((n : Nat) : Int) ((w.rounds : Nat) : Int) = ((max n w.rounds : Nat) : Int) := by omega
    rw [e, rounds_max ws, Nat.max_assoc]
theorem rounds_fold (ws : List W) : mx 0 (ws.map fun w => ((w.rounds : Nat) : Int)) = ((W.roundss ws : Nat) : Int) := by
  cases ws with
  | nil => rfl
  | cons w ws => exact rounds_max ws w.rounds
abbrev s_first_call : Stmt := top 33
theorem sc_first_call : FnScope ["ways", "calls", "way"] ["ways"] (defScope s_first_call) := ⟨rfl, rfl, rfl, by decide +kernel, rfl, by decide +kernel, by decide +kernel⟩
theorem d_first_call (h : Here K mg "first_call" s_first_call ["ways"]) {c : Cs} (hf : ∀ w : W, ClsF K (c.of w)) : DefOk P w K mg base 1 "first_call" ["ways"] (spFirst c) := by
  refine h.ok sc_first_call (fun vs H Q E h => by obtain ⟨_, _, _, rfl, _⟩ := h; rfl) (fun f cdv A outer s H vs Q E hr h => ?_)
  obtain ⟨t, xs, ws, rfl, ht, hw, hl, k⟩ := h
  refine ⟨_, (pss_cons (ps_setLc (i := 1) (own := [("way", 2)]) (g := (gName 2)) rfl sc_first_call.nd rfl rfl (sw_true rfl rfl rfl (by decide +kernel)) (pi_tup (pv 0)) (blkOk_by (own := [("way", 2)]) (N := ["ways", "calls", "way"]) (sc := defScope s_first_call) (by decide +kernel)) (fun _ _ _ _ _ => pg_name (i := 2) sc_first_call.nd rfl (Or.inl rfl)) (fun _ _ _ _ _ => pts_one (pt_cmpR op_notN (pe_fldK (K := K) rfl (pv 2) rfl) pe_non (nomark _))) (fun _ _ _ _ _ => (pe_fldK (K := K) rfl (pv 2) rfl)))
  (pss_one (ps_ret (pe_ifExp (pt_truth (pv 1) (by intro _; rfl)) (pe_ix ix_list (pv 1) pe_int (fun _ _ => rfl)) pe_non)))), ?_⟩
  have elen := ObjsAt.len _ _ hw
  refine ⟨_, rfl, t, rfl, ⟨xs, SqT.of ht⟩, fun D hD => ?_⟩
  refine lc_tup (K := K) (a := t) (xs := xs) (fun i H' => H' D = some (.lst (((ws.take i).filterMap W.called).map V.str)) ∧ Same H H') ?_ ?_ ?_ ?_
  · exact ⟨upd_same, Same.new hD _⟩
  · rintro i H' _ ⟨_, s1⟩
    exact SqT.of (s1 _ _ ht)
  · rintro i x H' hx ⟨hD', s1⟩
    have hi : i < xs.length := (List.getElem?_eq_some_iff.mp hx).1
    obtain ⟨wi, hwi⟩ : ∃ wi, ws[i]? = some wi := ⟨ws[i]'(by omega), List.getElem?_eq_getElem (by omega)⟩
    obtain ⟨x', hx', hxw⟩ := ObjsAt.at_ _ _ _ _ hw hwi
    have ex : x = x' := Option.some.inj (hx.symm.trans hx')
    subst ex
    obtain ⟨a, d, fs, ea, ha, l1, l2⟩ := (ObjAt.keep (stillS s1) _ _ hxw).notes
    refine ⟨rfl, _, rfl, a, _, d, fs, _, ea, ha, (hf wi).cl, (hf wi).nc, l1, rfl, _, rfl, ?_⟩
    rw [take_more' hwi, List.filterMap_append, List.map_append]
    cases hc : wi.called with
    | none =>
      rw [hc] at l1
      have e9 : (!decide (fV none = V.non)) = false := rfl
      rw [e9]
      refine iteF ⟨?_, s1⟩
      rw [List.filterMap_cons, hc, List.filterMap_nil, List.map_nil, List.append_nil]
      exact hD'
    | some y =>
      rw [hc] at l1
      have e9 : (!decide (fV (some y) = V.non)) = true := rfl
      rw [e9]
      have hlen := List.length_filterMap_le W.called (ws.take i)
      have hlen2 : (ws.take i).length ≤ ws.length := by rw [List.length_take]; omega
      refine iteT ⟨_, rfl, a, _, d, fs, _, ea, ha, (hf wi).cl, (hf wi).nc, l1, _, hD', small' (by rw [List.length_map]; omega), ?_, Same.put hD s1 _⟩
      rw [upd_same, List.filterMap_cons, hc, List.filterMap_nil]
      rfl
  · rintro H1 ⟨hD1, s1⟩
    rw [elen, List.take_length] at hD1
    walk_at "nx"
    refine ⟨_, rfl, _, .inl ⟨_, SqL.of hD1, rfl⟩, ?_⟩
    have e := calleds_map ws
    cases hl : ws.filterMap W.called with
    | nil =>
      rw [hl] at e hD1
      refine iteF ?_
      have k' := k H1 s1
      rw [e] at k'
      exact k'
    | cons y ys =>
      rw [hl] at e hD1
      refine iteT ⟨_, rfl, D, _, _, _, rfl, rfl, SqL.of hD1, atI0, ?_⟩
      have k' := k H1 s1
      rw [e] at k'
      exact k'
abbrev s_most_rounds : Stmt := top 34
theorem sc_most_rounds : FnScope ["ways", "way"] ["ways"] (defScope s_most_rounds) := ⟨rfl, rfl, rfl, by decide +kernel, rfl, by decide +kernel, by decide +kernel⟩
theorem d_most_rounds (h : Here K mg "most_rounds" s_most_rounds ["ways"]) (B : Bs mg) {c : Cs} (hf : ∀ w : W, ClsF K (c.of w)) : DefOk P w K mg base 1 "most_rounds" ["ways"] (spMost c) := by
  have B_max := B.max
  refine h.ok sc_most_rounds (fun vs H Q E h => by obtain ⟨_, _, _, rfl, _⟩ := h; rfl) (fun f cdv A outer s H vs Q E hr h => ?_)
  obtain ⟨t, xs, ws, rfl, ht, hw, hl, k⟩ := h
  refine ⟨_, (pss_one (ps_ret (pe_callBK (cr_maxDef rfl (Nat.lt_of_le_of_lt (Nat.add_le_add_left (by decide) _) hr.units)) rfl B_max (by decide +kernel) (pa_cons (pe_lc (own := [("way", 1)]) (g := (gName 1)) (tt := tYes) rfl sc_most_rounds.nd (pi_tup (pv 0)) (blkOk_by (own := [("way", 1)]) (N := ["ways", "way"]) (sc := defScope s_most_rounds) (by decide +kernel)) (fun _ _ _ _ _ => pg_name (i := 1) sc_most_rounds.nd rfl (Or.inl rfl)) (fun _ _ _ _ _ => pts_nil) (fun _ _ _ _ _ => (pe_fldK (K := K) rfl (pv 1) rfl))) pa_nil) (pk_cons pe_int pk_nil)))), ?_⟩
  have elen := ObjsAt.len _ _ hw
  refine ⟨_, rfl, t, rfl, ⟨xs, SqT.of ht⟩, fun D hD => ?_⟩
  refine lc_tup (K := K) (a := t) (xs := xs) (fun i H' => H' D = some (.lst ((ws.take i).map fun w => V.int ((w.rounds : Nat) : Int))) ∧ Same H H') ?_ ?_ ?_ ?_
  · exact ⟨upd_same, Same.new hD _⟩
  · rintro i H' _ ⟨_, s1⟩
    exact SqT.of (s1 _ _ ht)
  · rintro i x H' hx ⟨hD', s1⟩
    have hi : i < xs.length := (List.getElem?_eq_some_iff.mp hx).1
    obtain ⟨wi, hwi⟩ : ∃ wi, ws[i]? = some wi := ⟨ws[i]'(by omega), List.getElem?_eq_getElem (by omega)⟩
    obtain ⟨x', hx', hxw⟩ := ObjsAt.at_ _ _ _ _ hw hwi
    have ex : x = x' := Option.some.inj (hx.symm.trans hx')
    subst ex
    obtain ⟨a, d, fs, ea, ha, l1, l2⟩ := (ObjAt.keep (stillS s1) _ _ hxw).notes
    refine ⟨rfl, _, rfl, a, _, d, fs, _, ea, ha, (hf wi).cl, (hf wi).nr, l2, _, hD', small' (by rw [List.length_map, List.length_take]; omega), ?_, Same.put hD s1 _⟩
    rw [upd_same, take_more' hwi, List.map_append]
    rfl
  · rintro H1 ⟨hD1, s1⟩
    rw [elen, List.take_length] at hD1
    refine ⟨D, ws.map fun w => ((w.rounds : Nat) : Int), 0, rfl, rfl, SqL.of (by rw [List.map_map]; exact hD1), ?_⟩
    rw [rounds_fold]
    exact k H1 s1
abbrev s_One_init : Stmt := inClass (top 24) 0
theorem sc_One_init : FnScope ["self"] ["self"] (defScope s_One_init) := ⟨rfl, rfl, rfl, by decide +kernel, rfl, by decide +kernel, by decide +kernel⟩
theorem ok_One {f C : Addr} {fd : FuncData} (F : Fun K "__init__" "One.__init__" s_One_init f fd) (T : ClsF K C) : FnOk P w K mg base CX0 1 f fd ["self"] (spInit0 C) := by
  refine F.ok sc_One_init (fun vs H Q E h => by obtain ⟨_, _, _, rfl, _⟩ := h; rfl) (fun cdv A outer s H vs Q E hr h => ?_)
  obtain ⟨p, dx, H0, rfl, ⟨hp, h0, s0⟩, k⟩ := h
  refine ⟨_, (pss_cons (ps_fld (pv 0) pe_non rfl)
  (pss_one (ps_fld (pv 0) pe_int rfl))), ?_⟩
  refine ⟨_, rfl, p, C, dx, [], rfl, hp, T.cl, T.nc, (by show 0 < 1000; decide), ?_⟩
  refine ⟨_, rfl, p, C, dx, _, rfl, upd_same, T.cl, T.nr, (by show 1 < 1000; decide), ?_⟩
  exact k _ upd_same (Same.put h0 (Same.put h0 s0 _) _)
abbrev s_Nothing_init : Stmt := inClass (top 25) 0
theorem sc_Nothing_init : FnScope ["self"] ["self"] (defScope s_Nothing_init) := ⟨rfl, rfl, rfl, by decide +kernel, rfl, by decide +kernel, by decide +kernel⟩
theorem ok_Nothing {f C : Addr} {fd : FuncData} (F : Fun K "__init__" "Nothing.__init__" s_Nothing_init f fd) (T : ClsF K C) : FnOk P w K mg base CX0 1 f fd ["self"] (spInit0 C) := by
  refine F.ok sc_Nothing_init (fun vs H Q E h => by obtain ⟨_, _, _, rfl, _⟩ := h; rfl) (fun cdv A outer s H vs Q E hr h => ?_)
  obtain ⟨p, dx, H0, rfl, ⟨hp, h0, s0⟩, k⟩ := h
  refine ⟨_, (pss_cons (ps_fld (pv 0) pe_non rfl)
  (pss_one (ps_fld (pv 0) pe_int rfl))), ?_⟩
  refine ⟨_, rfl, p, C, dx, [], rfl, hp, T.cl, T.nc, (by show 0 < 1000; decide), ?_⟩
  refine ⟨_, rfl, p, C, dx, _, rfl, upd_same, T.cl, T.nr, (by show 1 < 1000; decide), ?_⟩
  exact k _ upd_same (Same.put h0 (Same.put h0 s0 _) _)
abbrev s_Letter_init : Stmt := inClass (top 23) 0
theorem sc_Letter_init : FnScope ["self", "letter"] ["self", "letter"] (defScope s_Letter_init) := ⟨rfl, rfl, rfl, by decide +kernel, rfl, by decide +kernel, by decide +kernel⟩
theorem ok_Letter {f C : Addr} {fd : FuncData} (F : Fun K "__init__" "Letter.__init__" s_Letter_init f fd) (T : ClsF K C) : FnOk P w K mg base CX0 1 f fd ["self", "letter"] (spInitL C) := by
  refine F.ok sc_Letter_init (fun vs H Q E h => by obtain ⟨_, _, _, _, rfl, _⟩ := h; rfl) (fun cdv A outer s H vs Q E hr h => ?_)
  obtain ⟨p, dx, v, H0, rfl, ⟨hp, h0, s0⟩, k⟩ := h
  refine ⟨_, (pss_cons (ps_fld (pv 0) (pv 1) rfl)
  (pss_cons (ps_fld (pv 0) pe_non rfl)
  (pss_one (ps_fld (pv 0) pe_int rfl)))), ?_⟩
  refine ⟨_, rfl, _, rfl, p, C, dx, [], rfl, hp, T.cl, T.nl, (by show 0 < 1000; decide), ?_⟩
  refine ⟨_, rfl, p, C, dx, _, rfl, upd_same, T.cl, T.nc, (by show 1 < 1000; decide), ?_⟩
  refine ⟨_, rfl, p, C, dx, _, rfl, upd_same, T.cl, T.nr, (by show 2 < 1000; decide), ?_⟩
  exact k _ upd_same (Same.put h0 (Same.put h0 (Same.put h0 s0 _) _) _)
abbrev s_Call_init : Stmt := inClass (top 32) 0
theorem sc_Call_init : FnScope ["self", "name"] ["self", "name"] (defScope s_Call_init) := ⟨rfl, rfl, rfl, by decide +kernel, rfl, by decide +kernel, by decide +kernel⟩
theorem ok_Call {f C : Addr} {fd : FuncData} (F : Fun K "__init__" "Call.__init__" s_Call_init f fd) (T : ClsF K C) : FnOk P w K mg base CX0 1 f fd ["self", "name"] (spInitC C) := by
  refine F.ok sc_Call_init (fun vs H Q E h => by obtain ⟨_, _, _, _, rfl, _⟩ := h; rfl) (fun cdv A outer s H vs Q E hr h => ?_)
  obtain ⟨p, dx, v, H0, rfl, ⟨hp, h0, s0⟩, k⟩ := h
  refine ⟨_, (pss_cons (ps_fld (pv 0) (pv 1) rfl)
  (pss_cons (ps_fld (pv 0) (pv 1) rfl)
  (pss_one (ps_fld (pv 0) pe_int rfl)))), ?_⟩
  refine ⟨_, rfl, _, rfl, p, C, dx, [], rfl, hp, T.cl, T.nn, (by show 0 < 1000; decide), ?_⟩
  refine ⟨_, rfl, _, rfl, p, C, dx, _, rfl, upd_same, T.cl, T.nc, (by show 1 < 1000; decide), ?_⟩
  refine ⟨_, rfl, p, C, dx, _, rfl, upd_same, T.cl, T.nr, (by show 2 < 1000; decide), ?_⟩
  exact k _ upd_same (Same.put h0 (Same.put h0 (Same.put h0 s0 _) _) _)
abbrev s_Maybe_init : Stmt := inClass (top 29) 0
theorem sc_Maybe_init : FnScope ["self", "part"] ["self", "part"] (defScope s_Maybe_init) := ⟨rfl, rfl, rfl, by decide +kernel, rfl, by decide +kernel, by decide +kernel⟩
theorem ok_Maybe {f C : Addr} {fd : FuncData} {c : Cs} (F : Fun K "__init__" "Maybe.__init__" s_Maybe_init f fd) (T : ClsF K C) (hf : ∀ w : W, ClsF K (c.of w)) : FnOk P w K mg base CX0 1 f fd ["self", "part"] (spInitP c C) := by
  refine F.ok sc_Maybe_init (fun vs H Q E h => by obtain ⟨_, _, _, _, _, rfl, _⟩ := h; rfl) (fun cdv A outer s H vs Q E hr h => ?_)
  obtain ⟨p, dx, u, w, H0, rfl, ⟨hp, h0, s0⟩, hu, k⟩ := h
  refine ⟨_, (pss_cons (ps_fld (pv 0) (pv 1) rfl)
  (pss_cons (ps_fld (pv 0) (pe_fld (pv 1) rfl) rfl)
  (pss_one (ps_fld (pv 0) (pe_fld (pv 1) rfl) rfl)))), ?_⟩
  refine ⟨_, rfl, _, rfl, p, C, dx, [], rfl, hp, T.cl, T.np, (by show 0 < 1000; decide), ?_⟩
  have s1 := Same.put h0 s0 (HO.ins C dx (putF (Str.ofString "part") u []))
  have g1 : upd H p (HO.ins C dx (putF (Str.ofString "part") u [])) p = some (HO.ins C dx (putF (Str.ofString "part") u [])) := upd_same
  generalize upd H p (HO.ins C dx (putF (Str.ofString "part") u [])) = H1 at *
  obtain ⟨a, d, fs, ea, ha, l1, l2⟩ := (ObjAt.keep (stillS s1) _ _ hu).notes
  refine ⟨_, rfl, a, _, d, fs, _, ea, ha, (hf w).cl, (hf w).nc, l1, _, rfl, p, C, dx, _, rfl, g1, T.cl, T.nc, (by show 1 < 1000; decide), ?_⟩
  have s2 := Same.put h0 s1 (HO.ins C dx (putF (Str.ofString "called") (fV w.called) (putF (Str.ofString "part") u [])))
  have g2 : upd H1 p (HO.ins C dx (putF (Str.ofString "called") (fV w.called) (putF (Str.ofString "part") u []))) p = some _ := upd_same
  generalize upd H1 p (HO.ins C dx (putF (Str.ofString "called") (fV w.called) (putF (Str.ofString "part") u []))) = H2 at *
  obtain ⟨a, d, fs, ea, ha, l1, l2⟩ := (ObjAt.keep (stillS s2) _ _ hu).notes
  refine ⟨_, rfl, a, _, d, fs, _, ea, ha, (hf w).cl, (hf w).nr, l2, _, rfl, p, C, dx, _, rfl, g2, T.cl, T.nr, (by show 2 < 1000; decide), ?_⟩
  exact k _ upd_same (Same.put h0 s2 _)
abbrev s_Ahead_init : Stmt := inClass (top 30) 0
theorem sc_Ahead_init : FnScope ["self", "part"] ["self", "part"] (defScope s_Ahead_init) := ⟨rfl, rfl, rfl, by decide +kernel, rfl, by decide +kernel, by decide +kernel⟩
theorem ok_Ahead {f C : Addr} {fd : FuncData} {c : Cs} (F : Fun K "__init__" "Ahead.__init__" s_Ahead_init f fd) (T : ClsF K C) (hf : ∀ w : W, ClsF K (c.of w)) : FnOk P w K mg base CX0 1 f fd ["self", "part"] (spInitP c C) := by
  refine F.ok sc_Ahead_init (fun vs H Q E h => by obtain ⟨_, _, _, _, _, rfl, _⟩ := h; rfl) (fun cdv A outer s H vs Q E hr h => ?_)
  obtain ⟨p, dx, u, w, H0, rfl, ⟨hp, h0, s0⟩, hu, k⟩ := h
  refine ⟨_, (pss_cons (ps_fld (pv 0) (pv 1) rfl)
  (pss_cons (ps_fld (pv 0) (pe_fld (pv 1) rfl) rfl)
  (pss_one (ps_fld (pv 0) (pe_fld (pv 1) rfl) rfl)))), ?_⟩
  refine ⟨_, rfl, _, rfl, p, C, dx, [], rfl, hp, T.cl, T.np, (by show 0 < 1000; decide), ?_⟩
  have s1 := Same.put h0 s0 (HO.ins C dx (putF (Str.ofString "part") u []))
  have g1 : upd H p (HO.ins C dx (putF (Str.ofString "part") u [])) p = some (HO.ins C dx (putF (Str.ofString "part") u [])) := upd_same
  generalize upd H p (HO.ins C dx (putF (Str.ofString "part") u [])) = H1 at *
  obtain ⟨a, d, fs, ea, ha, l1, l2⟩ := (ObjAt.keep (stillS s1) _ _ hu).notes
  refine ⟨_, rfl, a, _, d, fs, _, ea, ha, (hf w).cl, (hf w).nc, l1, _, rfl, p, C, dx, _, rfl, g1, T.cl, T.nc, (by show 1 < 1000; decide), ?_⟩
  have s2 := Same.put h0 s1 (HO.ins C dx (putF (Str.ofString "called") (fV w.called) (putF (Str.ofString "part") u [])))
  have g2 : upd H1 p (HO.ins C dx (putF (Str.ofString "called") (fV w.called) (putF (Str.ofString "part") u []))) p = some _ := upd_same
  generalize upd H1 p (HO.ins C dx (putF (Str.ofString "called") (fV w.called) (putF (Str.ofString "part") u []))) = H2 at *
  obtain ⟨a, d, fs, ea, ha, l1, l2⟩ := (ObjAt.keep (stillS s2) _ _ hu).notes
  refine ⟨_, rfl, a, _, d, fs, _, ea, ha, (hf w).cl, (hf w).nr, l2, _, rfl, p, C, dx, _, rfl, g2, T.cl, T.nr, (by show 2 < 1000; decide), ?_⟩
  exact k _ upd_same (Same.put h0 s2 _)
abbrev s_Unless_init : Stmt := inClass (top 31) 0
theorem sc_Unless_init : FnScope ["self", "part"] ["self", "part"] (defScope s_Unless_init) := ⟨rfl, rfl, rfl, by decide +kernel, rfl, by decide +kernel, by decide +kernel⟩
theorem ok_Unless {f C : Addr} {fd : FuncData} {c : Cs} (F : Fun K "__init__" "Unless.__init__" s_Unless_init f fd) (T : ClsF K C) (hf : ∀ w : W, ClsF K (c.of w)) : FnOk P w K mg base CX0 1 f fd ["self", "part"] (spInitP c C) := by
  refine F.ok sc_Unless_init (fun vs H Q E h => by obtain ⟨_, _, _, _, _, rfl, _⟩ := h; rfl) (fun cdv A outer s H vs Q E hr h => ?_)
  obtain ⟨p, dx, u, w, H0, rfl, ⟨hp, h0, s0⟩, hu, k⟩ := h
  refine ⟨_, (pss_cons (ps_fld (pv 0) (pv 1) rfl)
  (pss_cons (ps_fld (pv 0) (pe_fld (pv 1) rfl) rfl)
  (pss_one (ps_fld (pv 0) (pe_fld (pv 1) rfl) rfl)))), ?_⟩
  refine ⟨_, rfl, _, rfl, p, C, dx, [], rfl, hp, T.cl, T.np, (by show 0 < 1000; decide), ?_⟩
  have s1 := Same.put h0 s0 (HO.ins C dx (putF (Str.ofString "part") u []))
  have g1 : upd H p (HO.ins C dx (putF (Str.ofString "part") u [])) p = some (HO.ins C dx (putF (Str.ofString "part") u [])) := upd_same
  generalize upd H p (HO.ins C dx (putF (Str.ofString "part") u [])) = H1 at *
  obtain ⟨a, d, fs, ea, ha, l1, l2⟩ := (ObjAt.keep (stillS s1) _ _ hu).notes
  refine ⟨_, rfl, a, _, d, fs, _, ea, ha, (hf w).cl, (hf w).nc, l1, _, rfl, p, C, dx, _, rfl, g1, T.cl, T.nc, (by show 1 < 1000; decide), ?_⟩
  have s2 := Same.put h0 s1 (HO.ins C dx (putF (Str.ofString "called") (fV w.called) (putF (Str.ofString "part") u [])))
  have g2 : upd H1 p (HO.ins C dx (putF (Str.ofString "called") (fV w.called) (putF (Str.ofString "part") u []))) p = some _ := upd_same
  generalize upd H1 p (HO.ins C dx (putF (Str.ofString "called") (fV w.called) (putF (Str.ofString "part") u []))) = H2 at *
  obtain ⟨a, d, fs, ea, ha, l1, l2⟩ := (ObjAt.keep (stillS s2) _ _ hu).notes
  refine ⟨_, rfl, a, _, d, fs, _, ea, ha, (hf w).cl, (hf w).nr, l2, _, rfl, p, C, dx, _, rfl, g2, T.cl, T.nr, (by show 2 < 1000; decide), ?_⟩
  exact k _ upd_same (Same.put h0 s2 _)
abbrev s_Again_init : Stmt := inClass (top 28) 0
theorem sc_Again_init : FnScope ["self", "part"] ["self", "part"] (defScope s_Again_init) := ⟨rfl, rfl, rfl, by decide +kernel, rfl, by decide +kernel, by decide +kernel⟩
theorem ok_Again {f C : Addr} {fd : FuncData} {c : Cs} {mkC : Addr} (F : Fun K "__init__" "Again.__init__" s_Again_init f fd) (T : ClsF K C) (hf : ∀ w : W, ClsF K (c.of w)) (G_Mark : Mk0 K mg "Mark" mkC) : FnOk P w K mg base CX0 1 f fd ["self", "part"] (spInitA c C) := by
  refine F.ok sc_Again_init (fun vs H Q E h => by obtain ⟨_, _, _, _, _, rfl, _⟩ := h; rfl) (fun cdv A outer s H vs Q E hr h => ?_)
  obtain ⟨p, dx, u, w, H0, rfl, ⟨hp, h0, s0⟩, hu, k⟩ := h
  refine ⟨_, (pss_cons (ps_fld (pv 0) (pv 1) rfl)
  (pss_cons (ps_fld (pv 0) (pe_fld (pv 1) rfl) rfl)
  (pss_cons (ps_fld (pv 0) (pe_op op_add (pe_fld (pv 1) rfl) pe_int) rfl)
  (pss_one (ps_fld (pv 0) (pe_make00 G_Mark rfl) rfl))))), ?_⟩
  refine ⟨_, rfl, _, rfl, p, C, dx, [], rfl, hp, T.cl, T.np, (by show 0 < 1000; decide), ?_⟩
  have s1 := Same.put h0 s0 (HO.ins C dx (putF (Str.ofString "part") u []))
  have g1 : upd H p (HO.ins C dx (putF (Str.ofString "part") u [])) p = some (HO.ins C dx (putF (Str.ofString "part") u [])) := upd_same
  generalize upd H p (HO.ins C dx (putF (Str.ofString "part") u [])) = H1 at *
  obtain ⟨a, d, fs, ea, ha, l1, l2⟩ := (ObjAt.keep (stillS s1) _ _ hu).notes
  refine ⟨_, rfl, a, _, d, fs, _, ea, ha, (hf w).cl, (hf w).nc, l1, _, rfl, p, C, dx, _, rfl, g1, T.cl, T.nc, (by show 1 < 1000; decide), ?_⟩
  have s2 := Same.put h0 s1 (HO.ins C dx (putF (Str.ofString "called") (fV w.called) (putF (Str.ofString "part") u [])))
  have g2 : upd H1 p (HO.ins C dx (putF (Str.ofString "called") (fV w.called) (putF (Str.ofString "part") u []))) p = some _ := upd_same
  generalize upd H1 p (HO.ins C dx (putF (Str.ofString "called") (fV w.called) (putF (Str.ofString "part") u []))) = H2 at *
  obtain ⟨a, d, fs, ea, ha, l1, l2⟩ := (ObjAt.keep (stillS s2) _ _ hu).notes
  refine ⟨_, rfl, a, _, d, fs, _, ea, ha, (hf w).cl, (hf w).nr, l2, _, _, rfl, rfl, _, rfl, p, C, dx, _, rfl, g2, T.cl, T.nr, (by show 2 < 1000; decide), ?_⟩
  generalize e3 : putF (Str.ofString "rounds") (V.int ((w.rounds : Nat) + 1)) (putF (Str.ofString "called") (fV w.called) (putF (Str.ofString "part") u [])) = f3
  have s3 := Same.put h0 s2 (HO.ins C dx f3)
  have g3 : upd H2 p (HO.ins C dx f3) p = some (HO.ins C dx f3) := upd_same
  generalize upd H2 p (HO.ins C dx f3) = H3 at *
  intro m dm hm hdm hne
  have s4 := (at0 (C := mkC) hm hdm).2.2
  refine ⟨_, rfl, p, C, dx, _, rfl, s4 _ _ g3, T.cl, T.nm, (by rw [← e3]; show 3 < 1000; decide), ?_⟩
  refine k (.ref m) _ ?_ (Same.put h0 (s3.trans s4) _)
  rw [upd_same, ← e3]
  rfl
abbrev s_Row_init : Stmt := inClass (top 26) 0
theorem sc_Row_init : FnScope ["self", "ways"] ["self", "ways"] (defScope s_Row_init) := ⟨rfl, rfl, rfl, by decide +kernel, rfl, by decide +kernel, by decide +kernel⟩
theorem ok_Row {f C : Addr} {fd : FuncData} {c : Cs} (F : Fun K "__init__" "Row.__init__" s_Row_init f fd) (T : ClsF K C) (B : Bs mg) (G_first_call : DefOk P w K mg base 1 "first_call" ["ways"] (spFirst c)) (G_most_rounds : DefOk P w K mg base 1 "most_rounds" ["ways"] (spMost c)) : FnOk P w K mg base CX0 2 f fd ["self", "ways"] (spInitT K c C) := by
  have B_tuple := B.tuple
  refine F.ok sc_Row_init (fun vs H Q E h => by obtain ⟨_, _, _, _, _, _, rfl, _⟩ := h; rfl) (fun cdv A outer s H vs Q E hr h => ?_)
  obtain ⟨p, dx, q, xs, ws, H0, rfl, ⟨hp, h0, s0⟩, hq, hw, hl, k⟩ := h
  refine ⟨_, (pss_cons (ps_fld (pv 0) (pe_callTy call_tuple_of rfl B_tuple (by decide +kernel) (pa_cons (pv 1) pa_nil)) rfl)
  (pss_cons (ps_fld (pv 0) (pe_callD G_first_call (hr.mono (by first | decide | omega)) rfl (pa_cons (pe_fld (pv 0) rfl) pa_nil)) rfl)
  (pss_one (ps_fld (pv 0) (pe_callD G_most_rounds (hr.mono (by first | decide | omega)) rfl (pa_cons (pe_fld (pv 0) rfl) pa_nil)) rfl)))), ?_⟩
  have elen := ObjsAt.len _ _ hw
  have hq' := hq.imp (s0 _ _) (s0 _ _)
  refine ⟨_, rfl, q, xs, rfl, ?_⟩
  rcases hq' with hq' | hq'
  · refine .inl ⟨SqL.of hq', fun t ht0 => ?_⟩
    have npt : p ≠ t := ne_of_none hp ht0
    have s1 := s0.trans (Same.new ht0 (.tup xs))
    have ht : upd H t (.tup xs) t = some (.tup xs) := upd_same
    have hp1 : upd H t (.tup xs) p = some (.ins C dx []) := by rw [upd_ne npt]; exact hp
    generalize upd H t (.tup xs) = H1 at *
    refine ⟨_, rfl, p, C, dx, [], rfl, hp1, T.cl, T.nw, (by show 0 < 1000; decide), ?_⟩
    have s2 := Same.put h0 s1 (HO.ins C dx (putF (Str.ofString "ways") (.ref t) []))
    have g2 : upd H1 p (HO.ins C dx (putF (Str.ofString "ways") (.ref t) [])) p = some (HO.ins C dx (putF (Str.ofString "ways") (.ref t) [])) := upd_same
    have t2 : upd H1 p (HO.ins C dx (putF (Str.ofString "ways") (.ref t) [])) t = some (.tup xs) := by rw [upd_ne npt.symm]; exact ht
    generalize upd H1 p (HO.ins C dx (putF (Str.ofString "ways") (.ref t) [])) = H2 at *
    refine ⟨_, rfl, p, C, dx, _, _, rfl, g2, T.cl, T.nw, rfl, t, xs, ws, rfl, t2, ObjsAt.keep (stillS s2) _ _ hw, hl, fun H3 s3 => ?_⟩
    refine ⟨_, rfl, p, C, dx, _, rfl, s3 _ _ g2, T.cl, T.nc, (by show 1 < 1000; decide), ?_⟩
    generalize e4 : putF (Str.ofString "called") (fV (W.calleds ws)) (putF (Str.ofString "ways") (.ref t) []) = f4
    have s4 := Same.put h0 (s2.trans s3) (HO.ins C dx f4)
    have g4 : upd H3 p (HO.ins C dx f4) p = some (HO.ins C dx f4) := upd_same
    have t4 : upd H3 p (HO.ins C dx f4) t = some (.tup xs) := by rw [upd_ne npt.symm]; exact s3 _ _ t2
    generalize upd H3 p (HO.ins C dx f4) = H4 at *
    refine ⟨_, rfl, p, C, dx, _, _, rfl, g4, T.cl, T.nw, (by rw [← e4]; rfl), t, xs, ws, rfl, t4, ObjsAt.keep (stillS s4) _ _ hw, hl, fun H5 s5 => ?_⟩
    refine ⟨_, rfl, p, C, dx, _, rfl, s5 _ _ g4, T.cl, T.nr, (by rw [← e4]; show 2 < 1000; decide), ?_⟩
    refine k t _ (by rw [upd_ne npt.symm]; exact s5 _ _ t4) ?_ (Same.put h0 (s4.trans s5) _)
    rw [upd_same, ← e4]
    rfl
  · refine .inr ⟨SqT.of hq', ?_⟩
    have npt : p ≠ q := (ne_of hq' hp (by intro z; cases z)).symm
    have s1 := s0
    have ht := hq'
    have hp1 := hp
    refine ⟨_, rfl, p, C, dx, [], rfl, hp1, T.cl, T.nw, (by show 0 < 1000; decide), ?_⟩
    have s2 := Same.put h0 s1 (HO.ins C dx (putF (Str.ofString "ways") (.ref q) []))
    have g2 : upd H p (HO.ins C dx (putF (Str.ofString "ways") (.ref q) [])) p = some (HO.ins C dx (putF (Str.ofString "ways") (.ref q) [])) := upd_same
    have t2 : upd H p (HO.ins C dx (putF (Str.ofString "ways") (.ref q) [])) q = some (.tup xs) := by rw [upd_ne npt.symm]; exact ht
    generalize upd H p (HO.ins C dx (putF (Str.ofString "ways") (.ref q) [])) = H2 at *
    refine ⟨_, rfl, p, C, dx, _, _, rfl, g2, T.cl, T.nw, rfl, q, xs, ws, rfl, t2, ObjsAt.keep (stillS s2) _ _ hw, hl, fun H3 s3 => ?_⟩
    refine ⟨_, rfl, p, C, dx, _, rfl, s3 _ _ g2, T.cl, T.nc, (by show 1 < 1000; decide), ?_⟩
    generalize e4 : putF (Str.ofString "called") (fV (W.calleds ws)) (putF (Str.ofString "ways") (.ref q) []) = f4
    have s4 := Same.put h0 (s2.trans s3) (HO.ins C dx f4)
    have g4 : upd H3 p (HO.ins C dx f4) p = some (HO.ins C dx f4) := upd_same
    have t4 : upd H3 p (HO.ins C dx f4) q = some (.tup xs) := by rw [upd_ne npt.symm]; exact s3 _ _ t2
    generalize upd H3 p (HO.ins C dx f4) = H4 at *
    refine ⟨_, rfl, p, C, dx, _, _, rfl, g4, T.cl, T.nw, (by rw [← e4]; rfl), q, xs, ws, rfl, t4, ObjsAt.keep (stillS s4) _ _ hw, hl, fun H5 s5 => ?_⟩
    refine ⟨_, rfl, p, C, dx, _, rfl, s5 _ _ g4, T.cl, T.nr, (by rw [← e4]; show 2 < 1000; decide), ?_⟩
    refine k q _ (by rw [upd_ne npt.symm]; exact s5 _ _ t4) ?_ (Same.put h0 (s4.trans s5) _)
    rw [upd_same, ← e4]
    rfl
abbrev s_Choice_init : Stmt := inClass (top 27) 0
theorem sc_Choice_init : FnScope ["self", "ways"] ["self", "ways"] (defScope s_Choice_init) := ⟨rfl, rfl, rfl, by decide +kernel, rfl, by decide +kernel, by decide +kernel⟩
theorem ok_Choice {f C : Addr} {fd : FuncData} {c : Cs} (F : Fun K "__init__" "Choice.__init__" s_Choice_init f fd) (T : ClsF K C) (B : Bs mg) (G_first_call : DefOk P w K mg base 1 "first_call" ["ways"] (spFirst c)) (G_most_rounds : DefOk P w K mg base 1 "most_rounds" ["ways"] (spMost c)) : FnOk P w K mg base CX0 2 f fd ["self", "ways"] (spInitT K c C) := by
  have B_tuple := B.tuple
  refine F.ok sc_Choice_init (fun vs H Q E h => by obtain ⟨_, _, _, _, _, _, rfl, _⟩ := h; rfl) (fun cdv A outer s H vs Q E hr h => ?_)
  obtain ⟨p, dx, q, xs, ws, H0, rfl, ⟨hp, h0, s0⟩, hq, hw, hl, k⟩ := h
  refine ⟨_, (pss_cons (ps_fld (pv 0) (pe_callTy call_tuple_of rfl B_tuple (by decide +kernel) (pa_cons (pv 1) pa_nil)) rfl)
  (pss_cons (ps_fld (pv 0) (pe_callD G_first_call (hr.mono (by first | decide | omega)) rfl (pa_cons (pe_fld (pv 0) rfl) pa_nil)) rfl)
  (pss_one (ps_fld (pv 0) (pe_callD G_most_rounds (hr.mono (by first | decide | omega)) rfl (pa_cons (pe_fld (pv 0) rfl) pa_nil)) rfl)))), ?_⟩
  have elen := ObjsAt.len _ _ hw
  have hq' := hq.imp (s0 _ _) (s0 _ _)
  refine ⟨_, rfl, q, xs, rfl, ?_⟩
  rcases hq' with hq' | hq'
  · refine .inl ⟨SqL.of hq', fun t ht0 => ?_⟩
    have npt : p ≠ t := ne_of_none hp ht0
    have s1 := s0.trans (Same.new ht0 (.tup xs))
    have ht : upd H t (.tup xs) t = some (.tup xs) := upd_same
    have hp1 : upd H t (.tup xs) p = some (.ins C dx []) := by rw [upd_ne npt]; exact hp
    generalize upd H t (.tup xs) = H1 at *
    refine ⟨_, rfl, p, C, dx, [], rfl, hp1, T.cl, T.nw, (by show 0 < 1000; decide), ?_⟩
    have s2 := Same.put h0 s1 (HO.ins C dx (putF (Str.ofString "ways") (.ref t) []))
    have g2 : upd H1 p (HO.ins C dx (putF (Str.ofString "ways") (.ref t) [])) p = some (HO.ins C dx (putF (Str.ofString "ways") (.ref t) [])) := upd_same
    have t2 : upd H1 p (HO.ins C dx (putF (Str.ofString "ways") (.ref t) [])) t = some (.tup xs) := by rw [upd_ne npt.symm]; exact ht
    generalize upd H1 p (HO.ins C dx (putF (Str.ofString "ways") (.ref t) [])) = H2 at *
    refine ⟨_, rfl, p, C, dx, _, _, rfl, g2, T.cl, T.nw, rfl, t, xs, ws, rfl, t2, ObjsAt.keep (stillS s2) _ _ hw, hl, fun H3 s3 => ?_⟩
    refine ⟨_, rfl, p, C, dx, _, rfl, s3 _ _ g2, T.cl, T.nc, (by show 1 < 1000; decide), ?_⟩
    generalize e4 : putF (Str.ofString "called") (fV (W.calleds ws)) (putF (Str.ofString "ways") (.ref t) []) = f4
    have s4 := Same.put h0 (s2.trans s3) (HO.ins C dx f4)
    have g4 : upd H3 p (HO.ins C dx f4) p = some (HO.ins C dx f4) := upd_same
    have t4 : upd H3 p (HO.ins C dx f4) t = some (.tup xs) := by rw [upd_ne npt.symm]; exact s3 _ _ t2
    generalize upd H3 p (HO.ins C dx f4) = H4 at *
    refine ⟨_, rfl, p, C, dx, _, _, rfl, g4, T.cl, T.nw, (by rw [← e4]; rfl), t, xs, ws, rfl, t4, ObjsAt.keep (stillS s4) _ _ hw, hl, fun H5 s5 => ?_⟩
    refine ⟨_, rfl, p, C, dx, _, rfl, s5 _ _ g4, T.cl, T.nr, (by rw [← e4]; show 2 < 1000; decide), ?_⟩
    refine k t _ (by rw [upd_ne npt.symm]; exact s5 _ _ t4) ?_ (Same.put h0 (s4.trans s5) _)
    rw [upd_same, ← e4]
    rfl
  · refine .inr ⟨SqT.of hq', ?_⟩
    have npt : p ≠ q := (ne_of hq' hp (by intro z; cases z)).symm
    have s1 := s0
    have ht := hq'
    have hp1 := hp
    refine ⟨_, rfl, p, C, dx, [], rfl, hp1, T.cl, T.nw, (by show 0 < 1000; decide), ?_⟩
    have s2 := Same.put h0 s1 (HO.ins C dx (putF (Str.ofString "ways") (.ref q) []))
    have g2 : upd H p (HO.ins C dx (putF (Str.ofString "ways") (.ref q) [])) p = some (HO.ins C dx (putF (Str.ofString "ways") (.ref q) [])) := upd_same
    have t2 : upd H p (HO.ins C dx (putF (Str.ofString "ways") (.ref q) [])) q = some (.tup xs) := by rw [upd_ne npt.symm]; exact ht
    generalize upd H p (HO.ins C dx (putF (Str.ofString "ways") (.ref q) [])) = H2 at *
    refine ⟨_, rfl, p, C, dx, _, _, rfl, g2, T.cl, T.nw, rfl, q, xs, ws, rfl, t2, ObjsAt.keep (stillS s2) _ _ hw, hl, fun H3 s3 => ?_⟩
    refine ⟨_, rfl, p, C, dx, _, rfl, s3 _ _ g2, T.cl, T.nc, (by show 1 < 1000; decide), ?_⟩
    generalize e4 : putF (Str.ofString "called") (fV (W.calleds ws)) (putF (Str.ofString "ways") (.ref q) []) = f4
    have s4 := Same.put h0 (s2.trans s3) (HO.ins C dx f4)
    have g4 : upd H3 p (HO.ins C dx f4) p = some (HO.ins C dx f4) := upd_same
    have t4 : upd H3 p (HO.ins C dx f4) q = some (.tup xs) := by rw [upd_ne npt.symm]; exact s3 _ _ t2
    generalize upd H3 p (HO.ins C dx f4) = H4 at *
    refine ⟨_, rfl, p, C, dx, _, _, rfl, g4, T.cl, T.nw, (by rw [← e4]; rfl), q, xs, ws, rfl, t4, ObjsAt.keep (stillS s4) _ _ hw, hl, fun H5 s5 => ?_⟩
    refine ⟨_, rfl, p, C, dx, _, rfl, s5 _ _ g4, T.cl, T.nr, (by rw [← e4]; show 2 < 1000; decide), ?_⟩
    refine k q _ (by rw [upd_ne npt.symm]; exact s5 _ _ t4) ?_ (Same.put h0 (s4.trans s5) _)
    rw [upd_same, ← e4]
    rfl
end
end Wv
namespace Wv
open PySem PySem.Spec PyProof.Rows L2
/-! ### the law's inner, made, way -/
def spInner : Sp := fun vs H Q _ => ∃ (v : V) (w : W), vs = [v] ∧ WayAt H v w ∧ ∀ (q : Addr) (us : List V) (H' : Hp), Same H H' → H' q = some (.lst us) → WaysAt H' us w.inner → Q (.ref q) H'
def spMade (c : Cs) (s : Nat) : Sp := fun vs H Q _ => ∃ (v : V) (w : W), vs = [v] ∧ WayAt H v w ∧ w.size ≤ s ∧ w.size ≤ 1000 ∧ ∀ (u : V) (H' : Hp), Same H H' → ObjAt c H' u w → Q u H'
section
variable {P : Program} {w : World} {K : PySem.W.Frag} {mg : Str → Option Value} {base : Heap}
/-- the classes as they are made -/
structure Gs (P : Program) (w : World) (K : PySem.W.Frag) (mg : Str → Option Value) (base : Heap) (c : Cs) : Prop where
  lt : ClsOk P w K mg base 1 "Letter" c.lt ["self", "letter"] (spInitL c.lt)
  ca : ClsOk P w K mg base 1 "Call" c.ca ["self", "name"] (spInitC c.ca)
  ro : ClsOk P w K mg base 2 "Row" c.ro ["self", "ways"] (spInitT K c c.ro)
  ch : ClsOk P w K mg base 2 "Choice" c.ch ["self", "ways"] (spInitT K c c.ch)
  ag : ClsOk P w K mg base 1 "Again" c.ag ["self", "part"] (spInitA c c.ag)
  ma : ClsOk P w K mg base 1 "Maybe" c.ma ["self", "part"] (spInitP c c.ma)
  ah : ClsOk P w K mg base 1 "Ahead" c.ah ["self", "part"] (spInitP c c.ah)
  un : ClsOk P w K mg base 1 "Unless" c.un ["self", "part"] (spInitP c c.un)
  on : ClsOk P w K mg base 1 "One" c.on ["self"] (spInit0 c.on)
  no : ClsOk P w K mg base 1 "Nothing" c.no ["self"] (spInit0 c.no)
abbrev s_l_inner : Stmt := top 74
theorem sc_l_inner : FnScope ["_law_way_here"] ["_law_way_here"] (defScope s_l_inner) := ⟨rfl, rfl, rfl, by decide +kernel, rfl, by decide +kernel, by decide +kernel⟩
theorem d_l_inner (h : Here K mg "_law_inner" s_l_inner ["_law_way_here"]) : DefOk P w K mg base 1 "_law_inner" ["_law_way_here"] spInner := by
  refine h.ok sc_l_inner (fun vs H Q E h => by obtain ⟨p, v, rfl, _⟩ := h; rfl) (fun f cdv A outer s H vs Q E hr h => ?_)
  obtain ⟨v, w, rfl, hv, k⟩ := h
  refine ⟨_, (pss_cons (ps_if (pt_cmpR op_in_seq (pe_ix ix_tup (pv 0) pe_int (fun _ _ => rfl)) (pe_lst (pa_cons pe_str (pa_cons pe_str pa_nil))) (by rfl)) (pss_one (ps_ret (pe_ix ix_tup (pv 0) pe_int (fun _ _ => rfl)))) pss_nil)
  (pss_one (ps_ret (pe_ifExp (pt_cmpR op_in_seq (pe_ix ix_tup (pv 0) pe_int (fun _ _ => rfl)) (pe_lst (pa_cons pe_str (pa_cons pe_str (pa_cons pe_str (pa_cons pe_str pa_nil))))) (by rfl)) (pe_lst (pa_cons (pe_ix ix_tup (pv 0) pe_int (fun _ _ => rfl)) pa_nil)) (pe_lst pa_nil))))), ?_⟩
  obtain ⟨a, rest, rfl, ha⟩ := hv.head
  walk_at "rd"
  refine ⟨a, _, _, _, rfl, rfl, SqT.of ha, atI0, ?_⟩
  refine ⟨by show 2 ≤ sizeLine; decide, fun q hq => ?_⟩
  have s1 := Same.new hq (.lst [.str (Str.ofString "row"), .str (Str.ofString "choice")])
  refine ⟨q, _, rfl, .inl (SqL.of upd_same), rfl, by decide +kernel, ?_⟩
  rw [if_neg Bool.false_ne_true, in_rc]
  walk_at "rd"
  refine ite2 (fun e => ?_) (fun e => ?_)
  · have hv' := WayAt.keep (Keep.of s1) _ _ hv
    walk_at "rd"
    cases w <;> first | exact absurd e Bool.false_ne_true | skip
    all_goals
      obtain ⟨a', l, vs, e', h1, h2, h3⟩ := hv'
      cases e'
      refine ⟨a, _, _, _, rfl, rfl, SqT.of h1, atI1, ?_⟩
      exact k l vs _ s1 h2 h3
  · have hv' := WayAt.keep (Keep.of s1) _ _ hv
    walk_at "nx"
    walk_at "rd"
    refine ⟨a, _, _, _, rfl, rfl, SqT.of (s1 _ _ ha), atI0, ?_⟩
    refine ⟨by show 4 ≤ sizeLine; decide, fun q2 hq2 => ?_⟩
    have s2 := s1.trans (Same.new hq2 (.lst [.str (Str.ofString "again"), .str (Str.ofString "maybe"), .str (Str.ofString "ahead"), .str (Str.ofString "unless")]))
    refine ⟨q2, _, rfl, .inl (SqL.of upd_same), rfl, by decide +kernel, ?_⟩
    rw [if_neg Bool.false_ne_true, in_un]
    walk_at "rd"
    have hv2 := WayAt.keep (Keep.of s2) _ _ hv
    refine ite2 (fun e2 => ?_) (fun e2 => ?_)
    · cases w <;> first | exact absurd e2 Bool.false_ne_true | skip
      all_goals
        obtain ⟨a', u, e', h1, h2⟩ := hv2
        cases e'
        walk_at "rd"
        refine ⟨a, _, _, _, rfl, rfl, SqT.of h1, atI1, by show 1 ≤ sizeLine; decide, fun q3 hq3 => ?_⟩
        have s3 := Same.new hq3 (.lst [u])
        exact k q3 _ _ (s2.trans s3) upd_same ⟨u, [], rfl, WayAt.keep (Keep.of s3) _ _ h2, rfl⟩
    · refine ⟨Nat.zero_le _, fun q3 hq3 => ?_⟩
      have s3 := Same.new hq3 (.lst [])
      cases w <;> first | exact absurd rfl e2 | exact absurd rfl e | exact k q3 _ _ (s2.trans s3) upd_same rfl
abbrev s_l_made : Stmt := top 75
theorem sc_l_made : FnScope ["_law_way_here", "_law_ways", "_law_one"] ["_law_way_here"] (defScope s_l_made) := ⟨rfl, rfl, rfl, by decide +kernel, rfl, by decide +kernel, by decide +kernel⟩
theorem none_made (c : Cs) {f : Addr} {fd : FuncData} : FnOk P w K mg base CX0 3 f fd ["_law_way_here"] (spMade c 0) := by
  have no : ∀ vs H Q E, ¬ spMade c 0 vs H Q E := fun vs H Q E h => by
    obtain ⟨v, w, _, _, h1, _⟩ := h
    have := w.size_pos
    omega
  exact ⟨fun vs H Q E h => absurd h (no vs H Q E), fun A outer s H args us vs Q E _ _ _ _ h => absurd h (no vs H Q E)⟩
theorem step_l_made (c : Cs) (s : Nat) (h : Here K mg "_law_made" s_l_made ["_law_way_here"]) (g : Gs P w K mg base c) (G_l_inner : DefOk P w K mg base 1 "_law_inner" ["_law_way_here"] spInner) (G_l_made : DefOk P w K mg base (3 + s) "_law_made" ["_law_way_here"] (spMade c s)) :
    DefOk P w K mg base (3 + s + 1) "_law_made" ["_law_way_here"] (spMade c (s + 1)) := by
  have G_Letter := g.lt; have G_Call := g.ca; have G_Row := g.ro; have G_Choice := g.ch; have G_Again := g.ag; have G_Maybe := g.ma; have G_Ahead := g.ah; have G_Unless := g.un
  have G_One := g.on; have G_Nothing := g.no
  refine h.ok sc_l_made (fun vs H Q E h => by obtain ⟨p, v, rfl, _⟩ := h; rfl) (fun f cdv A outer s' H vs Q E hr h => ?_)
  obtain ⟨v, w, rfl, hv, hs, hs2, k⟩ := h
  refine ⟨_, (pss_cons (ps_if (pt_cmpR op_in_seq (pe_ix ix_tup (pv 0) pe_int (fun _ _ => rfl)) (pe_lst (pa_cons pe_str (pa_cons pe_str pa_nil))) (by rfl)) (pss_one (ps_ret (pe_ifExp (pt_cmpR op_eq (pe_ix ix_tup (pv 0) pe_int (fun _ _ => rfl)) pe_str (nomark _)) (pe_makeD G_Letter (hr.mono (by first | decide | omega)) rfl (pa_cons (pe_ix ix_tup (pv 0) pe_int (fun _ _ => rfl)) pa_nil)) (pe_makeD G_Call (hr.mono (by first | decide | omega)) rfl (pa_cons (pe_ix ix_tup (pv 0) pe_int (fun _ _ => rfl)) pa_nil))))) pss_nil)
  (pss_cons (ps_if (pt_cmpR op_in_seq (pe_ix ix_tup (pv 0) pe_int (fun _ _ => rfl)) (pe_lst (pa_cons pe_str (pa_cons pe_str pa_nil))) (by rfl)) (pss_one (ps_ret (pe_ifExp (pt_cmpR op_eq (pe_ix ix_tup (pv 0) pe_int (fun _ _ => rfl)) pe_str (nomark _)) (pe_makeD0 G_One (hr.mono (by first | decide | omega)) rfl) (pe_makeD0 G_Nothing (hr.mono (by first | decide | omega)) rfl)))) pss_nil)
  (pss_cons (ps_setLc (i := 1) (own := [("_law_one", 2)]) (g := (gName 2)) (tt := tYes) rfl sc_l_made.nd rfl rfl (sw_true rfl rfl rfl (by decide +kernel)) (pi_list (pe_callD G_l_inner (hr.mono (by first | decide | omega)) rfl (pa_cons (pv 0) pa_nil))) (blkOk_by (own := [("_law_one", 2)]) (N := ["_law_way_here", "_law_ways", "_law_one"]) (sc := defScope s_l_made) (by decide +kernel)) (fun _ _ _ _ _ => pg_name (i := 2) sc_l_made.nd rfl (Or.inl rfl)) (fun _ _ _ _ _ => pts_nil) (fun _ _ _ _ _ => (pe_callD G_l_made (hr.mono (by first | decide | omega)) rfl (pa_cons (pv 2) pa_nil))))
  (pss_cons (ps_if (pt_cmpR op_in_seq (pe_ix ix_tup (pv 0) pe_int (fun _ _ => rfl)) (pe_lst (pa_cons pe_str (pa_cons pe_str pa_nil))) (by rfl)) (pss_one (ps_ret (pe_ifExp (pt_cmpR op_eq (pe_ix ix_tup (pv 0) pe_int (fun _ _ => rfl)) pe_str (nomark _)) (pe_makeD G_Row (hr.mono (by first | decide | omega)) rfl (pa_cons (pv 1) pa_nil)) (pe_makeD G_Choice (hr.mono (by first | decide | omega)) rfl (pa_cons (pv 1) pa_nil))))) pss_nil)
  (pss_cons (ps_if (pt_cmpR op_in_seq (pe_ix ix_tup (pv 0) pe_int (fun _ _ => rfl)) (pe_lst (pa_cons pe_str (pa_cons pe_str pa_nil))) (by rfl)) (pss_one (ps_ret (pe_ifExp (pt_cmpR op_eq (pe_ix ix_tup (pv 0) pe_int (fun _ _ => rfl)) pe_str (nomark _)) (pe_makeD G_Again (hr.mono (by first | decide | omega)) rfl (pa_cons (pe_ix ix_list (pv 1) pe_int (fun _ _ => rfl)) pa_nil)) (pe_makeD G_Maybe (hr.mono (by first | decide | omega)) rfl (pa_cons (pe_ix ix_list (pv 1) pe_int (fun _ _ => rfl)) pa_nil))))) pss_nil)
  (pss_one (ps_ret (pe_ifExp (pt_cmpR op_eq (pe_ix ix_tup (pv 0) pe_int (fun _ _ => rfl)) pe_str (nomark _)) (pe_makeD G_Ahead (hr.mono (by first | decide | omega)) rfl (pa_cons (pe_ix ix_list (pv 1) pe_int (fun _ _ => rfl)) pa_nil)) (pe_makeD G_Unless (hr.mono (by first | decide | omega)) rfl (pa_cons (pe_ix ix_list (pv 1) pe_int (fun _ _ => rfl)) pa_nil)))))))))), ?_⟩
  obtain ⟨a, rest, rfl, ha⟩ := hv.head
  walk_at "rd"
  refine ⟨a, _, _, _, rfl, rfl, SqT.of ha, atI0, ?_⟩
  refine ⟨by show 2 ≤ sizeLine; decide, fun q hq => ?_⟩
  have s1 := Same.new hq (.lst [.str (Str.ofString "letter"), .str (Str.ofString "call")])
  refine ⟨q, _, rfl, .inl (SqL.of upd_same), rfl, by decide +kernel, ?_⟩
  rw [if_neg Bool.false_ne_true, in_lc]
  walk_at "rd"
  refine ite2 (fun e => ?_) (fun e => ?_)
  · have hv' := WayAt.keep (Keep.of s1) _ _ hv
    walk_at "rd"
    refine ⟨a, _, _, _, rfl, rfl, SqT.of (s1 _ _ ha), atI0, rfl, _, rfl, ?_⟩
    rw [eq_letter]
    cases w <;> first | exact absurd e Bool.false_ne_true | skip
    · obtain ⟨a', e', h1⟩ := hv'
      cases e'
      refine iteT ?_
      walk_at "rd"
      refine ⟨a, _, _, _, rfl, rfl, SqT.of h1, atI1, makeL fun x dx H' s2 h => ?_⟩
      exact k _ H' (s1.trans s2) ⟨x, dx, rfl, h⟩
    · obtain ⟨a', e', h1⟩ := hv'
      cases e'
      refine iteF ?_
      walk_at "rd"
      refine ⟨a, _, _, _, rfl, rfl, SqT.of h1, atI1, makeC fun x dx H' s2 h => ?_⟩
      exact k _ H' (s1.trans s2) ⟨x, dx, rfl, h⟩
  · walk_at "nx"
    walk_at "rd"
    refine ⟨a, _, _, _, rfl, rfl, SqT.of (s1 _ _ ha), atI0, ?_⟩
    refine ⟨by show 2 ≤ sizeLine; decide, fun q2 hq2 => ?_⟩
    have s2 := s1.trans (Same.new hq2 (.lst [.str (Str.ofString "one"), .str (Str.ofString "nothing")]))
    refine ⟨q2, _, rfl, .inl (SqL.of upd_same), rfl, by decide +kernel, ?_⟩
    rw [if_neg Bool.false_ne_true, in_on]
    walk_at "rd"
    refine ite2 (fun e2 => ?_) (fun e2 => ?_)
    · walk_at "rd"
      refine ⟨a, _, _, _, rfl, rfl, SqT.of (s2 _ _ ha), atI0, rfl, _, rfl, ?_⟩
      rw [eq_one]
      cases w <;> first | exact absurd e2 Bool.false_ne_true | skip
      · exact iteF (make0 fun x dx H' s3 h => k _ H' (s2.trans s3) ⟨x, dx, rfl, h⟩)
      · exact iteT (make0 fun x dx H' s3 h => k _ H' (s2.trans s3) ⟨x, dx, rfl, h⟩)
    · walk_at "nx"
      refine ⟨_, rfl, .ref a, w, rfl, WayAt.keep (Keep.of s2) _ _ hv, fun qi us Hi si hqi hus => ?_⟩
      have s3 := s2.trans si
      refine ⟨qi, rfl, ⟨us, SqL.of hqi⟩, fun D hD => ?_⟩
      have elen := WaysAt.len _ _ hus
      refine lc_list (K := K) (a := qi) (xs := us) (fun i H' => ∃ os, H' D = some (.lst os) ∧ os.length = i ∧ Same Hi H' ∧ ObjsAt c H' os (w.inner.take i)) ?_ ?_ ?_ ?_
      · exact ⟨[], upd_same, rfl, Same.new hD _, rfl⟩
      · rintro i H' _ ⟨os, _, _, s4, _⟩
        exact SqL.of (s4 _ _ hqi)
      · rintro i x H' hx ⟨os, hD', hlo, s4, hos⟩
        have hi : i < us.length := (List.getElem?_eq_some_iff.mp hx).1
        obtain ⟨wi, hwi⟩ : ∃ wi, w.inner[i]? = some wi := ⟨w.inner[i]'(by omega), List.getElem?_eq_getElem (by omega)⟩
        obtain ⟨x', hx', hxw⟩ := WaysAt.at_ _ _ _ _ hus hwi
        have ex : x = x' := Option.some.inj (hx.symm.trans hx')
        subst ex
        have hsz := W.size_mem hwi
        have hsi := w.size_inner
        refine ⟨rfl, _, rfl, x, wi, rfl, WayAt.keep (Keep.of s4) _ _ hxw, by omega, by omega, fun u H2 s5 hu => ?_⟩
        have hl := W.sizes_len w.inner
        refine ⟨os, s5 _ _ hD', small' (by omega), os ++ [u], upd_same, by rw [List.length_append, hlo]; rfl, Same.put hD (s4.trans s5) _, ?_⟩
        rw [take_more' hwi]
        have st : Still H2 (upd H2 D (.lst (os ++ [u]))) := Still.put (s5 _ _ hD')
        exact ObjsAt.app _ _ (ObjsAt.keep ((stillS s5).trans st) _ _ hos) ⟨u, [], rfl, ObjAt.keep st _ _ hu, rfl⟩
      · rintro H5 ⟨os, hD', hlo, s4, hos⟩
        rw [elen, List.take_length] at hos
        have hwl : w.inner.length ≤ 1000000 := by have := W.sizes_len w.inner; have := w.size_inner; omega
        have s5 := s3.trans s4
        have ha5 := s5 _ _ ha
        walk_at "nx"
        walk_at "rd"
        refine ⟨a, _, _, _, rfl, rfl, SqT.of ha5, atI0, ?_⟩
        refine ⟨by show 2 ≤ sizeLine; decide, fun q3 hq3 => ?_⟩
        have s6 := Same.new hq3 (.lst [.str (Str.ofString "row"), .str (Str.ofString "choice")])
        refine ⟨q3, _, rfl, .inl (SqL.of upd_same), rfl, by decide +kernel, ?_⟩
        rw [if_neg Bool.false_ne_true, in_rc]
        walk_at "rd"
        refine ite2 (fun e3 => ?_) (fun e3 => ?_)
        · walk_at "rd"
          refine ⟨a, _, _, _, rfl, rfl, SqT.of (s6 _ _ ha5), atI0, rfl, _, rfl, ?_⟩
          rw [eq_row]
          cases w <;> first | exact absurd e3 Bool.false_ne_true | skip
          · refine iteT ⟨_, rfl, makeT (.inl (s6 _ _ hD')) (ObjsAt.keep (stillS s6) _ _ hos) (by exact hwl) fun x dx t H' s7 ht h => ?_⟩
            exact k _ H' ((s5.trans s6).trans s7) ⟨x, dx, t, os, rfl, h, ht, ObjsAt.keep (stillS (s6.trans s7)) _ _ hos⟩
          · refine iteF ⟨_, rfl, makeT (.inl (s6 _ _ hD')) (ObjsAt.keep (stillS s6) _ _ hos) (by exact hwl) fun x dx t H' s7 ht h => ?_⟩
            exact k _ H' ((s5.trans s6).trans s7) ⟨x, dx, t, os, rfl, h, ht, ObjsAt.keep (stillS (s6.trans s7)) _ _ hos⟩
        · walk_at "nx"
          walk_at "rd"
          refine ⟨a, _, _, _, rfl, rfl, SqT.of (s6 _ _ ha5), atI0, ?_⟩
          refine ⟨by show 2 ≤ sizeLine; decide, fun q4 hq4 => ?_⟩
          have s7 := s6.trans (Same.new hq4 (.lst [.str (Str.ofString "again"), .str (Str.ofString "maybe")]))
          refine ⟨q4, _, rfl, .inl (SqL.of upd_same), rfl, by decide +kernel, ?_⟩
          rw [if_neg Bool.false_ne_true, in_am]
          walk_at "rd"
          refine ite2 (fun e4 => ?_) (fun e4 => ?_)
          · walk_at "rd"
            refine ⟨a, _, _, _, rfl, rfl, SqT.of (s7 _ _ ha5), atI0, rfl, _, rfl, ?_⟩
            rw [eq_again]
            cases w <;> first | exact absurd e4 Bool.false_ne_true | skip
            · obtain ⟨u, us', rfl, hu, hn⟩ := hos
              refine iteT ⟨_, rfl, D, _, _, _, rfl, rfl, SqL.of (s7 _ _ hD'), atI0, makeA (ObjAt.keep (stillS s7) _ _ hu) fun x dx mk H' s8 h => ?_⟩
              exact k _ H' ((s5.trans s7).trans s8) ⟨x, dx, u, mk, rfl, h, ObjAt.keep (stillS (s7.trans s8)) _ _ hu⟩
            · obtain ⟨u, us', rfl, hu, hn⟩ := hos
              refine iteF ⟨_, rfl, D, _, _, _, rfl, rfl, SqL.of (s7 _ _ hD'), atI0, makeP (ObjAt.keep (stillS s7) _ _ hu) fun x dx H' s8 h => ?_⟩
              exact k _ H' ((s5.trans s7).trans s8) ⟨x, dx, u, .non, rfl, h, ObjAt.keep (stillS (s7.trans s8)) _ _ hu⟩
          · walk_at "nx"
            walk_at "rd"
            refine ⟨a, _, _, _, rfl, rfl, SqT.of (s7 _ _ ha5), atI0, rfl, _, rfl, ?_⟩
            rw [eq_ahead]
            cases w <;> first | exact absurd rfl e | exact absurd rfl e2 | exact absurd rfl e3 | exact absurd rfl e4 | skip
            · obtain ⟨u, us', rfl, hu, hn⟩ := hos
              refine iteT ⟨_, rfl, D, _, _, _, rfl, rfl, SqL.of (s7 _ _ hD'), atI0, makeP (ObjAt.keep (stillS s7) _ _ hu) fun x dx H' s8 h => ?_⟩
              exact k _ H' ((s5.trans s7).trans s8) ⟨x, dx, u, .non, rfl, h, ObjAt.keep (stillS (s7.trans s8)) _ _ hu⟩
            · obtain ⟨u, us', rfl, hu, hn⟩ := hos
              refine iteF ⟨_, rfl, D, _, _, _, rfl, rfl, SqL.of (s7 _ _ hD'), atI0, makeP (ObjAt.keep (stillS s7) _ _ hu) fun x dx H' s8 h => ?_⟩
              exact k _ H' ((s5.trans s7).trans s8) ⟨x, dx, u, .non, rfl, h, ObjAt.keep (stillS (s7.trans s8)) _ _ hu⟩
theorem d_l_made (c : Cs) (h : Here K mg "_law_made" s_l_made ["_law_way_here"]) (g : Gs P w K mg base c) (G_l_inner : DefOk P w K mg base 1 "_law_inner" ["_law_way_here"] spInner) : ∀ s, DefOk P w K mg base (3 + s) "_law_made" ["_law_way_here"] (spMade c s)
  | 0 => by
    obtain ⟨f, fd, F, m, b⟩ := h.ex
    exact ⟨f, fd, m, F.kp, b, none_made c⟩
  | s + 1 => step_l_made c s h g G_l_inner (d_l_made c h g G_l_inner s)
abbrev s_l_way : Stmt := top 72
theorem sc_l_way : FnScope ["_law_pen_here", "_law_signs_here", "_law_most", "_law_size"] ["_law_pen_here", "_law_signs_here", "_law_most"] (defScope s_l_way) := ⟨rfl, rfl, rfl, by decide +kernel, rfl, by decide +kernel, by decide +kernel⟩
theorem d_l_way (h : Here K mg "_law_way" s_l_way ["_law_pen_here", "_law_signs_here", "_law_most"]) (G_l_draw : DefOk P w K mg base 1 "_law_draw" ["_law_pen_here", "_law_many"] (spDraw K)) (G_l_way_of : DefOk P w K mg base (3 + 30) "_law_way_of" ["_law_pen_here", "_law_signs_here", "_law_size"] (spWayOf K 30)) :
    DefOk P w K mg base 34 "_law_way" ["_law_pen_here", "_law_signs_here", "_law_most"] (spWay K) := by
  refine h.ok sc_l_way (fun vs H Q E h => by obtain ⟨p, v, m, n, rfl, _⟩ := h; rfl) (fun f cdv A outer s' H vs Q E hr h => ?_)
  obtain ⟨p, z, m, n, rfl, hP, hn, hz0, hz1, hz, hm0, hm1, k⟩ := h
  refine ⟨_, (pss_cons (ps_set (i := 3) sc_l_way.nd rfl (Or.inl rfl) (pe_op op_add pe_int (pe_callD G_l_draw (hr.mono (by first | decide | omega)) rfl (pa_cons (pv 0) (pa_cons (pv 2) pa_nil)))))
  (pss_one (ps_ret (pe_callD G_l_way_of (hr.mono (by first | decide | omega)) rfl (pa_cons (pv 0) (pa_cons (pv 1) (pa_cons (pv 3) pa_nil))))))), ?_⟩
  refine ⟨_, rfl, _, rfl, p, m, n, rfl, hP, by omega, by omega, by omega, fun d H1 d0 d1 k1 hP1 => ?_⟩
  walk_at "rd"
  have e1 : (1 + d) = ((d.toNat + 1 : Nat) : Int) := by omega
  refine ⟨p, z, d.toNat + 1, n + 1, by rw [← e1]; rfl, hP1, by omega, hz0, hz1, hz, by omega, by omega, by omega, fun v w H2 hs hw hv k2 hP2 => ?_⟩
  exact k v w H2 (by omega) hw (WayAt.keep (newer_down k1) _ _ hv) (k1.trans k2) (hP2.mono (by omega))
end
end Wv
/-! Rules of my own: t[::-1] of a tuple, xs.extend(t) of a tuple, constants of the module. -/
namespace Wv
open PySem PySem.Spec PyProof.Rows L2 HT
section
variable {prog : Program} {w : World} {A : Around} {E : Value → Shared → Prop} {s : Shared}
theorem adj_back (n : Nat) : Builtin.Slice.sliceAdjust none none (-1) (n : Int) = ((n : Int) - 1, -1) := by
  unfold Builtin.Slice.sliceAdjust
  simp
theorem places_back (n : Nat) : Builtin.Slice.slicePlaces ((n : Int) - 1) (-1) (-1) = n := by
  unfold Builtin.Slice.slicePlaces
  simp
  omega
theorem applied_back {sl : Addr} {n : Nat} {t : Tok} {Q : Int × Int × Nat → Shared → Prop} (hs : s.heap.IsSliceOf sl .none .none (.int (-1) t)) (h : Q ((n : Int) - 1, -1, n) s) :
    wpAny (model prog w) A (Builtin.Slice.sliceApplied (.ref sl) (pure (n : Int))) Q E s := by
  obtain ⟨os, hos, hcs, hds⟩ := id hs
  unfold Builtin.Slice.sliceApplied Builtin.Slice.sliceFields
  refine wpAny_bind (wpAny_bind (wpAny_field hos hds (x := Value.none) rfl (wpAny_bind (wpAny_field hos hds (x := Value.none) rfl (wpAny_bind (wpAny_field hos hds (x := Value.int (-1) t) rfl (wpAny_pure ?_)))))))
  refine wpAny_bind (slicePart_int ?_)
  show wpAny _ _ (if ((-1 : Int) == 0) = true then _ else _) _ _ s
  rw [if_neg (by decide)]
  refine wpAny_bind (slicePart_none (wpAny_bind (slicePart_none (wpAny_bind (wpAny_pure ?_)))))
  show wpAny _ _ (match Builtin.Slice.sliceAdjust none none (-1) (n : Int) with | (lo, hi) => pure (lo, (-1 : Int), Builtin.Slice.slicePlaces lo hi (-1))) _ _ s
  rw [adj_back n]
  show wpAny _ _ (pure ((n : Int) - 1, (-1 : Int), Builtin.Slice.slicePlaces ((n : Int) - 1) (-1) (-1))) _ _ s
  rw [places_back]
  exact wpAny_pure h
theorem pick_back (xs : Array Value) : ((List.range xs.size).filterMap fun (m : Nat) => xs[(((xs.size : Int) - 1) + (m : Int) * (-1)).toNat]?).toArray = xs.toList.reverse.toArray := by
  have e : (fun (m : Nat) => xs[(((xs.size : Int) - 1) + (m : Int) * (-1)).toNat]?) = (fun i => xs[i]?) ∘ fun m => xs.size - 1 - m := by
    funext m
    have : (((xs.size : Int) - 1) + (m : Int) * (-1)).toNat = xs.size - 1 - m := by omega
    rw [this]
    rfl
  rw [e, ← List.filterMap_map, PySem.W.krv_range, List.filterMap_reverse, PySem.W.krv_all]
theorem getItem_tuple_back {t sl : Addr} {items : Array Value} {tk : Tok} {Q : Value → Shared → Prop} (ht : IsTup s.heap t items) (hs : s.heap.IsSliceOf sl .none .none (.int (-1) tk))
    (h : Q (.ref s.heap.objs.size) { s with heap := s.heap.push { cls := .type "tuple", data := .seq items.toList.reverse.toArray } }) (hsz : items.size ≤ sizeLine) : wpAny (model prog w) A (getItem (.ref t) (.ref sl)) Q E s := by
  have htake : sizeOk (.seq items.toList.reverse.toArray) := by
    show items.toList.reverse.toArray.size ≤ sizeLine
    rw [List.size_toArray, List.length_reverse, Array.length_toList]
    exact hsz
  obtain ⟨os, hos, hcs, _⟩ := id hs
  have isSl : s.TypeIs (.ref sl) "slice" := ⟨os, hos, hcs⟩
  unfold getItem
  try with_reducible refine wpAny_holding ?_
  first | refine wpAny_bind (wpAny_pure ?_) | skip
  refine wpAny_bind (wpAny_sequenceKey ht.typeIs (by decide) ?_)
  refine wpAny_bind (wpAny_callSpecial?_slot (name := Str.ofString "__getitem__") ht.typeIs slot_tuple_getitem (wpAny_call_entry slot_tuple_getitem ht.typeIs entry_tuple_getitem ?_ (args_tuple_getitem _ _)))
  show wpAny _ _ (Builtin.Tuple.tupleItemsOf (.ref t) >>= _) _ _ s
  refine wpAny_bind (tupleItemsOf_ ht (wpAny_bind (wpAny_typeOf isSl ?_)))
  rw [if_pos (by decide)]
  refine wpAny_bind (applied_back hs ?_)
  show wpAny _ _ (if (((items.size : Int) - 1) == 0 && (-1 : Int) == 1 && items.size == items.size) = true then _ else _) _ _ s
  rw [if_neg (by simp), pick_back]
  first
    | exact wpAny_bind (m := Builtin.Tuple.tupleExact _) (wpAny_newObj_type (wpAny_pure ⟨_, rfl, wpAny_pure h⟩) htake)
    | exact wpAny_bind (wpAny_bind (m := Builtin.Tuple.tupleExact _) (wpAny_newObj_type (wpAny_pure (wpAny_pure ⟨_, rfl, wpAny_pure h⟩)) htake))
    | exact wpAny_bind (wpAny_bind (m := Builtin.Tuple.tupleExact _) (wpAny_newObj_type (wpAny_pure ⟨_, rfl, wpAny_pure h⟩) htake))
    | exact wpAny_bind (m := Builtin.Tuple.tupleExact _) (wpAny_newObj_type (wpAny_bind (wpAny_pure (wpAny_pure ⟨_, rfl, wpAny_pure h⟩))) htake)
end
/-! ### t[::-1] -/
def tRevT (K : PySem.W.Frag) (te : TE) : TE := fun σ H Q => te σ H fun x H1 => ∃ a xs, x = .ref a ∧ SqT K H1 a xs ∧ ∀ p, H1 p = none → Q (.ref p) (upd H1 p (.tup xs.reverse))
section
variable {X : Cx}
theorem pe_revT {e : Expr} {te : TE} {k : Nat} {p1 p2 p3 pos : Pos} (he : PE X e te) : PE X (.Subscript e (.Slice none none (some (.UnaryOp .USub (.Constant (.int 1) k p1) p2)) p3) pos) (tRevT X.K te) := by
  refine ⟨fun pins s σ H Q I h => ?_⟩
  refine Subscript_ (thn (he.run pins s σ H _ I h) fun v s1 ⟨x, H1, I1, r1, q1⟩ => ?_)
  obtain ⟨a, xs, ex, hx, q⟩ := q1
  subst ex
  cases r1
  have hst : PO X (some (.UnaryOp .USub (.Constant (.int 1) k p1) p2)) (tPart (tUn (rU fun i => .int (-i)) (tC (.int 1)))) := po_some (pe_un un_neg pe_int)
  refine wpAny_Slice (thn (po_none.run pins s1 σ H1 (fun o H2 => o = none ∧ H2 = H1) I1 ⟨rfl, rfl⟩) fun vl s2 ⟨l, H2, I2, pl, el, e2⟩ => ?_)
  subst el e2
  refine thn (po_none.run pins s2 σ H2 (fun o H3 => o = none ∧ H3 = H2) I2 ⟨rfl, rfl⟩) fun vu s3 ⟨u, H3, I3, pu, eu, e3⟩ => ?_
  subst eu e3
  refine thn (hst.run pins s3 σ H3 (fun o H4 => o = some (-1) ∧ H4 = H3) I3 ⟨1, rfl, -1, rfl, rfl, rfl⟩) fun vs s4 ⟨o, H4, I4, ps, eo, e4⟩ => ?_
  subst eo e4
  cases pl
  cases pu
  generalize hv : (-1 : Int) = mi at ps
  cases ps with
  | int i tk =>
    subst hv
    have I5 : Inv X pins σ H4 { s4 with heap := s4.heap.push { cls := .type "slice", data := .fields #[.none, .none, .int (-1) tk] } } := I4.kept (t' := s4.toks) fun b ob q => Heap.get?_push_of_some _ q
    obtain ⟨its, r, ht, hz⟩ := I5.tuple hx
    have hlen := r.length
    show wpAny (model X.prog X.w) X.A (subscriptTail e (.Slice none none (some (.UnaryOp .USub (.Constant (.int 1) k p1) p2)) p3) (.ref a) (.ref s4.heap.objs.size)) (EP X pins σ Q) X.xe { s4 with heap := s4.heap.push { cls := .type "slice", data := .fields #[.none, .none, .int (-1) tk] } }
    refine tail_any (ops := [.ref a, .ref s4.heap.objs.size]) ht.typeIs (PyProof.Rows.slot_tuple_getitem.lookup) ?_ (by with_unfolding_all rfl)
    refine getItem_tuple_back ht (Heap.IsSliceOf.new _ .none .none (.int (-1) tk)) ?_ (by rw [List.size_toArray]; omega)
    refine ⟨.ref _, _, I5.laid (t' := s4.toks) (o := .tup xs.reverse) (fun b ob q => Heap.get?_push_of_some _ q) (Nat.le_refl _) ?_, rfl, q _ (I5.hok.fresh (Nat.le_refl _))⟩
    exact ⟨by rw [List.length_reverse]; exact hz, _, r.reverse, IsTup.new _ _⟩
/-! ### xs.extend(t), t a tuple -/
theorem ext_tup (l : Addr) (items : Array Value) (n : Nat) (b : Addr) (items2 : Array Value) (n2 : Nat) (dd : Option Addr) (sl : Array (Option Value)) (hs0 : ¬(!items.isEmpty && Builtin.List.listTooLong (items.size + items2.size)) = true) (hs1 : items.size ≤ sizeLine) (hs2 : items.size + items2.size ≤ sizeLine + 1) :
    Meets (Builtin.«list.extend» ⟨[.ref l, .ref b], []⟩) (fun _ R s => s.heap.get? l = some { cls := .type "list", dict := none, data := .seq items n, slots := #[] } ∧ s.heap.get? b = some { cls := .type "tuple", dict := dd, data := .seq items2 n2, slots := sl } ∧
      R (.ok (.ret Value.none)) { s with heap := s.heap.update l (Obj.mapSeq fun x => x ++ items2), toks := s.toks }) :=
  .of_wp fun prog w A R s h => by
    obtain ⟨hp, g, d, tk, os⟩ := s
    obtain ⟨hl, hb, h⟩ := h
    have f1 := AutoSeq1.idx_int; have f2 := AutoSeq1.sub_tuple_tuple; have f3 := AutoSeq1.sub_list_list; have f4 := AutoSeq1.sub_tuple_list; have f5 := AutoSeq1.sub_list_tuple
    have hz' : (items ++ items2).size ≤ sizeLine + 1 := by rw [Array.size_append]; omega
    wp_walk using (wpAny_updateSeq hl rfl (hz := hs1) (_hz' := hz')), wpAny_loadPart' hl, wpAny_loadPart' hb
    exact ⟨_, rfl, h⟩
def rExtT (K : PySem.W.Frag) : V → List V → Hp → VK → Prop := fun x vs H Q => ∃ l b xs zs, x = .ref l ∧ vs = [.ref b] ∧ H l = some (.lst xs) ∧ SqT K H b zs ∧ xs.length + zs.length ≤ sizeLine ∧ Q .non (upd H l (.lst (xs ++ zs)))
theorem mt_extendT : MtR X "list.extend" (rExtT X.K) := by
  intro pins s σ H x vs v us Q I rx rv h
  obtain ⟨l, b, xs, zs, rfl, rfl, hH, hB, hz, q⟩ := h
  cases rx
  obtain ⟨u, rfl, ru⟩ := rv.one
  cases ru
  obtain ⟨z, its, n, r, hl, e⟩ := I.lstM hH
  obtain ⟨its2, r2, ht2, hl2⟩ := I.tuple hB
  obtain ⟨⟨cls2, dd2, data2, sl2⟩, e2, hc2, n2, hd2⟩ := id ht2
  simp only at hc2 hd2
  subst hc2 hd2
  have hsz : its.toArray.size + its2.toArray.size ≤ sizeLine := by rw [List.size_toArray, List.size_toArray, ← r.length, ← r2.length]; exact hz
  have hlong : ¬ (!its.toArray.isEmpty && Builtin.List.listTooLong (its.toArray.size + its2.toArray.size)) = true := by
    rw [notLongL hsz, Bool.and_false]
    exact Bool.false_ne_true
  refine call_meets PySem.F.slot_list_extend ⟨_, e, rfl⟩ PySem.F.entry_list_extend (PySem.F.args_list_extend_2 _ _) (ext_tup l its.toArray n b its2.toArray n2 dd2 sl2 hlong (by omega) (by omega)) ⟨e, e2, ?_⟩
  refine ⟨.non, _, I.lset (its' := its ++ its2) hH e (by simp) (r.append r2) ?_, rfl, q⟩
  rw [List.length_append]
  exact hz
/-! ### a constant of the module -/
theorem pe_globI {x : Str} {i : Int} {pos : Pos} (hg : Gl X x) (hm : ∃ t, X.mg x = some (.int i t)) (hd : (x == ("__debug__" : Str)) = false := by decide) : PE X (.Name x pos) (tC (.int i)) := by
  obtain ⟨t, e⟩ := hm
  exact pe_glob hg e ⟨t, rfl⟩ hd
/-- a class of the module as a value -/
theorem pe_globC {x : Str} {C : Addr} {pos : Pos} (hg : Gl X x) (hm : X.mg x = some (.ref C)) (hd : (x == ("__debug__" : Str)) = false := by decide) : PE X (.Name x pos) (tC (.ref C)) := pe_glob hg hm rfl hd
/-- t + u, also of empty ones -/
def rCatA (K : PySem.W.Frag) : R2 := fun x y H Q => ∃ a b xs ys, x = .ref a ∧ y = .ref b ∧ SqT K H a xs ∧ SqT K H b ys ∧ xs.length + ys.length ≤ sizeLine ∧
  (xs = [] → Q (.ref b) H) ∧ (xs ≠ [] → ys = [] → Q (.ref a) H) ∧ (xs ≠ [] → ys ≠ [] → ∀ p, H p = none → Q (.ref p) (upd H p (.tup (xs ++ ys))))
theorem op_catA : OpR X (binaryOp .Add) (rCatA X.K) := by
  intro pins s σ H x y v u Q I rx ry h
  obtain ⟨a, b, xs, ys, rfl, rfl, ha, hb, hz, q0, q1, q2⟩ := h
  by_cases hx : xs = []
  · subst hx
    cases rx
    cases ry
    obtain ⟨its, r1, p1, _⟩ := I.tuple ha
    obtain ⟨its2, r2, p2, _⟩ := I.tuple hb
    cases r1
    obtain ⟨⟨cls, dd, data, sl⟩, ho, hc, n, hd⟩ := id p1
    obtain ⟨⟨cls2, dd2, data2, sl2⟩, ho2, hc2, n2, hd2⟩ := id p2
    simp only at hc hd hc2 hd2
    subst hc hd hc2 hd2
    exact concat_meets ⟨_, ho, rfl⟩ ⟨_, ho2, rfl⟩ noFill_tuple_add seq_tuple_add PySem.F.slot_tuple_add PySem.F.entry_tuple_add (PySem.F.args_tuple_add_2 _ _)
      (tuple_addW0 a b #[] its2.toArray n n2 dd dd2 sl sl2 (by rfl)) ⟨ho, ho2, ⟨.ref b, H, I, rfl, q0 rfl⟩⟩
  · exact op_catT pins s σ H _ _ v u Q I rx ry ⟨a, b, xs, ys, rfl, rfl, ha, hb, hx, hz, q1 hx, q2 hx⟩
/-- what does not name the part around it: for a comprehension's block -/
theorem op_catTK {K : PySem.W.Frag} (e : X.K = K) : OpR X (binaryOp .Add) (rCatT K) := e ▸ op_catT
theorem pg_tupK {K : PySem.W.Frag} {es : List Expr} {k : Nat} {t : TGs} {n : Nat} {pos : Pos} (e : X.K = K) (hc : X.calm = true) (h : PGs X es t)
    (hn : (assignEach es X.env).length = n := by rfl) (hst : (assignEach es X.env).findIdx? (·.1) = none := by rfl) : PG X (.Tuple es k pos) (gTup K n t) := e ▸ pg_tup hc h hn hst
end
end Wv
/-! list(zip(s, t)) of two tuples of one length: the pairs are kept, so that each turn makes its own. -/
namespace Wz
open PySem
open Sem (wp)
open PySem.W (kdx_alive)
section
variable {prog : Program} {w : World} {A : Around} {E : Value → Shared → Prop} {s : Shared}
theorem held_item {z TI TO T i1 i2 l1 l2 : Addr} {f : Bool} {oT : Obj} {k1 k2 : Nat} {xs ys : Array Value} {x y : Value} {Q : Value → Shared → Prop} (D : ZipApart z TI TO i1 i2 l1 l2)
    (zh : IsZipHeld s.heap z TI TO T f) (hT : s.heap.get? T = some oT) (hTI : IsPair s.heap TI (.ref i1) (.ref i2)) (t1 : s.heap.IsTupleIter i1 l1 k1) (t2 : s.heap.IsTupleIter i2 l2 k2) (u1 : s.heap.IsTuple l1 xs) (u2 : s.heap.IsTuple l2 ys)
    (hx : xs[k1]? = some x) (hy : ys[k2]? = some y)
    (go : ∀ h', IsZipHeld h' z TI TO T true → h'.IsTupleIter i1 l1 (k1 + 1) → h'.IsTupleIter i2 l2 (k2 + 1) → IsPair h' s.heap.objs.size x y → h'.objs.size = s.heap.objs.size + 1 → (∀ c o, c ≠ z → c ≠ i1 → c ≠ i2 → s.heap.get? c = some o → h'.get? c = some o) →
      Q (.ref s.heap.objs.size) { s with heap := h' }) : wpAny (model prog w) A (Builtin.«zip.__next__» ⟨[.ref z], []⟩) (fun fin s' => ∃ v, fin = .done (.ret v) ∧ Q v s') E s := by
  show wpAny _ _ (field (.ref z) 2 >>= _) _ _ _
  refine wpAny_bind (wpAny_field zh rfl (x := .bool false) rfl ?_); show wpAny _ _ (field (.ref z) 3 >>= _) _ _ _
  refine wpAny_bind (wpAny_field zh rfl (x := .ref TI) rfl (wpAny_bind (wpAny_seqItems hTI rfl ?_)))
  show wpAny _ _ (Builtin.SmallTypes.ownedTupleIsFree (.ref z) >>= _) _ _ _
  refine wpAny_bind (wpAny_tupleHeld_zip zh hT fun ha za sa => ?_)
  simp only [Bool.false_eq_true, if_false]
  refine wpAny_bind ?_
  rw [← Array.forIn_toList]; simp only [List.forIn_cons, List.forIn_nil]
  refine wpAny_bind (wpAny_bind (wpAny_holding ?_)); show wpAny _ _ (Builtin.SmallTypes.nextOf (.ref i1) >>= _) _ _ _
  refine wpAny_bind (RZ.nextOf_tuple_item (s := { s with heap := ha }) (t1.extBut sa.extBut D.i1z) (u1.extBut sa.extBut D.l1z) hx fun hb tb sb => wpAny_pure (wpAny_pure ?_))
  refine wpAny_bind (wpAny_bind (wpAny_holding ?_)); show wpAny _ _ (Builtin.SmallTypes.nextOf (.ref i2) >>= _) _ _ _
  refine wpAny_bind (RZ.nextOf_tuple_item (s := { s with heap := hb }) ((t2.extBut sa.extBut D.i2z).extBut sb.extBut D.i12.symm) ((u2.extBut sa.extBut D.l2z).extBut sb.extBut D.l2i1) hy fun hc tc sc => wpAny_pure (wpAny_pure (wpAny_pure ?_)))
  show wpAny _ _ (newTuple [x, y] >>= _) _ _ _
  refine wpAny_bind (wpAny_newTuple ?_)
  have ez : hc.objs.size = s.heap.objs.size := by rw [sc.1, sb.1, sa.1]
  have zc : IsZipHeld hc z TI TO T true := sc.extBut _ _ D.i2z.symm (sb.extBut _ _ D.i1z.symm za)
  have kc : ∀ c o, c ≠ z → c ≠ i1 → c ≠ i2 → s.heap.get? c = some o → hc.get? c = some o := fun c o c1 c2 c3 e => sc.extBut _ _ c3 (sb.extBut _ _ c2 (sa.extBut _ _ c1 e))
  have td : hc.IsTupleIter i1 l1 (k1 + 1) := tb.extBut sc.extBut D.i12
  refine wpAny_pure ⟨_, rfl, ?_⟩
  show Q (.ref hc.objs.size) _
  have pn : IsPair (hc.push { cls := .type "tuple", data := .seq #[x, y] }) hc.objs.size x y := Heap.get?_push_size _ rfl
  have sn : (hc.push { cls := .type "tuple", data := .seq #[x, y] }).objs.size = hc.objs.size + 1 := Heap.size_push ..
  rw [ez] at pn sn ⊢
  exact go _ (Heap.get?_push_of_some _ zc) (td.at fun o e => Heap.get?_push_of_some _ e) (tc.at fun o e => Heap.get?_push_of_some _ e) pn sn fun c o c1 c2 c3 e => Heap.get?_push_of_some _ (kc c o c1 c2 c3 e)
theorem held_end {z TI TO T i1 i2 l1 l2 : Addr} {f : Bool} {oT : Obj} {k1 : Nat} {xs : Array Value} {Q : Fin → Shared → Prop} (hh : A.handled = none) (D : ZipApart z TI TO i1 i2 l1 l2)
    (zh : IsZipHeld s.heap z TI TO T f) (hT : s.heap.get? T = some oT) (hTI : IsPair s.heap TI (.ref i1) (.ref i2)) (t1 : s.heap.IsTupleIter i1 l1 k1) (u1 : s.heap.IsTuple l1 xs) (hx : xs[k1]? = none)
    (go : ∀ h' e, (∀ c o, c ≠ z → c ≠ i1 → c ≠ i2 → s.heap.get? c = some o → h'.get? c = some o) → (∃ o, h'.get? e = some o ∧ o.cls = .type "StopIteration") → E (.ref e) { s with heap := h' }) :
    wpAny (model prog w) A (Builtin.«zip.__next__» ⟨[.ref z], []⟩) Q E s := by
  show wpAny _ _ (field (.ref z) 2 >>= _) _ _ _
  refine wpAny_bind (wpAny_field zh rfl (x := .bool false) rfl ?_); show wpAny _ _ (field (.ref z) 3 >>= _) _ _ _
  refine wpAny_bind (wpAny_field zh rfl (x := .ref TI) rfl (wpAny_bind (wpAny_seqItems hTI rfl ?_)))
  show wpAny _ _ (Builtin.SmallTypes.ownedTupleIsFree (.ref z) >>= _) _ _ _
  refine wpAny_bind (wpAny_tupleHeld_zip zh hT fun ha za sa => ?_)
  simp only [Bool.false_eq_true, if_false]
  refine wpAny_bind ?_
  rw [← Array.forIn_toList]; simp only [List.forIn_cons, List.forIn_nil]
  refine wpAny_bind (wpAny_bind (wpAny_holding ?_)); show wpAny _ _ (Builtin.SmallTypes.nextOf (.ref i1) >>= _) _ _ _
  refine wpAny_bind (RZ.nextOf_tuple_end (s := { s with heap := ha }) hh (t1.extBut sa.extBut D.i1z) (u1.extBut sa.extBut D.l1z) hx fun hb e sb he => ?_)
  exact go hb e (fun c o c1 c2 _ x => sb _ _ c2 (sa.extBut _ _ c1 x)) he
theorem next_held {z TI TO T i1 i2 l1 l2 : Addr} {f : Bool} {oT : Obj} {k1 k2 : Nat} {xs ys : Array Value} {x y : Value} {Q : Option Value → Shared → Prop} (D : ZipApart z TI TO i1 i2 l1 l2)
    (zh : IsZipHeld s.heap z TI TO T f) (hT : s.heap.get? T = some oT) (hTI : IsPair s.heap TI (.ref i1) (.ref i2)) (t1 : s.heap.IsTupleIter i1 l1 k1) (t2 : s.heap.IsTupleIter i2 l2 k2) (u1 : s.heap.IsTuple l1 xs) (u2 : s.heap.IsTuple l2 ys)
    (hx : xs[k1]? = some x) (hy : ys[k2]? = some y)
    (go : ∀ h', IsZipHeld h' z TI TO T true → h'.IsTupleIter i1 l1 (k1 + 1) → h'.IsTupleIter i2 l2 (k2 + 1) → IsPair h' s.heap.objs.size x y → h'.objs.size = s.heap.objs.size + 1 → (∀ c o, c ≠ z → c ≠ i1 → c ≠ i2 → s.heap.get? c = some o → h'.get? c = some o) →
      Q (some (.ref s.heap.objs.size)) { s with heap := h' }) : wpAny (model prog w) A (pyNext (.ref z)) Q E s := by
  have ty : s.TypeIs (.ref z) "zip" := ⟨_, zh, rfl⟩
  unfold pyNext
  exact wpAny_bind (wpAny_attempt (wpAny_callSpecial?_slot (name := Str.ofString "__next__") ty F.slot_zip_next (wpAny_call_entry F.slot_zip_next ty F.entry_zip_next
    (held_item D zh hT hTI t1 t2 u1 u2 hx hy fun h' a1 a3 a4 a5 a6 a7 => wpAny_pure (go h' a1 a3 a4 a5 a6 a7)) (F.args_zip_next_1 _))))
theorem next_held_end {z TI TO T i1 i2 l1 l2 : Addr} {f : Bool} {oT : Obj} {k1 : Nat} {xs : Array Value} {Q : Option Value → Shared → Prop} (hh : A.handled = none) (D : ZipApart z TI TO i1 i2 l1 l2)
    (zh : IsZipHeld s.heap z TI TO T f) (hT : s.heap.get? T = some oT) (hTI : IsPair s.heap TI (.ref i1) (.ref i2)) (t1 : s.heap.IsTupleIter i1 l1 k1) (u1 : s.heap.IsTuple l1 xs) (hx : xs[k1]? = none)
    (go : ∀ h', (∀ c o, c ≠ z → c ≠ i1 → c ≠ i2 → s.heap.get? c = some o → h'.get? c = some o) → Q none { s with heap := h' }) : wpAny (model prog w) A (pyNext (.ref z)) Q E s := by
  have ty : s.TypeIs (.ref z) "zip" := ⟨_, zh, rfl⟩
  unfold pyNext
  refine wpAny_bind (wpAny_attempt (wpAny_callSpecial?_slot (name := Str.ofString "__next__") ty F.slot_zip_next (wpAny_call_entry F.slot_zip_next ty F.entry_zip_next (held_end hh D zh hT hTI t1 u1 hx fun h' e hk he => ?_) (F.args_zip_next_1 _))))
  obtain ⟨o, ho, hc⟩ := he
  exact wpAny_bind (wpAny_isInstance (T := "StopIteration") (b := true) ⟨o, ho, hc⟩ isSubtype_stop (wpAny_pure (go _ hk)))
end
/-- the five records of a zip and its tuples, the list at S behind them -/
structure Apart (z TI TO i1 i2 l1 l2 S : Addr) : Prop where
  D : ZipApart z TI TO i1 i2 l1 l2
  zS : z < S
  TIS : TI < S
  TOS : TO < S
  i1S : i1 < S
  i2S : i2 < S
  l1S : l1 < S
  l2S : l2 < S
/-- the zip ahead of turn i -/
structure St (h : Heap) (z TI TO i1 i2 l1 l2 S : Addr) (xs ys : Array Value) (i : Nat) : Prop where
  ti : IsPair h TI (.ref i1) (.ref i2)
  t1 : h.IsTupleIter i1 l1 i
  t2 : h.IsTupleIter i2 l2 i
  u1 : h.IsTuple l1 xs
  u2 : h.IsTuple l2 ys
  own : (IsZip h z TI TO .none ∧ ∃ a b, IsPair h TO a b) ∨ ∃ T f oT, IsZipHeld h z TI TO T f ∧ h.get? T = some oT ∧ S < T
theorem St.keep {h h' : Heap} {z TI TO i1 i2 l1 l2 S : Addr} {xs ys : Array Value} {i : Nat} (A : Apart z TI TO i1 i2 l1 l2 S) (st : St h z TI TO i1 i2 l1 l2 S xs ys i) (k : ∀ b o, b ≠ S → h.get? b = some o → h'.get? b = some o) : St h' z TI TO i1 i2 l1 l2 S xs ys i where
  ti := k _ _ (Nat.ne_of_lt A.TIS) st.ti
  t1 := st.t1.at fun o e => k _ o (Nat.ne_of_lt A.i1S) e
  t2 := st.t2.at fun o e => k _ o (Nat.ne_of_lt A.i2S) e
  u1 := let ⟨o, e, r⟩ := st.u1; ⟨o, k _ _ (Nat.ne_of_lt A.l1S) e, r⟩
  u2 := let ⟨o, e, r⟩ := st.u2; ⟨o, k _ _ (Nat.ne_of_lt A.l2S) e, r⟩
  own := by
    rcases st.own with ⟨h1, a, b, h2⟩ | ⟨T, f, oT, h1, h2, h3⟩
    · exact .inl ⟨k _ _ (Nat.ne_of_lt A.zS) h1, a, b, k _ _ (Nat.ne_of_lt A.TOS) h2⟩
    · exact .inr ⟨T, f, oT, k _ _ (Nat.ne_of_lt A.zS) h1, k _ _ (Nat.ne_of_gt h3) h2, h3⟩
section
variable {prog : Program} {w : World} {A : Around} {E : Value → Shared → Prop} {s : Shared}
theorem far_ne {c m S i1 : Nat} (h : c < i1 ∨ S ≤ c) (a : i1 ≤ m) (b : m < S) : c ≠ m := by omega
theorem low_ne {c S i1 : Nat} (h : c < i1) (b : i1 < S) : c ≠ S := by omega
theorem turn_item {z TI TO i1 i2 l1 l2 S : Addr} {i : Nat} {xs ys : Array Value} {x y : Value} {Q : Option Value → Shared → Prop} (B : Apart z TI TO i1 i2 l1 l2 S) (hS : S < s.heap.objs.size) (st : St s.heap z TI TO i1 i2 l1 l2 S xs ys i) (hx : xs[i]? = some x) (hy : ys[i]? = some y)
    (go : ∀ h', St h' z TI TO i1 i2 l1 l2 S xs ys (i + 1) → IsPair h' s.heap.objs.size x y → h'.objs.size = s.heap.objs.size + 1 → (∀ c o, (c < i1 ∨ S ≤ c) → s.heap.get? c = some o → h'.get? c = some o) → Q (some (.ref s.heap.objs.size)) { s with heap := h' })
    (low : i1 ≤ i2 ∧ i1 ≤ TI ∧ i1 ≤ TO ∧ i1 ≤ z ∧ l1 < i1 ∧ l2 < i1) : wpAny (model prog w) A (pyNext (.ref z)) Q E s := by
  obtain ⟨b1, b2, b3, b4, b5, b6⟩ := low
  have D := B.D
  have zS := B.zS; have TOS := B.TOS; have i1S := B.i1S; have i2S := B.i2S; have TIS := B.TIS
  rcases st.own with ⟨h1, a, b, h2⟩ | ⟨T, f, oT, h1, h2, h3⟩
  · refine RZ.pyNext_zipT_item D h1 st.ti h2 st.t1 st.t2 st.u1 st.u2 hx hy fun h' z' TO' t1' t2' pn sz k => ?_
    refine go h' ⟨k _ _ D.TIz D.TITO D.TIi1 D.TIi2 st.ti, t1', t2', ?_, ?_, .inr ⟨_, false, _, z', pn, hS⟩⟩ pn sz fun c o hc e => k c o (far_ne hc b4 zS) (far_ne hc b3 TOS) (far_ne hc (Nat.le_refl _) i1S) (far_ne hc b1 i2S) e
    · obtain ⟨o, e, r⟩ := st.u1; exact ⟨o, k _ _ D.l1z D.l1TO D.l1i1 D.l1i2 e, r⟩
    · obtain ⟨o, e, r⟩ := st.u2; exact ⟨o, k _ _ D.l2z D.l2TO D.l2i1 D.l2i2 e, r⟩
  · refine next_held D h1 h2 st.ti st.t1 st.t2 st.u1 st.u2 hx hy fun h' z' t1' t2' pn sz k => ?_
    refine go h' ⟨k _ _ D.TIz D.TIi1 D.TIi2 st.ti, t1', t2', ?_, ?_, .inr ⟨T, true, oT, z', k _ _ (Nat.ne_of_gt (Nat.lt_trans zS h3)) (Nat.ne_of_gt (Nat.lt_trans i1S h3)) (Nat.ne_of_gt (Nat.lt_trans i2S h3)) h2, h3⟩⟩ pn sz fun c o hc e => k c o (far_ne hc b4 zS) (far_ne hc (Nat.le_refl _) i1S) (far_ne hc b1 i2S) e
    · obtain ⟨o, e, r⟩ := st.u1; exact ⟨o, k _ _ D.l1z D.l1i1 D.l1i2 e, r⟩
    · obtain ⟨o, e, r⟩ := st.u2; exact ⟨o, k _ _ D.l2z D.l2i1 D.l2i2 e, r⟩
theorem turn_end {z TI TO i1 i2 l1 l2 S : Addr} {i : Nat} {xs ys : Array Value} {Q : Option Value → Shared → Prop} (hh : A.handled = none) (B : Apart z TI TO i1 i2 l1 l2 S) (st : St s.heap z TI TO i1 i2 l1 l2 S xs ys i) (hx : xs[i]? = none)
    (go : ∀ h', (∀ c o, (c < i1 ∨ S ≤ c) → s.heap.get? c = some o → h'.get? c = some o) → Q none { s with heap := h' })
    (low : i1 ≤ i2 ∧ i1 ≤ TI ∧ i1 ≤ TO ∧ i1 ≤ z ∧ l1 < i1 ∧ l2 < i1) : wpAny (model prog w) A (pyNext (.ref z)) Q E s := by
  obtain ⟨b1, b2, b3, b4, b5, b6⟩ := low
  have D := B.D
  have zS := B.zS; have TOS := B.TOS; have i1S := B.i1S; have i2S := B.i2S; have TIS := B.TIS
  rcases st.own with ⟨h1, a, b, h2⟩ | ⟨T, f, oT, h1, h2, h3⟩
  · refine RZ.pyNext_zipT_end hh D h1 st.ti h2 st.t1 st.t2 st.u1 st.u2 (.inl hx) fun h' k => go h' fun c o hc e => k c o (far_ne hc b4 zS) (far_ne hc b3 TOS) (far_ne hc (Nat.le_refl _) i1S) (far_ne hc b1 i2S) e
  · refine next_held_end hh D h1 h2 st.ti st.t1 st.u1 hx fun h' k => go h' fun c o hc e => k c o (far_ne hc b4 zS) (far_ne hc (Nat.le_refl _) i1S) (far_ne hc b1 i2S) e
end
/-- the pairs made so far -/
structure Gv (xs ys : Array Value) (lo : Addr) (h : Heap) (as : List Addr) : Prop where
  rise : as.Pairwise (· < ·)
  above : ∀ a ∈ as, lo < a
  pairs : ∀ (j : Nat) (a : Addr), as[j]? = some a → ∃ x y, xs[j]? = some x ∧ ys[j]? = some y ∧ IsPair h a x y
theorem Gv.there {xs ys : Array Value} {lo : Addr} {h : Heap} {as : List Addr} (g : Gv xs ys lo h as) {a : Addr} (ha : a ∈ as) : a < h.objs.size := by
  obtain ⟨j, hj⟩ := List.mem_iff_getElem?.mp ha
  obtain ⟨_, _, _, _, e⟩ := g.pairs j a hj
  exact Heap.lt_size e
theorem Gv.keep {xs ys : Array Value} {lo : Addr} {h h' : Heap} {as : List Addr} (g : Gv xs ys lo h as) (k : ∀ b o, lo < b → h.get? b = some o → h'.get? b = some o) : Gv xs ys lo h' as := ⟨g.rise, g.above, fun j a hj => by
  obtain ⟨x, y, e1, e2, e3⟩ := g.pairs j a hj
  exact ⟨x, y, e1, e2, k a _ (g.above a (List.mem_of_getElem? hj)) e3⟩⟩
section
variable {prog : Program} {w : World} {A : Around} {s : Shared} {R : Result → Shared → Prop}
theorem z_loop {z TI TO i1 i2 l1 l2 S : Addr} {xs ys : Array Value} (hh : A.handled = none) (B : Apart z TI TO i1 i2 l1 l2 S) (low : i1 ≤ i2 ∧ i1 ≤ TI ∧ i1 ≤ TO ∧ i1 ≤ z ∧ l1 < i1 ∧ l2 < i1) (hl : xs.size = ys.size) (hn : xs.size ≤ sizeLine) (res : Value) {h0 : Heap}
    (go : ∀ h' tk acc c as, (∀ b o, b < i1 → h0.get? b = some o → h'.get? b = some o) → h'.get? S = some { cls := .type "list", dict := none, data := .seq acc c, slots := #[] } → as.length = xs.size → Gv xs ys S h' as → acc.toList = as.map Value.ref → R (.ok (.ret res)) { s with heap := h', toks := tk }) :
    ∀ (k i : Nat) (h : Heap) (tk c : Nat) (acc : Array Value) (as : List Addr), xs.size - i = k → i ≤ xs.size → St h z TI TO i1 i2 l1 l2 S xs ys i → (∀ b o, b < i1 → h0.get? b = some o → h.get? b = some o) →
      h.get? S = some { cls := .type "list", dict := none, data := .seq acc c, slots := #[] } → acc.toList = as.map Value.ref → as.length = i → Gv xs ys S h as →
      codeAny (model prog w) A (.builtin "list.extend.loop" ⟨[.ref S, .ref z, res], []⟩) R { s with heap := h, toks := tk } := by
  have i1S := B.i1S
  intro k
  induction k with
  | zero =>
    intro i h tk c acc as hk hi st keep hS hacc hal hG
    refine codeAny_builtin PySem.F.entry_extend_loop ?_
    rw [Around.under_plainId PySem.F.plain_extend_loop _]; show wpAny _ A.in1 (pyNext (.ref z) >>= _) _ _ _
    refine wpAny_bind (turn_end (s := { s with heap := h, toks := tk }) (A := A.in1) hh B st (Array.getElem?_eq_none (by omega)) (fun h' he => ?_) low)
    exact wpAny_pure (go h' tk acc c as (fun b o hb e => he b o (.inl hb) (keep b o hb e)) (he S _ (.inr (Nat.le_refl _)) hS) (by omega) (hG.keep fun b o hb e => he b o (.inr (Nat.le_of_lt hb)) e) hacc)
  | succ k ih =>
    intro i h tk c acc as hk hi st keep hS hacc hal hG
    have hlt : i < xs.size := by omega
    have hx : xs[i]? = some xs[i] := Array.getElem?_eq_getElem hlt
    have hy : ys[i]? = some (ys[i]'(by omega)) := Array.getElem?_eq_getElem (by omega)
    have hsz : acc.size = i := by rw [← Array.length_toList, hacc, List.length_map, hal]
    have hSl : S < h.objs.size := Heap.lt_size hS
    refine codeAny_builtin PySem.F.entry_extend_loop ?_
    rw [Around.under_plainId PySem.F.plain_extend_loop _]; show wpAny _ A.in1 (pyNext (.ref z) >>= _) _ _ _
    refine wpAny_bind (turn_item (s := { s with heap := h, toks := tk }) B hSl st hx hy (fun h' st' pn sz kp => ?_) low)
    dsimp only at pn sz kp ⊢
    have hS' := kp S _ (.inr (Nat.le_refl _)) hS
    have up : ∀ b o, b ≠ S → h'.get? b = some o → (h'.update S (Obj.mapSeq (·.push (Value.ref h.objs.size)))).get? b = some o := fun b o hb e => (Heap.get?_update_other _ _ (Ne.symm hb)).trans e
    show wpAny _ A.in1 (updateSeq S (·.push (Value.ref h.objs.size)) >>= _) _ _ _
    refine wpAny_bind (wpAny_updateSeq hS' rfl (wpAny_pure ⟨plainId_quiet PySem.F.plain_extend_loop _, ih (i + 1) _ tk _ (acc.push (Value.ref h.objs.size)) (as ++ [h.objs.size]) (by omega) hlt (st'.keep B up) (fun b o hb e => up b o (low_ne hb i1S) (kp b o (.inl hb) (keep b o hb e)))
      (Heap.get?_update_self _ hS' rfl) (by rw [Array.toList_push, hacc, List.map_append]; rfl) (by rw [List.length_append, hal]; rfl) ⟨?_, ?_, ?_⟩⟩) (by rw [hsz]; omega) (by show (acc.push (Value.ref h.objs.size)).size ≤ sizeLine + 1; rw [Array.size_push, hsz]; omega))
    · refine List.pairwise_append.mpr ⟨hG.rise, List.pairwise_singleton _ _, fun a ha b hb => ?_⟩
      rw [List.mem_singleton.mp hb]; exact hG.there ha
    · intro a ha
      rcases List.mem_append.mp ha with ha | ha
      · exact hG.above a ha
      · rw [List.mem_singleton.mp ha]; exact hSl
    · intro j b hj
      rcases Nat.lt_trichotomy j as.length with q | q | q
      · rw [List.getElem?_append_left q] at hj
        obtain ⟨x', y', e1, e2, e3⟩ := hG.pairs j b hj
        have hb := hG.above b (List.mem_of_getElem? hj)
        exact ⟨x', y', e1, e2, up b _ (Nat.ne_of_gt hb) (kp b _ (.inr (Nat.le_of_lt hb)) e3)⟩
      · subst q
        have hb : h.objs.size = b := by simpa using hj
        subst hb
        exact ⟨_, _, by rw [hal]; exact hx, by rw [hal]; exact hy, up _ _ (Nat.ne_of_gt hSl) pn⟩
      · have no : (as ++ [h.objs.size])[j]? = none := List.getElem?_eq_none (by rw [List.length_append, List.length_singleton]; omega)
        rw [no] at hj; cases hj
end
theorem zip_no_len : typeLookup (.type "zip") "__len__" = pure none := by rw [typeLookup_type, builtinLookup_eq_fast]; kernel_rfl
theorem zip_no_hint : typeLookup (.type "zip") "__length_hint__" = pure none := by rw [typeLookup_type, builtinLookup_eq_fast]; kernel_rfl
section
variable {prog : Program} {w : World} {A : Around} {E : Value → Shared → Prop} {s : Shared}
theorem z_extend {z TI TO i1 i2 l1 l2 S : Addr} {xs ys : Array Value} {c₀ : Nat} {R : Result → Shared → Prop} (hh : A.handled = none) (B : Apart z TI TO i1 i2 l1 l2 S) (low : i1 ≤ i2 ∧ i1 ≤ TI ∧ i1 ≤ TO ∧ i1 ≤ z ∧ l1 < i1 ∧ l2 < i1) (hl : xs.size = ys.size) (hn : xs.size ≤ sizeLine) (res : Value)
    (st : St s.heap z TI TO i1 i2 l1 l2 S xs ys 0) (hz : IsZip s.heap z TI TO .none) (hS : s.heap.get? S = some { cls := .type "list", data := .seq #[] c₀ })
    (go : ∀ h' tk acc c as, (∀ b o, b < i1 → s.heap.get? b = some o → h'.get? b = some o) → h'.get? S = some { cls := .type "list", dict := none, data := .seq acc c, slots := #[] } → as.length = xs.size → Gv xs ys S h' as → acc.toList = as.map Value.ref → R (.ok (.ret res)) { s with heap := h', toks := tk }) :
    wpAny (model prog w) A.in1 (Builtin.List.listExtendWith (.ref S) (.ref z) res)
      (fun fin s' => match fin with | .done f => R (.ok f) s' | .again c' => c'.quiet = true ∧ codeAny (model prog w) A c' R s') (fun e s' => R (.error e) s') s := by
  have i1S := B.i1S
  have ty : s.TypeIs (.ref z) "zip" := ⟨_, hz, rfl⟩
  have key : ∀ (h : Heap) (c₁ tk : Nat), (∀ b o, b ≠ S → s.heap.get? b = some o → h.get? b = some o) → h.get? S = some { cls := .type "list", data := .seq #[] c₁ } →
      codeAny (model prog w) A (.builtin "list.extend.loop" ⟨[.ref S, .ref z, res], []⟩) R { s with heap := h, toks := tk } := fun h c₁ tk hk hS₁ =>
    z_loop (s := s) (h0 := s.heap) hh B low hl hn res go xs.size 0 h tk c₁ #[] [] (Nat.sub_zero _) (Nat.zero_le _) (st.keep B hk) (fun b o hb e => hk b o (low_ne hb i1S) e) hS₁ rfl rfl ⟨List.Pairwise.nil, (fun _ ha => nomatch ha), (fun j a hj => by simp at hj)⟩
  unfold Builtin.List.listExtendWith
  refine wpAny_bind (wpAny_typeOf (T := "zip") ty ?_)
  have e1 : Builtin.List.listSameRef (.ref S) (.ref z) = false := by simp [Builtin.List.listSameRef, Nat.ne_of_gt B.zS]
  have e2 : (Value.type "zip" == Value.type "list") = false := by decide
  have e3 : (Value.type "zip" == Value.type "tuple") = false := by decide
  simp only [e1, e2, e3, Bool.or_false, Bool.false_eq_true, if_false]
  refine wpAny_bind (wpAny_pyIter_zip hz (wpAny_bind (wpAny_holding ?_)))
  unfold Builtin.List.listLengthHint
  refine wpAny_bind (wpAny_specialOf ty zip_no_len ?_)
  show wpAny _ A.in1 (specialOf (Value.ref z) (Str.ofString "__length_hint__") >>= _) _ _ _
  refine wpAny_bind (wpAny_specialOf ty zip_no_hint (wpAny_pure ?_))
  show wpAny _ A.in1 (rule "list.extend.makes-room" >>= fun _ => Builtin.List.listTouch (.ref S) >>= fun _ => again (.builtin "list.extend.loop" ⟨[.ref S, .ref z, res], []⟩)) _ _ _
  refine wpAny_bind (wpAny_rule (wpAny_bind ?_))
  show wpAny _ A.in1 (updateSeq S (·.push .none) >>= fun _ => updateSeq S (·.pop)) _ _ _
  refine wpAny_bind (wpAny_updateSeq hS rfl ?_)
  have g1 := Heap.get?_update_self (Obj.mapSeq (·.push Value.none)) hS rfl
  refine wpAny_updateSeq (hz := by seq_fits) g1 rfl ?_
  have g2 := Heap.get?_update_self (Obj.mapSeq (·.pop)) g1 rfl
  refine wpAny_pure ⟨plainId_quiet PySem.F.plain_extend_loop _, key _ _ _ (fun b o hb e => ?_) g2⟩
  exact (Heap.get?_update_other _ _ (Ne.symm hb)).trans ((Heap.get?_update_other _ _ (Ne.symm hb)).trans e)
theorem z_init {z TI TO i1 i2 l1 l2 S : Addr} {xs ys : Array Value} {R : Result → Shared → Prop} (hh : A.handled = none) (B : Apart z TI TO i1 i2 l1 l2 S) (low : i1 ≤ i2 ∧ i1 ≤ TI ∧ i1 ≤ TO ∧ i1 ≤ z ∧ l1 < i1 ∧ l2 < i1) (hl : xs.size = ys.size) (hn : xs.size ≤ sizeLine)
    (st : St s.heap z TI TO i1 i2 l1 l2 S xs ys 0) (hz : IsZip s.heap z TI TO .none) (hS : s.heap.get? S = some { cls := .type "list", data := .seq #[] })
    (go : ∀ h' tk acc c as, (∀ b o, b < i1 → s.heap.get? b = some o → h'.get? b = some o) → h'.get? S = some { cls := .type "list", dict := none, data := .seq acc c, slots := #[] } → as.length = xs.size → Gv xs ys S h' as → acc.toList = as.map Value.ref → R (.ok (.ret .none)) { s with heap := h', toks := tk }) :
    wpAny (model prog w) A.in1 (Builtin.«list.__init__» ⟨[.ref S, .ref z], []⟩)
      (fun fin s' => match fin with | .done f => R (.ok f) s' | .again c' => c'.quiet = true ∧ codeAny (model prog w) A c' R s') (fun e s' => R (.error e) s') s := by
  show wpAny _ _ (do let old ← Builtin.List.listItems (.ref S); Builtin.List.listUpdate (.ref S) (fun _ => #[]); letGo old.toList.reverse; Builtin.List.listExtendWith (.ref S) (.ref z) .none) _ _ s
  refine wpAny_bind ?_
  unfold Builtin.List.listItems
  refine wpAny_bind (wpAny_seqItems hS rfl (wpAny_pure ?_))
  show wpAny _ _ (updateSeq S (fun _ => #[]) >>= fun _ => letGo (#[] : Array Value).toList.reverse >>= fun _ => Builtin.List.listExtendWith (.ref S) (.ref z) .none) _ _ s
  refine wpAny_bind (wpAny_updateSeq hS rfl ?_)
  have g2 := Heap.get?_update_self (Obj.mapSeq (fun _ => (#[] : Array Value))) hS rfl
  have oth : ∀ b o, b ≠ S → s.heap.get? b = some o → (s.heap.update S (Obj.mapSeq (fun _ => (#[] : Array Value)))).get? b = some o := fun b o hb e => (Heap.get?_update_other _ _ (Ne.symm hb)).trans e
  refine wpAny_bind (wpAny_letGo ?_)
  exact z_extend hh B low hl hn .none (st.keep B oth) (oth _ _ (Nat.ne_of_lt B.zS) hz) g2 fun h' tk acc c as hk => go h' tk acc c as fun b o hb e => hk b o hb (oth b o (low_ne hb B.i1S) e)
theorem z_call {z TI TO i1 i2 l1 l2 : Addr} {xs ys : Array Value} {Q : Value → Shared → Prop} (hh : A.handled = none) (D : ZipApart z TI TO i1 i2 l1 l2) (low : i1 ≤ i2 ∧ i1 ≤ TI ∧ i1 ≤ TO ∧ i1 ≤ z ∧ l1 < i1 ∧ l2 < i1) (hl : xs.size = ys.size) (hn : xs.size ≤ sizeLine)
    (hz : IsZip s.heap z TI TO .none) (hTI : IsPair s.heap TI (.ref i1) (.ref i2)) (hTO : ∃ a b, IsPair s.heap TO a b) (t1 : s.heap.IsTupleIter i1 l1 0) (t2 : s.heap.IsTupleIter i2 l2 0) (u1 : s.heap.IsTuple l1 xs) (u2 : s.heap.IsTuple l2 ys)
    (go : ∀ h' tk acc c as, (∀ b o, b < i1 → s.heap.get? b = some o → h'.get? b = some o) → h'.get? s.heap.objs.size = some { cls := .type "list", dict := none, data := .seq acc c, slots := #[] } → as.length = xs.size → Gv xs ys s.heap.objs.size h' as → acc.toList = as.map Value.ref →
      Q (.ref s.heap.objs.size) { s with heap := h', toks := tk }) : wpAny (model prog w) A (call (.type "list") [.ref z]) Q E s := by
  refine callType_codes (Q₁ := fun obj s₁ => obj = .ref s.heap.objs.size ∧ s₁ = { s with heap := s.heap.push { cls := .type "list", data := .seq #[] } }) PySem.F.called_list (PySem.F.typeCall_list_1 _) PySem.F.entry_list_init
    (code_list_new _ ⟨rfl, rfl⟩) fun obj s₁ h₁ => ?_
  obtain ⟨rfl, rfl⟩ := h₁
  have hS : (s.heap.push { cls := .type "list", data := .seq #[] }).get? s.heap.objs.size = some { cls := .type "list", data := .seq #[] } := Heap.get?_push_size _ rfl
  have up : ∀ b o, s.heap.get? b = some o → (s.heap.push { cls := .type "list", data := .seq #[] }).get? b = some o := fun b o e => Heap.get?_push_of_some _ e
  obtain ⟨a, b, hTO⟩ := hTO
  have B : Apart z TI TO i1 i2 l1 l2 s.heap.objs.size := ⟨D, Heap.lt_size hz, Heap.lt_size hTI, Heap.lt_size hTO, (let ⟨_, e, _⟩ := t1; Heap.lt_size e), (let ⟨_, e, _⟩ := t2; Heap.lt_size e), (let ⟨_, e, _⟩ := u1; Heap.lt_size e), (let ⟨_, e, _⟩ := u2; Heap.lt_size e)⟩
  refine ⟨⟨_, hS, rfl⟩, PySem.F.args_list_init_2 _ _, z_init (A := A.in1) (xs := xs) (ys := ys) hh B low hl hn ⟨up _ _ hTI, t1.at fun o e => up _ o e, t2.at fun o e => up _ o e, (let ⟨o, e, r⟩ := u1; ⟨o, up _ _ e, r⟩), (let ⟨o, e, r⟩ := u2; ⟨o, up _ _ e, r⟩), .inl ⟨up _ _ hz, a, b, up _ _ hTO⟩⟩ (up _ _ hz) hS
    fun h' tk acc c as hk hS' hl' hG hacc => ?_⟩
  exact ⟨rfl, go h' tk acc c as (fun b o hb e => hk b o hb (up _ _ e)) hS' hl' hG hacc⟩
end
end Wz
namespace Wz
open PySem PySem.Spec PyProof.Rows L2
/-! ### the rule -/
def putP : Hp → List Addr → List (V × V) → Hp
  | H, a :: as, p :: ps => putP (upd H a (.tup [p.1, p.2])) as ps
  | H, _, _ => H
theorem putP_off {b : Addr} : ∀ (as : List Addr) (ps : List (V × V)) (H : Hp), b ∉ as → putP H as ps b = H b
  | [], _, _, _ => rfl
  | _ :: _, [], _, _ => rfl
  | a :: as, p :: ps, H, h => by
    show putP (upd H a (.tup [p.1, p.2])) as ps b = H b
    rw [putP_off as ps _ (fun q => h (List.mem_cons_of_mem _ q)), upd_ne (fun q => h (by rw [q]; exact List.mem_cons_self))]
theorem putP_at : ∀ (as : List Addr) (ps : List (V × V)) (H : Hp), as.length = ps.length → as.Nodup → ∀ (j : Nat) (a : Addr) (p : V × V), as[j]? = some a → ps[j]? = some p → putP H as ps a = some (.tup [p.1, p.2])
  | [], _, _, _, _, j, a, p, h, _ => by simp at h
  | _ :: _, [], _, _, _, j, a, p, _, h => by simp at h
  | b :: as, q :: ps, H, hl, hn, 0, a, p, h1, h2 => by
    have hn' := List.nodup_cons.mp hn
    have e1 : b = a := by simpa using h1
    have e2 : q = p := by simpa using h2
    subst e1 e2
    show putP (upd H b (.tup [q.1, q.2])) as ps b = _
    rw [putP_off as ps _ hn'.1, upd_same]
  | b :: as, q :: ps, H, hl, hn, j + 1, a, p, h1, h2 => putP_at as ps _ (Nat.succ.inj hl) (List.nodup_cons.mp hn).2 j a p (by simpa using h1) (by simpa using h2)
/-- pairs of values at addresses -/
structure PairsAt (H : Hp) (ts : List Addr) (xs ys : List V) : Prop where
  len : ts.length = xs.length
  at_ : ∀ (j : Nat) (t : Addr), ts[j]? = some t → ∃ x y, xs[j]? = some x ∧ ys[j]? = some y ∧ H t = some (.tup [x, y])
def rListZip (K : PySem.W.Frag) : List V → Hp → VK → Prop := fun vs H Q => ∃ (a b : Addr) (xs ys : List V), vs = [.ref a, .ref b] ∧ SqT K H a xs ∧ SqT K H b ys ∧ xs.length = ys.length ∧
  ∀ (H' : Hp) (p : Addr) (ts : List Addr), Same H H' → H p = none → H' p = some (.lst (ts.map V.ref)) → PairsAt H' ts xs ys → Q (.ref p) H'
def tListZip (K : PySem.W.Frag) (ta : TA) : TE := fun σ H Q => ta σ H fun vs H1 => rListZip K vs H1 Q
section
variable {X : Cx}
theorem pairs_laid {pins : List (Addr × Obj)} {σ : L2.St} {H : Hp} {s : Shared} {h' : Heap} {tk S : Nat} {xs ys : List V} {its its2 : List Value} {acc : Array Value} {c : Nat} {as : List Addr} (I : Inv X pins σ H s) (hz : xs.length ≤ sizeLine) (r : Vals xs its) (r2 : Vals ys its2) (el : xs.length = ys.length) (hSz : s.heap.objs.size ≤ S)
    (hk : ∀ b o, s.heap.get? b = some o → h'.get? b = some o) (hS : h'.get? S = some { cls := .type "list", dict := none, data := .seq acc c, slots := #[] }) (hl : as.length = its.length) (hG : Gv its.toArray its2.toArray S h' as) (hacc : acc.toList = as.map Value.ref) :
    ∃ H' : Hp, Same H H' ∧ H S = none ∧ H' S = some (.lst (as.map V.ref)) ∧ PairsAt H' as xs ys ∧ Inv X pins σ H' { s with heap := h', toks := tk } := by
  have l1 := r.length
  have l2 := r2.length
  have hSn : S ∉ as := fun q => Nat.lt_irrefl _ (hG.above _ q)
  have nd : as.Nodup := List.Pairwise.imp (fun {a b} (h : a < b) => Nat.ne_of_lt h) hG.rise
  have fresh : ∀ t ∈ as, H t = none := fun t ht => I.hok.fresh (Nat.le_trans hSz (Nat.le_of_lt (hG.above t ht)))
  have freshS : H S = none := I.hok.fresh hSz
  have lz : as.length = (xs.zip ys).length := by rw [List.length_zip]; omega
  have off : ∀ b, b ∉ as → b ≠ S → putP (upd H S (.lst (as.map V.ref))) as (xs.zip ys) b = H b := fun b h1 h2 => by rw [putP_off as _ _ h1, upd_ne h2]
  have kp : Same H (putP (upd H S (.lst (as.map V.ref))) as (xs.zip ys)) := fun b u e => by
    rw [off b (fun q => by rw [fresh b q] at e; cases e) (fun q => by rw [q, freshS] at e; cases e)]
    exact e
  have eS : putP (upd H S (.lst (as.map V.ref))) as (xs.zip ys) S = some (.lst (as.map V.ref)) := by rw [putP_off as _ _ hSn, upd_same]
  have at2 : ∀ (j : Nat) (t : Addr), as[j]? = some t → ∃ x y, xs[j]? = some x ∧ ys[j]? = some y ∧ putP (upd H S (.lst (as.map V.ref))) as (xs.zip ys) t = some (.tup [x, y]) := fun j t ht => by
    have hj : j < as.length := (List.getElem?_eq_some_iff.mp ht).1
    refine ⟨xs[j]'(by omega), ys[j]'(by omega), List.getElem?_eq_getElem (by omega), List.getElem?_eq_getElem (by omega), ?_⟩
    exact putP_at as (xs.zip ys) _ lz nd j t (xs[j]'(by omega), ys[j]'(by omega)) ht (by rw [List.getElem?_zip_eq_some]; exact ⟨List.getElem?_eq_getElem (by omega), List.getElem?_eq_getElem (by omega)⟩)
  have low : ∀ b o, s.heap.get? b = some o → b ∉ as ∧ b ≠ S := fun b o e => ⟨fun q => absurd (Heap.lt_size e) (Nat.not_lt.mpr (Nat.le_trans hSz (Nat.le_of_lt (hG.above b q)))), Nat.ne_of_lt (Nat.lt_of_lt_of_le (Heap.lt_size e) hSz)⟩
  refine ⟨putP (upd H S (.lst (as.map V.ref))) as (xs.zip ys), kp, freshS, eS, ⟨by omega, at2⟩, ?_⟩
  refine I.call' (ch := []) rfl ⟨fun b o q _ _ _ => hk b o q, fun b o q _ _ _ => ⟨o.slots, hk b o q⟩, fun b o q n _ => ?_, fun b o q _ => ⟨o, hk b o q⟩, fun b xs q => kp b _ q, fun b o u q => kp b _ q, fun b ps q => ⟨#[], by rw [kp b _ q]; simp⟩⟩ (fun b u q => ?_) I.bare fun b q => by simp at q
  · obtain ⟨z1, z2⟩ := low b o q
    rw [off b z1 z2]
    exact n
  · by_cases hb : b ∈ as
    · obtain ⟨j, hj⟩ := List.mem_iff_getElem?.mp hb
      obtain ⟨x, y, e1, e2, e3⟩ := at2 j b hj
      rw [e3] at q
      cases q
      obtain ⟨u, v, f1, f2, f3⟩ := hG.pairs j b hj
      obtain ⟨u', g1, ru⟩ := r.get e1
      obtain ⟨v', g2, rv⟩ := r2.get e2
      have q1 : u = u' := Option.some.inj ((by simpa using f1.symm : some u = its[j]?).trans g1)
      have q2 : v = v' := Option.some.inj ((by simpa using f2.symm : some v = its2[j]?).trans g2)
      subst q1 q2
      exact ⟨by show 2 ≤ sizeLine; decide, [u, v], .cons ru (.cons rv .nil), ⟨_, f3, rfl, _, rfl⟩⟩
    · by_cases hb2 : b = S
      · rw [hb2] at q ⊢
        rw [eS] at q
        cases q
        refine ⟨by rw [List.length_map]; omega, acc.toList, c, by rw [hacc]; exact LiI.vals_refs as, ?_⟩
        rw [Array.toArray_toList]
        exact hS
      · rw [off b hb hb2] at q
        exact (I.hok b u q).stay (fun d v _ y => hk d v y) (fun d y => kp d _ y) fun d xs y => kp d _ y
/-- list(zip(e, e2)) -/
theorem pe_listZip {e e2 : Expr} {ta : TA} {p p2 pos pos2 : Pos} (hc : X.calm = true) (hg : Gl X "list") (hm : X.mg "list" = none) (hg2 : Gl X "zip") (hm2 : X.mg "zip" = none) (ha : PA X [e, e2] ta)
    (hs : starEach [.Call (.Name "zip" p2) [e, e2] [] pos2] X.env = (false, eval (.Call (.Name "zip" p2) [e, e2] [] pos2) X.env) :: starEach [] X.env := by rfl)
    (hs2 : starEach [e, e2] X.env = (false, eval e X.env) :: starEach [e2] X.env := by rfl) (hpl : (backTo pos2 (starEach [e2] X.env)).any (·.1) = false := by rfl) :
    PE X (.Call (.Name "list" p) [.Call (.Name "zip" p2) [e, e2] [] pos2] [] pos) (tListZip X.K ta) := by
  refine ⟨fun pins s σ H Q I hq => ?_⟩
  refine wpAny_Call_Name_kw (ld_blt I hg hm (by decide +kernel : bootBuiltins "list" = some (.type "list")) ?_)
  refine PyProof.Rows.callWith_type1 ?_ hs rfl
  rw [hs]
  show wpAny _ _ (spliced ((false, eval (.Call (.Name "zip" p2) [e, e2] [] pos2) X.env) :: backTo pos (starEach [] X.env))) _ _ s
  refine Calls.spliced_cons ?_
  refine Call_ (ld_blt I hg2 hm2 PyProof.Rows.boot_zip (PyProof.Rows.callWith_type1 (thn (ha.run pos2 pins s σ H _ I hq) fun us s1 ⟨vs, H1, I1, r1, q1⟩ => ?_) hs2 hpl))
  obtain ⟨a, b, xs, ys, ex, hqx, hqy, el, q⟩ := q1
  subst ex
  cases r1 with
  | cons r rr =>
    cases rr with
    | cons r' rr =>
      cases rr
      cases r
      cases r'
      obtain ⟨its, rv, u1, hz1⟩ := I1.tuple hqx
      obtain ⟨its2, rv2, u2, hz2⟩ := I1.tuple hqy
      obtain ⟨o1, ho1, _⟩ := id u1
      obtain ⟨o2, ho2, _⟩ := id u2
      refine RZ.call_zipT (show s1.heap.IsTuple a its.toArray from u1) (show s1.heap.IsTuple b its2.toArray from u2) fun h' hz hTI hTO t1 t2 hsz hk => ?_
      have n1 : a < s1.heap.objs.size := Heap.lt_size ho1
      have n2 : b < s1.heap.objs.size := Heap.lt_size ho2
      refine Calls.spliced_nil ?_
      have e1 := rv.length
      have e2 := rv2.length
      refine z_call (s := { s1 with heap := h' }) (xs := its.toArray) (ys := its2.toArray) (I1.ok.hd hc) (PySem.W.ktu_apart s1.heap.objs.size a b n1 n2) ⟨Nat.le_succ _, Nat.le_add_right _ _, Nat.le_add_right _ _, Nat.le_add_right _ _, n1, n2⟩
        (by rw [List.size_toArray, List.size_toArray]; omega) (by rw [List.size_toArray]; omega) hz hTI ⟨_, _, hTO⟩ t1 t2 (let ⟨o, q1, r⟩ := u1; ⟨o, hk _ _ q1, r⟩) (let ⟨o, q1, r⟩ := u2; ⟨o, hk _ _ q1, r⟩) fun h'' tk acc c as k2 hS hl hG hacc => ?_
      obtain ⟨H', j1, j2, j3, j4, J⟩ := pairs_laid (tk := tk) I1 (by omega) rv rv2 el (show s1.heap.objs.size ≤ h'.objs.size by omega) (fun b o q1 => k2 b o (Heap.lt_size q1) (hk b o q1)) hS (by rw [hl, List.size_toArray]) hG hacc
      exact ⟨.ref _, H', J, rfl, q H' _ as j1 j2 j3 j4⟩
end
end Wz
/-! == and len of ways, by the text's own __eq__ and __len__ -/
namespace Wv
open PySem PySem.Spec PyProof.Rows L2
/-- both are the same way -/
def DW (c : Cs) : Eqv := fun x y H => ∃ w : W, w.size ≤ 1000 ∧ ObjAt c H x w ∧ ObjAt c H y w
structure EqOk (P : Program) (w : World) (K : PySem.W.Frag) (mg : Str → Option Value) (base : Heap) (c : Cs) (n : Nat) : Prop where
  ex : ∃ (f : Addr) (fd : FuncData) (ps : List Str), FnOk P w K mg base CX0 n f fd ps (spEq fun a b H => DW c (.ref a) (.ref b) H) ∧ (∀ u : W, PySem.W.findIn K (.ref (c.of u)) "__eq__" = some (some (.ref f))) ∧ PySem.W.isFn K (.ref f) = true ∧ Binds K fd ps []
structure LenOk (P : Program) (w : World) (K : PySem.W.Frag) (mg : Str → Option Value) (base : Heap) (c : Cs) (n : Nat) (sp : Sp) : Prop where
  ex : ∃ (f : Addr) (fd : FuncData) (ps : List Str), FnOk P w K mg base CX0 n f fd ps sp ∧ (∀ u : W, PySem.W.findIn K (.ref (c.of u)) "__len__" = some (some (.ref f))) ∧ PySem.W.isFn K (.ref f) = true ∧ Binds K fd ps []
section
variable {X : Cx} {c : Cs} {n : Nat} {sp : Sp}
theorem op_way (G : EqOk X.prog X.w X.K X.mg X.base c n) (hr : Room n X.A) : OpR X (compareOp .Eq) (rEqG (DW c)) := by
  obtain ⟨f, fd, ps, F, hs, hf, hb⟩ := G.ex
  refine op_eqG (n := n) (fun A pins s σ H x y u v sb I rx ry d => ?_) hr
  obtain ⟨w, _, hx, hy⟩ := id d
  obtain ⟨a, da, fa, ea, ha⟩ := hx.head
  obtain ⟨b, db, fb, eb, hb'⟩ := hy.head
  subst ea eb
  exact rcG_ins (C := c.of w) (R := fun a b H => DW c (.ref a) (.ref b) H) F (hs w) hf hb pass0 A pins s σ H _ _ u v sb I rx ry ⟨a, b, da, db, fa, fb, rfl, rfl, ha, hb', d⟩
/-- len(x) of a way -/
def rLenW (c : Cs) (sp : Sp) : List V → Hp → VK → Prop := fun xs H Q => ∃ (v : V) (w : W), xs = [v] ∧ ObjAt c H v w ∧ sp [v] H (fun z H' => ∃ i : Int, z = .int i ∧ 0 ≤ i ∧ i < 2 ^ 63 ∧ Q (.int i) H') E0
theorem call_lenW (G : LenOk X.prog X.w X.K X.mg X.base c n sp) (hr : Room (n + 1) X.A) : CallR X (.builtin "len") (rLenW c sp) := by
  obtain ⟨f, fd, ps, F, hs, hf, hb⟩ := G.ex
  intro pins s σ H xs us Q I r h
  obtain ⟨v, w, rfl, hv, hsp⟩ := h
  obtain ⟨u, rfl, ru⟩ := r.one
  obtain ⟨a, d, fs, ev, ha⟩ := hv.head
  subst ev
  cases ru
  obtain ⟨mA, J, _⟩ := ins_get I.hok ha
  obtain ⟨od, J, _⟩ := J.look
  obtain ⟨m, hF⟩ := I.fr
  have hl := F.len _ _ _ _ hsp
  have r2 : Vals [V.ref a] [Value.ref a] := .cons rfl .nil
  refine PySem.W.len_K hF I.ok.mod.kin J (hs w) hf (wpAny_call (codeAny_mono (F.run X.A.in1 X.stack s H ⟨[.ref a], []⟩ [.ref a] [.ref a] _ E0 hr.in1 (I.env0.in1) (by
    have q := hb s [.ref a] I.kIn (by simpa using hl)
    simpa using q) r2 hsp) fun r s' hq => ?_))
  cases r with
  | error e => exact (pass0 (X := X) pins σ H s e s' I hq)
  | ok fl =>
    cases fl with
    | ret x =>
      obtain ⟨z, H', I', rz, i, ez, h0, h1, q⟩ := I.after hq
      subst ez
      obtain ⟨t, ex⟩ := rz
      subst ex
      exact ⟨⟨h0, h1⟩, ⟨.int i, H', I'.tok _, ⟨_, rfl⟩, q⟩⟩
    | next => exact False.elim hq
    | brk => exact False.elim hq
    | cont => exact False.elim hq
/-! ### a method of a way, called -/
structure MethOk (P : Program) (w : World) (K : PySem.W.Frag) (mg : Str → Option Value) (base : Heap) (c : Cs) (n : Nat) (m : Str) (ps : List Str) (sp : Sp) : Prop where
  ex : ∃ (f : Addr) (fd : FuncData), FnOk P w K mg base CX0 n f fd ps sp ∧ (∀ u : W, Meth K (c.of u) m f) ∧ (∀ u : W, Cls K (c.of u)) ∧ Binds K fd ps []
def tMethW (c : Cs) (m : Str) (sp : Sp) (ta : TE) (t : TA) : TE := fun σ H Q => ta σ H fun x H1 => ∃ w, ObjAt c H1 x w ∧ t σ H1 fun vs H2 => sp (x :: vs) H2 Q E0
theorem pe_methW {pl : Sem Bool} {m : Str} {ps : List Str} {o e : Expr} {es : List Expr} {ta : TE} {t : TA} {apos pos : Pos} (G : MethOk X.prog X.w X.K X.mg X.base c n m ps sp) (hr : Room n X.A) (he : PE X o ta) (ha : PA X (e :: es) t)
    (nl : Names7 m := by unfold Names7; decide +kernel)
    (hst : starEach (e :: es) X.env = (false, eval e X.env) :: starEach es X.env := by rfl) (hpl : (backTo pos (starEach es X.env)).any (·.1) = false := by rfl)
    (ht : eval (.Call (.Attribute o m apos) (e :: es) [] pos) X.env = (do
      let ov ← eval o X.env
      standAt apos.atName
      let (f, first) ← holding [ov] (getMethod ov m pl)
      callWith pos f first (backTo pos (starEach (e :: es) X.env)) (backToKw pos (keywordEach [] X.env))) := by rfl) :
    PE X (.Call (.Attribute o m apos) (e :: es) [] pos) (tMethW c m sp ta t) := by
  obtain ⟨f, fd, F, hm, hc, hb⟩ := G.ex
  refine ⟨fun pins s σ H Q I h => ?_⟩
  refine PySem.W.methodCall_KW (pl := pl) (thn (he.run pins s σ H _ I h) fun u s1 ⟨x, H1, I1, rx, w, hx, q⟩ => ?_) ht
  obtain ⟨a, dx, fs, ex, ea, l⟩ := hx.head'
  subst ex
  obtain rfl : u = Value.ref a := rx
  refine getmeth_ok I1 ea (hc w) (hm w) (l m nl) ?_
  refine PySem.W.callWith_K (first := [.ref a]) (h₀ := X.base) I.ok.mod.kin (hm w).kp (thn (ha.run pos pins s1 σ H1 _ I1 q) fun us s2 ⟨vs, H2, I2, r, q2⟩ => ⟨I2.kIn, ?_⟩) hst hpl
  exact run_fn (us := .ref a :: us) (vs := .ref a :: vs) (dvs := []) (ds := []) F hr hb .nil pass0 I2 (.cons rfl r) (by simpa using q2)
end
end Wv
namespace Wv
open PySem PySem.Spec PyProof.Rows L2
/-! ### kind, word and inner ways of a way -/
def W.kind : W → Nat
  | .letter _ => 0 | .one => 1 | .nothing => 2 | .row _ => 3 | .choice _ => 4 | .again _ => 5 | .maybe _ => 6 | .ahead _ => 7 | .unless _ => 8 | .call _ => 9
def W.word : W → Str
  | .letter x => sg x
  | .call x => x
  | _ => Str.ofString ""
def spKind (c : Cs) : Sp := fun vs H Q _ => ∃ (v : V) (w : W), vs = [v] ∧ ObjAt c H v w ∧ Q (.int w.kind) H
def spWord (c : Cs) : Sp := fun vs H Q _ => ∃ (v : V) (w : W), vs = [v] ∧ ObjAt c H v w ∧ Q (.str w.word) H
def spMadeOf (c : Cs) : Sp := fun vs H Q _ => ∃ (v : V) (w : W), vs = [v] ∧ ObjAt c H v w ∧ ∀ (t : Addr) (us : List V) (H' : Hp), Same H H' → H' t = some (.tup us) → ObjsAt c H' us w.inner → Q (.ref t) H'
structure Kc (mg : Str → Option Value) : Prop where
  k0 : ∃ t, mg "LETTER" = some (.int 0 t)
  k1 : ∃ t, mg "ONE" = some (.int 1 t)
  k2 : ∃ t, mg "NOTHING" = some (.int 2 t)
  k3 : ∃ t, mg "ROW" = some (.int 3 t)
  k4 : ∃ t, mg "CHOICE" = some (.int 4 t)
  k5 : ∃ t, mg "AGAIN" = some (.int 5 t)
  k6 : ∃ t, mg "MAYBE" = some (.int 6 t)
  k7 : ∃ t, mg "AHEAD" = some (.int 7 t)
  k8 : ∃ t, mg "UNLESS" = some (.int 8 t)
  k9 : ∃ t, mg "CALL" = some (.int 9 t)
section
variable {P : Program} {w : World} {K : PySem.W.Frag} {mg : Str → Option Value} {base : Heap} {c : Cs} {H : Hp} {v : V} {x : W} {Q : VK}
theorem ObjAt.ty (A : AllF K mg c) (h : ObjAt c H v x) : TyX K H v (.ref (c.of x)) := by
  obtain ⟨a, d, fs, e, ha⟩ := h.head
  subst e
  have f := A.f x
  exact .base (.ins ha f.cl f.ha A.hn A.ht f.hm)
theorem st_isi (A : AllF K mg c) (h : ObjAt c H v x) (u : W) {tb r : TS} {D : Ends} (hy : x.tag = u.tag → tb { D with nx := r D } [some v] H) (hn : x.tag ≠ u.tag → r D [some v] H) :
    (tSeq (tIfS (tB (tCB (rIsi K) (tCons (tVar 0) (tCons (tC (V.ref (c.of u))) tNil)))) tb tNext) r) D [some v] H := by
  refine ⟨v, rfl, v, .ref (c.of u), _, _, _, rfl, .own _, h.ty A, A.kit x u, _, rfl, ?_⟩
  refine ite2 (fun e => hy (of_decide_eq_true e)) (fun e => hn fun e2 => e (decide_eq_true e2))
theorem kitAny2 (A : AllF K mg c) (x : W) : ∀ us : List W, PySem.W.kitAny K (.ref (c.of x)) (us.map fun u => .ref (c.of u)) = some (us.any fun u => decide (x.tag = u.tag))
  | [] => kitAny_nil
  | u :: us => by
    refine kitAny_cons (A.kit x u) (fun e => ?_) (fun e => ?_)
    · rw [List.any_cons, e, Bool.false_or]; exact kitAny2 A x us
    · rw [List.any_cons, e]; rfl
def fRc (t : Str) : Bool := decide (t = Str.ofString "row") || (decide (t = Str.ofString "choice") || false)
def fUn (t : Str) : Bool := decide (t = Str.ofString "again") || (decide (t = Str.ofString "maybe") || (decide (t = Str.ofString "ahead") || (decide (t = Str.ofString "unless") || false)))
theorem any_rc (x : W) : ([W.row [], .choice []].any fun u => decide (x.tag = u.tag)) = x.is_rc := by
  show fRc x.tag = x.is_rc
  cases x <;> (simp only [W.tag, W.is_rc]; decide +kernel)
theorem any_un (x : W) : ([W.again .one, .maybe .one, .ahead .one, .unless .one].any fun u => decide (x.tag = u.tag)) = x.is_un := by
  show fUn x.tag = x.is_un
  cases x <;> (simp only [W.tag, W.is_un]; decide +kernel)
theorem kit_rc (A : AllF K mg c) (x : W) : PySem.W.kitAny K (.ref (c.of x)) [.ref c.ro, .ref c.ch] = some x.is_rc := by rw [← any_rc]; exact kitAny2 A x [.row [], .choice []]
theorem kit_un (A : AllF K mg c) (x : W) : PySem.W.kitAny K (.ref (c.of x)) [.ref c.ag, .ref c.ma, .ref c.ah, .ref c.un] = some x.is_un := by rw [← any_un]; exact kitAny2 A x [.again .one, .maybe .one, .ahead .one, .unless .one]
theorem clsv (c : Cs) : ∀ us : List W, Paired ClsV (us.map fun u => V.ref (c.of u)) (us.map fun u => Value.ref (c.of u))
  | [] => .nil
  | u :: us => .cons (.own _) (clsv c us)
abbrev s_kind_of : Stmt := top 35
theorem sc_kind_of : FnScope ["way"] ["way"] (defScope s_kind_of) := ⟨rfl, rfl, rfl, by decide +kernel, rfl, by decide +kernel, by decide +kernel⟩
theorem d_kind_of (h : Here K mg "kind_of" s_kind_of ["way"]) (A : AllF K mg c) (B : Bs mg) (C : Kc mg) : DefOk P w K mg base 1 "kind_of" ["way"] (spKind c) := by
  have B_isinstance := B.isinstance
  have GK_Letter := A.mLt; have GK_One := A.mOn; have GK_Nothing := A.mNo; have GK_Row := A.mRo; have GK_Choice := A.mCh; have GK_Again := A.mAg; have GK_Maybe := A.mMa; have GK_Ahead := A.mAh; have GK_Unless := A.mUn
  have GC_LETTER := C.k0; have GC_ONE := C.k1; have GC_NOTHING := C.k2; have GC_ROW := C.k3; have GC_CHOICE := C.k4; have GC_AGAIN := C.k5; have GC_MAYBE := C.k6; have GC_AHEAD := C.k7; have GC_UNLESS := C.k8; have GC_CALL := C.k9
  refine h.ok sc_kind_of (fun vs H Q E h => by obtain ⟨v, w, rfl, _⟩ := h; rfl) (fun f cdv A' outer s H vs Q E hr h => ?_)
  obtain ⟨v, x, rfl, hv, k⟩ := h
  refine ⟨_, (pss_cons (ps_if (pt_val (pe_callB call_isi rfl B_isinstance (by decide +kernel) (pa_cons (pv 0) (pa_cons (pe_globC rfl GK_Letter) pa_nil)))) (pss_one (ps_ret (pe_globI rfl GC_LETTER))) pss_nil)
  (pss_cons (ps_if (pt_val (pe_callB call_isi rfl B_isinstance (by decide +kernel) (pa_cons (pv 0) (pa_cons (pe_globC rfl GK_One) pa_nil)))) (pss_one (ps_ret (pe_globI rfl GC_ONE))) pss_nil)
  (pss_cons (ps_if (pt_val (pe_callB call_isi rfl B_isinstance (by decide +kernel) (pa_cons (pv 0) (pa_cons (pe_globC rfl GK_Nothing) pa_nil)))) (pss_one (ps_ret (pe_globI rfl GC_NOTHING))) pss_nil)
  (pss_cons (ps_if (pt_val (pe_callB call_isi rfl B_isinstance (by decide +kernel) (pa_cons (pv 0) (pa_cons (pe_globC rfl GK_Row) pa_nil)))) (pss_one (ps_ret (pe_globI rfl GC_ROW))) pss_nil)
  (pss_cons (ps_if (pt_val (pe_callB call_isi rfl B_isinstance (by decide +kernel) (pa_cons (pv 0) (pa_cons (pe_globC rfl GK_Choice) pa_nil)))) (pss_one (ps_ret (pe_globI rfl GC_CHOICE))) pss_nil)
  (pss_cons (ps_if (pt_val (pe_callB call_isi rfl B_isinstance (by decide +kernel) (pa_cons (pv 0) (pa_cons (pe_globC rfl GK_Again) pa_nil)))) (pss_one (ps_ret (pe_globI rfl GC_AGAIN))) pss_nil)
  (pss_cons (ps_if (pt_val (pe_callB call_isi rfl B_isinstance (by decide +kernel) (pa_cons (pv 0) (pa_cons (pe_globC rfl GK_Maybe) pa_nil)))) (pss_one (ps_ret (pe_globI rfl GC_MAYBE))) pss_nil)
  (pss_cons (ps_if (pt_val (pe_callB call_isi rfl B_isinstance (by decide +kernel) (pa_cons (pv 0) (pa_cons (pe_globC rfl GK_Ahead) pa_nil)))) (pss_one (ps_ret (pe_globI rfl GC_AHEAD))) pss_nil)
  (pss_cons (ps_if (pt_val (pe_callB call_isi rfl B_isinstance (by decide +kernel) (pa_cons (pv 0) (pa_cons (pe_globC rfl GK_Unless) pa_nil)))) (pss_one (ps_ret (pe_globI rfl GC_UNLESS))) pss_nil)
  (pss_one (ps_ret (pe_globI rfl GC_CALL)))))))))))), ?_⟩
  refine st_isi A hv (.letter 0) (fun e => ?_) (fun e0 => ?_)
  · cases x <;> first | exact k | exact absurd e (by simp only [W.tag]; decide +kernel)
  refine st_isi A hv .one (fun e => ?_) (fun e1 => ?_)
  · cases x <;> first | exact k | exact absurd e (by simp only [W.tag]; decide +kernel)
  refine st_isi A hv .nothing (fun e => ?_) (fun e2 => ?_)
  · cases x <;> first | exact k | exact absurd e (by simp only [W.tag]; decide +kernel)
  refine st_isi A hv (.row []) (fun e => ?_) (fun e3 => ?_)
  · cases x <;> first | exact k | exact absurd e (by simp only [W.tag]; decide +kernel)
  refine st_isi A hv (.choice []) (fun e => ?_) (fun e4 => ?_)
  · cases x <;> first | exact k | exact absurd e (by simp only [W.tag]; decide +kernel)
  refine st_isi A hv (.again .one) (fun e => ?_) (fun e5 => ?_)
  · cases x <;> first | exact k | exact absurd e (by simp only [W.tag]; decide +kernel)
  refine st_isi A hv (.maybe .one) (fun e => ?_) (fun e6 => ?_)
  · cases x <;> first | exact k | exact absurd e (by simp only [W.tag]; decide +kernel)
  refine st_isi A hv (.ahead .one) (fun e => ?_) (fun e7 => ?_)
  · cases x <;> first | exact k | exact absurd e (by simp only [W.tag]; decide +kernel)
  refine st_isi A hv (.unless .one) (fun e => ?_) (fun e8 => ?_)
  · cases x <;> first | exact k | exact absurd e (by simp only [W.tag]; decide +kernel)
  cases x <;> first | exact absurd rfl e0 | exact absurd rfl e1 | exact absurd rfl e2 | exact absurd rfl e3 | exact absurd rfl e4 | exact absurd rfl e5 | exact absurd rfl e6 | exact absurd rfl e7 | exact absurd rfl e8 | exact k
abbrev s_word_of : Stmt := top 36
theorem sc_word_of : FnScope ["way"] ["way"] (defScope s_word_of) := ⟨rfl, rfl, rfl, by decide +kernel, rfl, by decide +kernel, by decide +kernel⟩
theorem d_word_of (h : Here K mg "word_of" s_word_of ["way"]) (A : AllF K mg c) (B : Bs mg) : DefOk P w K mg base 1 "word_of" ["way"] (spWord c) := by
  have B_isinstance := B.isinstance
  have GK_Letter := A.mLt; have GK_Call := A.mCa
  refine h.ok sc_word_of (fun vs H Q E h => by obtain ⟨v, w, rfl, _⟩ := h; rfl) (fun f cdv A' outer s H vs Q E hr h => ?_)
  obtain ⟨v, x, rfl, hv, k⟩ := h
  refine ⟨_, (pss_cons (ps_if (pt_val (pe_callB call_isi rfl B_isinstance (by decide +kernel) (pa_cons (pv 0) (pa_cons (pe_globC rfl GK_Letter) pa_nil)))) (pss_one (ps_ret (pe_fld (pv 0) rfl))) pss_nil)
  (pss_cons (ps_if (pt_val (pe_callB call_isi rfl B_isinstance (by decide +kernel) (pa_cons (pv 0) (pa_cons (pe_globC rfl GK_Call) pa_nil)))) (pss_one (ps_ret (pe_fld (pv 0) rfl))) pss_nil)
  (pss_one (ps_ret pe_str)))), ?_⟩
  refine st_isi A hv (.letter 0) (fun e => ?_) (fun e0 => ?_)
  · cases x <;> first | exact absurd e (by simp only [W.tag]; decide +kernel) | skip
    obtain ⟨a, d, ev, ha⟩ := id hv
    exact ⟨_, rfl, a, c.lt, d, _, _, ev, ha, (A.f (.letter 0)).cl, (A.f (.letter 0)).nl, rfl, k⟩
  refine st_isi A hv (.call (Str.ofString "")) (fun e => ?_) (fun e1 => ?_)
  · cases x <;> first | exact absurd e (by simp only [W.tag]; decide +kernel) | skip
    obtain ⟨a, d, ev, ha⟩ := id hv
    exact ⟨_, rfl, a, c.ca, d, _, _, ev, ha, (A.f (.call (Str.ofString ""))).cl, (A.f (.call (Str.ofString ""))).nn, rfl, k⟩
  cases x <;> first | exact absurd rfl e0 | exact absurd rfl e1 | exact k
abbrev s_made_of : Stmt := top 37
theorem sc_made_of : FnScope ["way"] ["way"] (defScope s_made_of) := ⟨rfl, rfl, rfl, by decide +kernel, rfl, by decide +kernel, by decide +kernel⟩
theorem d_made_of (h : Here K mg "made_of" s_made_of ["way"]) (A : AllF K mg c) (B : Bs mg) : DefOk P w K mg base 1 "made_of" ["way"] (spMadeOf c) := by
  have B_isinstance := B.isinstance
  have GK_Row := A.mRo; have GK_Choice := A.mCh; have GK_Again := A.mAg; have GK_Maybe := A.mMa; have GK_Ahead := A.mAh; have GK_Unless := A.mUn
  refine h.ok sc_made_of (fun vs H Q E h => by obtain ⟨v, w, rfl, _⟩ := h; rfl) (fun f cdv A' outer s H vs Q E hr h => ?_)
  obtain ⟨v, x, rfl, hv, k⟩ := h
  refine ⟨_, (pss_cons (ps_if (pt_val (pe_callB call_isiT rfl B_isinstance (by decide +kernel) (pa_cons (pv 0) (pa_cons (pe_tup (pa_cons (pe_globC rfl GK_Row) (pa_cons (pe_globC rfl GK_Choice) pa_nil))) pa_nil)))) (pss_one (ps_ret (pe_fld (pv 0) rfl))) pss_nil)
  (pss_cons (ps_if (pt_val (pe_callB call_isiT rfl B_isinstance (by decide +kernel) (pa_cons (pv 0) (pa_cons (pe_tup (pa_cons (pe_globC rfl GK_Again) (pa_cons (pe_globC rfl GK_Maybe) (pa_cons (pe_globC rfl GK_Ahead) (pa_cons (pe_globC rfl GK_Unless) pa_nil))))) pa_nil)))) (pss_one (ps_ret (pe_tup (pa_cons (pe_fld (pv 0) rfl) pa_nil)))) pss_nil)
  (pss_one (ps_ret (pe_tup pa_nil))))), ?_⟩
  walk_at "rd"
  refine ⟨by show 2 ≤ sizeLine; decide, fun tp htp => ?_⟩
  have s1 := Same.new htp (.tup [.ref c.ro, .ref c.ch])
  have hv1 := ObjAt.keep (stillS s1) _ _ hv
  refine ⟨v, tp, _, _, _, _, rfl, upd_same, clsv c [.row [], .choice []], hv1.ty A, kit_rc A x, _, rfl, ?_⟩
  refine ite2 (fun e => ?_) (fun e0 => ?_)
  · cases x <;> first | exact absurd e Bool.false_ne_true | skip
    all_goals
      obtain ⟨a, d, t, us, ev, ha, ht, hus⟩ := id hv1
      refine ⟨_, rfl, a, _, d, _, _, ev, ha, ?_, ?_, rfl, k t us _ s1 ht hus⟩
      · first | exact (A.f (.row [])).cl | exact (A.f (.choice [])).cl
      · first | exact (A.f (.row [])).nw | exact (A.f (.choice [])).nw
  walk_at "nx"
  walk_at "rd"
  refine ⟨by show 4 ≤ sizeLine; decide, fun tq htq => ?_⟩
  have s2 := s1.trans (Same.new htq (.tup [.ref c.ag, .ref c.ma, .ref c.ah, .ref c.un]))
  have hv2 := ObjAt.keep (stillS s2) _ _ hv
  refine ⟨v, tq, _, _, _, _, rfl, upd_same, clsv c [.again .one, .maybe .one, .ahead .one, .unless .one], hv2.ty A, kit_un A x, _, rfl, ?_⟩
  refine ite2 (fun e => ?_) (fun e1 => ?_)
  · cases x <;> first | exact absurd e Bool.false_ne_true | skip
    all_goals
      obtain ⟨a, d, u, mk, ev, ha, hu⟩ := id hv2
      refine ⟨_, rfl, a, _, d, _, _, ev, ha, ?_, ?_, rfl, by show 1 ≤ sizeLine; decide, fun p hp => ?_⟩
      · first | exact (A.f (.again .one)).cl | exact (A.f (.maybe .one)).cl | exact (A.f (.ahead .one)).cl | exact (A.f (.unless .one)).cl
      · first | exact (A.f (.again .one)).np | exact (A.f (.maybe .one)).np | exact (A.f (.ahead .one)).np | exact (A.f (.unless .one)).np
      have s3 := s2.trans (Same.new hp (.tup [u]))
      exact k p _ _ s3 upd_same ⟨u, [], rfl, ObjAt.keep (stillS (Same.new hp _)) _ _ hu, rfl⟩
  walk_at "nx"
  walk_at "rd"
  refine ⟨Nat.zero_le _, fun p hp => ?_⟩
  have s3 := s2.trans (Same.new hp (.tup []))
  cases x <;> first | exact absurd rfl e0 | exact absurd rfl e1 | exact k p _ _ s3 upd_same rfl
end
end Wv
namespace Wv
open PySem PySem.Spec PyProof.Rows L2
/-! ### the parts of a way, == and len -/
theorem while_m {c : TT} {tb : TS} {D : Ends} {σ : L2.St} {H : Hp} (Pv : Nat → L2.St → Hp → Prop) (m : Nat) (h0 : Pv m σ H)
    (hs : ∀ m σ H, Pv m σ H → c σ H fun b H1 => if b = true then tb { D with nx := fun σ' H' => ∃ m', m' < m ∧ Pv m' σ' H', ct := fun σ' H' => ∃ m', m' < m ∧ Pv m' σ' H', bk := D.nx } σ H1 else D.nx σ H1)
    (mono : ∀ σ H Q Q', (∀ b H1, Q b H1 → Q' b H1) → c σ H Q → c σ H Q') : tWhile c tb D σ H := by
  refine ⟨Pv, ⟨m, h0⟩, fun m σ H p => mono σ H _ _ (fun b H1 q => ?_) (hs m σ H p)⟩
  cases b with
  | true => exact ⟨_, fun _ _ h => h, q⟩
  | false => exact q
theorem ObjsAt.split {c : Cs} {H : Hp} : ∀ (a : List W) (w : W) (vs : List V), ObjsAt c H vs (a ++ [w]) → ∃ us u, vs = us ++ [u] ∧ ObjsAt c H us a ∧ ObjAt c H u w
  | [], w, vs, ⟨u, us, e, h, h2⟩ => ⟨[], u, by rw [e, show us = [] from h2]; rfl, rfl, h⟩
  | x :: a, w, vs, ⟨u, us, e, h, h2⟩ => by
    obtain ⟨us', u', e', h3, h4⟩ := ObjsAt.split a w us h2
    exact ⟨u :: us', u', by rw [e, e']; rfl, ⟨u, us', rfl, h, h3⟩, h4⟩
theorem W.sizes_rev : ∀ ws : List W, W.sizes ws.reverse = W.sizes ws
  | [] => rfl
  | w :: ws => by rw [List.reverse_cons, W.sizes_app, W.sizes_rev ws]; simp only [W.sizes]; omega
theorem last_get {α : Type} (us : List α) (u : α) : (us ++ [u])[(us ++ [u]).length - 1]? = some u := by
  rw [List.length_append, List.length_singleton, Nat.add_sub_cancel, List.getElem?_append_right (Nat.le_refl _), Nat.sub_self]; rfl
theorem tru_lst {K : PySem.W.Frag} {H : Hp} {t : Addr} {xs : List V} (h : H t = some (.lst xs)) : TruV K (.ref t) H (!xs.isEmpty) := .inl ⟨xs, SqL.of h, rfl⟩
theorem iteT' {b : Bool} {T F : Prop} (h : b = true) (t : T) : if b = true then T else F := by rw [h]; exact t
mutual
/-- all parts of a way, one after the other -/
def W.parts : W → List W
  | .nothing => [.nothing] | .one => [.one] | .letter x => [.letter x] | .call x => [.call x]
  | .row ws => .row ws :: W.partss ws
  | .choice ws => .choice ws :: W.partss ws
  | .again w => .again w :: (W.parts w ++ [])
  | .maybe w => .maybe w :: (W.parts w ++ [])
  | .ahead w => .ahead w :: (W.parts w ++ [])
  | .unless w => .unless w :: (W.parts w ++ [])
def W.partss : List W → List W
  | [] => []
  | w :: ws => W.parts w ++ W.partss ws
end
theorem W.parts_eq (w : W) : w.parts = w :: W.partss w.inner := by cases w <;> rfl
theorem W.partss_app : ∀ a b : List W, W.partss (a ++ b) = W.partss a ++ W.partss b
  | [], b => rfl
  | x :: a, b => by rw [List.cons_append, W.partss, W.partss_app a b, W.partss, List.append_assoc]
def spParts (c : Cs) : Sp := fun vs H Q _ => ∃ (v : V) (w : W), vs = [v] ∧ ObjAt c H v w ∧ w.size ≤ 1000 ∧ ∀ (p : Addr) (ps : List V) (H' : Hp), Same H H' → H' p = some (.lst ps) → ps.length = w.size → ObjsAt c H' ps w.parts → Q (.ref p) H'
section
variable {P : Program} {w : World} {K : PySem.W.Frag} {mg : Str → Option Value} {base : Heap} {c : Cs} {H : Hp} {v : V} {x : W} {Q : VK}
abbrev s_parts_of : Stmt := top 38
theorem sc_parts_of : FnScope ["way", "parts", "todo", "part"] ["way"] (defScope s_parts_of) := ⟨rfl, rfl, rfl, by decide +kernel, rfl, by decide +kernel, by decide +kernel⟩
theorem d_parts_of (h : Here K mg "parts_of" s_parts_of ["way"]) (G_made_of : DefOk P w K mg base 1 "made_of" ["way"] (spMadeOf c)) : DefOk P w K mg base 2 "parts_of" ["way"] (spParts c) := by
  refine h.ok sc_parts_of (fun vs H Q E h => by obtain ⟨v, w, rfl, _⟩ := h; rfl) (fun f cdv A' outer s H vs Q E hr h => ?_)
  obtain ⟨v, x, rfl, hv, hx, k⟩ := h
  refine ⟨_, (pss_cons (ps_set (i := 1) sc_parts_of.nd rfl (Or.inl rfl) (pe_lst pa_nil))
  (pss_cons (ps_set (i := 2) sc_parts_of.nd rfl (Or.inl rfl) (pe_lst (pa_cons (pv 0) pa_nil)))
  (pss_cons (ps_while PassesOwn.never (pt_truth (pv 2) (by intro _; rfl)) (pss_cons (ps_set (i := 3) sc_parts_of.nd rfl (Or.inl rfl) (pe_bm0 PySem.F.plainAttrs_list PySem.F.slot_list_pop PySem.F.type_list_pop mt_pop (pv 2)))
  (pss_cons (ps_expr (pe_bm PySem.F.plainAttrs_list PySem.F.slot_list_append PySem.F.type_list_append mt_append (pv 1) (pa_cons (pv 3) pa_nil)))
  (pss_one (ps_expr (pe_bm PySem.F.plainAttrs_list PySem.F.slot_list_extend PySem.F.type_list_extend mt_extendT (pv 2) (pa_cons (pe_revT (pe_callD G_made_of (hr.mono (by first | decide | omega)) rfl (pa_cons (pv 3) pa_nil))) pa_nil)))))))
  (pss_one (ps_ret (pv 1)))))), ?_⟩
  refine ⟨Nat.zero_le _, fun p hp => ?_⟩
  have s1 := Same.new hp (.lst [])
  walk_at "nx"
  walk_at "rd"
  refine ⟨by show 1 ≤ sizeLine; decide, fun t ht => ?_⟩
  have s2 := s1.trans (Same.new ht (.lst [v]))
  have npt : p ≠ t := ne_of_none upd_same ht
  have htH : H t = none := by rw [upd_ne npt.symm] at ht; exact ht
  walk_at "nx"
  refine while_m (fun m σ H' => ∃ (ps ts : List V) (ws : List W) (x3 : Option V), σ = [some v, some (.ref p), some (.ref t), x3] ∧ H' p = some (.lst ps) ∧ H' t = some (.lst ts) ∧ ObjsAt c H' ts ws ∧ W.sizes ws = m ∧ ps.length + m = x.size ∧ (∃ dn : List W, ObjsAt c H' ps dn ∧ dn ++ W.partss ws.reverse = x.parts) ∧ Same H H') x.size ?_ ?_
    (fun σ H Q Q' hq ⟨v, e, b, tv, h⟩ => ⟨v, e, b, tv, hq _ _ h⟩)
  · exact ⟨[], [v], [x], none, rfl, by rw [upd_ne npt]; exact upd_same, upd_same, ⟨v, [], rfl, ObjAt.keep (stillS s2) _ _ hv, rfl⟩, by simp only [W.sizes]; omega, by simp, ⟨[], rfl, by simp [W.partss]⟩, s2⟩
  · rintro m σ H1 ⟨ps, ts, ws, x3, rfl, hp1, ht1, hts, hm, hlen, ⟨dn, hdn, edn⟩, s3⟩
    refine ⟨_, rfl, _, tru_lst ht1, ?_⟩
    rcases List.eq_nil_or_concat ws with e | ⟨wa, wl, e⟩
    · subst e
      have e2 : ts = [] := hts
      subst e2
      refine iteF ?_
      walk_at "nx"
      walk_at "rd"
      have : m = 0 := hm.symm
      exact k p ps H1 s3 hp1 (by omega) (by rw [← edn]; simpa [W.partss] using hdn)
    · have e' : ws = wa ++ [wl] := by rw [e]; simp
      clear e
      subst e'
      obtain ⟨ta, tl, e2, hta, htl⟩ := ObjsAt.split _ _ _ hts
      subst e2
      have hsz : W.sizes wa + wl.size = m := by rw [← hm, W.sizes_app]; simp only [W.sizes]; omega
      have hin := wl.size_inner
      refine iteT' (by simp) ?_
      walk_at "nx"
      refine ⟨_, rfl, .inl ⟨rfl, _, SqL.of ht1⟩, t, _, _, rfl, rfl, ht1, last_get _ _, ?_⟩
      rw [List.dropLast_concat]
      walk_at "nx"
      have hp2 : upd H1 t (.lst ta) p = some (.lst ps) := by rw [upd_ne npt]; exact hp1
      refine ⟨_, rfl, .inl ⟨rfl, _, SqL.of hp2⟩, _, rfl, p, _, _, rfl, rfl, hp2, small' (by omega), ?_⟩
      walk_at "nx"
      have k1 : Still H1 (upd H1 t (.lst ta)) := Still.put ht1
      have k2 : Still (upd H1 t (.lst ta)) (upd (upd H1 t (.lst ta)) p (.lst (ps ++ [tl]))) := Still.put hp2
      have k12 := k1.trans k2
      have ht3 : upd (upd H1 t (.lst ta)) p (.lst (ps ++ [tl])) t = some (.lst ta) := by rw [upd_ne npt.symm]; exact upd_same
      have hp3 : upd (upd H1 t (.lst ta)) p (.lst (ps ++ [tl])) p = some (.lst (ps ++ [tl])) := upd_same
      have s4 : Same H (upd (upd H1 t (.lst ta)) p (.lst (ps ++ [tl]))) := Same.put hp (Same.put htH s3 _) _
      generalize upd (upd H1 t (.lst ta)) p (.lst (ps ++ [tl])) = H2 at *
      refine ⟨_, rfl, .inl ⟨rfl, _, SqL.of ht3⟩, _, rfl, tl, wl, rfl, ObjAt.keep k12 _ _ htl, fun u us H3 s5 hu hus => ?_⟩
      refine ⟨u, us, rfl, SqT.of hu, fun r hr => ?_⟩
      have s6 := Same.new hr (.tup us.reverse)
      have ll := ObjsAt.len _ _ hta
      have l2 := W.sizes_len wa
      have l3 := ObjsAt.len _ _ hus
      have l4 := W.sizes_len wl.inner
      have ht4 := s6 _ _ (s5 _ _ ht3)
      refine ⟨t, r, _, _, rfl, rfl, ht4, SqT.of upd_same, ?_, ?_⟩
      · rw [List.length_reverse]
        exact Nat.le_of_lt (small' (by omega))
      · walk_at "nx"
        have k7 : Still _ (upd (upd H3 r (.tup us.reverse)) t (.lst (ta ++ us.reverse))) := Still.put ht4
        have k36 := (stillS s6).trans k7
        refine ⟨W.sizes (wa ++ wl.inner.reverse), ?_, ps ++ [tl], _, wa ++ wl.inner.reverse, _, rfl, ?_, upd_same, ?_, rfl, ?_, ?_⟩
        · rw [W.sizes_app, W.sizes_rev]; omega
        · rw [upd_ne npt]; exact s6 _ _ (s5 _ _ hp3)
        · exact ObjsAt.app _ _ (ObjsAt.keep ((k12.trans (stillS s5)).trans k36) _ _ hta) (ObjsAt.keep k36 _ _ (ObjsAt.rev _ _ hus))
        · rw [W.sizes_app, W.sizes_rev, List.length_append, List.length_singleton]; omega
        · refine ⟨⟨dn ++ [wl], ?_, ?_⟩, Same.put htH ((s4.trans s5).trans s6) _⟩
          · exact ObjsAt.app _ _ (ObjsAt.keep ((k12.trans (stillS s5)).trans k36) _ _ hdn) ⟨tl, [], rfl, ObjAt.keep ((k12.trans (stillS s5)).trans k36) _ _ htl, rfl⟩
          · rw [← edn, List.reverse_append, List.reverse_append, List.reverse_reverse, W.partss_app, List.reverse_singleton, List.singleton_append, W.partss, W.parts_eq wl]
            simp
/-- pairs of two ways that are the same -/
def TwoAt (c : Cs) (H : Hp) : List V → List W → Prop
  | ts, [] => ts = []
  | ts, w :: ws => ∃ r a b us, ts = V.ref r :: us ∧ H r = some (.tup [a, b]) ∧ ObjAt c H a w ∧ ObjAt c H b w ∧ TwoAt c H us ws
theorem TwoAt.keep {H H' : Hp} (k : Still H H') : ∀ (ws : List W) (ts : List V), TwoAt c H ts ws → TwoAt c H' ts ws
  | [], _, h => h
  | w :: ws, ts, ⟨r, a, b, us, e, h, h1, h2, h3⟩ => ⟨r, a, b, us, e, k.tup h, ObjAt.keep k _ _ h1, ObjAt.keep k _ _ h2, TwoAt.keep k ws us h3⟩
theorem TwoAt.len : ∀ (ws : List W) (ts : List V), TwoAt c H ts ws → ts.length = ws.length
  | [], ts, h => by rw [show ts = [] from h]; rfl
  | w :: ws, ts, ⟨r, a, b, us, e, _, _, _, h3⟩ => by rw [e, List.length_cons, List.length_cons, TwoAt.len ws us h3]
theorem TwoAt.app : ∀ (ws : List W) (ts : List V) {us : List V} {xs : List W}, TwoAt c H ts ws → TwoAt c H us xs → TwoAt c H (ts ++ us) (ws ++ xs)
  | [], ts, us, xs, h, h2 => by rw [show ts = [] from h]; exact h2
  | w :: ws, ts, us, xs, ⟨r, a, b, r', e, h, h1, h3, h4⟩, h2 => by rw [e]; exact ⟨r, a, b, r' ++ us, rfl, h, h1, h3, TwoAt.app ws r' h4 h2⟩
theorem TwoAt.split : ∀ (a : List W) (w : W) (vs : List V), TwoAt c H vs (a ++ [w]) → ∃ us r x y, vs = us ++ [V.ref r] ∧ TwoAt c H us a ∧ H r = some (.tup [x, y]) ∧ ObjAt c H x w ∧ ObjAt c H y w
  | [], w, vs, ⟨r, a, b, us, e, h, h1, h2, h3⟩ => ⟨[], r, a, b, by rw [e, show us = [] from h3]; rfl, rfl, h, h1, h2⟩
  | x :: a, w, vs, ⟨r, y, z, us, e, h, h1, h2, h3⟩ => by
    obtain ⟨us', r', x', y', e', g1, g2, g3, g4⟩ := TwoAt.split a w us h3
    exact ⟨V.ref r :: us', r', x', y', by rw [e, e']; rfl, ⟨r, y, z, us', rfl, h, h1, h2, g1⟩, g2, g3, g4⟩
theorem TwoAt.of : ∀ (ws : List W) (ts : List Addr) (xs ys : List V), Wz.PairsAt H ts xs ys → ObjsAt c H xs ws → ObjsAt c H ys ws → TwoAt c H (ts.map V.ref) ws
  | [], ts, xs, ys, p, hx, hy => by
    have e : xs = [] := hx
    have l := p.len
    rw [e] at l
    rw [List.eq_nil_of_length_eq_zero l]
    rfl
  | w :: ws, ts, xs, ys, p, ⟨u, us, e, hu, hus⟩, ⟨u2, us2, e2, hu2, hus2⟩ => by
    subst e e2
    have l := p.len
    cases ts with
    | nil => cases l
    | cons t ts =>
      obtain ⟨x, y, h1, h2, h3⟩ := p.at_ 0 t rfl
      have e1 : u = x := Option.some.inj h1
      have e2 : u2 = y := Option.some.inj h2
      subst e1 e2
      exact ⟨t, u, u2, _, rfl, h3, hu, hu2, TwoAt.of ws ts us us2 ⟨by simpa using l, fun j t' hj => p.at_ (j + 1) t' (by simpa using hj)⟩ hus hus2⟩
def spSameW (c : Cs) : Sp := fun vs H Q _ => ∃ (a b : V) (w : W), vs = [a, b] ∧ ObjAt c H a w ∧ ObjAt c H b w ∧ w.size ≤ 1000 ∧ ∀ H', Same H H' → Q (.bl true) H'
abbrev s_same_ways : Stmt := top 39
theorem sc_same_ways : FnScope ["one", "other", "todo", "left", "right"] ["one", "other"] (defScope s_same_ways) := ⟨rfl, rfl, rfl, by decide +kernel, rfl, by decide +kernel, by decide +kernel⟩
theorem ok_same_ways {f : Addr} {fd : FuncData} (F : Fun K "same_ways" "same_ways" s_same_ways f fd) (B : Bs mg) (G_made_of : DefOk P w K mg base 1 "made_of" ["way"] (spMadeOf c)) (G_kind_of : DefOk P w K mg base 1 "kind_of" ["way"] (spKind c)) (G_word_of : DefOk P w K mg base 1 "word_of" ["way"] (spWord c)) :
    FnOk P w K mg base CX0 2 f fd ["one", "other"] (spSameW c) := by
  have B_len := B.len; have B_list := B.list; have B_zip := B.zip
  refine F.ok sc_same_ways (fun vs H Q E h => by obtain ⟨a, b, w, rfl, _⟩ := h; rfl) (fun cdv A' outer s H vs Q E hr h => ?_)
  obtain ⟨a, b, x, rfl, ha, hb, hx, k⟩ := h
  refine ⟨_, (pss_cons (ps_set (i := 2) sc_same_ways.nd rfl (Or.inl rfl) (pe_lst (pa_cons (pe_tup (pa_cons (pv 0) (pa_cons (pv 1) pa_nil))) pa_nil)))
  (pss_cons (ps_while PassesOwn.never (pt_truth (pv 2) (by intro _; rfl)) (pss_cons (ps_asg (pe_bm0 PySem.F.plainAttrs_list PySem.F.slot_list_pop PySem.F.type_list_pop mt_pop (pv 2)) (pg_tup rfl (pgs_cons (pg_name (i := 3) sc_same_ways.nd rfl (Or.inl rfl)) (pgs_cons (pg_name (i := 4) sc_same_ways.nd rfl (Or.inl rfl)) pgs_nil))))
  (pss_cons (ps_if (PW.pt (pw_or (pt_cmpR op_ne (pe_callD G_kind_of (hr.mono (by first | decide | omega)) rfl (pa_cons (pv 3) pa_nil)) (pe_callD G_kind_of (hr.mono (by first | decide | omega)) rfl (pa_cons (pv 4) pa_nil)) (nomark _)) (pw_or1 (pt_cmpR op_ne (pe_callD G_word_of (hr.mono (by first | decide | omega)) rfl (pa_cons (pv 3) pa_nil)) (pe_callD G_word_of (hr.mono (by first | decide | omega)) rfl (pa_cons (pv 4) pa_nil)) (nomark _))))) (pss_one (ps_ret pe_bl)) pss_nil)
  (pss_cons (ps_if (pt_cmpR op_ne (pe_callB call_len_seq rfl B_len PySem.boot_len (pa_cons (pe_callD G_made_of (hr.mono (by first | decide | omega)) rfl (pa_cons (pv 3) pa_nil)) pa_nil)) (pe_callB call_len_seq rfl B_len PySem.boot_len (pa_cons (pe_callD G_made_of (hr.mono (by first | decide | omega)) rfl (pa_cons (pv 4) pa_nil)) pa_nil)) (nomark _)) (pss_one (ps_ret pe_bl)) pss_nil)
  (pss_one (ps_expr (pe_bm PySem.F.plainAttrs_list PySem.F.slot_list_extend PySem.F.type_list_extend mt_extend (pv 2) (pa_cons (Wz.pe_listZip rfl rfl B_list rfl B_zip (pa_cons (pe_callD G_made_of (hr.mono (by first | decide | omega)) rfl (pa_cons (pv 3) pa_nil)) (pa_cons (pe_callD G_made_of (hr.mono (by first | decide | omega)) rfl (pa_cons (pv 4) pa_nil)) pa_nil))) pa_nil))))))))
  (pss_one (ps_ret pe_bl)))), ?_⟩
  walk_at "rd"
  refine ⟨by show 2 ≤ sizeLine; decide, fun r hr => ?_⟩
  have s1 := Same.new hr (.tup [a, b])
  refine ⟨by show 1 ≤ sizeLine; decide, fun t ht => ?_⟩
  have s2 := s1.trans (Same.new ht (.lst [.ref r]))
  have nrt : r ≠ t := ne_of_none upd_same ht
  have htH : H t = none := by rw [upd_ne nrt.symm] at ht; exact ht
  walk_at "nx"
  refine while_m (fun m σ H' => ∃ (ts : List V) (ws : List W) (x3 x4 : Option V), σ = [some a, some b, some (.ref t), x3, x4] ∧ H' t = some (.lst ts) ∧ TwoAt c H' ts ws ∧ W.sizes ws = m ∧ m ≤ 1000 ∧ Same H H') x.size ?_ ?_
    (fun σ H Q Q' hq ⟨v, e, b, tv, h⟩ => ⟨v, e, b, tv, hq _ _ h⟩)
  · exact ⟨_, [x], none, none, rfl, upd_same, ⟨r, a, b, [], rfl, by rw [upd_ne nrt]; exact upd_same, ObjAt.keep (stillS s2) _ _ ha, ObjAt.keep (stillS s2) _ _ hb, rfl⟩, by simp only [W.sizes]; omega, hx, s2⟩
  · rintro m σ H1 ⟨ts, ws, x3, x4, rfl, ht1, hts, hm, hmx, s3⟩
    refine ⟨_, rfl, _, tru_lst ht1, ?_⟩
    rcases List.eq_nil_or_concat ws with e | ⟨wa, wl, e⟩
    · subst e
      have e2 : ts = [] := hts
      subst e2
      refine iteF ?_
      walk_at "nx"
      walk_at "rd"
      exact k H1 s3
    · have e' : ws = wa ++ [wl] := by rw [e]; simp
      clear e
      subst e'
      obtain ⟨ta, tl, y, z, e2, hta, htl, hy, hz⟩ := TwoAt.split _ _ _ hts
      subst e2
      have hsz : W.sizes wa + wl.size = m := by rw [← hm, W.sizes_app]; simp only [W.sizes]; omega
      have hin := wl.size_inner
      refine iteT' (by simp) ?_
      walk_at "nx"
      refine ⟨_, rfl, .inl ⟨rfl, _, SqL.of ht1⟩, t, _, _, rfl, rfl, ht1, last_get _ _, ?_⟩
      rw [List.dropLast_concat]
      have k1 : Still H1 (upd H1 t (.lst ta)) := Still.put ht1
      have s4 : Same H (upd H1 t (.lst ta)) := Same.put htH s3 _
      have ht2 : upd H1 t (.lst ta) t = some (.lst ta) := upd_same
      generalize upd H1 t (.lst ta) = H2 at *
      refine ⟨tl, [y, z], rfl, SqT.of (k1.tup htl), rfl, ?_⟩
      have hy2 := ObjAt.keep k1 _ _ hy
      have hz2 := ObjAt.keep k1 _ _ hz
      refine ⟨y, [z], rfl, ?_⟩
      walk_at "nx"
      refine ⟨z, [], rfl, ?_⟩
      walk_at "nx"
      refine ⟨rfl, ?_⟩
      walk_at "nx"
      refine ⟨_, rfl, y, wl, rfl, hy2, _, rfl, z, wl, rfl, hz2, rfl, ?_⟩
      rw [decide_eq_true rfl]
      refine ⟨_, rfl, iteF ?_⟩
      refine ⟨_, rfl, y, wl, rfl, hy2, _, rfl, z, wl, rfl, hz2, rfl, ?_⟩
      rw [decide_eq_true rfl]
      refine ⟨_, rfl, iteF ?_⟩
      walk_at "nx"
      refine ⟨_, rfl, y, wl, rfl, hy2, fun u1 us1 H3 s5 hu1 hus1 => ?_⟩
      have hz3 := ObjAt.keep (stillS s5) _ _ hz2
      refine ⟨u1, us1, rfl, .inr (SqT.of hu1), ?_⟩
      refine ⟨_, rfl, z, wl, rfl, hz3, fun u2 us2 H4 s6 hu2 hus2 => ?_⟩
      refine ⟨u2, us2, rfl, .inr (SqT.of hu2), ?_⟩
      have l1 := ObjsAt.len _ _ hus1
      have l2 := ObjsAt.len _ _ hus2
      rw [l1, l2]
      refine ⟨rfl, ?_⟩
      rw [decide_eq_true rfl]
      refine ⟨_, rfl, iteF ?_⟩
      walk_at "nx"
      have s24 := s5.trans s6
      have ht4 := s24 _ _ ht2
      have hy4 := ObjAt.keep (stillS s24) _ _ hy2
      have hz4 := ObjAt.keep (stillS s24) _ _ hz2
      refine ⟨_, rfl, .inl ⟨rfl, _, SqL.of ht4⟩, ?_⟩
      refine ⟨_, rfl, y, wl, rfl, hy4, fun u3 us3 H5 s7 hu3 hus3 => ?_⟩
      have hz5 := ObjAt.keep (stillS s7) _ _ hz4
      refine ⟨_, rfl, z, wl, rfl, hz5, fun u4 us4 H6 s8 hu4 hus4 => ?_⟩
      have l3 := ObjsAt.len _ _ hus3
      have l4 := ObjsAt.len _ _ hus4
      refine ⟨u3, u4, us3, us4, rfl, SqT.of (s8 _ _ hu3), SqT.of hu4, by omega, fun H7 p ts s9 hp7 hl7 hpr => ?_⟩
      have s69 := (s7.trans s8).trans s9
      have s29 := s24.trans s69
      have ht7 := s69 _ _ ht4
      have lp := hpr.len
      have la := TwoAt.len _ _ hta
      have lb := W.sizes_len wa
      have lc := W.sizes_len wl.inner
      refine ⟨t, p, _, _, rfl, rfl, ht7, hl7, by rw [List.length_map]; exact Nat.le_of_lt (small' (by omega)), ?_⟩
      walk_at "nx"
      have k8 : Still H7 (upd H7 t (.lst (ta ++ ts.map V.ref))) := Still.put ht7
      refine ⟨W.sizes (wa ++ wl.inner), by rw [W.sizes_app]; omega, _, wa ++ wl.inner, _, _, rfl, upd_same, ?_, rfl, by rw [W.sizes_app]; omega, Same.put htH (s4.trans s29) _⟩
      have hx7 := ObjsAt.keep (stillS (s8.trans s9)) _ _ hus3
      have hy7 := ObjsAt.keep (stillS s9) _ _ hus4
      exact TwoAt.app _ _ (TwoAt.keep ((k1.trans (stillS s29)).trans k8) _ _ hta) (TwoAt.keep k8 _ _ (TwoAt.of _ _ _ _ hpr hx7 hy7))
theorem d_same_ways (h : Here K mg "same_ways" s_same_ways ["one", "other"]) (B : Bs mg) (G_made_of : DefOk P w K mg base 1 "made_of" ["way"] (spMadeOf c)) (G_kind_of : DefOk P w K mg base 1 "kind_of" ["way"] (spKind c)) (G_word_of : DefOk P w K mg base 1 "word_of" ["way"] (spWord c)) :
    DefOk P w K mg base 2 "same_ways" ["one", "other"] (spSameW c) := by
  obtain ⟨f, fd, F, m, b⟩ := h.ex
  exact ⟨f, fd, m, F.kp, b, ok_same_ways F B G_made_of G_kind_of G_word_of⟩
end
end Wv
namespace Tk
open PySem PySem.Spec PyProof.Rows L2 Wv
/-! ### ranges as values -/
section
variable {X : Cx} {tg : Expr} {e : Expr} {te : TE} {tr : L2.St → Hp → (Int → Int → Hp → Prop) → Prop}
theorem cr_range1 : CallR X (.type "range") (fun vs H Q => ∃ j, vs = [V.int j] ∧ ∀ p, H p = none → Q (.ref p) (upd H p (.rng 0 j))) := by
  intro pins s σ H vs us Q I r h
  obtain ⟨j, rfl, q⟩ := h
  obtain ⟨u1, rfl, ri⟩ := vals1 r
  obtain ⟨t, rfl⟩ := ri
  refine call_range_1 ⟨.ref s.heap.objs.size, upd H s.heap.objs.size (.rng 0 j), I.laid (fun b o e => Heap.get?_push_of_some _ e) (Nat.le_refl _) ?_, rfl, q _ (I.hok.fresh (Nat.le_refl _))⟩
  exact ⟨_, _, _, Heap.get?_push_size _ rfl⟩
def tRgV (te : TE) : L2.St → Hp → (Int → Int → Hp → Prop) → Prop := fun σ H Q => te σ H fun x H1 => ∃ a lo hi, x = .ref a ∧ H1 a = some (.rng lo hi) ∧ Q lo hi H1
theorem prg_v (he : PE X e te) : PRg X e (tRgV te) := by
  intro pins s σ H Q I h
  refine thn (he.run pins s σ H _ I h) fun v s1 ⟨x, H1, I1, r1, a, lo, hi, ex, ha, q⟩ => ?_
  subst ex
  cases r1
  obtain ⟨t1, t2, t3, ho⟩ := I1.hok a _ ha
  exact ⟨a, lo, hi, t1, t2, t3, H1, rfl, ho, I1, q⟩
def iRg (tr : L2.St → Hp → (Int → Int → Hp → Prop) → Prop) : TI := fun σ H R => tr σ H fun a b H1 => (-(2 ^ 62) ≤ a ∧ a < 2 ^ 62 ∧ -(2 ^ 62) ≤ b ∧ b < 2 ^ 62) ∧ R (Itr a (b - a).toNat) H1
theorem pi_rg (he : PRg X e tr) : PI X tg e (iRg tr) := by
  refine ⟨fun pins s σ H R I h => ?_⟩
  refine thn (he pins s σ H _ I h) fun u s1 ⟨r, a, b, t, w1, v, H1, eu, hr, I1, ⟨b1, b2, b3, b4⟩, q⟩ => ?_
  subst eu
  refine wpAny_pyIter_range hr (small_one b1 b2 b3 b4) ?_
  refine pi_one (tk := s1.toks) I1 _ (turn_range _ a (b - a).toNat) ?_ q
  have hn : Builtin.Range.rangeSize a b 1 = (((b - a).toNat : Nat) : Int) := rangeSize_nat a b
  have e1 : a + ((0 : Nat) : Int) * 1 = a := by simp
  have e2 : (((b - a).toNat : Nat) : Int) - ((0 : Nat) : Int) = Builtin.Range.rangeSize a b 1 := by rw [hn]; omega
  show IsRangeIter _ _ (a + ((0 : Nat) : Int) * 1) ((((b - a).toNat : Nat) : Int) - ((0 : Nat) : Int)) 1
  rw [e1, e2]
  exact Heap.get?_push_size _ rfl
end
theorem ix_listK {X : Cx} {K : PySem.W.Frag} (e : X.K = K) : IxR X (rIxL K) := e ▸ ix_list
/-! ### where a way ends -/
/-- rounds of a way, with so many places left -/
def ag (f : Nat → Option Nat) : Nat → Nat → Nat
  | 0, p => p
  | k + 1, p => match f p with
    | some q => if p < q then ag f k q else p
    | none => p
mutual
def ew (z : List Nat) : W → Nat → Option Nat
  | .letter c, p => if z[p]? = some c then some (p + 1) else none
  | .one, p => if p < z.length then some (p + 1) else none
  | .nothing, p => some p
  | .call _, _ => none
  | .row ws, p => ewR z ws p
  | .choice ws, p => ewC z ws p
  | .again w, p => some (ag (fun q => ew z w q) (z.length + 1 - p) p)
  | .maybe w, p => some ((ew z w p).getD p)
  | .ahead w, p => if (ew z w p).isSome = true then some p else none
  | .unless w, p => if (ew z w p).isSome = true then none else some p
def ewR (z : List Nat) : List W → Nat → Option Nat
  | [], p => some p
  | w :: ws, p => match ew z w p with
    | some q => ewR z ws q
    | none => none
def ewC (z : List Nat) : List W → Nat → Option Nat
  | [], _ => none
  | w :: ws, p => match ew z w p with
    | some q => some q
    | none => ewC z ws p
end
theorem ag_in {f : Nat → Option Nat} {n : Nat} (hf : ∀ p q, p ≤ n → f p = some q → p ≤ q ∧ q ≤ n) : ∀ (k p : Nat), p ≤ n → p ≤ ag f k p ∧ ag f k p ≤ n
  | 0, p, h => ⟨Nat.le_refl _, h⟩
  | k + 1, p, h => by
    unfold ag
    cases e : f p with
    | none => exact ⟨Nat.le_refl _, h⟩
    | some q =>
      dsimp only
      have := hf p q h e
      split
      · have := ag_in hf k q this.2
        omega
      · omega
/-- enough is enough -/
theorem ag_more {f : Nat → Option Nat} {n : Nat} (hf : ∀ p q, p ≤ n → f p = some q → p ≤ q ∧ q ≤ n) : ∀ (k j p : Nat), p ≤ n → n + 1 ≤ k + p → n + 1 ≤ j + p → ag f k p = ag f j p
  | 0, j, p, h, h1, h2 => by omega
  | k + 1, 0, p, h, h1, h2 => by omega
  | k + 1, j + 1, p, h, h1, h2 => by
    unfold ag
    cases e : f p with
    | none => rfl
    | some q =>
      dsimp only
      have := hf p q h e
      split
      · exact ag_more hf k j q this.2 (by omega) (by omega)
      · rfl
mutual
theorem ew_in (z : List Nat) : ∀ (w : W) (p q : Nat), p ≤ z.length → ew z w p = some q → p ≤ q ∧ q ≤ z.length
  | .letter c, p, q, h, e => by
    unfold ew at e
    split at e
    · have h1 := (List.getElem?_eq_some_iff.mp ‹_›).1
      cases e
      omega
    · cases e
  | .one, p, q, h, e => by
    unfold ew at e
    split at e
    · cases e; omega
    · cases e
  | .nothing, p, q, h, e => by unfold ew at e; cases e; omega
  | .call _, p, q, h, e => by unfold ew at e; cases e
  | .row ws, p, q, h, e => by unfold ew at e; exact ewR_in z ws p q h e
  | .choice ws, p, q, h, e => by unfold ew at e; exact ewC_in z ws p q h e
  | .again w, p, q, h, e => by
    unfold ew at e
    cases e
    exact ag_in (fun p q h e => ew_in z w p q h e) _ p h
  | .maybe w, p, q, h, e => by
    unfold ew at e
    cases e2 : ew z w p with
    | none => rw [e2] at e; cases e; exact ⟨Nat.le_refl _, h⟩
    | some r => rw [e2] at e; cases e; exact ew_in z w p _ h e2
  | .ahead w, p, q, h, e => by
    unfold ew at e
    split at e
    · cases e; omega
    · cases e
  | .unless w, p, q, h, e => by
    unfold ew at e
    split at e
    · cases e
    · cases e; omega
theorem ewR_in (z : List Nat) : ∀ (ws : List W) (p q : Nat), p ≤ z.length → ewR z ws p = some q → p ≤ q ∧ q ≤ z.length
  | [], p, q, h, e => by unfold ewR at e; cases e; omega
  | w :: ws, p, q, h, e => by
    unfold ewR at e
    cases e2 : ew z w p with
    | none => rw [e2] at e; cases e
    | some r =>
      rw [e2] at e
      have h1 := ew_in z w p r h e2
      have h2 := ewR_in z ws r q h1.2 e
      omega
theorem ewC_in (z : List Nat) : ∀ (ws : List W) (p q : Nat), p ≤ z.length → ewC z ws p = some q → p ≤ q ∧ q ≤ z.length
  | [], p, q, h, e => by unfold ewC at e; cases e
  | w :: ws, p, q, h, e => by
    unfold ewC at e
    cases e2 : ew z w p with
    | none => rw [e2] at e; exact ewC_in z ws p q h e
    | some r => rw [e2] at e; cases e; exact ew_in z w p _ h e2
end
/-- rounds: one, then the rest -/
theorem ew_again (z : List Nat) (w : W) (p : Nat) (h : p ≤ z.length) : ew z (.again w) p = match ew z w p with | some q => if p < q then ew z (.again w) q else some p | none => some p := by
  have hf : ∀ p q, p ≤ z.length → (fun q => ew z w q) p = some q → p ≤ q ∧ q ≤ z.length := fun p q h e => ew_in z w p q h e
  conv => lhs; unfold ew
  rw [show z.length + 1 - p = (z.length - p) + 1 by omega]
  unfold ag
  cases e : ew z w p with
  | none => rfl
  | some q =>
    dsimp only
    have hq := ew_in z w p q h e
    split
    · conv => rhs; unfold ew
      rw [ag_more hf (z.length - p) (z.length + 1 - q) q hq.2 (by omega) (by omega)]
    · rfl
/-! ### tables of ends -/
def eI : Option Nat → Int
  | some n => (n : Nat)
  | none => -1
theorem eI_no (o : Option Nat) : decide (V.int (eI o) = V.int (-1)) = o.isNone := by
  cases o with
  | none => exact decide_eq_true rfl
  | some n => exact decide_eq_false fun h => by have := V.int.inj h; simp only [eI] at this; omega
theorem ewC_cons (z : List Nat) (w : W) (ws : List W) (p : Nat) : ewC z (w :: ws) p = match ew z w p with | some q => some q | none => ewC z ws p := by
  conv => lhs; unfold ewC
  all_goals (cases ew z w p <;> rfl)
theorem ix_nat {n j : Nat} (h : j < n) : ixN n ((j : Nat) : Int) = some j := by
  unfold ixN
  rw [if_pos (by omega), if_pos (by omega)]
  simp
theorem drop_at {α : Type} {l : List α} {i : Nat} {x : α} (h : l[i]? = some x) : l.drop i = x :: l.drop (i + 1) := by
  obtain ⟨hi, e⟩ := List.getElem?_eq_some_iff.mp h
  rw [List.drop_eq_getElem_cons hi, e]
/-! ### the table of a part -/
def sgn : Option Nat → Str
  | some c => sg c
  | none => Str.ofString ""
theorem cut1 (z : List Nat) (i : Nat) : cutS (tx z) (some ((i : Nat) : Int)) (some ((i : Int) + 1)) = sgn z[i]? := by
  unfold cutS
  have e : ((i : Int) + 1) = ((i + 1 : Nat) : Int) := by omega
  rw [e, HT.sIx_nat, HT.sIx_nat]
  have hl : (tx z).length = z.length := by simp [Str.length, tx]
  rw [hl]
  have ez : (tx z).cps.toList = z := by simp [tx]
  rw [ez]
  by_cases h : i < z.length
  · rw [Nat.min_eq_left (by omega), Nat.min_eq_left (by omega), show i + 1 - i = 1 by omega, List.getElem?_eq_getElem h, List.drop_eq_getElem_cons h]
    rfl
  · rw [Nat.min_eq_right (by omega), Nat.min_eq_right (by omega), List.getElem?_eq_none (by omega), Nat.sub_self]
    rfl
theorem sgn_eq (o : Option Nat) (c : Nat) : decide (V.str (sgn o) = V.str (sg c)) = decide (o = some c) := by
  cases o with
  | none =>
    rw [decide_eq_false (fun h => by have := V.str.inj h; revert this; show ¬ (Str.ofString "" = sg c); intro h; have := congrArg (fun s => s.cps.size) h; revert this; show ¬ ((Str.ofString "").cps.size = 1); decide +kernel), decide_eq_false (fun h => by cases h)]
  | some d =>
    by_cases h : d = c
    · subst h; exact (decide_eq_true rfl).trans (decide_eq_true rfl).symm
    · rw [decide_eq_false (fun e => h (by have := V.str.inj e; have := congrArg (fun s => s.cps[0]?) this; simpa [sgn, sg] using this)), decide_eq_false (fun e => h (Option.some.inj e))]
def iV (l : List Nat) : List V := l.map fun n => V.int (n : Nat)
theorem iV_at {l : List Nat} {j x : Nat} (h : l[j]? = some x) : (iV l)[j]? = some (.int (x : Nat)) := by unfold iV; rw [List.getElem?_map, h]; rfl
theorem iV_back {l : List Nat} {j : Nat} {v : V} (h : (iV l)[j]? = some v) : ∃ x, l[j]? = some x ∧ v = .int (x : Nat) := by
  unfold iV at h
  rw [List.getElem?_map] at h
  cases e : l[j]? with
  | none => rw [e] at h; cases h
  | some x => rw [e] at h; cases h; exact ⟨x, rfl, rfl⟩
theorem iV_snoc (l : List Nat) (v : Nat) : iV (l ++ [v]) = iV l ++ [.int (v : Nat)] := by simp [iV]
theorem get_lt {α : Type} {l : List α} {j : Nat} (h : j < l.length) : ∃ x, l[j]? = some x := ⟨_, List.getElem?_eq_getElem h⟩
end Tk
/-! defs that are called where no repr goes on: repr of data there -/
namespace Gd
open PySem PySem.Spec PyProof.Rows L2 Wv
/-- as FnOk, but called only where nothing is being shown -/
structure FnG (P : Program) (w : World) (K : PySem.W.Frag) (mg : Str → Option Value) (base : Heap) (k : Nat) (f : Addr) (fd : FuncData) (ps : List Str) (sp : Sp) : Prop where
  len : ∀ vs H Q E, sp vs H Q E → vs.length = ps.length
  run : ∀ (A : Around) (outer : List Env) (s : Shared) (H : Hp) (args : Args) (us : List Value) (vs : List V) (Q : VK) (E : XK), A.guards = some [] → Room k A → Env0 P w K mg base A outer s H → BindsTo s fd args (ps.zip us) → Vals vs us → sp vs H Q E → codeAny (model P w) A (.call (.ref f) args) (CR CX0 outer P w H s Q E) s
section
variable {P : Program} {w : World} {K : PySem.W.Frag} {mg : Str → Option Value} {base : Heap}
theorem fnG_of {k : Nat} {f : Addr} {x qual : Str} {st : Stmt} {fd : FuncData} {N ps : List Str} {sp : Sp} (F : Fun K x qual st f fd) (S : FnScope N ps (defScope st)) (len : ∀ vs H Q E, sp vs H Q E → vs.length = ps.length)
    (hbody : ∀ (cdv : Value) (A : Around) (outer : List Env) (s : Shared) (H : Hp) (vs : List V) (Q : VK) (E : XK), A.guards = some [] → Room k (A.deeper (envOfC qual (defScope st) s.heap.objs.size f cdv)) → sp vs H Q E →
      ∃ t, PSs (cxOf CX0 P w K mg base N qual (defScope st) f cdv A outer s H E).nox (defBody st) t ∧ t { nx := fun _ H' => Q .non H', rt := Q } (start N vs) H) : FnG P w K mg base (k + 1) f fd ps sp := by
  obtain ⟨oc, od, kV, doc, pm, an, cdv, ct, osl, rfl, lk, hcd⟩ := F.ex
  refine ⟨len, fun A outer s H args us vs Q E hg hr e0 hb r hsp => ?_⟩
  have hl := len _ _ _ _ hsp
  have KX : K.In s.heap := e0.mod.kin.keeps fun b o e => (e0.bs b o e).1
  have kinds : ∀ y ∈ ps.zip us, (defScope st).names.lookup y.1 = some .local ∨ ((defScope st).names.lookup y.1 = some .cell ∧ ((cellsFrom (s.heap.objs.size + 1) (defScope st).names []).lookup y.1).isSome = true) := by
    rintro ⟨n, v⟩ hy
    exact (S.par n (List.of_mem_zip hy).1).imp id fun q => ⟨q, PySem.W.cellsFrom_some _ _ _ (.inl q)⟩
  refine codeAny_call_function hr.depth (KX _ _ lk) rfl S.co S.gen rfl (PySem.W.codeRec_of KX hcd) (hb _ _ _ _ (wpAny_newFunctionEnv_cells S.kind kinds fun env he s1 x => ?_))
  subst he
  refine ⟨(e0.mod.nolimit.keeps fun b o e => (e0.bs b o e).1).keeps x.toInCall.keep, codeAny_func ?_⟩
  obtain ⟨t, ht, hq⟩ := hbody cdv A outer s H vs Q E hg (hr.deeper _) hsp
  refine wpAny_mono (ht.nox.run [] s1 (start N vs) H _ (inv_start S hr.hd e0 hl r x) hq) (fun fl s' hs => ?_) fun e s' hs => hs
  cases fl with
  | ret u => obtain ⟨v, σ', H', J, rv, q⟩ := hs; exact ⟨v, H', J.os, J.bare, J.base, J.hok, rv, q⟩
  | next => obtain ⟨σ', H', J, q⟩ := hs; exact ⟨.non, H', J.os, J.bare, J.base, J.hok, rfl, q⟩
  | brk => obtain ⟨_, _, _, q⟩ := hs; exact False.elim q
  | cont => obtain ⟨_, _, _, q⟩ := hs; exact False.elim q
structure DefG (P : Program) (w : World) (K : PySem.W.Frag) (mg : Str → Option Value) (base : Heap) (k : Nat) (x : Str) (ps : List Str) (sp : Sp) : Prop where
  ex : ∃ (f : Addr) (fd : FuncData), mg x = some (.ref f) ∧ PySem.W.keepIn K (.ref f) = true ∧ Binds K fd ps [] ∧ FnG P w K mg base k f fd ps sp
theorem Here.okG {x : Str} {st : Stmt} {N ps : List Str} {k : Nat} {sp : Sp} (h : Here K mg x st ps) (S : FnScope N ps (defScope st)) (len : ∀ vs H Q E, sp vs H Q E → vs.length = ps.length)
    (hbody : ∀ (f : Addr) (cdv : Value) (A : Around) (outer : List Env) (s : Shared) (H : Hp) (vs : List V) (Q : VK) (E : XK), A.guards = some [] → Room k (A.deeper (envOfC x (defScope st) s.heap.objs.size f cdv)) → sp vs H Q E →
      ∃ t, PSs (cxOf CX0 P w K mg base N x (defScope st) f cdv A outer s H E).nox (defBody st) t ∧ t { nx := fun _ H' => Q .non H', rt := Q } (start N vs) H) : DefG P w K mg base (k + 1) x ps sp := by
  obtain ⟨f, fd, F, m, b⟩ := h.ex
  exact ⟨f, fd, m, F.kp, b, fnG_of F S len fun cdv A outer s H vs Q E hg hr q => hbody f cdv A outer s H vs Q E hg hr q⟩
end
section
variable {X : Cx} {k : Nat} {x : Str} {ps : List Str} {sp : Sp} {e : Expr} {es : List Expr} {t : TA} {p pos : Pos}
theorem pe_callG (G : DefG X.prog X.w X.K X.mg X.base k x ps sp) (hgd : X.A.guards = some []) (hr : Room k X.A) (hg : Gl X x) (ha : PA X (e :: es) t) (hdb : (x == ("__debug__" : Str)) = false := by decide)
    (he : starEach (e :: es) X.env = (false, eval e X.env) :: starEach es X.env := by rfl) (hpl : (backTo pos (starEach es X.env)).any (·.1) = false := by rfl) : PE X (.Call (.Name x p) (e :: es) [] pos) (tCall sp [] E0 t) := by
  obtain ⟨f, fd, m, kp, hb, F⟩ := G.ex
  refine ⟨fun pins s σ H Q I h => wpAny_Call_Name_kw (ld_glob I hg m ?_ hdb)⟩
  refine PySem.W.callWith_K (h₀ := X.base) I.ok.mod.kin kp (thn (ha.run pos pins s σ H _ I h) fun us s1 ⟨vs, H1, I1, r, q⟩ => ⟨I1.kIn, ?_⟩) he hpl
  have r2 : Vals (vs ++ []) (us ++ []) := r.append .nil
  have hl : (us ++ []).length = ps.length := by rw [← r2.length]; exact F.len _ _ _ _ q
  refine wpAny_call (codeAny_mono (F.run X.A X.stack s1 H1 ⟨us, []⟩ (us ++ []) (vs ++ []) Q E0 hgd hr I1.env0 (hb s1 us I1.kIn hl) r2 q) fun r s' hq => ?_)
  cases r with
  | error e => exact pass0 (X := X) pins σ H1 s1 e s' I1 hq
  | ok fl =>
    cases fl with
    | ret u => exact I1.after hq
    | next => exact False.elim hq
    | brk => exact False.elim hq
    | cont => exact False.elim hq
theorem op_in_seqK {X : Cx} {K : PySem.W.Frag} (h : X.K = K) : OpR X (compareOp .In) (rIn K false) := h ▸ op_in_seq
theorem op_notIn_seqK {X : Cx} {K : PySem.W.Frag} (h : X.K = K) : OpR X (compareOp .NotIn) (rIn K true) := h ▸ op_notIn_seq
/-- repr(x) of a list or tuple of data, of an int, of None -/
def rRepr (K : PySem.W.Frag) : List V → Hp → VK → Prop := fun xs H Q => ∃ x : V, xs = [x] ∧ ((∃ d : PyData, Dp K H x d ∧ PyProof.Rows.isDisplay d = true ∧ d.showable = true ∧ d.hasDict = false ∧ d.depth ≤ 60 ∧ d.shown.length ≤ sizeLine ∧ Q (.str d.shown) H) ∨
  (∃ i : Int, x = .int i ∧ i.natAbs.log2 < 1920 ∧ Q (.str (toString i)) H) ∨ (x = .non ∧ Q (.str "None") H))
theorem call_repr (hg : X.A.guards = some []) (hr : Room k X.A) : CallR X (.builtin "repr") (rRepr X.K) := by
  intro pins s σ H xs us Q I r h
  obtain ⟨x, rfl, h⟩ := h
  obtain ⟨u, rfl, ru⟩ := r.one
  rcases h with ⟨d, hd, h1, h2, h3, h4, h5, q⟩ | ⟨i, rfl, hz, q⟩ | ⟨rfl, q⟩
  · obtain ⟨as, r1⟩ := Dp.reads I d x u hd ru
    obtain ⟨a, rfl⟩ := PyProof.Rows.isRef_of_reads r1 h1
    exact repr_of_reads' r1 h2 (PyData.noDict_hsm h3) hg (by have := hr.un; omega) (fun _ _ e => e) (fun h' u tk hk => ⟨.str d.shown, H, I.kept hk, ⟨_, rfl⟩, q⟩) h5
  · obtain ⟨t, rfl⟩ := ru
    exact PySem.P.repr_of_int hz ⟨.str _, H, I.tok _, ⟨_, rfl⟩, q⟩
  · cases ru
    exact PySem.P.repr_of_none ⟨.str _, H, I.tok _, ⟨_, rfl⟩, q⟩
end
end Gd
/-! the law's own call, where nothing is being shown -/
namespace Gd
open PySem PySem.Spec PyProof.Rows L2 Wv
section
variable {P : Program} {w : World} {K : PySem.W.Frag} {mg mb : Str → Option Value} {k : Nat} {fa a : Addr} {fd : FuncData} {x : Str} {sp : Sp} {s₁ : Shared} {vs : List Value} {ns : List Int}
abbrev Good (s₁ : Shared) (r : Result) (s' : Shared) : Prop := r = .ok (.ret (.bool true)) ∧ OldK s₁.heap s'.heap ∧ s'.os = s₁.os ∧ AllBare s'.gens
/-- from an abstract heap that tracks nothing but, perhaps, the script -/
theorem from_heap {H : Hp} (KX : K.In s₁.heap) (hns : s₁.heap.Ns mainGlobals mg) (hb : s₁.heap.Ns builtinsNs mb) (hbb : ∀ x : Str, x ≠ "__name__" → mb x = bootBuiltins x) (hlim : s₁.heap.NoLimit) (hg : s₁.gens = #[])
    (ha : s₁.heap.get? a = some { cls := .type "list", data := .seq vs.toArray }) (hr : Room k callerA) (F : ∀ base : Heap, K.In base → base.Ns mainGlobals mg → FnG P w K mg base k fa fd [x] sp) (hbind : ∀ (s : Shared) (u : Value), BindsTo s fd ⟨[u], []⟩ [(x, u)])
    (hO : Only H) (hok : HOk P w H s₁.heap) (hA : ∀ b, H b ≠ none → b = a) (hK : H a ≠ none → K.lookup a = none) (hsp : sp [.ref a] H (fun v _ => v = .bl true) fun _ _ _ => False) : codeAny (model P w) callerA (.call (.ref fa) ⟨[.ref a], []⟩) (Good s₁) s₁ := by
  have noD : ∀ {b : Addr} {o : Obj} {es : Array DictEntry} {ep : Nat}, s₁.heap.get? b = some o → o.data = .dict es ep → H b = none := by
    intro b o es ep e d
    refine Classical.byContradiction fun q => ?_
    have e' := hA b q
    subst e'
    rw [ha] at e
    cases e
    exact nomatch (show Data.seq vs.toArray _ = Data.dict es ep from d)
  have toK : ∀ {b : Addr} {m : Str → Option Value}, s₁.heap.Ns b m → (hidT s₁.heap H).Ns b m := by
    rintro b m ⟨o, es, ep, e, d, r⟩
    exact ⟨o, es, ep, hidT_get e (noD e d), d, r⟩
  have KB : K.In (hidT s₁.heap H) := by
    intro b o e
    refine hidT_get (KX b o e) (Classical.byContradiction fun q => ?_)
    have e' := hA b q
    subst e'
    rw [hK q] at e
    cases e
  have M : Mod K mg (hidT s₁.heap H) := by
    obtain ⟨mc, h1, h2⟩ := hlim
    exact ⟨KB, toK hns, ⟨mb, toK hb, hbb⟩, mc, toK h1, h2⟩
  have E : Env0 P w K mg (hidT s₁.heap H) callerA [] s₁ H := by
    refine ⟨rfl, M, fun b o e => of_hidT e, Nat.le_of_eq (hidT_size _ _), trivial, ?_, hok, .of_eq hg⟩
    intro b hb
    cases hb
  refine codeAny_mono ((F _ KB (toK hns)).run callerA [] s₁ H ⟨[.ref a], []⟩ [.ref a] [.ref a] _ _ rfl hr E (hbind s₁ (.ref a)) (.cons rfl .nil) hsp) ?_
  rintro (e | fl) s' h
  · exact h.elim
  cases fl
  case ret u =>
    obtain ⟨v, H', os, bare, un, hok', r', q⟩ := h
    cases (show v = .bl true from q)
    cases r'
    refine ⟨rfl, OldK.of_keep fun b o e => ?_, os, bare⟩
    rcases hO b with z | ⟨ob, ys, z⟩
    · have none_of : ∀ l : List Addr, l = [] → b ∉ l := fun l hl h => by rw [hl] at h; cases h
      exact un.keep b o e z (none_of _ rfl) (none_of _ rfl)
    · have e1 := (hok b _ z).1
      have e2 := (hok' b _ (un.frzs b ob _ z)).1
      rw [e] at e1
      cases e1
      exact e2
  all_goals exact False.elim h
theorem law_callG (KX : K.In s₁.heap) (hns : s₁.heap.Ns mainGlobals mg) (hb : s₁.heap.Ns builtinsNs mb) (hbb : ∀ x : Str, x ≠ "__name__" → mb x = bootBuiltins x) (hlim : s₁.heap.NoLimit) (hg : s₁.gens = #[]) (ha : s₁.heap.get? a = some { cls := .type "list", data := .seq vs.toArray })
    (hi : IntsAre vs ns) (hl : ns.length ≤ sizeLine) (hr : Room k callerA) (F : ∀ base : Heap, K.In base → base.Ns mainGlobals mg → FnG P w K mg base k fa fd [x] sp) (hbind : ∀ (s : Shared) (u : Value), BindsTo s fd ⟨[u], []⟩ [(x, u)])
    (hsp : ∀ H : Hp, SqL K H a (ns.map V.int) → sp [.ref a] H (fun v _ => v = .bl true) fun _ _ _ => False) : codeAny (model P w) callerA (.call (.ref fa) ⟨[.ref a], []⟩) (Good s₁) s₁ := by
  have rv : Vals (ns.map V.int) vs := vals_ints hi
  have lenV := hi.length
  by_cases hk : K.lookup a = none
  · let H : Hp := fun b => if b = a then some (.frz { cls := .type "list", data := .seq vs.toArray } (.lst (ns.map V.int))) else none
    have at_ : H a = some (.frz { cls := .type "list", data := .seq vs.toArray } (.lst (ns.map V.int))) := if_pos rfl
    have off : ∀ b, b ≠ a → H b = none := fun b h => if_neg h
    refine from_heap (H := H) KX hns hb hbb hlim hg ha hr F hbind (fun b => ?_) (fun b u z => ?_) (fun b z => Classical.byContradiction fun h => z (off b h)) (fun _ => hk) (hsp H (.inl (.inr ⟨_, at_⟩)))
    · by_cases h : b = a
      · subst h; exact .inr ⟨_, _, at_⟩
      · exact .inl (off b h)
    · by_cases h : b = a
      · subst h
        rw [at_] at z
        cases z
        exact ⟨ha, by rw [List.length_map]; exact hl, vs, _, rv, ha⟩
      · rw [off b h] at z
        cases z
  · obtain ⟨o, ho⟩ := Option.ne_none_iff_exists'.mp hk
    have e := KX a o ho
    rw [ha] at e
    cases e
    exact from_heap (H := fun _ => none) KX hns hb hbb hlim hg ha hr F hbind (fun _ => .inl rfl) (fun b u z => by cases z) (fun b z => absurd rfl z) (fun z => absurd rfl z) (hsp _ (.inr ⟨_, vs.toArray, _, ho, rfl, rfl, rfl, by rw [List.size_toArray, lenV]; exact hl, by simpa using rv⟩))
end
theorem walkG {l : PySem.W.OpenLaw} {n k : Nat} {q : Program} {loose : List Str} {XP : (Str → Option Value) → Heap → Prop} {YP : World → Heap → Prop} {d : DefRec} {K : Params → PySem.W.Frag} {sp : PySem.W.Frag → Sp} {x : Str} (hn : l.most = some n) (hn2 : n ≤ sizeLine) (hdf : d.params.defaults = [])
    (hr : Room k callerA) (hY : ∀ (w : World) (h : Heap), YP w h → (K w.params).In h) (F : ∀ (w : World) (mg : Str → Option Value) (fa : Addr) (h : Heap), (K w.params).In h → h.Ns mainGlobals mg → mg d.name = some (.ref fa) →
      ∃ fd : FuncData, (∀ (s : Shared) (u : Value), BindsTo s fd ⟨[u], []⟩ [(x, u)]) ∧ ∀ base : Heap, (K w.params).In base → base.Ns mainGlobals mg → FnG l.prog w (K w.params) mg base k fa fd [x] (sp (K w.params)))
    (hsp : ∀ (K : PySem.W.Frag) (H : Hp) (a : Addr) (ns : List Int), ns.length ≤ n → SqL K H a (ns.map V.int) → sp K [.ref a] H (fun v _ => v = .bl true) fun _ _ _ => False) : PySem.W.WalkO q loose XP YP l.row.toRowW d [] (fun f vs => PySem.call f vs) := by
  refine Att.attach_call hn hdf ?_
  intro w s₀ s₁ mg mb fa o pm cd doc a vs ns G Y ho hd hcd hmg hobj hints hlen hg
  obtain ⟨fd, hb, hF⟩ := F w mg fa _ (hY w _ Y) G.T.g hmg
  exact law_callG (hY w _ Y) G.T.g G.T.b G.T.builtins G.T.nolimit hg hobj hints (Nat.le_trans hlen hn2) hr hF hb fun H hS => hsp _ H a ns hlen hS
end Gd
/-! x[::-1] of a text -/
namespace Rk
open PySem PySem.Spec PyProof.Rows L2 Wv
def revS (z : Str) : Str := ⟨z.cps.toList.reverse.toArray⟩
def tRevS (te : TE) : TE := fun σ H Q => te σ H fun x H1 => ∃ z, x = .str z ∧ z.length ≤ sizeLine ∧ Q (.str (revS z)) H1
theorem idx_back (z : Str) : ((Builtin.Str.strSliceIndices none none (-1) z.length).filterMap (z.cps[·]?)).toArray = (revS z).cps := by
  show ((sliceRange ((z.cps.size : Int) - 1) (-1) (-1)).filterMap (z.cps[·]?)).toArray = _
  rw [PySem.W.krv_sliceRange, PySem.W.krv_range, List.filterMap_reverse, PySem.W.krv_all]
  rfl
section
variable {X : Cx}
theorem pe_revS {e : Expr} {te : TE} {k : Nat} {p1 p2 p3 pos : Pos} (he : PE X e te) : PE X (.Subscript e (.Slice none none (some (.UnaryOp .USub (.Constant (.int 1) k p1) p2)) p3) pos) (tRevS te) := by
  refine ⟨fun pins s σ H Q I h => ?_⟩
  refine Subscript_ (thn (he.run pins s σ H _ I h) fun v s1 ⟨x, H1, I1, r1, q1⟩ => ?_)
  obtain ⟨z, ex, hz, q⟩ := q1
  subst ex
  obtain ⟨t, rfl⟩ := r1
  have hst : PO X (some (.UnaryOp .USub (.Constant (.int 1) k p1) p2)) (tPart (tUn (rU fun i => .int (-i)) (tC (.int 1)))) := po_some (pe_un un_neg pe_int)
  refine wpAny_Slice (thn (po_none.run pins s1 σ H1 (fun o H2 => o = none ∧ H2 = H1) I1 ⟨rfl, rfl⟩) fun vl s2 ⟨l, H2, I2, pl, el, e2⟩ => ?_)
  subst el e2
  refine thn (po_none.run pins s2 σ H2 (fun o H3 => o = none ∧ H3 = H2) I2 ⟨rfl, rfl⟩) fun vu s3 ⟨u, H3, I3, pu, eu, e3⟩ => ?_
  subst eu e3
  refine thn (hst.run pins s3 σ H3 (fun o H4 => o = some (-1) ∧ H4 = H3) I3 ⟨1, rfl, -1, rfl, rfl, rfl⟩) fun vs s4 ⟨o, H4, I4, ps, eo, e4⟩ => ?_
  subst eo e4
  cases pl
  cases pu
  generalize hv : (-1 : Int) = mi at ps
  cases ps with
  | int i tk =>
    subst hv
    have I5 : Inv X pins σ H4 { s4 with heap := s4.heap.push { cls := .type "slice", data := .fields #[.none, .none, .int (-1) tk] } } := I4.kept (t' := s4.toks) fun b ob q => Heap.get?_push_of_some _ q
    show wpAny (model X.prog X.w) X.A (subscriptTail e (.Slice none none (some (.UnaryOp .USub (.Constant (.int 1) k p1) p2)) p3) (.str z t) (.ref s4.heap.objs.size)) (EP X pins σ Q) X.xe { s4 with heap := s4.heap.push { cls := .type "slice", data := .fields #[.none, .none, .int (-1) tk] } }
    refine tail_any (ops := [.ref s4.heap.objs.size, .str z t]) (typeIs_str _ _ _) F.slot_str_getitem.lookup ?_ (by with_unfolding_all rfl)
    obtain ⟨os, hos, hcs, hds⟩ := Heap.IsSliceOf.new s4.heap .none .none (.int (-1) tk)
    refine wpAny_getItem_str_slice (l := none) (u := none) (st := some (-1, tk)) ⟨os, hos, hcs, hds⟩ rfl ?_
    show Made.post (if ((-1 : Int) == 1 && (Builtin.Str.strSliceIndices none none (-1) z.length).length == z.length) = true then Made.val (.str z t)
      else Made.str ⟨((Builtin.Str.strSliceIndices none none (-1) z.length).filterMap (z.cps[·]?)).toArray⟩) (EP X pins σ Q) _
    rw [if_neg (by simp), idx_back]
    exact ⟨by show (revS z).cps.size ≤ sizeLine; unfold revS; rw [List.size_toArray, List.length_reverse, Array.length_toList]; exact hz, .str (revS z), H4, I5.tok _, ⟨_, rfl⟩, q⟩
end
end Rk
namespace Rk
open PySem PySem.Spec PyProof.Rows L2 Wv Tk
/-! ### the parts of a way with what is around them -/
/-- what is around a part, the nearest first: the number of that part, and what is needed of it -/
inductive Fr where
  | row (i n : Nat) (rest : List W)
  | choice (i : Nat) (last : Bool)
  | again (i : Nat) (y : W)
  | maybe (i : Nat)
  | look (i : Nat)
def Fr.num : Fr → Nat
  | .row i _ _ => i | .choice i _ => i | .again i _ => i | .maybe i => i | .look i => i
def Fr.isLook : Fr → Bool
  | .look _ => true
  | _ => false
/-- whether a part is tried -/
def trd : List Fr → Bool
  | [] => true
  | .row _ _ _ :: _ => false
  | .choice _ last :: _ => !last
  | _ :: _ => true
/-- one more than the number of the tried parts around it -/
def ard : List Fr → Nat
  | [] => 1
  | _ :: fs => ard fs + (if trd fs then 1 else 0)
mutual
def layW : Nat → List Fr → W → List (W × List Fr)
  | n, fs, .row ws => (.row ws, fs) :: layR n (n + 1) fs ws
  | n, fs, .choice ws => (.choice ws, fs) :: layC n (n + 1) fs ws
  | n, fs, .again y => (.again y, fs) :: layW (n + 1) (.again n y :: fs) y
  | n, fs, .maybe y => (.maybe y, fs) :: layW (n + 1) (.maybe n :: fs) y
  | n, fs, .ahead y => (.ahead y, fs) :: layW (n + 1) (.look n :: fs) y
  | n, fs, .unless y => (.unless y, fs) :: layW (n + 1) (.look n :: fs) y
  | _, fs, .letter c => [(.letter c, fs)]
  | _, fs, .one => [(.one, fs)]
  | _, fs, .nothing => [(.nothing, fs)]
  | _, fs, .call x => [(.call x, fs)]
def layR : Nat → Nat → List Fr → List W → List (W × List Fr)
  | _, _, _, [] => []
  | i, n, fs, y :: ws => layW n (.row i (n + y.size) ws :: fs) y ++ layR i (n + y.size) fs ws
def layC : Nat → Nat → List Fr → List W → List (W × List Fr)
  | _, _, _, [] => []
  | i, n, fs, y :: ws => layW n (.choice i ws.isEmpty :: fs) y ++ layC i (n + y.size) fs ws
end
mutual
theorem layW_len : ∀ (w : W) (n : Nat) (fs : List Fr), (layW n fs w).length = w.size
  | .row ws, n, fs => by rw [layW, List.length_cons, layR_len, W.size]; omega
  | .choice ws, n, fs => by rw [layW, List.length_cons, layC_len, W.size]; omega
  | .again y, n, fs => by rw [layW, List.length_cons, layW_len y, W.size]; omega
  | .maybe y, n, fs => by rw [layW, List.length_cons, layW_len y, W.size]; omega
  | .ahead y, n, fs => by rw [layW, List.length_cons, layW_len y, W.size]; omega
  | .unless y, n, fs => by rw [layW, List.length_cons, layW_len y, W.size]; omega
  | .letter c, n, fs => by rw [layW]; rfl
  | .one, n, fs => by rw [layW]; rfl
  | .nothing, n, fs => by rw [layW]; rfl
  | .call x, n, fs => by rw [layW]; rfl
theorem layR_len : ∀ (ws : List W) (i n : Nat) (fs : List Fr), (layR i n fs ws).length = W.sizes ws
  | [], i, n, fs => by rw [layR]; rfl
  | y :: ws, i, n, fs => by rw [layR, List.length_append, layW_len y, layR_len ws, W.sizes]
theorem layC_len : ∀ (ws : List W) (i n : Nat) (fs : List Fr), (layC i n fs ws).length = W.sizes ws
  | [], i, n, fs => by rw [layC]; rfl
  | y :: ws, i, n, fs => by rw [layC, List.length_append, layW_len y, layC_len ws, W.sizes]
end
/-- where a list stands in another -/
def Has {α : Type} (l : List α) (n : Nat) (m : List α) : Prop := ∃ pre post, l = pre ++ m ++ post ∧ pre.length = n
theorem Has.cons {α : Type} {l m : List α} {n : Nat} {x : α} (h : Has l n (x :: m)) : l[n]? = some x ∧ Has l (n + 1) m := by
  obtain ⟨pre, post, e, hl⟩ := h
  subst e
  refine ⟨?_, pre ++ [x], post, by simp, by simp [hl]⟩
  rw [List.append_assoc, List.getElem?_append_right (by omega), hl, Nat.sub_self]
  rfl
theorem Has.app {α : Type} {l m k : List α} {n : Nat} (h : Has l n (m ++ k)) : Has l n m ∧ Has l (n + m.length) k := by
  obtain ⟨pre, post, e, hl⟩ := h
  subst e
  exact ⟨⟨pre, k ++ post, by simp, hl⟩, ⟨pre ++ m, post, by simp, by simp [hl]⟩⟩
/-- the parts of ways one behind the other -/
def layF : Nat → List W → List (W × List Fr)
  | _, [] => []
  | n, y :: ws => layW n [] y ++ layF (n + y.size) ws
theorem layF_len : ∀ (ws : List W) (n : Nat), (layF n ws).length = W.sizes ws
  | [], n => by rw [layF]; rfl
  | y :: ws, n => by rw [layF, List.length_append, layW_len y, layF_len ws, W.sizes]
theorem layF_app : ∀ (a b : List W) (n : Nat), layF n (a ++ b) = layF n a ++ layF (n + W.sizes a) b
  | [], b, n => rfl
  | y :: a, b, n => by rw [List.cons_append, layF, layF, layF_app a b, W.sizes, List.append_assoc, Nat.add_assoc]
theorem layW_eq (n : Nat) (fs : List Fr) (w : W) : ∃ t, layW n fs w = (w, fs) :: t := by
  cases w <;> exact ⟨_, by rw [layW]⟩
/-- part i of the way w -/
def At (w : List W) (i : Nat) (x : W) (fs : List Fr) : Prop := Has (layF 0 w) i (layW i fs x)
section
variable {w : List W} {x y : W} {i n : Nat} {fs : List Fr} {ws pre post : List W}
theorem at_root (pre : List W) (y : W) (post : List W) : At (pre ++ y :: post) (W.sizes pre) y [] := ⟨layF 0 pre, layF (0 + W.sizes pre + y.size) post, by rw [layF_app, layF, Nat.zero_add, List.append_assoc], layF_len pre 0⟩
theorem At.get (h : At w i x fs) : (layF 0 w)[i]? = some (x, fs) := by
  obtain ⟨t, e⟩ := layW_eq i fs x
  unfold At at h
  rw [e] at h
  exact h.cons.1
theorem At.lt (h : At w i x fs) : i + x.size ≤ W.sizes w := by
  obtain ⟨p, q, e, hl⟩ := h
  have := congrArg List.length e
  rw [List.length_append, List.length_append, layW_len, layF_len] at this
  omega
theorem At.again (h : At w i (.again y) fs) : At w (i + 1) y (.again i y :: fs) := by unfold At at *; rw [layW] at h; exact h.cons.2
theorem At.maybe (h : At w i (.maybe y) fs) : At w (i + 1) y (.maybe i :: fs) := by unfold At at *; rw [layW] at h; exact h.cons.2
theorem At.ahead (h : At w i (.ahead y) fs) : At w (i + 1) y (.look i :: fs) := by unfold At at *; rw [layW] at h; exact h.cons.2
theorem At.unless (h : At w i (.unless y) fs) : At w (i + 1) y (.look i :: fs) := by unfold At at *; rw [layW] at h; exact h.cons.2
/-- a row's ways from some on -/
def AtR (w : List W) (i n : Nat) (fs : List Fr) (ws : List W) : Prop := Has (layF 0 w) n (layR i n fs ws)
def AtC (w : List W) (i n : Nat) (fs : List Fr) (ws : List W) : Prop := Has (layF 0 w) n (layC i n fs ws)
theorem At.row (h : At w i (.row ws) fs) : AtR w i (i + 1) fs ws := by unfold At at h; unfold AtR; rw [layW] at h; exact h.cons.2
theorem At.choice (h : At w i (.choice ws) fs) : AtC w i (i + 1) fs ws := by unfold At at h; unfold AtC; rw [layW] at h; exact h.cons.2
theorem AtR.cons (h : AtR w i n fs (y :: ws)) : At w n y (.row i (n + y.size) ws :: fs) ∧ AtR w i (n + y.size) fs ws := by
  unfold AtR at *
  rw [layR] at h
  have := h.app
  rw [layW_len] at this
  exact this
theorem AtC.cons (h : AtC w i n fs (y :: ws)) : At w n y (.choice i ws.isEmpty :: fs) ∧ AtC w i (n + y.size) fs ws := by
  unfold AtC at *
  rw [layC] at h
  have := h.app
  rw [layW_len] at this
  exact this
end
/-! every number is one of a part -/
mutual
theorem at_of {w : List W} : ∀ (x : W) (i : Nat) (fs : List Fr), At w i x fs → ∀ k y gs, (layW i fs x)[k]? = some (y, gs) → At w (i + k) y gs
  | .letter c, i, fs, h, k, y, gs, e => by
    rw [layW] at e
    cases k with
    | zero => cases e; exact h
    | succ k => simp at e
  | .one, i, fs, h, k, y, gs, e => by
    rw [layW] at e
    cases k with
    | zero => cases e; exact h
    | succ k => simp at e
  | .nothing, i, fs, h, k, y, gs, e => by
    rw [layW] at e
    cases k with
    | zero => cases e; exact h
    | succ k => simp at e
  | .call x, i, fs, h, k, y, gs, e => by
    rw [layW] at e
    cases k with
    | zero => cases e; exact h
    | succ k => simp at e
  | .row ws, i, fs, h, k, y, gs, e => by
    rw [layW] at e
    cases k with
    | zero => cases e; exact h
    | succ k =>
      have := atR_of ws i (i + 1) fs h.row k y gs (by simpa using e)
      rw [show i + 1 + k = i + (k + 1) by omega] at this
      exact this
  | .choice ws, i, fs, h, k, y, gs, e => by
    rw [layW] at e
    cases k with
    | zero => cases e; exact h
    | succ k =>
      have := atC_of ws i (i + 1) fs h.choice k y gs (by simpa using e)
      rw [show i + 1 + k = i + (k + 1) by omega] at this
      exact this
  | .again u, i, fs, h, k, y, gs, e => by
    rw [layW] at e
    cases k with
    | zero => cases e; exact h
    | succ k =>
      have := at_of u (i + 1) _ h.again k y gs (by simpa using e)
      rw [show i + 1 + k = i + (k + 1) by omega] at this
      exact this
  | .maybe u, i, fs, h, k, y, gs, e => by
    rw [layW] at e
    cases k with
    | zero => cases e; exact h
    | succ k =>
      have := at_of u (i + 1) _ h.maybe k y gs (by simpa using e)
      rw [show i + 1 + k = i + (k + 1) by omega] at this
      exact this
  | .ahead u, i, fs, h, k, y, gs, e => by
    rw [layW] at e
    cases k with
    | zero => cases e; exact h
    | succ k =>
      have := at_of u (i + 1) _ h.ahead k y gs (by simpa using e)
      rw [show i + 1 + k = i + (k + 1) by omega] at this
      exact this
  | .unless u, i, fs, h, k, y, gs, e => by
    rw [layW] at e
    cases k with
    | zero => cases e; exact h
    | succ k =>
      have := at_of u (i + 1) _ h.unless k y gs (by simpa using e)
      rw [show i + 1 + k = i + (k + 1) by omega] at this
      exact this
theorem atR_of {w : List W} : ∀ (ws : List W) (i n : Nat) (fs : List Fr), AtR w i n fs ws → ∀ k y gs, (layR i n fs ws)[k]? = some (y, gs) → At w (n + k) y gs
  | [], i, n, fs, h, k, y, gs, e => by rw [layR] at e; simp at e
  | u :: ws, i, n, fs, h, k, y, gs, e => by
    rw [layR] at e
    by_cases c : k < u.size
    · rw [List.getElem?_append_left (by rw [layW_len]; exact c)] at e
      exact at_of u n _ h.cons.1 k y gs e
    · rw [List.getElem?_append_right (by rw [layW_len]; omega), layW_len] at e
      have := atR_of ws i (n + u.size) fs h.cons.2 _ y gs e
      rw [show n + u.size + (k - u.size) = n + k by omega] at this
      exact this
theorem atC_of {w : List W} : ∀ (ws : List W) (i n : Nat) (fs : List Fr), AtC w i n fs ws → ∀ k y gs, (layC i n fs ws)[k]? = some (y, gs) → At w (n + k) y gs
  | [], i, n, fs, h, k, y, gs, e => by rw [layC] at e; simp at e
  | u :: ws, i, n, fs, h, k, y, gs, e => by
    rw [layC] at e
    by_cases c : k < u.size
    · rw [List.getElem?_append_left (by rw [layW_len]; exact c)] at e
      exact at_of u n _ h.cons.1 k y gs e
    · rw [List.getElem?_append_right (by rw [layW_len]; omega), layW_len] at e
      have := atC_of ws i (n + u.size) fs h.cons.2 _ y gs e
      rw [show n + u.size + (k - u.size) = n + k by omega] at this
      exact this
end
theorem layF_get : ∀ (ws pre : List W) {k : Nat} {e : W × List Fr}, (layF (W.sizes pre) ws)[k]? = some e → ∃ a y post j, ws = a ++ y :: post ∧ k = W.sizes a + j ∧ (layW (W.sizes (pre ++ a)) [] y)[j]? = some e
  | [], pre, k, e, h => by rw [layF] at h; simp at h
  | u :: ws, pre, k, e, h => by
    rw [layF] at h
    by_cases c : k < u.size
    · rw [List.getElem?_append_left (by rw [layW_len]; exact c)] at h
      exact ⟨[], u, ws, k, rfl, by rw [W.sizes, Nat.zero_add], by rw [List.append_nil]; exact h⟩
    · rw [List.getElem?_append_right (by rw [layW_len]; omega), layW_len] at h
      have e2 : W.sizes pre + u.size = W.sizes (pre ++ [u]) := by rw [W.sizes_app, W.sizes, W.sizes]; rfl
      rw [e2] at h
      obtain ⟨a, y, post, j, q1, q2, q3⟩ := layF_get ws (pre ++ [u]) h
      exact ⟨u :: a, y, post, j, by rw [q1]; rfl, by rw [W.sizes]; omega, by rw [List.append_assoc] at q3; exact q3⟩
theorem at_iff {w : List W} {i : Nat} {x : W} {fs : List Fr} : At w i x fs ↔ (layF 0 w)[i]? = some (x, fs) := by
  refine ⟨At.get, fun h => ?_⟩
  obtain ⟨a, y, post, j, rfl, rfl, q⟩ := layF_get w [] (k := i) (e := (x, fs)) h
  exact at_of y (W.sizes a) [] (at_root a y post) j x fs q
theorem at_all {w : List W} {i : Nat} (h : i < W.sizes w) : ∃ x fs, At w i x fs := by
  have e : i < (layF 0 w).length := by rw [layF_len]; exact h
  refine ⟨((layF 0 w)[i]).1, ((layF 0 w)[i]).2, at_iff.mpr ?_⟩
  rw [List.getElem?_eq_getElem e]
theorem At.uniq {w : List W} {x y : W} {i : Nat} {fs gs : List Fr} (h : At w i x fs) (h2 : At w i y gs) : x = y ∧ fs = gs := by
  have := h.get.symm.trans h2.get
  simpa using this
end Rk
namespace Rk
open PySem PySem.Spec PyProof.Rows L2 Wv Tk
/-! ### what happens first, and how one goes on -/
/-- it fails, it ends and takes nothing, or a leaf takes a letter -/
inductive Fs where
  | fails
  | ends
  | leaf (i : Nat)
mutual
def fst (z : List Nat) (p : Nat) : Nat → W → Fs
  | n, .letter c => if z[p]? = some c then .leaf n else .fails
  | n, .one => if p < z.length then .leaf n else .fails
  | _, .nothing => .ends
  | _, .call _ => .fails
  | n, .row ws => fstR z p (n + 1) ws
  | n, .choice ws => fstC z p (n + 1) ws
  | n, .again y => if (ew z y p).isSome = true then fst z p (n + 1) y else .ends
  | n, .maybe y => if (ew z y p).isSome = true then fst z p (n + 1) y else .ends
  | _, .ahead y => if (ew z y p).isSome = true then .ends else .fails
  | _, .unless y => if (ew z y p).isSome = true then .fails else .ends
def fstR (z : List Nat) (p : Nat) : Nat → List W → Fs
  | _, [] => .ends
  | n, y :: ws => match fst z p n y with
    | .ends => fstR z p (n + y.size) ws
    | r => r
def fstC (z : List Nat) (p : Nat) : Nat → List W → Fs
  | _, [] => .fails
  | n, y :: ws => if ws.isEmpty = true ∨ (ew z y p).isSome = true then fst z p n y else fstC z p (n + y.size) ws
end
/-- where it all ends if what is within has ended at a place -/
def up (z : List Nat) : List Fr → Nat → Option Nat
  | [], p => some p
  | .row _ _ ws :: fs, p => match ewR z ws p with
    | some q => up z fs q
    | none => none
  | .again _ y :: fs, p => match ew z (.again y) p with
    | some q => up z fs q
    | none => none
  | .choice _ _ :: fs, p => up z fs p
  | .maybe _ :: fs, p => up z fs p
  | .look _ :: fs, p => up z fs p
def noLook (fs : List Fr) : Prop := ∀ f ∈ fs, f.isLook = false
theorem noLook.app {gs fs : List Fr} (h : noLook gs) (k : noLook fs) : noLook (gs ++ fs) := fun f hf => by
  rcases List.mem_append.mp hf with q | q
  · exact h f q
  · exact k f q
theorem noLook.nil : noLook [] := fun f h => (nomatch h)
theorem noLook.one {f : Fr} (h : f.isLook = false) : noLook [f] := fun g hg => by rw [List.mem_singleton] at hg; subst hg; exact h
theorem up_app (z : List Nat) : ∀ (gs fs : List Fr) (p : Nat), up z (gs ++ fs) p = match up z gs p with | some q => up z fs q | none => none
  | [], fs, p => rfl
  | .row _ _ ws :: gs, fs, p => by
    show (match ewR z ws p with | some q => up z (gs ++ fs) q | none => none) = _
    rw [up]
    cases ewR z ws p with
    | none => rfl
    | some q => exact up_app z gs fs q
  | .again _ y :: gs, fs, p => by
    show (match ew z (.again y) p with | some q => up z (gs ++ fs) q | none => none) = _
    rw [up]
    cases ew z (.again y) p with
    | none => rfl
    | some q => exact up_app z gs fs q
  | .choice _ _ :: gs, fs, p => up_app z gs fs p
  | .maybe _ :: gs, fs, p => up_app z gs fs p
  | .look _ :: gs, fs, p => up_app z gs fs p
theorem up_in (z : List Nat) : ∀ (gs : List Fr) (p q : Nat), p ≤ z.length → up z gs p = some q → p ≤ q ∧ q ≤ z.length
  | [], p, q, h, e => by cases e; exact ⟨Nat.le_refl _, h⟩
  | .row _ _ ws :: gs, p, q, h, e => by
    rw [up] at e
    cases c : ewR z ws p with
    | none => rw [c] at e; cases e
    | some r =>
      rw [c] at e
      have h1 := ewR_in z ws p r h c
      have h2 := up_in z gs r q h1.2 e
      omega
  | .again _ y :: gs, p, q, h, e => by
    rw [up] at e
    cases c : ew z (.again y) p with
    | none => rw [c] at e; cases e
    | some r =>
      rw [c] at e
      have h1 := ew_in z (.again y) p r h c
      have h2 := up_in z gs r q h1.2 e
      omega
  | .choice _ _ :: gs, p, q, h, e => up_in z gs p q h e
  | .maybe _ :: gs, p, q, h, e => up_in z gs p q h e
  | .look _ :: gs, p, q, h, e => up_in z gs p q h e
def Leaf (y : W) : Prop := y = .one ∨ ∃ c, y = .letter c
def FirstOk (w : List W) (z : List Nat) (p : Nat) (fs : List Fr) (o : Option Nat) : Fs → Prop
  | .ends => o = some p
  | .fails => o = none
  | .leaf s => ∃ y gs, At w s y (gs ++ fs) ∧ Leaf y ∧ noLook gs ∧ p < z.length ∧ o = up z gs (p + 1)
theorem ewR_cons (z : List Nat) (y : W) (ws : List W) (p : Nat) : ewR z (y :: ws) p = match ew z y p with | some q => ewR z ws q | none => none := by
  conv => lhs; unfold ewR
  all_goals (cases ew z y p <;> rfl)
theorem FirstOk.within {w : List W} {z : List Nat} {p : Nat} {f : Fr} {fs : List Fr} {o o' : Option Nat} (hf : f.isLook = false) (h1 : o = some p → o' = some p) (h2 : o = none → o' = none)
    (h3 : p < z.length → ∀ gs, o = up z gs (p + 1) → o' = up z (gs ++ [f]) (p + 1)) : ∀ {r : Fs}, FirstOk w z p (f :: fs) o r → FirstOk w z p fs o' r
  | .ends, h => h1 h
  | .fails, h => h2 h
  | .leaf s, ⟨y, gs, ha, hl, hn, hp, e⟩ => ⟨y, gs ++ [f], by rw [List.append_assoc]; exact ha, hl, hn.app (.one hf), hp, h3 hp gs e⟩
section
variable {w : List W} {z : List Nat}
mutual
theorem first_W : ∀ (x : W) (i : Nat) (fs : List Fr) (p : Nat), p ≤ z.length → At w i x fs → FirstOk w z p fs (ew z x p) (fst z p i x)
  | .letter c, i, fs, p, hp, h => by
    rw [fst, show ew z (.letter c) p = if z[p]? = some c then some (p + 1) else none by conv => lhs; unfold ew]
    by_cases e : z[p]? = some c
    · rw [if_pos e, if_pos e]
      exact ⟨.letter c, [], h, .inr ⟨c, rfl⟩, .nil, (List.getElem?_eq_some_iff.mp e).1, rfl⟩
    · rw [if_neg e, if_neg e]; rfl
  | .one, i, fs, p, hp, h => by
    rw [fst, show ew z .one p = if p < z.length then some (p + 1) else none by conv => lhs; unfold ew]
    by_cases e : p < z.length
    · rw [if_pos e, if_pos e]
      exact ⟨.one, [], h, .inl rfl, .nil, e, rfl⟩
    · rw [if_neg e, if_neg e]; rfl
  | .nothing, i, fs, p, hp, h => by
    rw [fst, show ew z .nothing p = some p by conv => lhs; unfold ew]; rfl
  | .call x, i, fs, p, hp, h => by
    rw [fst, show ew z (.call x) p = none by conv => lhs; unfold ew]; rfl
  | .row ws, i, fs, p, hp, h => by
    rw [fst, show ew z (.row ws) p = ewR z ws p by conv => lhs; unfold ew]
    exact first_R ws i (i + 1) fs p hp h.row
  | .choice ws, i, fs, p, hp, h => by
    rw [fst, show ew z (.choice ws) p = ewC z ws p by conv => lhs; unfold ew]
    exact first_C ws i (i + 1) fs p hp h.choice
  | .again y, i, fs, p, hp, h => by
    rw [fst]
    have hag := ew_again z y p hp
    have ih := first_W y (i + 1) _ p hp h.again
    cases e : ew z y p with
    | none =>
      rw [e] at hag
      rw [if_neg (by simp), hag]
      rfl
    | some q =>
      rw [if_pos (by simp)]
      refine FirstOk.within (f := .again i y) rfl (fun c => ?_) (fun c => ?_) (fun hp1 gs c => ?_) ih
      · rw [c] at hag; dsimp only at hag; rw [if_neg (Nat.lt_irrefl _)] at hag; exact hag
      · rw [e] at c; cases c
      · rw [e] at hag c
        dsimp only at hag
        have hq := up_in z gs (p + 1) q (by omega) c.symm
        rw [if_pos (by omega)] at hag
        rw [up_app, ← c]
        show ew z (.again y) p = match ew z (.again y) q with | some q => some q | none => none
        rw [hag]
        cases ew z (.again y) q <;> rfl
  | .maybe y, i, fs, p, hp, h => by
    rw [fst, show ew z (.maybe y) p = some ((ew z y p).getD p) by conv => lhs; unfold ew]
    have ih := first_W y (i + 1) _ p hp h.maybe
    cases e : ew z y p with
    | none => rw [if_neg (by simp)]; rfl
    | some q =>
      rw [if_pos (by simp)]
      rw [e] at ih
      refine FirstOk.within (f := .maybe i) rfl (fun c => c) (fun c => by cases c) (fun hp1 gs c => ?_) ih
      rw [up_app, ← c]
      rfl
  | .ahead y, i, fs, p, hp, h => by
    rw [fst, show ew z (.ahead y) p = if (ew z y p).isSome = true then some p else none by conv => lhs; unfold ew]
    by_cases e : (ew z y p).isSome = true
    · rw [if_pos e, if_pos e]; rfl
    · rw [if_neg e, if_neg e]; rfl
  | .unless y, i, fs, p, hp, h => by
    rw [fst, show ew z (.unless y) p = if (ew z y p).isSome = true then none else some p by conv => lhs; unfold ew]
    by_cases e : (ew z y p).isSome = true
    · rw [if_pos e, if_pos e]; rfl
    · rw [if_neg e, if_neg e]; rfl
theorem first_R : ∀ (ws : List W) (i n : Nat) (fs : List Fr) (p : Nat), p ≤ z.length → AtR w i n fs ws → FirstOk w z p fs (ewR z ws p) (fstR z p n ws)
  | [], i, n, fs, p, hp, h => by rw [fstR]; unfold ewR; rfl
  | y :: ws, i, n, fs, p, hp, h => by
    rw [fstR, ewR_cons]
    have ih := first_W y n _ p hp h.cons.1
    cases e : fst z p n y with
    | ends =>
      rw [e] at ih
      have ih : ew z y p = some p := ih
      rw [ih]
      exact first_R ws i (n + y.size) fs p hp h.cons.2
    | fails =>
      rw [e] at ih
      have ih : ew z y p = none := ih
      rw [ih]
      rfl
    | leaf s =>
      rw [e] at ih
      refine FirstOk.within (f := .row i (n + y.size) ws) (r := .leaf s) rfl (fun c => ?_) (fun c => ?_) (fun hp1 gs c => ?_) ih
      · obtain ⟨_, gs, _, _, _, hp1, q⟩ := ih
        rw [c] at q
        have := up_in z gs (p + 1) p (by omega) q.symm
        omega
      · rw [c]
      · rw [up_app, ← c]
        cases ew z y p with
        | none => rfl
        | some q =>
          show ewR z ws q = match ewR z ws q with | some q => some q | none => none
          cases ewR z ws q <;> rfl
theorem first_C : ∀ (ws : List W) (i n : Nat) (fs : List Fr) (p : Nat), p ≤ z.length → AtC w i n fs ws → FirstOk w z p fs (ewC z ws p) (fstC z p n ws)
  | [], i, n, fs, p, hp, h => by rw [fstC]; unfold ewC; rfl
  | y :: ws, i, n, fs, p, hp, h => by
    rw [fstC, ewC_cons]
    have ih := first_W y n _ p hp h.cons.1
    by_cases c : ws.isEmpty = true ∨ (ew z y p).isSome = true
    · rw [if_pos c]
      have e : ewC z (y :: ws) p = ew z y p := by
        rw [ewC_cons]
        cases q : ew z y p with
        | some r => rfl
        | none =>
          rw [q] at c
          have : ws = [] := by simpa using c
          subst this
          show ewC z [] p = none
          unfold ewC
          rfl
      rw [← ewC_cons, e]
      refine FirstOk.within (f := .choice i ws.isEmpty) rfl (fun c => c) (fun c => c) (fun hp1 gs c => ?_) ih
      rw [up_app, ← c]
      cases ew z y p <;> rfl
    · rw [if_neg c]
      have e : ew z y p = none := by
        cases q : ew z y p with
        | none => rfl
        | some r => rw [q] at c; simp at c
      rw [e]
      exact first_C ws i (n + y.size) fs p hp h.cons.2
end
end
end Rk
namespace Rk
open PySem PySem.Spec PyProof.Rows L2 Wv Tk
/-! ### ranks -/
/-- what is around a part stands there -/
def Par (w : List W) : List Fr → Prop
  | [] => True
  | .row j n ws :: fs => AtR w j n fs ws ∧ ∃ x, At w j x fs
  | .again j y :: fs => At w j (.again y) fs
  | .choice j _ :: fs => ∃ x, At w j x fs
  | .maybe j :: fs => ∃ x, At w j x fs
  | .look j :: fs => ∃ x, At w j x fs
mutual
theorem par_W {w : List W} : ∀ (x : W) (i : Nat) (fs : List Fr), At w i x fs → Par w fs → ∀ e ∈ layW i fs x, Par w e.2
  | .letter c, i, fs, h, p, e, he => by rw [layW, List.mem_singleton] at he; subst he; exact p
  | .one, i, fs, h, p, e, he => by rw [layW, List.mem_singleton] at he; subst he; exact p
  | .nothing, i, fs, h, p, e, he => by rw [layW, List.mem_singleton] at he; subst he; exact p
  | .call x, i, fs, h, p, e, he => by rw [layW, List.mem_singleton] at he; subst he; exact p
  | .row ws, i, fs, h, p, e, he => by
    rw [layW] at he
    rcases List.mem_cons.mp he with rfl | he
    · exact p
    · exact par_R ws i (i + 1) fs h.row ⟨_, h⟩ e he
  | .choice ws, i, fs, h, p, e, he => by
    rw [layW] at he
    rcases List.mem_cons.mp he with rfl | he
    · exact p
    · exact par_C ws i (i + 1) fs h.choice ⟨_, h⟩ e he
  | .again y, i, fs, h, p, e, he => by
    rw [layW] at he
    rcases List.mem_cons.mp he with rfl | he
    · exact p
    · exact par_W y (i + 1) _ h.again h e he
  | .maybe y, i, fs, h, p, e, he => by
    rw [layW] at he
    rcases List.mem_cons.mp he with rfl | he
    · exact p
    · exact par_W y (i + 1) _ h.maybe ⟨_, h⟩ e he
  | .ahead y, i, fs, h, p, e, he => by
    rw [layW] at he
    rcases List.mem_cons.mp he with rfl | he
    · exact p
    · exact par_W y (i + 1) _ h.ahead ⟨_, h⟩ e he
  | .unless y, i, fs, h, p, e, he => by
    rw [layW] at he
    rcases List.mem_cons.mp he with rfl | he
    · exact p
    · exact par_W y (i + 1) _ h.unless ⟨_, h⟩ e he
theorem par_R {w : List W} : ∀ (ws : List W) (i n : Nat) (fs : List Fr), AtR w i n fs ws → (∃ x, At w i x fs) → ∀ e ∈ layR i n fs ws, Par w e.2
  | [], i, n, fs, h, p, e, he => by rw [layR] at he; exact (nomatch he)
  | y :: ws, i, n, fs, h, p, e, he => by
    rw [layR] at he
    rcases List.mem_append.mp he with he | he
    · exact par_W y n _ h.cons.1 ⟨h.cons.2, p⟩ e he
    · exact par_R ws i _ fs h.cons.2 p e he
theorem par_C {w : List W} : ∀ (ws : List W) (i n : Nat) (fs : List Fr), AtC w i n fs ws → (∃ x, At w i x fs) → ∀ e ∈ layC i n fs ws, Par w e.2
  | [], i, n, fs, h, p, e, he => by rw [layC] at he; exact (nomatch he)
  | y :: ws, i, n, fs, h, p, e, he => by
    rw [layC] at he
    rcases List.mem_append.mp he with he | he
    · exact par_W y n _ h.cons.1 p e he
    · exact par_C ws i _ fs h.cons.2 p e he
end
theorem At.par {w : List W} {x : W} {i : Nat} {fs : List Fr} (h : At w i x fs) : Par w fs := by
  obtain ⟨a, y, post, j, rfl, rfl, q⟩ := layF_get w [] (k := i) (e := (x, fs)) h.get
  exact par_W y (W.sizes a) [] (at_root a y post) True.intro _ (List.mem_of_getElem? q)
/-- the part around -/
theorem Par.up {w : List W} {f : Fr} {fs : List Fr} (h : Par w (f :: fs)) : ∃ x, At w f.num x fs := by
  cases f with
  | row j n ws => exact h.2
  | again j y => exact ⟨_, h⟩
  | choice j b => exact h
  | maybe j => exact h
  | look j => exact h
/-! how one goes on behind a part that has ended: the last part that ends there, and what happens behind it -/
def go (z : List Nat) (p : Nat) : Nat → List Fr → Nat × List Fr × Fs
  | i, [] => (i, [], .ends)
  | i, .look j :: fs => (i, .look j :: fs, .ends)
  | i, .row j n ws :: fs => match fstR z p n ws with
    | .ends => go z p j fs
    | r => (i, .row j n ws :: fs, r)
  | i, .again j y :: fs => match fst z p j (.again y) with
    | .ends => go z p j fs
    | r => (i, .again j y :: fs, r)
  | _, .choice j _ :: fs => go z p j fs
  | _, .maybe j :: fs => go z p j fs
/-- the rank of a leaf behind which one goes on so -/
def val (st : Nat → Nat) (wo : Nat) (r : Nat × List Fr × Fs) : Nat := match r.2.2 with
  | .leaf t => min (st t) (ard r.2.1)
  | _ => if r.2.1 = [] then wo else ard r.2.1
structure RankAt (z : List Nat) (p : Nat) (wo : Nat → Nat) (v : Nat) (gs fs : List Fr) : Prop where
  tried : fs ≠ [] → trd fs = true → (v ≤ ard fs ↔ (up z gs p).isSome = true)
  whole : fs = [] → ∀ k, k ≤ 1 → (v ≤ k ↔ ∃ q, up z gs p = some q ∧ wo q ≤ k)
def Ranks (w : List W) (z : List Nat) (p : Nat) (wo : Nat → Nat) (st : Nat → Nat) : Prop :=
  ∀ (s : Nat) (y : W) (gs fs : List Fr), At w s y (gs ++ fs) → Leaf y → noLook gs → RankAt z p wo (st s) gs fs
theorem ard_pos : ∀ fs : List Fr, 1 ≤ ard fs
  | [] => Nat.le_refl _
  | f :: fs => by rw [ard]; have := ard_pos fs; omega
theorem ard_two (f : Fr) : ∀ fs : List Fr, 2 ≤ ard (f :: fs)
  | [] => by rw [ard, ard, trd]; decide
  | g :: fs => by rw [ard]; have := ard_two g fs; omega
theorem ard_app : ∀ (gs fs : List Fr), gs ≠ [] → ard fs + (if trd fs then 1 else 0) ≤ ard (gs ++ fs)
  | [], fs, h => absurd rfl h
  | [g], fs, _ => by show _ ≤ ard (g :: fs); rw [ard]; exact Nat.le_refl _
  | g :: g' :: gs, fs, _ => by
    show _ ≤ ard (g :: (g' :: gs ++ fs))
    rw [ard]
    have := ard_app (g' :: gs) fs (by simp)
    omega
theorem ard_cons_le (f : Fr) (fs : List Fr) : ard fs ≤ ard (f :: fs) := by rw [ard]; omega
theorem val_le (z : List Nat) (p : Nat) (st : Nat → Nat) (wo : Nat) (hw : wo ≤ 2) : ∀ (fs : List Fr) (i : Nat), val st wo (go z p i fs) ≤ max 2 (ard fs)
  | [], i => by
    show (if ([] : List Fr) = [] then wo else ard []) ≤ _
    rw [if_pos rfl]
    omega
  | .look j :: fs, i => by
    show (if (Fr.look j :: fs) = [] then wo else ard (Fr.look j :: fs)) ≤ _
    rw [if_neg (by simp)]
    omega
  | .choice j b :: fs, i => by
    have := val_le z p st wo hw fs j
    have h2 := ard_cons_le (.choice j b) fs
    show val st wo (go z p j fs) ≤ _
    omega
  | .maybe j :: fs, i => by
    have := val_le z p st wo hw fs j
    have h2 := ard_cons_le (.maybe j) fs
    show val st wo (go z p j fs) ≤ _
    omega
  | .row j n ws :: fs, i => by
    have := val_le z p st wo hw fs j
    have h2 := ard_cons_le (.row j n ws) fs
    rw [go]
    cases fstR z p n ws with
    | ends => show val st wo (go z p j fs) ≤ _; omega
    | fails =>
      show (if (Fr.row j n ws :: fs) = [] then wo else ard (Fr.row j n ws :: fs)) ≤ _
      rw [if_neg (by simp)]
      omega
    | leaf t => show min (st t) (ard (Fr.row j n ws :: fs)) ≤ _; omega
  | .again j y :: fs, i => by
    have := val_le z p st wo hw fs j
    have h2 := ard_cons_le (.again j y) fs
    rw [go]
    cases fst z p j (.again y) with
    | ends => show val st wo (go z p j fs) ≤ _; omega
    | fails =>
      show (if (Fr.again j y :: fs) = [] then wo else ard (Fr.again j y :: fs)) ≤ _
      rw [if_neg (by simp)]
      omega
    | leaf t => show min (st t) (ard (Fr.again j y :: fs)) ≤ _; omega
section
variable {w : List W} {z : List Nat} {p : Nat} {wo : Nat → Nat} {st : Nat → Nat}
/-- a rank of a part that has ended -/
theorem rank_nil {v : Nat} {f : Fr} {fs : List Fr} (h : v ≤ max 2 (ard (f :: fs))) : RankAt z p wo v [] (f :: fs) :=
  ⟨fun _ _ => ⟨fun _ => rfl, fun _ => by have := ard_two f fs; omega⟩, fun q => by cases q⟩
/-- nothing more is to come -/
theorem rank_none {f : Fr} {gs fs : List Fr} (h : up z (f :: gs) p = none) : RankAt z p wo (ard (f :: (gs ++ fs))) (f :: gs) fs :=
  ⟨fun _ ht => by
    have := ard_app (f :: gs) fs (by simp)
    rw [ht, if_pos rfl] at this
    rw [h]
    refine ⟨fun q => ?_, fun q => by cases q⟩
    have q : ard (f :: gs ++ fs) ≤ ard fs := q
    omega, fun e k hk => by
    rw [h]
    refine ⟨fun q => ?_, fun ⟨_, q, _⟩ => by cases q⟩
    have := ard_two f (gs ++ fs)
    omega⟩
theorem rank_leaf {f : Fr} {gs fs g : List Fr} {t : Nat} {y : W} (hR : Ranks w z (p + 1) wo st) (ha : At w t y (g ++ (gs ++ fs))) (hl : Leaf y) (hg : noLook g) (hn : noLook gs) (e : up z (f :: gs) p = up z (g ++ gs) (p + 1)) :
    RankAt z p wo (min (st t) (ard (f :: (gs ++ fs)))) (f :: gs) fs := by
  have R := hR t y (g ++ gs) fs (by rw [List.append_assoc]; exact ha) hl (hg.app hn)
  refine ⟨fun h1 ht => ?_, fun h1 k hk => ?_⟩
  · rw [e, ← R.tried h1 ht]
    have := ard_app (f :: gs) fs (by simp)
    rw [ht, if_pos rfl] at this
    have this : ard fs + 1 ≤ ard (f :: (gs ++ fs)) := this
    omega
  · rw [e, ← R.whole h1 k hk]
    have := ard_two f (gs ++ fs)
    omega
theorem rank_go (hp : p ≤ z.length) (hw : wo p ≤ 2) (hR : p < z.length → Ranks w z (p + 1) wo st) : ∀ (gs fs : List Fr) (i : Nat), Par w (gs ++ fs) → noLook gs → RankAt z p wo (val st (wo p) (go z p i (gs ++ fs))) gs fs
  | [], [], i, _, _ => by
    show RankAt z p wo (if ([] : List Fr) = [] then wo p else ard []) [] []
    rw [if_pos rfl]
    exact ⟨fun q => absurd rfl q, fun _ k hk => ⟨fun q => ⟨p, rfl, q⟩, fun ⟨q, e, h⟩ => by cases e; exact h⟩⟩
  | [], f :: fs, i, _, _ => rank_nil (val_le z p st (wo p) hw (f :: fs) i)
  | .look j :: gs, fs, i, _, hn => by have := hn (.look j) List.mem_cons_self; cases this
  | .choice j b :: gs, fs, i, hP, hn => by
    obtain ⟨x, hx⟩ := hP.up
    have ih := rank_go hp hw hR gs fs j hx.par fun f hf => hn f (List.mem_cons_of_mem _ hf)
    exact ⟨ih.tried, ih.whole⟩
  | .maybe j :: gs, fs, i, hP, hn => by
    obtain ⟨x, hx⟩ := hP.up
    have ih := rank_go hp hw hR gs fs j hx.par fun f hf => hn f (List.mem_cons_of_mem _ hf)
    exact ⟨ih.tried, ih.whole⟩
  | .row j n ws :: gs, fs, i, hP, hn => by
    obtain ⟨x, hx⟩ := hP.up
    have hn' : noLook gs := fun f hf => hn f (List.mem_cons_of_mem _ hf)
    have ih := rank_go hp hw hR gs fs j hx.par hn'
    have F := first_R ws j n (gs ++ fs) p hp hP.1
    show RankAt z p wo (val st (wo p) (go z p i (.row j n ws :: (gs ++ fs)))) _ _
    rw [go]
    cases e : fstR z p n ws with
    | ends =>
      rw [e] at F
      have F : ewR z ws p = some p := F
      have e2 : up z (.row j n ws :: gs) p = up z gs p := by rw [up, F]
      show RankAt z p wo (val st (wo p) (go z p j (gs ++ fs))) _ _
      exact ⟨fun h1 h2 => by rw [e2]; exact ih.tried h1 h2, fun h1 k hk => by rw [e2]; exact ih.whole h1 k hk⟩
    | fails =>
      rw [e] at F
      have F : ewR z ws p = none := F
      show RankAt z p wo (if (Fr.row j n ws :: (gs ++ fs)) = [] then wo p else ard (Fr.row j n ws :: (gs ++ fs))) _ _
      rw [if_neg (by simp)]
      exact rank_none (by rw [up, F])
    | leaf t =>
      rw [e] at F
      obtain ⟨y, g, ha, hl, hg, hp1, F⟩ := F
      show RankAt z p wo (min (st t) (ard (Fr.row j n ws :: (gs ++ fs)))) _ _
      exact rank_leaf (hR hp1) ha hl hg hn' (by rw [up, F, up_app])
  | .again j y :: gs, fs, i, hP, hn => by
    obtain ⟨x, hx⟩ := hP.up
    have hn' : noLook gs := fun f hf => hn f (List.mem_cons_of_mem _ hf)
    have ih := rank_go hp hw hR gs fs j hx.par hn'
    have F := first_W (.again y) j (gs ++ fs) p hp hP
    show RankAt z p wo (val st (wo p) (go z p i (.again j y :: (gs ++ fs)))) _ _
    rw [go]
    cases e : fst z p j (.again y) with
    | ends =>
      rw [e] at F
      have F : ew z (.again y) p = some p := F
      have e2 : up z (.again j y :: gs) p = up z gs p := by rw [up, F]
      show RankAt z p wo (val st (wo p) (go z p j (gs ++ fs))) _ _
      exact ⟨fun h1 h2 => by rw [e2]; exact ih.tried h1 h2, fun h1 k hk => by rw [e2]; exact ih.whole h1 k hk⟩
    | fails =>
      rw [e] at F
      have F : ew z (.again y) p = none := F
      show RankAt z p wo (if (Fr.again j y :: (gs ++ fs)) = [] then wo p else ard (Fr.again j y :: (gs ++ fs))) _ _
      rw [if_neg (by simp)]
      exact rank_none (by rw [up, F])
    | leaf t =>
      rw [e] at F
      obtain ⟨y', g, ha, hl, hg, hp1, F⟩ := F
      show RankAt z p wo (min (st t) (ard (Fr.again j y :: (gs ++ fs)))) _ _
      exact rank_leaf (hR hp1) ha hl hg hn' (by rw [up, F, up_app])
end
/-- what is around the part with a number -/
def frs (w : List W) (i : Nat) : List Fr := ((layF 0 w)[i]?.map (·.2)).getD []
theorem At.frs {w : List W} {x : W} {i : Nat} {fs : List Fr} (h : At w i x fs) : frs w i = fs := by unfold Rk.frs; rw [h.get]; rfl
/-- the ranks at a place, told by those at the next one -/
theorem ranks_step {w : List W} {z : List Nat} {p : Nat} {wo : Nat → Nat} {st : Nat → Nat} (hp : p ≤ z.length) (hw : wo p ≤ 2) (hR : p < z.length → Ranks w z (p + 1) wo st) :
    Ranks w z p wo fun s => val st (wo p) (go z p s (frs w s)) := fun s y gs fs ha _ hn => by
  show RankAt z p wo (val st (wo p) (go z p s (frs w s))) gs fs
  rw [ha.frs]
  exact rank_go hp hw hR gs fs s ha.par hn
/-- whether a tried part fits, told by the ranks at the next place -/
theorem fit_iff {w : List W} {x : W} {z : List Nat} {p i : Nat} {wo : Nat → Nat} {st : Nat → Nat} {fs : List Fr} (hp : p ≤ z.length) (hR : p < z.length → Ranks w z (p + 1) wo st) (ha : At w i x fs) (h1 : fs ≠ []) (ht : trd fs = true) :
    (ew z x p).isSome = match fst z p i x with | .ends => true | .fails => false | .leaf s => decide (st s ≤ ard fs) := by
  have F := first_W x i fs p hp ha
  cases e : fst z p i x with
  | ends => rw [e] at F; have F : ew z x p = some p := F; rw [F]; rfl
  | fails => rw [e] at F; have F : ew z x p = none := F; rw [F]; rfl
  | leaf s =>
    rw [e] at F
    obtain ⟨y, g, ha2, hl, hg, hp1, F⟩ := F
    have R := (hR hp1 s y g fs ha2 hl hg).tried h1 ht
    rw [F, Bool.eq_iff_iff, ← R, decide_eq_true_iff]
end Rk
namespace Rk
open PySem PySem.Spec PyProof.Rows L2 Wv Tk
/-! ### the same told by the letter at the place and the ranks at the next one -/
def fitF (st : Nat → Nat) (a : Nat) : Fs → Bool
  | .ends => true
  | .fails => false
  | .leaf s => decide (st s ≤ a)
mutual
def mW (c : Option Nat) (st : Nat → Nat) : Nat → List Fr → W → Fs
  | n, _, .letter x => if c = some x then .leaf n else .fails
  | n, _, .one => if c.isSome = true then .leaf n else .fails
  | _, _, .nothing => .ends
  | _, _, .call _ => .fails
  | n, fs, .row ws => mR c st n (n + 1) fs ws
  | n, fs, .choice ws => mC c st n (n + 1) fs ws
  | n, fs, .again y => if fitF st (ard (.again n y :: fs)) (mW c st (n + 1) (.again n y :: fs) y) = true then mW c st (n + 1) (.again n y :: fs) y else .ends
  | n, fs, .maybe y => if fitF st (ard (.maybe n :: fs)) (mW c st (n + 1) (.maybe n :: fs) y) = true then mW c st (n + 1) (.maybe n :: fs) y else .ends
  | n, fs, .ahead y => if fitF st (ard (.look n :: fs)) (mW c st (n + 1) (.look n :: fs) y) = true then .ends else .fails
  | n, fs, .unless y => if fitF st (ard (.look n :: fs)) (mW c st (n + 1) (.look n :: fs) y) = true then .fails else .ends
def mR (c : Option Nat) (st : Nat → Nat) : Nat → Nat → List Fr → List W → Fs
  | _, _, _, [] => .ends
  | i, n, fs, y :: ws => match mW c st n (.row i (n + y.size) ws :: fs) y with
    | .ends => mR c st i (n + y.size) fs ws
    | r => r
def mC (c : Option Nat) (st : Nat → Nat) : Nat → Nat → List Fr → List W → Fs
  | _, _, _, [] => .fails
  | i, n, fs, y :: ws => if ws.isEmpty = true ∨ fitF st (ard (.choice i ws.isEmpty :: fs)) (mW c st n (.choice i ws.isEmpty :: fs) y) = true then mW c st n (.choice i ws.isEmpty :: fs) y else mC c st i (n + y.size) fs ws
end
def mgo (c : Option Nat) (st : Nat → Nat) : Nat → List Fr → Nat × List Fr × Fs
  | i, [] => (i, [], .ends)
  | i, .look j :: fs => (i, .look j :: fs, .ends)
  | i, .row j n ws :: fs => match mR c st j n fs ws with
    | .ends => mgo c st j fs
    | r => (i, .row j n ws :: fs, r)
  | i, .again j y :: fs => match mW c st j fs (.again y) with
    | .ends => mgo c st j fs
    | r => (i, .again j y :: fs, r)
  | _, .choice j _ :: fs => mgo c st j fs
  | _, .maybe j :: fs => mgo c st j fs
section
variable {w : List W} {z : List Nat} {p : Nat} {wo : Nat → Nat} {st : Nat → Nat}
theorem fit_eq {x : W} {i : Nat} {fs : List Fr} (hp : p ≤ z.length) (hR : p < z.length → Ranks w z (p + 1) wo st) (ha : At w i x fs) (h1 : fs ≠ []) (ht : trd fs = true) : fitF st (ard fs) (fst z p i x) = (ew z x p).isSome := by
  rw [fit_iff hp hR ha h1 ht]
  cases fst z p i x <;> rfl
mutual
theorem mW_eq (hp : p ≤ z.length) (hR : p < z.length → Ranks w z (p + 1) wo st) : ∀ (x : W) (i : Nat) (fs : List Fr), At w i x fs → mW z[p]? st i fs x = fst z p i x
  | .letter c, i, fs, h => by rw [mW, fst]
  | .one, i, fs, h => by
    rw [mW, fst]
    by_cases c : p < z.length
    · rw [if_pos c, List.getElem?_eq_getElem c]; exact if_pos rfl
    · rw [if_neg c, List.getElem?_eq_none (by omega), if_neg (by simp)]
  | .nothing, i, fs, h => by rw [mW, fst]
  | .call x, i, fs, h => by rw [mW, fst]
  | .row ws, i, fs, h => by rw [mW, fst]; exact mR_eq hp hR ws i (i + 1) fs h.row
  | .choice ws, i, fs, h => by rw [mW, fst]; exact mC_eq hp hR ws i (i + 1) fs h.choice
  | .again y, i, fs, h => by
    rw [mW, fst, mW_eq hp hR y (i + 1) _ h.again, fit_eq hp hR h.again (by simp) rfl]
  | .maybe y, i, fs, h => by
    rw [mW, fst, mW_eq hp hR y (i + 1) _ h.maybe, fit_eq hp hR h.maybe (by simp) rfl]
  | .ahead y, i, fs, h => by
    rw [mW, fst, mW_eq hp hR y (i + 1) _ h.ahead, fit_eq hp hR h.ahead (by simp) rfl]
  | .unless y, i, fs, h => by
    rw [mW, fst, mW_eq hp hR y (i + 1) _ h.unless, fit_eq hp hR h.unless (by simp) rfl]
theorem mR_eq (hp : p ≤ z.length) (hR : p < z.length → Ranks w z (p + 1) wo st) : ∀ (ws : List W) (i n : Nat) (fs : List Fr), AtR w i n fs ws → mR z[p]? st i n fs ws = fstR z p n ws
  | [], i, n, fs, h => by rw [mR, fstR]
  | y :: ws, i, n, fs, h => by
    rw [mR, fstR, mW_eq hp hR y n _ h.cons.1, mR_eq hp hR ws i _ fs h.cons.2]
    all_goals (cases fst z p n y <;> rfl)
theorem mC_eq (hp : p ≤ z.length) (hR : p < z.length → Ranks w z (p + 1) wo st) : ∀ (ws : List W) (i n : Nat) (fs : List Fr), AtC w i n fs ws → mC z[p]? st i n fs ws = fstC z p n ws
  | [], i, n, fs, h => by rw [mC, fstC]
  | y :: ws, i, n, fs, h => by
    rw [mC, fstC, mW_eq hp hR y n _ h.cons.1, mC_eq hp hR ws i _ fs h.cons.2]
    by_cases c : ws.isEmpty = true
    · rw [if_pos (.inl c), if_pos (.inl c)]
    · have ht : trd (.choice i ws.isEmpty :: fs) = true := by
        show (!ws.isEmpty) = true
        cases q : ws.isEmpty with
        | true => exact absurd q c
        | false => rfl
      rw [fit_eq hp hR h.cons.1 (by simp) ht]
end
theorem mgo_eq (hp : p ≤ z.length) (hR : p < z.length → Ranks w z (p + 1) wo st) : ∀ (fs : List Fr) (i : Nat), Par w fs → mgo z[p]? st i fs = go z p i fs
  | [], i, _ => rfl
  | .look j :: fs, i, _ => rfl
  | .row j n ws :: fs, i, h => by
    obtain ⟨x, hx⟩ := h.up
    rw [mgo, go, mR_eq hp hR ws j n fs h.1, mgo_eq hp hR fs j hx.par]
    all_goals (cases fstR z p n ws <;> rfl)
  | .again j y :: fs, i, h => by
    obtain ⟨x, hx⟩ := h.up
    rw [mgo, go, mW_eq hp hR _ j fs h, mgo_eq hp hR fs j hx.par]
    all_goals (cases fst z p j (.again y) <;> rfl)
  | .choice j _ :: fs, i, h => by
    obtain ⟨x, hx⟩ := h.up
    exact mgo_eq hp hR fs j hx.par
  | .maybe j :: fs, i, h => by
    obtain ⟨x, hx⟩ := h.up
    exact mgo_eq hp hR fs j hx.par
end
/-! ### leaves and their slots, states -/
def isLeafB : W → Bool
  | .letter _ => true
  | .one => true
  | _ => false
theorem leaf_b {y : W} : isLeafB y = true ↔ Leaf y := by
  cases y with
  | one => exact ⟨fun _ => .inl rfl, fun _ => rfl⟩
  | letter c => exact ⟨fun _ => .inr ⟨c, rfl⟩, fun _ => rfl⟩
  | _ =>
    constructor
    · intro h; cases h
    · intro h; rcases h with h | ⟨_, h⟩ <;> cases h
/-- the numbers of the leaves -/
def lvs (w : List W) : List Nat := (List.range (W.sizes w)).filter fun i => ((layF 0 w)[i]?.map fun e => isLeafB e.1).getD false
/-- the slot of a leaf -/
def slot (w : List W) (s : Nat) : Nat := (lvs w).idxOf s
theorem mem_lvs {w : List W} {s : Nat} : s ∈ lvs w ↔ ∃ y fs, At w s y fs ∧ Leaf y := by
  unfold lvs
  rw [List.mem_filter, List.mem_range]
  constructor
  · rintro ⟨h, e⟩
    obtain ⟨y, fs, ha⟩ := at_all h
    rw [ha.get] at e
    exact ⟨y, fs, ha, leaf_b.mp e⟩
  · rintro ⟨y, fs, ha, hl⟩
    have := ha.lt
    have h2 := y.size_pos
    refine ⟨by omega, ?_⟩
    rw [ha.get]
    exact leaf_b.mpr hl
theorem lvs_nodup (w : List W) : (lvs w).Nodup := List.Nodup.sublist List.filter_sublist List.nodup_range
theorem slot_lt {w : List W} {s : Nat} (h : s ∈ lvs w) : slot w s < (lvs w).length := List.idxOf_lt_length_iff.mpr h
theorem slot_get {w : List W} {s : Nat} (h : s ∈ lvs w) : (lvs w)[slot w s]? = some s := by
  have hl := slot_lt h
  rw [List.getElem?_eq_getElem hl]
  exact congrArg some (List.getElem_idxOf hl)
theorem slot_of {w : List W} {s j : Nat} (h : (lvs w)[j]? = some s) : slot w s = j := by
  have hm := List.mem_of_getElem? h
  have hj := (List.getElem?_eq_some_iff.mp h).1
  exact (List.getElem?_inj hj (lvs_nodup w)).mp (h.trans (slot_get hm).symm) |>.symm
/-- the ranks that a state tells -/
def stf (w : List W) (T : List Nat) (s : Nat) : Nat := T.getD (slot w s) 0
def nextT (w : List W) (c : Option Nat) (T : List Nat) (wo : Nat) : List Nat := (lvs w).map fun s => val (stf w T) wo (mgo c (stf w T) s (frs w s))
theorem stf_next {w : List W} {c : Option Nat} {T : List Nat} {wo s : Nat} (h : s ∈ lvs w) : stf w (nextT w c T wo) s = val (stf w T) wo (mgo c (stf w T) s (frs w s)) := by
  unfold nextT
  rw [stf, List.getD_eq_getElem?_getD, List.getElem?_map, slot_get h]
  rfl
theorem next_ranks {w : List W} {z : List Nat} {p : Nat} {wo : Nat → Nat} {T : List Nat} (hp : p ≤ z.length) (hw : wo p ≤ 2) (hR : p < z.length → Ranks w z (p + 1) wo (stf w T)) : Ranks w z p wo (stf w (nextT w z[p]? T (wo p))) := fun s y gs fs ha hl hn => by
  rw [stf_next (mem_lvs.mpr ⟨y, _, ha, hl⟩), ha.frs, mgo_eq hp hR _ s ha.par]
  exact rank_go hp hw hR gs fs s ha.par hn
end Rk
namespace Rk
open PySem PySem.Spec PyProof.Rows L2 Wv Tk
/-! ### what a def owns: addresses, and what stands there -/
structure Own (H0 H : Hp) (ks : List Addr) (vs : List HO) : Prop where
  len : ks.length = vs.length
  at_ : ∀ (j : Nat) (k : Addr), ks[j]? = some k → H k = vs[j]?
  nd : ks.Nodup
  fresh : ∀ k ∈ ks, H0 k = none
  same : Same H0 H
section
variable {H0 H H' : Hp} {ks : List Addr} {vs : List HO}
theorem Own.nil (H : Hp) : Own H H [] [] := ⟨rfl, fun j k h => by simp at h, List.nodup_nil, fun k h => (nomatch h), fun _ _ h => h⟩
theorem Own.has (h : Own H0 H ks vs) {k : Addr} (hk : k ∈ ks) : ∃ o, H k = some o := by
  obtain ⟨j, hj⟩ := List.getElem?_of_mem hk
  have hl := (List.getElem?_eq_some_iff.mp hj).1
  have := h.len
  exact ⟨_, (h.at_ j k hj).trans (List.getElem?_eq_getElem (by omega))⟩
theorem Own.put (h : Own H0 H ks vs) {j : Nat} {b : Addr} (e : ks[j]? = some b) (o : HO) : Own H0 (upd H b o) ks (vs.set j o) where
  len := by rw [List.length_set]; exact h.len
  at_ := fun i k hk => by
    have hl := (List.getElem?_eq_some_iff.mp hk).1
    have := h.len
    by_cases q : i = j
    · subst q
      rw [hk] at e
      cases e
      rw [upd_same, List.getElem?_set_self (by omega)]
    · have nb : k ≠ b := fun q2 => q ((List.getElem?_inj hl h.nd).mp (by rw [hk, e, q2]))
      rw [upd_ne nb, List.getElem?_set_ne (Ne.symm q)]
      exact h.at_ i k hk
  nd := h.nd
  fresh := h.fresh
  same := Same.put (h.fresh b (List.mem_of_getElem? e)) h.same o
theorem Own.free (h : Own H0 H ks vs) {q : Addr} (hq : H q = none) : H0 q = none := by
  cases e : H0 q with
  | none => rfl
  | some o => rw [h.same _ _ e] at hq; cases hq
theorem Own.notin (h : Own H0 H ks vs) {q : Addr} (hq : H q = none) : q ∉ ks := fun m => by
  obtain ⟨o, e⟩ := h.has m
  rw [hq] at e
  cases e
theorem Own.snoc (h : Own H0 H ks vs) {q : Addr} (hq : H q = none) (o : HO) : Own H0 (upd H q o) (ks ++ [q]) (vs ++ [o]) where
  len := by rw [List.length_append, List.length_append, h.len]; rfl
  at_ := fun i k hk => by
    have hl := h.len
    by_cases c : i < ks.length
    · rw [List.getElem?_append_left c] at hk
      have nb : k ≠ q := fun e => h.notin hq (by rw [← e]; exact List.mem_of_getElem? hk)
      rw [upd_ne nb, List.getElem?_append_left (by omega)]
      exact h.at_ i k hk
    · have hi := (List.getElem?_eq_some_iff.mp hk).1
      rw [List.length_append, List.length_singleton] at hi
      have ei : i = ks.length := by omega
      subst ei
      rw [List.getElem?_append_right (Nat.le_refl _), Nat.sub_self] at hk
      cases hk
      rw [upd_same, hl, List.getElem?_append_right (Nat.le_refl _), Nat.sub_self]
      rfl
  nd := by
    rw [List.nodup_append]
    refine ⟨h.nd, by simp, fun a ha b hb e => ?_⟩
    rw [List.mem_singleton] at hb
    subst hb
    subst e
    exact h.notin hq ha
  fresh := fun k hk => by
    rcases List.mem_append.mp hk with hk | hk
    · exact h.fresh k hk
    · rw [List.mem_singleton] at hk
      subst hk
      exact h.free hq
  same := h.same.trans (Same.new hq o)
theorem Own.cons (h : Own H0 H ks vs) {q : Addr} (hq : H q = none) (o : HO) : Own H0 (upd H q o) (q :: ks) (o :: vs) where
  len := by rw [List.length_cons, List.length_cons, h.len]
  at_ := fun i k hk => by
    cases i with
    | zero => cases hk; rw [upd_same]; rfl
    | succ i =>
      rw [List.getElem?_cons_succ] at hk
      have nb : k ≠ q := fun e => h.notin hq (by rw [← e]; exact List.mem_of_getElem? hk)
      rw [upd_ne nb, List.getElem?_cons_succ]
      exact h.at_ i k hk
  nd := List.nodup_cons.mpr ⟨h.notin hq, h.nd⟩
  fresh := fun k hk => by
    rcases List.mem_cons.mp hk with rfl | hk
    · exact h.free hq
    · exact h.fresh k hk
  same := h.same.trans (Same.new hq o)
theorem Own.tail {k : Addr} {o : HO} (h : Own H0 H (k :: ks) (o :: vs)) : Own H0 H ks vs :=
  ⟨by have := h.len; simpa using this, fun j b e => by have := h.at_ (j + 1) b (by rw [List.getElem?_cons_succ]; exact e); rwa [List.getElem?_cons_succ] at this, (List.nodup_cons.mp h.nd).2, fun b hb => h.fresh b (List.mem_cons_of_mem _ hb), h.same⟩
theorem Own.of_same (h : Own H0 H ks vs) (s : Same H H') : Own H0 H' ks vs :=
  ⟨h.len, fun j k e => by
    obtain ⟨o, q⟩ := h.has (List.mem_of_getElem? e)
    rw [s _ _ q, ← q]
    exact h.at_ j k e, h.nd, h.fresh, h.same.trans s⟩
theorem Own.low {H1 : Hp} (h : Own H0 H ks vs) (s : Same H1 H0) : Own H1 H ks vs :=
  ⟨h.len, h.at_, h.nd, fun k hk => (by
    cases e : H1 k with
    | none => rfl
    | some o => have := s _ _ e; rw [h.fresh k hk] at this; cases this), s.trans h.same⟩
end
/-- one of these, one of those -/
def il {α : Type} : List α → List α → List α
  | x :: xs, y :: ys => x :: y :: il xs ys
  | _, _ => []
section
variable {α : Type}
theorem il_snoc {x y : α} : ∀ (xs ys : List α), xs.length = ys.length → il (xs ++ [x]) (ys ++ [y]) = il xs ys ++ [x, y]
  | [], [], _ => rfl
  | [], _ :: _, h => by cases h
  | _ :: _, [], h => by cases h
  | a :: xs, b :: ys, h => by simp only [List.cons_append, il, il_snoc xs ys (by simpa using h)]
theorem il_get0 : ∀ (xs ys : List α) (j : Nat), xs.length = ys.length → (il xs ys)[2 * j]? = xs[j]?
  | [], [], j, _ => by simp [il]
  | [], _ :: _, _, h => by cases h
  | _ :: _, [], _, h => by cases h
  | a :: xs, b :: ys, 0, h => rfl
  | a :: xs, b :: ys, j + 1, h => by
    rw [show 2 * (j + 1) = 2 * j + 1 + 1 by omega, il, List.getElem?_cons_succ, List.getElem?_cons_succ, List.getElem?_cons_succ]
    exact il_get0 xs ys j (by simpa using h)
theorem il_get1 : ∀ (xs ys : List α) (j : Nat), xs.length = ys.length → (il xs ys)[2 * j + 1]? = ys[j]?
  | [], [], j, _ => by simp [il]
  | [], _ :: _, _, h => by cases h
  | _ :: _, [], _, h => by cases h
  | a :: xs, b :: ys, 0, h => rfl
  | a :: xs, b :: ys, j + 1, h => by
    rw [show 2 * (j + 1) + 1 = 2 * j + 1 + 1 + 1 by omega, il, List.getElem?_cons_succ, List.getElem?_cons_succ, List.getElem?_cons_succ]
    exact il_get1 xs ys j (by simpa using h)
theorem il_set0 {v : α} : ∀ (xs ys : List α) (j : Nat), xs.length = ys.length → (il xs ys).set (2 * j) v = il (xs.set j v) ys
  | [], [], j, _ => by simp [il]
  | [], _ :: _, _, h => by cases h
  | _ :: _, [], _, h => by cases h
  | a :: xs, b :: ys, 0, h => rfl
  | a :: xs, b :: ys, j + 1, h => by
    rw [show 2 * (j + 1) = 2 * j + 1 + 1 by omega, il, List.set_cons_succ, List.set_cons_succ, List.set_cons_succ, il, il_set0 xs ys j (by simpa using h)]
theorem il_set1 {v : α} : ∀ (xs ys : List α) (j : Nat), xs.length = ys.length → (il xs ys).set (2 * j + 1) v = il xs (ys.set j v)
  | [], [], j, _ => by simp [il]
  | [], _ :: _, _, h => by cases h
  | _ :: _, [], _, h => by cases h
  | a :: xs, b :: ys, 0, h => rfl
  | a :: xs, b :: ys, j + 1, h => by
    rw [show 2 * (j + 1) + 1 = 2 * j + 1 + 1 + 1 by omega, il, List.set_cons_succ, List.set_cons_succ, List.set_cons_succ, il, il_set1 xs ys j (by simpa using h)]
end
/-! ### the object Parts -/
structure Pp where
  a : Addr
  ks : Addr
  ws : Addr
  ni : Addr
  ab : Addr
  la : Addr
  wh : Addr
  is : List Addr
  ls : List Addr
structure Pd where
  kinds : List Nat
  words : List Str
  inn : List (List Nat)
  ab : List V
  lat : List (List V)
  wh : List V
def Pp.fs (p : Pp) : List (Str × V) := [(Str.ofString "kinds", .ref p.ks), (Str.ofString "words", .ref p.ws), (Str.ofString "inner", .ref p.ni), (Str.ofString "above", .ref p.ab), (Str.ofString "later", .ref p.la), (Str.ofString "wholes", .ref p.wh)]
def Pp.keys (p : Pp) : List Addr := p.a :: p.ks :: p.ws :: p.ni :: p.ab :: p.la :: p.wh :: il p.is p.ls
def Pp.vals (C dx : Addr) (p : Pp) (d : Pd) : List HO := .ins C dx p.fs :: .lst (iV d.kinds) :: .lst (d.words.map V.str) :: .lst (p.is.map V.ref) :: .lst d.ab :: .lst (p.ls.map V.ref) :: .lst d.wh :: il (d.inn.map fun l => .lst (iV l)) (d.lat.map .lst)
structure PtF (K : PySem.W.Frag) (C : Addr) : Prop where
  cl : Cls K C
  n1 : NoAttr K C "kinds"
  n2 : NoAttr K C "words"
  n3 : NoAttr K C "inner"
  n4 : NoAttr K C "above"
  n5 : NoAttr K C "later"
  n6 : NoAttr K C "wholes"
/-- all its lists of the same length -/
structure Pz (p : Pp) (d : Pd) (n : Nat) : Prop where
  ks : d.kinds.length = n
  ws : d.words.length = n
  inn : d.inn.length = n
  ab : d.ab.length = n
  lat : d.lat.length = n
  is : p.is.length = n
  ls : p.ls.length = n
section
variable {H0 H H' : Hp} {p : Pp} {d : Pd} {n : Nat} {C dx t : Addr} {tv : HO}
theorem Own.inn (h : Own H0 H (t :: p.keys) (tv :: p.vals C dx d)) (z : Pz p d n) {j : Nat} {b : Addr} (e : p.is[j]? = some b) : ∃ l, d.inn[j]? = some l ∧ H b = some (.lst (iV l)) := by
  have h1 := h.at_ (8 + 2 * j) b (by
    rw [show 8 + 2 * j = 2 * j + 1 + 1 + 1 + 1 + 1 + 1 + 1 + 1 by omega]
    unfold Pp.keys
    simp only [List.getElem?_cons_succ]
    rw [il_get0 _ _ _ (by rw [z.is, z.ls])]; exact e)
  have hj := (List.getElem?_eq_some_iff.mp e).1
  have z1 := z.is
  have z2 := z.inn
  obtain ⟨l, hl⟩ : ∃ l, d.inn[j]? = some l := ⟨d.inn[j]'(by omega), List.getElem?_eq_getElem (by omega)⟩
  refine ⟨l, hl, h1.trans ?_⟩
  rw [show 8 + 2 * j = 2 * j + 1 + 1 + 1 + 1 + 1 + 1 + 1 + 1 by omega]
  unfold Pp.vals
  simp only [List.getElem?_cons_succ]
  rw [il_get0 _ _ _ (by rw [List.length_map, List.length_map, z.inn, z.lat]), List.getElem?_map, hl]
  rfl
theorem Own.lat (h : Own H0 H (t :: p.keys) (tv :: p.vals C dx d)) (z : Pz p d n) {j : Nat} {b : Addr} (e : p.ls[j]? = some b) : ∃ l, d.lat[j]? = some l ∧ H b = some (.lst l) := by
  have h1 := h.at_ (8 + 2 * j + 1) b (by
    rw [show 8 + 2 * j + 1 = 2 * j + 1 + 1 + 1 + 1 + 1 + 1 + 1 + 1 + 1 by omega]
    unfold Pp.keys
    rw [List.getElem?_cons_succ, List.getElem?_cons_succ, List.getElem?_cons_succ, List.getElem?_cons_succ, List.getElem?_cons_succ, List.getElem?_cons_succ, List.getElem?_cons_succ, List.getElem?_cons_succ]
    rw [il_get1 _ _ _ (by rw [z.is, z.ls])]; exact e)
  have hj := (List.getElem?_eq_some_iff.mp e).1
  have z1 := z.ls
  have z2 := z.lat
  obtain ⟨l, hl⟩ : ∃ l, d.lat[j]? = some l := ⟨d.lat[j]'(by omega), List.getElem?_eq_getElem (by omega)⟩
  refine ⟨l, hl, h1.trans ?_⟩
  rw [show 8 + 2 * j + 1 = 2 * j + 1 + 1 + 1 + 1 + 1 + 1 + 1 + 1 + 1 by omega]
  unfold Pp.vals
  rw [List.getElem?_cons_succ, List.getElem?_cons_succ, List.getElem?_cons_succ, List.getElem?_cons_succ, List.getElem?_cons_succ, List.getElem?_cons_succ, List.getElem?_cons_succ, List.getElem?_cons_succ]
  rw [il_get1 _ _ _ (by rw [List.length_map, List.length_map, z.inn, z.lat]), List.getElem?_map, hl]
  rfl
theorem Own.putInn (h : Own H0 H (t :: p.keys) (tv :: p.vals C dx d)) (z : Pz p d n) {j : Nat} {b : Addr} (e : p.is[j]? = some b) (l : List Nat) : Own H0 (upd H b (.lst (iV l))) (t :: p.keys) (tv :: p.vals C dx { d with inn := d.inn.set j l }) := by
  have h1 := h.put (j := 8 + 2 * j) (b := b) (by
    rw [show 8 + 2 * j = 2 * j + 1 + 1 + 1 + 1 + 1 + 1 + 1 + 1 by omega]
    unfold Pp.keys
    simp only [List.getElem?_cons_succ]
    rw [il_get0 _ _ _ (by rw [z.is, z.ls])]; exact e) (.lst (iV l))
  have ev : (tv :: p.vals C dx d).set (8 + 2 * j) (.lst (iV l)) = tv :: p.vals C dx { d with inn := d.inn.set j l } := by
    rw [show 8 + 2 * j = 2 * j + 1 + 1 + 1 + 1 + 1 + 1 + 1 + 1 by omega]
    unfold Pp.vals
    simp only [List.set_cons_succ]
    rw [il_set0 _ _ _ (by rw [List.length_map, List.length_map, z.inn, z.lat]), List.map_set]
  rw [ev] at h1
  exact h1
theorem Own.putLat (h : Own H0 H (t :: p.keys) (tv :: p.vals C dx d)) (z : Pz p d n) {j : Nat} {b : Addr} (e : p.ls[j]? = some b) (l : List V) : Own H0 (upd H b (.lst l)) (t :: p.keys) (tv :: p.vals C dx { d with lat := d.lat.set j l }) := by
  have h1 := h.put (j := 2 * j + 1 + 1 + 1 + 1 + 1 + 1 + 1 + 1 + 1) (b := b) (by
    unfold Pp.keys
    rw [List.getElem?_cons_succ, List.getElem?_cons_succ, List.getElem?_cons_succ, List.getElem?_cons_succ, List.getElem?_cons_succ, List.getElem?_cons_succ, List.getElem?_cons_succ, List.getElem?_cons_succ]
    rw [il_get1 _ _ _ (by rw [z.is, z.ls])]; exact e) (.lst l)
  have ev : (tv :: p.vals C dx d).set (2 * j + 1 + 1 + 1 + 1 + 1 + 1 + 1 + 1 + 1) (.lst l) = tv :: p.vals C dx { d with lat := d.lat.set j l } := by
    unfold Pp.vals
    rw [List.set_cons_succ, List.set_cons_succ, List.set_cons_succ, List.set_cons_succ, List.set_cons_succ, List.set_cons_succ, List.set_cons_succ, List.set_cons_succ]
    rw [il_set1 _ _ _ (by rw [List.length_map, List.length_map, z.inn, z.lat]), List.map_set]
  rw [ev] at h1
  exact h1
end
/-! ### a method of an own class -/
structure ScOk (P : Program) (w : World) (K : PySem.W.Frag) (mg : Str → Option Value) (base : Heap) (C : Addr) (n : Nat) (m : Str) (ps : List Str) (sp : Sp) : Prop where
  cl : Cls K C
  ex : ∃ (f : Addr) (fd : FuncData), FnOk P w K mg base CX0 n f fd ps sp ∧ Meth K C m f ∧ Binds K fd ps []
section
variable {X : Cx} {C : Addr} {n : Nat} {sp : Sp} {m : Str} {ps : List Str} {o e : Expr} {es : List Expr} {ta : TE} {t : TA} {apos pos : Pos}
theorem pe_methS {pl : Sem Bool} (G : ScOk X.prog X.w X.K X.mg X.base C n m ps sp) (hr : Room n X.A) (he : PE X o ta) (ha : PA X (e :: es) t)
    (hst : starEach (e :: es) X.env = (false, eval e X.env) :: starEach es X.env := by rfl) (hpl : (backTo pos (starEach es X.env)).any (·.1) = false := by rfl)
    (ht : eval (.Call (.Attribute o m apos) (e :: es) [] pos) X.env = (do
      let ov ← eval o X.env
      standAt apos.atName
      let (f, first) ← holding [ov] (getMethod ov m pl)
      callWith pos f first (backTo pos (starEach (e :: es) X.env)) (backToKw pos (keywordEach [] X.env))) := by rfl) :
    PE X (.Call (.Attribute o m apos) (e :: es) [] pos) (tMeth C m sp [] E0 ta t) := by
  obtain ⟨f, fd, F, hm, hb⟩ := G.ex
  exact pe_meth he G.cl hm F hr hb .nil pass0 ha hst hpl ht
theorem pe_methS0 {pl : Sem Bool} (G : ScOk X.prog X.w X.K X.mg X.base C n m ps sp) (hr : Room n X.A) (he : PE X o ta)
    (ht : eval (.Call (.Attribute o m apos) [] [] pos) X.env = (do
      let ov ← eval o X.env
      standAt apos.atName
      let (f, first) ← holding [ov] (getMethod ov m pl)
      callWith pos f first (backTo pos (starEach [] X.env)) (backToKw pos (keywordEach [] X.env))) := by rfl) :
    PE X (.Call (.Attribute o m apos) [] [] pos) (tMeth C m sp [] E0 ta tNil) := by
  obtain ⟨f, fd, F, hm, hb⟩ := G.ex
  exact pe_meth0 he G.cl hm F hr hb .nil pass0 ht
end
end Rk
namespace Rk
open PySem PySem.Spec PyProof.Rows L2 Wv Tk
theorem st_cut {X Y : TS} {D : Ends} {σ : L2.St} {H : Hp} (Cn : L2.St → Hp → Prop) (h1 : ∀ nx', (∀ σ' H', Cn σ' H' → nx' σ' H') → X { D with nx := nx' } σ H) (h2 : ∀ σ' H', Cn σ' H' → Y D σ' H') : tSeq X Y D σ H := h1 _ h2
theorem rV_at {l : List Addr} {j : Nat} {x : Addr} (h : l[j]? = some x) : (l.map V.ref)[j]? = some (.ref x) := by rw [List.getElem?_map, h]; rfl
/-- a number at the end of some lists -/
def addL (lat : List (List V)) (l : List Nat) (m : Nat) : List (List V) := l.foldl (fun lat x => lat.set x (lat.getD x [] ++ [V.int (m : Nat)])) lat
theorem addL_len (l : List Nat) (m : Nat) : ∀ lat : List (List V), (addL lat l m).length = lat.length := by
  induction l with
  | nil => exact fun _ => rfl
  | cons x l ih => exact fun lat => (ih _).trans (List.length_set)
theorem addL_snoc (lat : List (List V)) (l : List Nat) (x m : Nat) : addL lat (l ++ [x]) m = (addL lat l m).set x ((addL lat l m).getD x [] ++ [V.int (m : Nat)]) := by unfold addL; rw [List.foldl_append]; rfl
theorem addL_at {m i : Nat} : ∀ (l : List Nat) (lat : List (List V)), l.Nodup → i < lat.length → (addL lat l m)[i]? = some (lat.getD i [] ++ (if i ∈ l then [V.int (m : Nat)] else []))
  | [], lat, _, h => by
    show lat[i]? = _
    rw [List.getElem?_eq_getElem h, if_neg (by simp), List.append_nil, List.getD_eq_getElem?_getD, List.getElem?_eq_getElem h]
    rfl
  | x :: l, lat, hn, h => by
    obtain ⟨h1, h2⟩ := List.nodup_cons.mp hn
    show (addL (lat.set x _) l m)[i]? = _
    rw [addL_at l _ h2 (by rw [List.length_set]; exact h)]
    by_cases e : i = x
    · subst e
      rw [if_neg h1, if_pos List.mem_cons_self, List.append_nil, List.getD_eq_getElem?_getD, List.getElem?_set_self h]
      rfl
    · rw [List.getD_eq_getElem?_getD, List.getElem?_set_ne (Ne.symm e), ← List.getD_eq_getElem?_getD]
      by_cases c : i ∈ l
      · rw [if_pos c, if_pos (List.mem_cons_of_mem _ c)]
      · rw [if_neg c, if_neg (fun q => by rcases List.mem_cons.mp q with q | q; exact e q; exact c q)]
def spPut (C : Addr) : Sp := fun vs H Q _ => ∃ (H0 : Hp) (p : Pp) (d : Pd) (t dx : Addr) (tv : HO) (m a B : Nat) (l : List Nat), vs = [.ref p.a, .int (m : Nat), .int (a : Nat)] ∧ Own H0 H (t :: p.keys) (tv :: p.vals C dx d) ∧ Pz p d (m + 1) ∧ a < m ∧
  d.inn[a]? = some l ∧ (∀ x ∈ l, x < m) ∧ l.length ≤ 100 ∧ l.Nodup ∧ (∀ x ∈ d.lat, x.length ≤ B) ∧ B ≤ 100000 ∧
  ∀ H' : Hp, Own H0 H' (t :: p.keys) (tv :: p.vals C dx { d with inn := d.inn.set a (l ++ [m]), lat := if d.kinds[a]? = some 3 then addL d.lat l m else d.lat }) → Still H H' → Q .non H'
section
variable {P : Program} {w : World} {K : PySem.W.Frag} {mg : Str → Option Value} {base : Heap} {C : Addr}
abbrev s_Parts_put_inside : Stmt := inClass (top 50) 2
theorem sc_Parts_put_inside : FnScope ["self", "number", "above", "earlier"] ["self", "number", "above"] (defScope s_Parts_put_inside) := ⟨rfl, rfl, rfl, by decide +kernel, rfl, by decide +kernel, by decide +kernel⟩
theorem ok_put {f : Addr} {fd : FuncData} (F : Fun K "put_inside" "Parts.put_inside" s_Parts_put_inside f fd) (T : PtF K C) (Cc : Kc mg) : FnOk P w K mg base CX0 1 f fd ["self", "number", "above"] (spPut C) := by
  have GC_ROW := Cc.k3
  refine F.ok sc_Parts_put_inside (fun vs H Q E h => by obtain ⟨_, _, _, _, _, _, _, _, _, _, rfl, _⟩ := h; rfl) (fun cdv A outer s' H vs Q E hr h => ?_)
  obtain ⟨H0, p, d, t, dx, tv, m, a, B, l, rfl, h, z, ham, hl, hlm, hll, hnd, hB, hB2, k⟩ := h
  refine ⟨_, (pss_cons (ps_if (pt_cmpR op_eq (pe_ix ix_list (pe_fld (pv 0) rfl) (pv 2) (fun _ _ => rfl)) (pe_globI rfl GC_ROW) (nomark _)) (pss_one (ps_for PassesOwn.never rfl (pi_list (pe_ix ix_list (pe_fld (pv 0) rfl) (pv 2) (fun _ _ => rfl))) (pg_name (i := 3) sc_Parts_put_inside.nd rfl (Or.inl rfl))
   (pss_one (ps_expr (pe_bm PySem.F.plainAttrs_list PySem.F.slot_list_append PySem.F.type_list_append mt_append (pe_ix ix_list (pe_fld (pv 0) rfl) (pv 3) (fun _ _ => rfl)) (pa_cons (pv 1) pa_nil)))))) pss_nil)
  (pss_one (ps_expr (pe_bm PySem.F.plainAttrs_list PySem.F.slot_list_append PySem.F.type_list_append mt_append (pe_ix ix_list (pe_fld (pv 0) rfl) (pv 2) (fun _ _ => rfl)) (pa_cons (pv 1) pa_nil))))), ?_⟩
  have hi : H p.a = some (.ins C dx p.fs) := h.at_ 1 p.a rfl
  have hk : H p.ks = some (.lst (iV d.kinds)) := h.at_ 2 p.ks rfl
  have hn : H p.ni = some (.lst (p.is.map V.ref)) := h.at_ 4 p.ni rfl
  obtain ⟨kd, hkd⟩ := get_lt (l := d.kinds) (j := a) (by rw [z.ks]; omega)
  obtain ⟨b, hb⟩ := get_lt (l := p.is) (j := a) (by rw [z.is]; omega)
  obtain ⟨l', hl', hbl⟩ := h.inn z hb
  rw [hl] at hl'
  cases hl'
  refine st_cut (fun σ' H' => ∃ (x3 : Option V), σ' = [some (.ref p.a), some (.int (m : Nat)), some (.int (a : Nat)), x3] ∧ Own H0 H' (t :: p.keys) (tv :: p.vals C dx { d with lat := if d.kinds[a]? = some 3 then addL d.lat l m else d.lat }) ∧ Still H H') (fun nx' hnx => ?_) (fun σ' H' hc => ?_)
  · refine ⟨_, rfl, p.a, C, dx, _, _, rfl, hi, T.cl, T.n1, rfl, _, rfl, p.ks, _, _, _, rfl, rfl, SqL.of hk, atI_nat (iV_at hkd), rfl, _, rfl, ?_⟩
    refine ite2 (fun e => ?_) (fun e => hnx _ _ ⟨none, rfl, ?_, .refl _⟩)
    · have ek : kd = 3 := by have := V.int.inj (of_decide_eq_true e); omega
      rw [hkd, ek, if_pos rfl] at hnx
      refine ⟨_, rfl, p.a, C, dx, _, _, rfl, hi, T.cl, T.n3, rfl, _, rfl, p.ni, _, _, _, rfl, rfl, SqL.of hn, atI_nat (rV_at hb), b, rfl, ⟨_, SqL.of hbl⟩, ?_⟩
      refine for_list (K := K) (a := b) (xs := iV l) (fun j σ H' => ∃ (x3 : Option V), σ = [some (.ref p.a), some (.int (m : Nat)), some (.int (a : Nat)), x3] ∧ Own H0 H' (t :: p.keys) (tv :: p.vals C dx { d with lat := addL d.lat (l.take j) m }) ∧ (∀ x ∈ addL d.lat (l.take j) m, x.length ≤ B + j) ∧ Still H H') ?_ ?_ ?_ ?_
      · exact ⟨none, rfl, h, hB, .refl _⟩
      · rintro j σ H' _ ⟨_, rfl, h', _, _⟩
        have z' : Pz p { d with lat := addL d.lat (l.take j) m } (m + 1) := ⟨z.ks, z.ws, z.inn, z.ab, by rw [addL_len]; exact z.lat, z.is, z.ls⟩
        obtain ⟨l2, e2, q2⟩ := h'.inn z' hb
        have e3 : d.inn[a]? = some l2 := e2
        rw [hl] at e3
        cases e3
        exact SqL.of q2
      · rintro j e σ Hx he ⟨x3, rfl, h', hbd, st⟩
        have z' : Pz p { d with lat := addL d.lat (l.take j) m } (m + 1) := ⟨z.ks, z.ws, z.inn, z.ab, by rw [addL_len]; exact z.lat, z.is, z.ls⟩
        obtain ⟨x, hx, rfl⟩ := iV_back he
        have hxm := hlm x (List.mem_of_getElem? hx)
        have hj : j < l.length := (List.getElem?_eq_some_iff.mp hx).1
        have hi' : Hx p.a = some (.ins C dx p.fs) := h'.at_ 1 p.a rfl
        have hla : Hx p.la = some (.lst (p.ls.map V.ref)) := h'.at_ 6 p.la rfl
        obtain ⟨bl, hbl2⟩ := get_lt (l := p.ls) (j := x) (by rw [z.ls]; omega)
        obtain ⟨xs, hxs, hbx⟩ := h'.lat z' hbl2
        have hxs' : (addL d.lat (l.take j) m)[x]? = some xs := hxs
        have hxl := hbd xs (List.mem_of_getElem? hxs')
        refine gset ?_
        refine ⟨_, rfl, p.a, C, dx, _, _, rfl, hi', T.cl, T.n5, rfl, _, rfl, p.la, _, _, _, rfl, rfl, SqL.of hla, atI_nat (rV_at hbl2), .inl ⟨rfl, _, SqL.of hbx⟩, _, rfl, bl, _, _, rfl, rfl, hbx, small' (by omega), ?_⟩
        have h2 := h'.putLat z' hbl2 (xs ++ [.int (m : Nat)])
        have e5 : addL d.lat (l.take (j + 1)) m = (addL d.lat (l.take j) m).set x (xs ++ [V.int (m : Nat)]) := by
          rw [take_more' hx, addL_snoc, List.getD_eq_getElem?_getD, hxs']
          rfl
        refine ⟨_, rfl, by rw [e5]; exact h2, fun y hy => ?_, st.trans (Still.put hbx)⟩
        rw [e5] at hy
        rcases List.mem_or_eq_of_mem_set hy with hy | rfl
        · exact Nat.le_trans (hbd y hy) (by omega)
        · rw [List.length_append, List.length_singleton]; omega
      · rintro σ Hx ⟨x3, rfl, h', hbd, st⟩
        rw [show (iV l).length = l.length by simp only [iV, List.length_map], List.take_length] at h'
        exact hnx _ _ ⟨x3, rfl, h', st⟩
    · rw [if_neg]
      · exact h
      · intro q
        rw [hkd] at q
        exact e (decide_eq_true (by rw [Option.some.inj q]; rfl))
  · obtain ⟨x3, rfl, h', st⟩ := hc
    have z' : Pz p { d with lat := if d.kinds[a]? = some 3 then addL d.lat l m else d.lat } (m + 1) := ⟨z.ks, z.ws, z.inn, z.ab, by
      show (if d.kinds[a]? = some 3 then addL d.lat l m else d.lat).length = m + 1
      split
      · rw [addL_len]; exact z.lat
      · exact z.lat, z.is, z.ls⟩
    have hi' : H' p.a = some (.ins C dx p.fs) := h'.at_ 1 p.a rfl
    have hn' : H' p.ni = some (.lst (p.is.map V.ref)) := h'.at_ 4 p.ni rfl
    obtain ⟨l2, e2, q2⟩ := h'.inn z' hb
    have e3 : d.inn[a]? = some l2 := e2
    rw [hl] at e3
    cases e3
    refine ⟨_, rfl, p.a, C, dx, _, _, rfl, hi', T.cl, T.n3, rfl, _, rfl, p.ni, _, _, _, rfl, rfl, SqL.of hn', atI_nat (rV_at hb), .inl ⟨rfl, _, SqL.of q2⟩, _, rfl, b, _, _, rfl, rfl, q2, small' (by simp only [iV, List.length_map]; omega), ?_⟩
    have h2 := h'.putInn z' hb (l ++ [m])
    rw [iV_snoc] at h2
    exact k _ h2 (st.trans (Still.put q2))
end
end Rk
namespace Rk
open PySem PySem.Spec PyProof.Rows L2 Wv Tk
/-! ### parts, the ones around them and the ones in them -/
/-- the numbers of ways one behind another, the first one's being n -/
def offs : Nat → List W → List Nat
  | _, [] => []
  | n, w :: ws => n :: offs (n + w.size) ws
theorem offs_len : ∀ (ws : List W) (n : Nat), (offs n ws).length = ws.length
  | [], _ => rfl
  | w :: ws, n => by simp only [offs, List.length_cons, offs_len ws]
theorem offs_ge : ∀ (ws : List W) (n m : Nat), m ∈ offs n ws → n ≤ m ∧ m < n + W.sizes ws
  | w :: ws, n, m, h => by
    have := w.size_pos
    simp only [offs, List.mem_cons] at h
    simp only [W.sizes]
    rcases h with rfl | h
    · omega
    · have := offs_ge ws _ m h
      omega
theorem offs_app : ∀ (a b : List W) (n : Nat), offs n (a ++ b) = offs n a ++ offs (n + W.sizes a) b
  | [], b, n => rfl
  | w :: a, b, n => by simp only [List.cons_append, offs, offs_app a b, W.sizes, Nat.add_assoc]
theorem offs_at {pre post : List W} {y : W} {n : Nat} : (offs n (pre ++ y :: post))[pre.length]? = some (n + W.sizes pre) := by
  rw [offs_app, List.getElem?_append_right (by rw [offs_len]; exact Nat.le_refl _), offs_len, Nat.sub_self]
  rfl
theorem offs_nodup : ∀ (ws : List W) (n : Nat), (offs n ws).Nodup
  | [], _ => List.nodup_nil
  | w :: ws, n => List.nodup_cons.mpr ⟨fun h => by have := (offs_ge ws _ n h).1; have := w.size_pos; omega, offs_nodup ws _⟩
/-- what a part's nearest frame says of what is around it -/
def Par2 (w : List W) (i : Nat) (x : W) : List Fr → Prop
  | [] => True
  | .row a m post :: gs => ∃ pre, At w a (.row (pre ++ x :: post)) gs ∧ i = a + 1 + W.sizes pre ∧ m = i + x.size
  | .choice a b :: gs => ∃ pre post, At w a (.choice (pre ++ x :: post)) gs ∧ i = a + 1 + W.sizes pre ∧ b = post.isEmpty
  | .again a y :: gs => At w a (.again x) gs ∧ i = a + 1 ∧ y = x
  | .maybe a :: gs => At w a (.maybe x) gs ∧ i = a + 1
  | .look a :: gs => (At w a (.ahead x) gs ∨ At w a (.unless x) gs) ∧ i = a + 1
mutual
theorem par2_W {w : List W} : ∀ (x : W) (i : Nat) (fs : List Fr), At w i x fs → Par2 w i x fs → ∀ (k : Nat) (y : W) (gs : List Fr), (layW i fs x)[k]? = some (y, gs) → Par2 w (i + k) y gs
  | .letter c, i, fs, h, p, k, y, gs, e => by
    rw [layW] at e
    cases k with
    | zero => cases e; exact p
    | succ k => simp at e
  | .one, i, fs, h, p, k, y, gs, e => by
    rw [layW] at e
    cases k with
    | zero => cases e; exact p
    | succ k => simp at e
  | .nothing, i, fs, h, p, k, y, gs, e => by
    rw [layW] at e
    cases k with
    | zero => cases e; exact p
    | succ k => simp at e
  | .call x, i, fs, h, p, k, y, gs, e => by
    rw [layW] at e
    cases k with
    | zero => cases e; exact p
    | succ k => simp at e
  | .row ws, i, fs, h, p, k, y, gs, e => by
    rw [layW] at e
    cases k with
    | zero => cases e; exact p
    | succ k =>
      have := par2_R ws [] i (i + 1) fs (by simpa using h) rfl h.row k y gs (by simpa using e)
      rwa [show i + 1 + k = i + (k + 1) by omega] at this
  | .choice ws, i, fs, h, p, k, y, gs, e => by
    rw [layW] at e
    cases k with
    | zero => cases e; exact p
    | succ k =>
      have := par2_C ws [] i (i + 1) fs (by simpa using h) rfl h.choice k y gs (by simpa using e)
      rwa [show i + 1 + k = i + (k + 1) by omega] at this
  | .again u, i, fs, h, p, k, y, gs, e => by
    rw [layW] at e
    cases k with
    | zero => cases e; exact p
    | succ k =>
      have := par2_W u (i + 1) _ h.again ⟨h, rfl, rfl⟩ k y gs (by simpa using e)
      rwa [show i + 1 + k = i + (k + 1) by omega] at this
  | .maybe u, i, fs, h, p, k, y, gs, e => by
    rw [layW] at e
    cases k with
    | zero => cases e; exact p
    | succ k =>
      have := par2_W u (i + 1) _ h.maybe ⟨h, rfl⟩ k y gs (by simpa using e)
      rwa [show i + 1 + k = i + (k + 1) by omega] at this
  | .ahead u, i, fs, h, p, k, y, gs, e => by
    rw [layW] at e
    cases k with
    | zero => cases e; exact p
    | succ k =>
      have := par2_W u (i + 1) _ h.ahead ⟨.inl h, rfl⟩ k y gs (by simpa using e)
      rwa [show i + 1 + k = i + (k + 1) by omega] at this
  | .unless u, i, fs, h, p, k, y, gs, e => by
    rw [layW] at e
    cases k with
    | zero => cases e; exact p
    | succ k =>
      have := par2_W u (i + 1) _ h.unless ⟨.inr h, rfl⟩ k y gs (by simpa using e)
      rwa [show i + 1 + k = i + (k + 1) by omega] at this
theorem par2_R {w : List W} : ∀ (ws pre : List W) (i n : Nat) (fs : List Fr), At w i (.row (pre ++ ws)) fs → n = i + 1 + W.sizes pre → AtR w i n fs ws → ∀ (k : Nat) (y : W) (gs : List Fr), (layR i n fs ws)[k]? = some (y, gs) → Par2 w (n + k) y gs
  | [], pre, i, n, fs, h, hn, hr, k, y, gs, e => by rw [layR] at e; simp at e
  | u :: ws, pre, i, n, fs, h, hn, hr, k, y, gs, e => by
    rw [layR] at e
    by_cases c : k < u.size
    · rw [List.getElem?_append_left (by rw [layW_len]; exact c)] at e
      exact par2_W u n _ hr.cons.1 ⟨pre, h, hn, rfl⟩ k y gs e
    · rw [List.getElem?_append_right (by rw [layW_len]; omega), layW_len] at e
      have := par2_R ws (pre ++ [u]) i (n + u.size) fs (by simpa using h) (by rw [W.sizes_app, W.sizes, W.sizes]; omega) hr.cons.2 _ y gs e
      rwa [show n + u.size + (k - u.size) = n + k by omega] at this
theorem par2_C {w : List W} : ∀ (ws pre : List W) (i n : Nat) (fs : List Fr), At w i (.choice (pre ++ ws)) fs → n = i + 1 + W.sizes pre → AtC w i n fs ws → ∀ (k : Nat) (y : W) (gs : List Fr), (layC i n fs ws)[k]? = some (y, gs) → Par2 w (n + k) y gs
  | [], pre, i, n, fs, h, hn, hr, k, y, gs, e => by rw [layC] at e; simp at e
  | u :: ws, pre, i, n, fs, h, hn, hr, k, y, gs, e => by
    rw [layC] at e
    by_cases c : k < u.size
    · rw [List.getElem?_append_left (by rw [layW_len]; exact c)] at e
      exact par2_W u n _ hr.cons.1 ⟨pre, ws, h, hn, rfl⟩ k y gs e
    · rw [List.getElem?_append_right (by rw [layW_len]; omega), layW_len] at e
      have := par2_C ws (pre ++ [u]) i (n + u.size) fs (by simpa using h) (by rw [W.sizes_app, W.sizes, W.sizes]; omega) hr.cons.2 _ y gs e
      rwa [show n + u.size + (k - u.size) = n + k by omega] at this
end
theorem At.par2 {w : List W} {x : W} {i : Nat} {fs : List Fr} (h : At w i x fs) : Par2 w i x fs := by
  obtain ⟨a, y, post, j, rfl, rfl, q⟩ := layF_get w [] (k := i) (e := (x, fs)) h.get
  exact par2_W y (W.sizes a) [] (at_root a y post) True.intro j x fs q
theorem AtR.at_ {w : List W} {i : Nat} {fs : List Fr} : ∀ (pre : List W) {n : Nat} {y : W} {post : List W}, AtR w i n fs (pre ++ y :: post) → At w (n + W.sizes pre) y (.row i (n + W.sizes pre + y.size) post :: fs)
  | [], n, y, post, h => h.cons.1
  | u :: pre, n, y, post, h => by
    have := AtR.at_ pre h.cons.2
    rw [W.sizes]
    rwa [show n + u.size + W.sizes pre = n + (u.size + W.sizes pre) by omega] at this
theorem AtC.at_ {w : List W} {i : Nat} {fs : List Fr} : ∀ (pre : List W) {n : Nat} {y : W} {post : List W}, AtC w i n fs (pre ++ y :: post) → At w (n + W.sizes pre) y (.choice i post.isEmpty :: fs)
  | [], n, y, post, h => h.cons.1
  | u :: pre, n, y, post, h => by
    have := AtC.at_ pre h.cons.2
    rw [W.sizes]
    rwa [show n + u.size + W.sizes pre = n + (u.size + W.sizes pre) by omega] at this
/-- the frame of a part's part -/
def frOf (i : Nat) (x : W) (m : Nat) (post : List W) : Fr := match x with
  | .row _ => .row i m post
  | .choice _ => .choice i post.isEmpty
  | .again y => .again i y
  | .maybe _ => .maybe i
  | _ => .look i
theorem frOf_num (i : Nat) (x : W) (m : Nat) (post : List W) : (frOf i x m post).num = i := by cases x <;> rfl
theorem At.kid {w : List W} {x y : W} {i : Nat} {fs : List Fr} {pre post : List W} (h : At w i x fs) (e : x.inner = pre ++ y :: post) : At w (i + 1 + W.sizes pre) y (frOf i x (i + 1 + W.sizes pre + y.size) post :: fs) := by
  have one : ∀ u : W, [u] = pre ++ y :: post → pre = [] ∧ u = y ∧ post = [] := fun u q => by
    cases pre with
    | nil => simp only [List.nil_append, List.cons.injEq] at q; exact ⟨rfl, q.1, q.2.symm⟩
    | cons a pre => simp at q
  cases x with
  | row ws => have e : ws = pre ++ y :: post := e; subst e; exact h.row.at_ pre
  | choice ws => have e : ws = pre ++ y :: post := e; subst e; exact h.choice.at_ pre
  | again u => obtain ⟨rfl, rfl, rfl⟩ := one u e; exact h.again
  | maybe u => obtain ⟨rfl, rfl, rfl⟩ := one u e; exact h.maybe
  | ahead u => obtain ⟨rfl, rfl, rfl⟩ := one u e; exact h.ahead
  | «unless» u => obtain ⟨rfl, rfl, rfl⟩ := one u e; exact h.unless
  | _ => simp [W.inner] at e
/-- what a frame says of those behind -/
def latN : List Fr → List Nat
  | .row _ m post :: _ => offs m post
  | _ => []
def abv (fs : List Fr) : Option Nat := fs.head?.map Fr.num
theorem offs_filter {pre post : List W} {y : W} {n : Nat} : (offs n (pre ++ y :: post)).filter (fun m => decide (n + W.sizes pre < m)) = offs (n + W.sizes pre + y.size) post := by
  rw [offs_app, List.filter_append]
  have h1 : (offs n pre).filter (fun m => decide (n + W.sizes pre < m)) = [] := by
    rw [List.filter_eq_nil_iff]
    intro m hm
    have := offs_ge pre n m hm
    simp only [decide_eq_true_eq]
    omega
  rw [h1, List.nil_append, offs, List.filter_cons, if_neg (by simp), List.filter_eq_self]
  intro m hm
  have h2 := (offs_ge post _ m hm).1
  have := y.size_pos
  simp only [decide_eq_true_eq]
  omega
/-! the layout, as it grows -/
def pend (i : Nat) : Nat → List (W × Option Nat) → List Nat
  | _, [] => []
  | n, e :: r => (if e.2 = some i then [n] else []) ++ pend i (n + e.1.size) r
theorem pend_app (i : Nat) : ∀ (xs ys : List (W × Option Nat)) (n : Nat), pend i n (xs ++ ys) = pend i n xs ++ pend i (n + W.sizes (xs.map (·.1))) ys
  | [], ys, n => rfl
  | e :: xs, ys, n => by
    simp only [List.cons_append, pend, pend_app i xs ys, List.map_cons, W.sizes, List.append_assoc]
    rw [show n + e.1.size + W.sizes (xs.map (·.1)) = n + (e.1.size + W.sizes (xs.map (·.1))) by omega]
theorem pend_kids (m : Nat) : ∀ (ws : List W) (n : Nat), pend m n (ws.map fun w => (w, some m)) = offs n ws
  | [], _ => rfl
  | w :: ws, n => by simp only [List.map_cons, pend, offs, if_true, List.singleton_append, pend_kids m ws]
theorem pend_none {i : Nat} : ∀ (r : List (W × Option Nat)) (n : Nat), (∀ e ∈ r, e.2 ≠ some i) → pend i n r = []
  | [], _, _ => rfl
  | e :: r, n, h => by
    rw [pend, if_neg (h e List.mem_cons_self), pend_none r _ (fun x hx => h x (List.mem_cons_of_mem _ hx))]
    rfl
theorem map_fst (ws : List W) (m : Nat) : (ws.map fun w => ((w, some m) : W × Option Nat)).map (·.1) = ws := by
  rw [List.map_map]
  exact List.map_id ws
/-- what is still to be laid out stands at these numbers -/
def stPos (w : List W) : Nat → List (W × Option Nat) → Prop
  | _, [] => True
  | m, e :: r => (∃ fs, At w m e.1 fs ∧ abv fs = e.2) ∧ stPos w (m + e.1.size) r
theorem stPos_app (w : List W) : ∀ (xs ys : List (W × Option Nat)) (n : Nat), stPos w n xs → stPos w (n + W.sizes (xs.map (·.1))) ys → stPos w n (xs ++ ys)
  | [], ys, n, _, h => h
  | e :: xs, ys, n, h, h2 => ⟨h.1, stPos_app w xs ys _ h.2 (by rw [List.map_cons, W.sizes] at h2; rwa [show n + e.1.size + W.sizes (xs.map (·.1)) = n + (e.1.size + W.sizes (xs.map (·.1))) by omega])⟩
theorem stPos_kids {w : List W} {x : W} {i : Nat} {fs : List Fr} (h : At w i x fs) : ∀ (ws pre : List W), x.inner = pre ++ ws → stPos w (i + 1 + W.sizes pre) (ws.map fun y => (y, some i))
  | [], pre, _ => True.intro
  | y :: ws, pre, e => by
    refine ⟨⟨_, h.kid e, by rw [abv, List.head?_cons, Option.map_some, frOf_num]⟩, ?_⟩
    have := stPos_kids h ws (pre ++ [y]) (by rw [e]; simp)
    rw [W.sizes_app, W.sizes, W.sizes, show i + 1 + (W.sizes pre + (y.size + 0)) = i + 1 + W.sizes pre + y.size by omega] at this
    exact this
structure PInv (w : List W) (n : Nat) (st : List (W × Option Nat)) (inn : List (List Nat)) : Prop where
  pos : stPos w n st.reverse
  il : inn.length = n
  kid : ∀ (i : Nat) (l : List Nat), inn[i]? = some l → ∃ x fs, At w i x fs ∧ l ++ pend i n st.reverse = offs (i + 1) x.inner
  low : ∀ (i : Nat) (l : List Nat), inn[i]? = some l → (∀ x ∈ l, x < n) ∧ l.length ≤ n
  ab : ∀ e ∈ st, ∀ a, e.2 = some a → a < n
theorem PInv.start (w : List W) : PInv w 0 [] [] := ⟨True.intro, rfl, fun i l h => by simp at h, fun i l h => by simp at h, fun e he => (nomatch he)⟩
theorem PInv.push {pre post : List W} {x : W} {inn : List (List Nat)} (h : PInv (pre ++ x :: post) (W.sizes pre) [] inn) : PInv (pre ++ x :: post) (W.sizes pre) [(x, none)] inn :=
  ⟨⟨⟨[], at_root pre x post, rfl⟩, True.intro⟩, h.il, fun i l hl => by
    obtain ⟨y, fs, hy, e⟩ := h.kid i l hl
    refine ⟨y, fs, hy, ?_⟩
    have e : l ++ pend i (W.sizes pre) [] = offs (i + 1) y.inner := e
    have e2 : pend i (W.sizes pre) [((x, none) : W × Option Nat)].reverse = pend i (W.sizes pre) [] := by simp [pend]
    rw [e2]
    exact e, h.low, fun e he a ha => by
    simp only [List.mem_singleton] at he
    subst he
    cases ha⟩
def nxt (n : Nat) (inn : List (List Nat)) : Option Nat → List (List Nat)
  | none => inn ++ [[]]
  | some i => (inn ++ [[]]).set i ((inn[i]?.getD []) ++ [n])
theorem PInv.at_ {w : List W} {x : W} {n : Nat} {st : List (W × Option Nat)} {a : Option Nat} {inn : List (List Nat)} (h : PInv w n (st ++ [(x, a)]) inn) : ∃ fs, At w n x fs ∧ abv fs = a := by
  have := h.pos
  rw [List.reverse_append, List.reverse_singleton] at this
  exact this.1
theorem PInv.nodup {w : List W} {n : Nat} {st : List (W × Option Nat)} {inn : List (List Nat)} (h : PInv w n st inn) {i : Nat} {l : List Nat} (hl : inn[i]? = some l) : l.Nodup := by
  obtain ⟨x, fs, _, e⟩ := h.kid i l hl
  have := offs_nodup x.inner (i + 1)
  rw [← e] at this
  exact (List.nodup_append.mp this).1
theorem PInv.step {w : List W} {x : W} {n : Nat} {st : List (W × Option Nat)} {a : Option Nat} {inn : List (List Nat)} (h : PInv w n (st ++ [(x, a)]) inn) :
    PInv w (n + 1) (st ++ x.inner.reverse.map fun y => (y, some n)) (nxt n inn a) := by
  obtain ⟨fs, hat, _⟩ := h.at_
  have er : (st ++ x.inner.reverse.map fun y => ((y, some n) : W × Option Nat)).reverse = (x.inner.map fun y => ((y, some n) : W × Option Nat)) ++ st.reverse := by
    rw [List.reverse_append, ← List.map_reverse, List.reverse_reverse]
  have er0 : (st ++ [(x, a)]).reverse = (x, a) :: st.reverse := by rw [List.reverse_append]; rfl
  have ab0 : ∀ e ∈ st, ∀ i, e.2 = some i → i < n := fun e he => h.ab e (List.mem_append.mpr (.inl he))
  have hpn : ∀ m, pend n m st.reverse = [] := fun m => pend_none _ _ fun e he q => Nat.lt_irrefl _ (ab0 e (List.mem_reverse.mp he) n q)
  have new : ∀ i, i ≠ n → pend i (n + 1) ((x.inner.map fun y => ((y, some n) : W × Option Nat)) ++ st.reverse) = pend i (n + x.size) st.reverse := fun i hi => by
    rw [pend_app, pend_none (i := i) _ _ (fun e he q => hi ?_), map_fst, List.nil_append, W.size_inner x, Nat.add_assoc]
    obtain ⟨y, _, rfl⟩ := List.mem_map.mp he
    exact (Option.some.inj q).symm
  have newn : pend n (n + 1) ((x.inner.map fun y => ((y, some n) : W × Option Nat)) ++ st.reverse) = offs (n + 1) x.inner := by
    rw [pend_app, pend_kids, hpn, List.append_nil]
  have old : ∀ (i : Nat) (l : List Nat), inn[i]? = some l → ∃ y gs, At w i y gs ∧ l ++ ((if a = some i then [n] else []) ++ pend i (n + x.size) st.reverse) = offs (i + 1) y.inner := fun i l hl => by
    obtain ⟨y, gs, hy, e⟩ := h.kid i l hl
    rw [er0, pend] at e
    exact ⟨y, gs, hy, e⟩
  refine ⟨?_, ?_, ?_, ?_, ?_⟩
  · rw [er]
    refine stPos_app w _ _ _ (stPos_kids hat x.inner [] rfl) ?_
    have := h.pos
    rw [er0] at this
    rw [map_fst, show n + 1 + W.sizes x.inner = n + x.size by rw [W.size_inner x]; omega]
    exact this.2
  · cases a with
    | none => show (inn ++ [[]]).length = n + 1; rw [List.length_append, h.il]; rfl
    | some i => show ((inn ++ [[]]).set i _).length = n + 1; rw [List.length_set, List.length_append, h.il]; rfl
  · intro i l hl
    rw [er]
    have base : ∀ l : List Nat, (inn ++ [[]])[i]? = some l → (i < n ∧ inn[i]? = some l) ∨ (i = n ∧ l = []) := fun l q => by
      by_cases c : i < inn.length
      · rw [List.getElem?_append_left c] at q
        exact .inl ⟨by rw [← h.il]; exact c, q⟩
      · have hi := (List.getElem?_eq_some_iff.mp q).1
        rw [List.length_append, List.length_singleton] at hi
        have ei : i = inn.length := by omega
        rw [ei, List.getElem?_append_right (Nat.le_refl _), Nat.sub_self] at q
        cases q
        exact .inr ⟨by rw [ei, h.il], rfl⟩
    cases a with
    | none =>
      rcases base l hl with ⟨c, q⟩ | ⟨rfl, rfl⟩
      · obtain ⟨y, gs, hy, e⟩ := old i l q
        rw [if_neg (by simp)] at e
        exact ⟨y, gs, hy, by rw [new i (by omega)]; exact e⟩
      · exact ⟨x, fs, hat, by rw [newn]; rfl⟩
    | some j =>
      have hj : j < n := h.ab (x, some j) (by simp) j rfl
      by_cases c : i = j
      · subst c
        have hl2 : ((inn ++ [[]]).set i ((inn[i]?.getD []) ++ [n]))[i]? = some l := hl
        rw [List.getElem?_set_self (by rw [List.length_append, h.il]; omega)] at hl2
        cases hl2
        obtain ⟨l0, hl0⟩ := get_lt (l := inn) (j := i) (by rw [h.il]; exact hj)
        obtain ⟨y, gs, hy, e⟩ := old i l0 hl0
        rw [if_pos rfl] at e
        refine ⟨y, gs, hy, ?_⟩
        rw [hl0, new i (by omega)]
        simpa only [Option.getD_some, List.append_assoc] using e
      · have hl2 : ((inn ++ [[]]).set j ((inn[j]?.getD []) ++ [n]))[i]? = some l := hl
        rw [List.getElem?_set_ne (Ne.symm c)] at hl2
        rcases base l hl2 with ⟨c2, q⟩ | ⟨rfl, rfl⟩
        · obtain ⟨y, gs, hy, e⟩ := old i l q
          rw [if_neg (fun e => c (Option.some.inj e).symm)] at e
          exact ⟨y, gs, hy, by rw [new i (by omega)]; exact e⟩
        · exact ⟨x, fs, hat, by rw [newn]; rfl⟩
  · intro i l hl
    have base : ∀ l : List Nat, (inn ++ [[]])[i]? = some l → (∀ x ∈ l, x < n) ∧ l.length ≤ n := fun l q => by
      by_cases c : i < inn.length
      · rw [List.getElem?_append_left c] at q
        exact h.low i l q
      · have hi := (List.getElem?_eq_some_iff.mp q).1
        rw [List.length_append, List.length_singleton] at hi
        have ei : i = inn.length := by omega
        rw [ei, List.getElem?_append_right (Nat.le_refl _), Nat.sub_self] at q
        cases q
        exact ⟨fun x hx => (nomatch hx), Nat.zero_le _⟩
    cases a with
    | none =>
      obtain ⟨h1, h2⟩ := base l hl
      exact ⟨fun x hx => Nat.lt_succ_of_lt (h1 x hx), Nat.le_succ_of_le h2⟩
    | some j =>
      have hj : j < n := h.ab (x, some j) (by simp) j rfl
      by_cases c : i = j
      · subst c
        have hl2 : ((inn ++ [[]]).set i ((inn[i]?.getD []) ++ [n]))[i]? = some l := hl
        rw [List.getElem?_set_self (by rw [List.length_append, h.il]; omega)] at hl2
        cases hl2
        obtain ⟨l0, hl0⟩ := get_lt (l := inn) (j := i) (by rw [h.il]; exact hj)
        obtain ⟨h1, h2⟩ := h.low i l0 hl0
        rw [hl0]
        refine ⟨fun x hx => ?_, by rw [Option.getD_some, List.length_append]; show l0.length + 1 ≤ n + 1; omega⟩
        rcases List.mem_append.mp hx with hx | hx
        · exact Nat.lt_succ_of_lt (h1 x hx)
        · rw [List.mem_singleton] at hx; omega
      · have hl2 : ((inn ++ [[]]).set j ((inn[j]?.getD []) ++ [n]))[i]? = some l := hl
        rw [List.getElem?_set_ne (Ne.symm c)] at hl2
        obtain ⟨h1, h2⟩ := base l hl2
        exact ⟨fun x hx => Nat.lt_succ_of_lt (h1 x hx), Nat.le_succ_of_le h2⟩
  · intro e he i hi
    rcases List.mem_append.mp he with he | he
    · exact Nat.lt_succ_of_lt (ab0 e he i hi)
    · obtain ⟨y, _, rfl⟩ := List.mem_map.mp he
      cases hi
      exact Nat.lt_succ_self _
end Rk
namespace Rk
open PySem PySem.Spec PyProof.Rows L2 Wv Tk
/-! ### the layout's lists -/
def latNow (inn : List (List Nat)) (fs : List Fr) (i : Nat) : List V := match fs with
  | .row a _ _ :: _ => iV ((inn.getD a []).filter fun m => decide (i < m))
  | _ => []
structure DInv (w : List W) (n : Nat) (d : Pd) : Prop where
  at_ : ∀ (i : Nat) (x : W) (fs : List Fr), i < n → At w i x fs → d.kinds[i]? = some x.kind ∧ d.words[i]? = some x.word ∧ d.ab[i]? = some (V.int (eI (abv fs))) ∧ d.lat[i]? = some (latNow d.inn fs i)
/-- what is known of the lists when all is laid out -/
structure Full (w : List W) (d : Pd) : Prop where
  at_ : ∀ (i : Nat) (x : W) (fs : List Fr), At w i x fs → d.kinds[i]? = some x.kind ∧ d.words[i]? = some x.word ∧ d.inn[i]? = some (offs (i + 1) x.inner) ∧ d.ab[i]? = some (V.int (eI (abv fs))) ∧ d.lat[i]? = some (iV (latN fs))
def putLat (d : Pd) (k : Nat) (n : Nat) : Option Nat → List (List V)
  | none => d.lat ++ [[]]
  | some a => if (d.kinds ++ [k])[a]? = some 3 then addL (d.lat ++ [[]]) (d.inn.getD a []) n else d.lat ++ [[]]
theorem pend_ge (i : Nat) : ∀ (r : List (W × Option Nat)) (n m : Nat), m ∈ pend i n r → n ≤ m
  | [], n, m, h => by simp [pend] at h
  | e :: r, n, m, h => by
    rw [pend] at h
    rcases List.mem_append.mp h with h | h
    · split at h
      · rw [List.mem_singleton] at h; omega
      · simp at h
    · have := pend_ge i r _ m h; omega
theorem kind_row {x : W} : x.kind = 3 ↔ ∃ ws, x = .row ws := by
  cases x with
  | row ws => exact ⟨fun _ => ⟨ws, rfl⟩, fun _ => rfl⟩
  | _ => exact ⟨fun h => by simp [W.kind] at h, fun ⟨_, h⟩ => by cases h⟩
theorem mem_offs {n m : Nat} : ∀ {ws : List W}, m ∈ offs n ws → ∃ pre y post, ws = pre ++ y :: post ∧ m = n + W.sizes pre := by
  intro ws
  induction ws generalizing n with
  | nil => intro h; simp [offs] at h
  | cons w ws ih =>
    intro h
    rw [offs] at h
    rcases List.mem_cons.mp h with rfl | h
    · exact ⟨[], w, ws, rfl, rfl⟩
    · obtain ⟨pre, y, post, e, hm⟩ := ih h
      exact ⟨w :: pre, y, post, by rw [e]; rfl, by rw [hm, W.sizes]; omega⟩
section
variable {w : List W} {x : W} {n : Nat} {d : Pd} {st : List (W × Option Nat)} {a : Option Nat}
/-- among the parts so far of a row are those that have it nearest -/
theorem PInv.row_mem {inn : List (List Nat)} (h : PInv w n st inn) {i b : Nat} {y X : W} {fs gs : List Fr} {l : List Nat} (hi : i < n) (hy : At w i y fs) (hX : At w b X gs) (k3 : X.kind = 3) (hl : inn[b]? = some l) : i ∈ l ↔ ∃ m post rs, fs = .row b m post :: rs := by
  obtain ⟨X', gs', hX', e⟩ := h.kid b l hl
  obtain ⟨rfl, rfl⟩ := hX.uniq hX'
  obtain ⟨ws, rfl⟩ := kind_row.mp k3
  constructor
  · intro hm
    have : i ∈ offs (b + 1) (W.row ws).inner := by rw [← e]; exact List.mem_append.mpr (.inl hm)
    obtain ⟨pre, u, post, e2, e3⟩ := mem_offs this
    have hk := hX.kid e2
    rw [← e3] at hk
    obtain ⟨_, rfl⟩ := hy.uniq hk
    exact ⟨_, _, _, rfl⟩
  · rintro ⟨m, post, rs, rfl⟩
    obtain ⟨pre, hp, e2, _⟩ := hy.par2
    have hu := hX.uniq hp
    have e3 := hu.1
    have e4 : ws = pre ++ y :: post := W.row.inj e3
    have : i ∈ offs (b + 1) (W.row ws).inner := by
      show i ∈ offs (b + 1) ws
      rw [e4, e2]
      exact List.mem_of_getElem? offs_at
    rw [← e] at this
    rcases List.mem_append.mp this with q | q
    · exact q
    · have := pend_ge b _ n i q; omega
theorem DInv.start : DInv w 0 ⟨[], [], [], [], [], d.wh⟩ := ⟨fun i x fs h => absurd h (Nat.not_lt_zero _)⟩
theorem DInv.step (h : DInv w n d) (I : PInv w n (st ++ [(x, a)]) d.inn) (z1 : d.kinds.length = n) (z2 : d.words.length = n) (z3 : d.ab.length = n) (z4 : d.lat.length = n) :
    DInv w (n + 1) { d with kinds := d.kinds ++ [x.kind], words := d.words ++ [x.word], inn := nxt n d.inn a, ab := d.ab ++ [V.int (eI a)], lat := putLat d x.kind n a } := by
  obtain ⟨fn, hn, ea⟩ := I.at_
  have il := I.il
  have han : ∀ b, a = some b → b < n := fun b q => I.ab (x, a) (by simp) b q
  refine ⟨fun i y fs hi hy => ?_⟩
  have look : ∀ {α : Type} (l : List α) (v : α), l.length = n → (i < n → (l ++ [v])[i]? = l[i]?) ∧ (i = n → (l ++ [v])[i]? = some v) := fun l v hl => ⟨fun q => List.getElem?_append_left (by omega), fun q => by
    rw [List.getElem?_append_right (by omega), show i - l.length = 0 by omega]; rfl⟩
  have latL : ((d.lat ++ [[]] : List (List V))).length = n + 1 := by rw [List.length_append, z4]; rfl
  by_cases c : i < n
  · obtain ⟨h1, h2, h3, h4⟩ := h.at_ i y fs c hy
    refine ⟨by rw [(look _ _ z1).1 c]; exact h1, by rw [(look _ _ z2).1 c]; exact h2, by rw [(look _ _ z3).1 c]; exact h3, ?_⟩
    have base : (d.lat ++ [[]])[i]? = some (latNow d.inn fs i) := by rw [(look _ _ z4).1 c]; exact h4
    -- the list of a part that is there already
    have get : ∀ b, b < n → (d.inn ++ [[]]).getD b [] = d.inn.getD b [] := fun b hb => by
      rw [List.getD_eq_getElem?_getD, List.getElem?_append_left (by omega), ← List.getD_eq_getElem?_getD]
    cases a with
    | none =>
      show (d.lat ++ [[]])[i]? = some (latNow (d.inn ++ [[]]) fs i)
      rw [base]
      congr 1
      match fs, hy with
      | .row b m post :: gs, hy =>
        obtain ⟨pre, hp, e2, _⟩ := hy.par2
        show iV _ = iV _
        rw [get b (by omega)]
      | [], _ => rfl
      | .choice _ _ :: _, _ => rfl
      | .again _ _ :: _, _ => rfl
      | .maybe _ :: _, _ => rfl
      | .look _ :: _, _ => rfl
    | some b =>
      have hb := han b rfl
      obtain ⟨l, hl⟩ := get_lt (l := d.inn) (j := b) (by omega)
      have el : d.inn.getD b [] = l := by rw [List.getD_eq_getElem?_getD, hl]; rfl
      obtain ⟨X, gs, hX⟩ := at_all (w := w) (i := b) (by have := hn.lt; have := x.size_pos; omega)
      obtain ⟨kX, _, _, _⟩ := h.at_ b X gs hb hX
      have ek : (d.kinds ++ [x.kind])[b]? = some X.kind := by rw [List.getElem?_append_left (by omega)]; exact kX
      have hnx : nxt n d.inn (some b) = (d.inn ++ [[]]).set b (l ++ [n]) := by show (d.inn ++ [[]]).set b ((d.inn[b]?.getD []) ++ [n]) = _; rw [hl]; rfl
      have get2 : ∀ b', b' < n → b' ≠ b → (nxt n d.inn (some b)).getD b' [] = d.inn.getD b' [] := fun b' h1 h2 => by
        rw [hnx, List.getD_eq_getElem?_getD, List.getElem?_set_ne (Ne.symm h2), ← List.getD_eq_getElem?_getD, get b' h1]
      have get3 : (nxt n d.inn (some b)).getD b [] = l ++ [n] := by
        rw [hnx, List.getD_eq_getElem?_getD, List.getElem?_set_self (by rw [List.length_append]; show b < _ + 1; omega)]
        rfl
      show (putLat d x.kind n (some b))[i]? = some (latNow (nxt n d.inn (some b)) fs i)
      unfold putLat
      simp only []
      rw [ek, el]
      have bD : (d.lat ++ [[]]).getD i [] = latNow d.inn fs i := by rw [List.getD_eq_getElem?_getD, base]; rfl
      -- not one of this part's own: as it was
      have stay : (∀ m post rs, fs ≠ .row b m post :: rs) → latNow (nxt n d.inn (some b)) fs i = latNow d.inn fs i := fun q => by
        match fs, hy, q with
        | .row b' m post :: gs, hy, q =>
          have hne : b' ≠ b := fun e => q m post gs (by rw [e])
          obtain ⟨pre, hp, e2, _⟩ := hy.par2
          show iV _ = iV _
          rw [get2 b' (by omega) hne]
        | [], _, _ => rfl
        | .choice _ _ :: _, _, _ => rfl
        | .again _ _ :: _, _, _ => rfl
        | .maybe _ :: _, _, _ => rfl
        | .look _ :: _, _, _ => rfl
      by_cases k3 : X.kind = 3
      · rw [if_pos (by rw [k3])]
        rw [addL_at l _ (I.nodup hl) (by rw [latL]; omega), bD]
        by_cases hr : ∃ m post rs, fs = .row b m post :: rs
        · rw [if_pos ((I.row_mem c hy hX k3 hl).mpr hr)]
          obtain ⟨m, post, rs, rfl⟩ := hr
          show some (iV ((d.inn.getD b []).filter _) ++ _) = some (iV (((nxt n d.inn (some b)).getD b []).filter _))
          rw [get3, el, List.filter_append, List.filter_cons, if_pos (decide_eq_true c), List.filter_nil]
          unfold iV
          rw [List.map_append]
          rfl
        · rw [if_neg (fun q => hr ((I.row_mem c hy hX k3 hl).mp q)), List.append_nil, stay (fun m post rs q => hr ⟨m, post, rs, q⟩)]
      · rw [if_neg (fun q => k3 (Option.some.inj q)), base, stay]
        rintro m post rs rfl
        obtain ⟨pre, hp, _, _⟩ := hy.par2
        have := (hX.uniq hp).1
        rw [this] at k3
        exact k3 rfl
  · have ei : i = n := by omega
    subst ei
    obtain ⟨rfl, rfl⟩ := hy.uniq hn
    refine ⟨(look _ _ z1).2 rfl, (look _ _ z2).2 rfl, by rw [(look _ _ z3).2 rfl, ea], ?_⟩
    have base : (d.lat ++ [[]])[i]? = some ([] : List V) := (look _ _ z4).2 rfl
    have empty : latNow (nxt i d.inn a) fs i = [] := by
      match fs, ea with
      | .row b m post :: gs, ea =>
        have ea : a = some b := ea.symm
        subst ea
        obtain ⟨l, hl⟩ := get_lt (l := d.inn) (j := b) (by have := han b rfl; omega)
        obtain ⟨hlow, _⟩ := I.low b l hl
        have hnx : nxt i d.inn (some b) = (d.inn ++ [[]]).set b (l ++ [i]) := by show (d.inn ++ [[]]).set b ((d.inn[b]?.getD []) ++ [i]) = _; rw [hl]; rfl
        show iV (((nxt i d.inn (some b)).getD b []).filter _) = []
        rw [hnx, List.getD_eq_getElem?_getD, List.getElem?_set_self (by rw [List.length_append]; show b < _ + 1; have := han b rfl; omega)]
        have : ((some (l ++ [i])).getD []).filter (fun m => decide (i < m)) = [] := by
          rw [List.filter_eq_nil_iff]
          intro m hm
          have hm : m ∈ l ++ [i] := hm
          rcases List.mem_append.mp hm with q | q
          · have := hlow m q; simp only [decide_eq_true_eq]; omega
          · rw [List.mem_singleton] at q; simp only [decide_eq_true_eq]; omega
        rw [this]
        rfl
      | [], _ => rfl
      | .choice _ _ :: _, _ => rfl
      | .again _ _ :: _, _ => rfl
      | .maybe _ :: _, _ => rfl
      | .look _ :: _, _ => rfl
    show (putLat d y.kind i a)[i]? = some (latNow (nxt i d.inn a) fs i)
    rw [empty]
    cases a with
    | none => exact base
    | some b =>
      unfold putLat
      simp only []
      split
      · obtain ⟨l, hl⟩ := get_lt (l := d.inn) (j := b) (by have := han b rfl; omega)
        have el : d.inn.getD b [] = l := by rw [List.getD_eq_getElem?_getD, hl]; rfl
        obtain ⟨hlow, _⟩ := I.low b l hl
        rw [el, addL_at l _ (I.nodup hl) (by rw [latL]; omega), if_neg (fun q => Nat.lt_irrefl _ (hlow i q)), List.append_nil, List.getD_eq_getElem?_getD, base]
        rfl
      · exact base
theorem Full.of (h : DInv w (W.sizes w) d) (I : PInv w (W.sizes w) [] d.inn) : Full w d := ⟨fun i x fs hx => by
  have hi : i < (W.sizes w) := by have := hx.lt; have := x.size_pos; omega
  obtain ⟨h1, h2, h3, h4⟩ := h.at_ i x fs hi hx
  have kid : ∀ (j : Nat) (y : W) (gs : List Fr), At w j y gs → d.inn[j]? = some (offs (j + 1) y.inner) := fun j y gs hy => by
    obtain ⟨l, hl⟩ := get_lt (l := d.inn) (j := j) (by have := hy.lt; have := y.size_pos; rw [I.il]; omega)
    obtain ⟨X, gs', hX, e⟩ := I.kid j l hl
    obtain ⟨rfl, rfl⟩ := hy.uniq hX
    rw [hl, ← e]
    simp [pend]
  refine ⟨h1, h2, kid i x fs hx, h3, ?_⟩
  rw [h4]
  match fs, hx with
  | .row a m post :: gs, hx =>
    obtain ⟨pre, hp, e2, e3⟩ := hx.par2
    show some (iV ((d.inn.getD a []).filter _)) = some (iV (offs m post))
    have := kid a _ gs hp
    rw [List.getD_eq_getElem?_getD, this, e3, e2]
    exact congrArg (fun l => some (iV l)) offs_filter
  | [], _ => rfl
  | .choice _ _ :: _, _ => rfl
  | .again _ _ :: _, _ => rfl
  | .maybe _ :: _, _ => rfl
  | .look _ :: _, _ => rfl⟩
end
end Rk
/-! dicts whose keys are tuples that nest -/
namespace Nst
open PySem PySem.Spec PyProof.Rows L2 Wv
mutual
/-- the value is this key -/
def KeyIs (H : Hp) : NestedKey → V → Prop
  | .none, v => v = .non
  | .num i, v => v = .int i ∨ ∃ b : Bool, v = .bl b ∧ i = if b = true then 1 else 0
  | .text x, v => v = .str x
  | .tup ks, v => ∃ a vs, v = .ref a ∧ H a = some (.tup vs) ∧ KeysAre H ks vs
def KeysAre (H : Hp) : List NestedKey → List V → Prop
  | [], vs => vs = []
  | k :: ks, vs => ∃ v us, vs = v :: us ∧ KeyIs H k v ∧ KeysAre H ks us
end
mutual
theorem KeyIs.keep {H H' : Hp} (ht : ∀ b ys, H b = some (.tup ys) → H' b = some (.tup ys)) : ∀ (k : NestedKey) (v : V), KeyIs H k v → KeyIs H' k v
  | .none, v, h => by rw [KeyIs] at h ⊢; exact h
  | .num i, v, h => by rw [KeyIs] at h ⊢; exact h
  | .text x, v, h => by rw [KeyIs] at h ⊢; exact h
  | .tup ks, v, h => by
    rw [KeyIs] at h ⊢
    obtain ⟨a, vs, e, h1, h2⟩ := h
    exact ⟨a, vs, e, ht _ _ h1, KeysAre.keep ht ks vs h2⟩
theorem KeysAre.keep {H H' : Hp} (ht : ∀ b ys, H b = some (.tup ys) → H' b = some (.tup ys)) : ∀ (ks : List NestedKey) (vs : List V), KeysAre H ks vs → KeysAre H' ks vs
  | [], vs, h => by rw [KeysAre] at h ⊢; exact h
  | k :: ks, vs, h => by
    rw [KeysAre] at h ⊢
    obtain ⟨v, us, e, h1, h2⟩ := h
    exact ⟨v, us, e, KeyIs.keep ht k v h1, KeysAre.keep ht ks us h2⟩
end
section
variable {P : Program} {w : World} {H : Hp} {h : Heap}
mutual
theorem nested_of (ok : HOk P w H h) : ∀ (k : NestedKey) (v : V) (u : Value), KeyIs H k v → RelV v u → NestedIs h k u
  | .none, v, u, hk, r => by
    rw [KeyIs] at hk
    subst hk
    obtain rfl : u = Value.none := r
    exact .none
  | .num i, v, u, hk, r => by
    rw [KeyIs] at hk
    rcases hk with rfl | ⟨b, rfl, e⟩
    · obtain ⟨t, rfl⟩ := r
      exact .int i t
    · obtain rfl : u = Value.bool b := r
      exact .bool e
  | .text x, v, u, hk, r => by
    rw [KeyIs] at hk
    subst hk
    obtain ⟨t, rfl⟩ := r
    exact .text x t
  | .tup ks, v, u, hk, r => by
    rw [KeyIs] at hk
    obtain ⟨a, vs, rfl, h1, h2⟩ := hk
    obtain rfl : u = Value.ref a := r
    obtain ⟨_, its, rv, o, h3, h4, n, h5⟩ := (show ObjOk P w H h a (.tup vs) from ok a _ h1)
    exact .tup h3 h4 h5 (by simpa using nested_all ok ks vs its h2 rv)
theorem nested_all (ok : HOk P w H h) : ∀ (ks : List NestedKey) (vs : List V) (us : List Value), KeysAre H ks vs → Vals vs us → NestedAll h ks us
  | [], vs, us, hk, r => by
    rw [KeysAre] at hk
    subst hk
    cases r
    exact .nil
  | k :: ks, vs, us, hk, r => by
    rw [KeysAre] at hk
    obtain ⟨v, ws, rfl, h1, h2⟩ := hk
    cases r with
    | cons r1 r2 => exact .cons (nested_of ok k v _ h1 r1) (nested_all ok ks ws _ h2 r2)
end
end
abbrev NP (p : NestedKey × Addr × V) (q : NestedKey × Addr × Value) : Prop := p.1 = q.1 ∧ p.2.1 = q.2.1 ∧ RelV p.2.2 q.2.2
/-- the dict's object: its keys, where they stand, the values -/
def NX (P : Program) (w : World) (a : Addr) (kvs : List (NestedKey × Addr × V)) : HO := .ext fun h => (a == sysModules) = false ∧ ∃ ys, Paired NP kvs ys ∧ ∃ o es ep, h.get? a = some o ∧ o.ExactDict ∧ o.data = .dict es ep ∧ es.toList = ys.map (entryOfKey (nestedKind P w)) ∧ (ys.map (·.1)).Nodup
/-- what is known of each key, beside that it is one -/
structure KG where
  is : Hp → NestedKey → V → Prop
  imp : ∀ H k v, is H k v → KeyIs H k v ∧ k.depth ≤ 8
  keep : ∀ H H' k v, (∀ b ys, H b = some (.tup ys) → H' b = some (.tup ys)) → is H k v → is H' k v
/-- keys and values -/
def kvN (kvs : List (NestedKey × Addr × V)) : List (NestedKey × V) := kvs.map fun p => (p.1, p.2.2)
/-- a dict stands at a with these keys and values, in their order -/
def ND (G : KG) (P : Program) (w : World) (H : Hp) (a : Addr) (m : List (NestedKey × V)) : Prop := ∃ kvs, H a = some (NX P w a kvs) ∧ (∀ p ∈ kvs, G.is H p.1 (.ref p.2.1)) ∧ kvN kvs = m
theorem nx_tup {P : Program} {w : World} {a : Addr} {kvs : List (NestedKey × Addr × V)} {xs : List V} : NX P w a kvs ≠ .tup xs := fun z => by unfold NX at z; cases z
theorem ND.same {G : KG} {P : Program} {w : World} {H H' : Hp} {a : Addr} {m : List (NestedKey × V)} (h : ND G P w H a m) (s : Same H H') : ND G P w H' a m := by
  obtain ⟨kvs, h1, h2, h3⟩ := h
  exact ⟨kvs, s _ _ h1, fun p hp => G.keep _ _ _ _ (fun b ys e => s _ _ e) (h2 p hp), h3⟩
theorem ND.put {G : KG} {P : Program} {w : World} {H : Hp} {a b : Addr} {m : List (NestedKey × V)} {o u : HO} (h : ND G P w H a m) (hb : H b = some o) (n : a ≠ b) (ht : ∀ xs, o ≠ .tup xs) : ND G P w (upd H b u) a m := by
  obtain ⟨kvs, h1, h2, h3⟩ := h
  exact ⟨kvs, by rw [upd_ne n]; exact h1, fun p hp => G.keep _ _ _ _ (fun c ys e => by rw [upd_ne (fun z => ht ys (by rw [z, hb] at e; exact Option.some.inj e))]; exact e) (h2 p hp), h3⟩
theorem ND.ne {G : KG} {P : Program} {w : World} {H : Hp} {a b : Addr} {m : List (NestedKey × V)} {xs : List V} (h : ND G P w H a m) (hb : H b = some (.lst xs)) : a ≠ b := fun e => by
  obtain ⟨kvs, h1, _⟩ := h
  rw [e, hb] at h1
  unfold NX at h1
  cases h1
/-- in its place, or at the end -/
def putN (kvs : List (NestedKey × Addr × V)) (k : NestedKey) (b : Addr) (v : V) : List (NestedKey × Addr × V) :=
  if (kvs.any fun p => decide (p.1 = k)) = true then kvs.map (fun p => if p.1 = k then (p.1, p.2.1, v) else p) else kvs ++ [(k, b, v)]
theorem kvN_put (kvs : List (NestedKey × Addr × V)) (k : NestedKey) (b : Addr) (v : V) : kvN (putN kvs k b v) = putK (kvN kvs) k v := by
  unfold putN putK
  have e : ((kvN kvs).any fun kv => decide (kv.1 = k)) = kvs.any fun p => decide (p.1 = k) := by
    unfold kvN
    rw [List.any_map]
    rfl
  rw [e]
  split
  · unfold kvN
    rw [List.map_map, List.map_map]
    refine List.map_congr_left fun p _ => ?_
    show (fun q : NestedKey × Addr × V => (q.1, q.2.2)) (if p.1 = k then (p.1, p.2.1, v) else p) = if p.1 = k then (p.1, v) else (p.1, p.2.2)
    split <;> rfl
  · unfold kvN
    rw [List.map_append]
    rfl
theorem put_mem {kvs : List (NestedKey × Addr × V)} {k : NestedKey} {b : Addr} {v : V} {p : NestedKey × Addr × V} (h : p ∈ putN kvs k b v) : (∃ q ∈ kvs, q.1 = p.1 ∧ q.2.1 = p.2.1) ∨ (p.1 = k ∧ p.2.1 = b) := by
  unfold putN at h
  split at h
  · obtain ⟨q, hq, e⟩ := List.mem_map.mp h
    refine .inl ⟨q, hq, ?_⟩
    split at e <;> (subst e; exact ⟨rfl, rfl⟩)
  · rcases List.mem_append.mp h with h | h
    · exact .inl ⟨p, h, rfl, rfl⟩
    · rw [List.mem_singleton] at h
      subst h
      exact .inr ⟨rfl, rfl⟩
theorem pn_any {kvs : List (NestedKey × Addr × V)} {ys : List (NestedKey × Addr × Value)} (r : Paired NP kvs ys) (k : NestedKey) : (kvs.any fun p => decide (p.1 = k)) = (atKey ys k).isSome := by
  induction r with
  | nil => rfl
  | @cons p q ps qs h t ih =>
    rw [List.any_cons]
    by_cases e : p.1 = k
    · have e' : q.1 = k := h.1.symm.trans e
      rw [decide_eq_true e]
      simp [atKey, List.find?_cons, e']
    · have e' : ¬ q.1 = k := fun z => e (h.1.trans z)
      rw [decide_eq_false e, Bool.false_or, ih]
      simp [atKey, List.find?_cons, e']
theorem pn_val {kvs : List (NestedKey × Addr × V)} {ys : List (NestedKey × Addr × Value)} (r : Paired NP kvs ys) (k : NestedKey) : RelO (valV (kvN kvs) k) ((atKey ys k).map (·.2)) := by
  induction r with
  | nil => exact True.intro
  | @cons p q ps qs h t ih =>
    obtain ⟨h1, _, h2⟩ := h
    by_cases e : p.1 = k
    · have e' : q.1 = k := h1.symm.trans e
      have b : atKey (q :: qs) k = some q.2 := by simp [atKey, List.find?_cons, e']
      rw [show kvN (p :: ps) = (p.1, p.2.2) :: kvN ps from rfl, valV_pos e, b]; exact h2
    · have e' : ¬ q.1 = k := fun z => e (h1.trans z)
      have b : atKey (q :: qs) k = atKey qs k := by simp [atKey, List.find?_cons, e']
      rw [show kvN (p :: ps) = (p.1, p.2.2) :: kvN ps from rfl, valV_neg e, b]; exact ih
theorem pn_repl {kvs : List (NestedKey × Addr × V)} {ys : List (NestedKey × Addr × Value)} (r : Paired NP kvs ys) (k : NestedKey) {v : V} {u : Value} (rv : RelV v u) : Paired NP (kvs.map fun p => if p.1 = k then (p.1, p.2.1, v) else p) (ys.map (putAt k u)) := by
  induction r with
  | nil => exact .nil
  | @cons p q ps qs h t ih =>
    rw [List.map_cons, List.map_cons]
    refine .cons ?_ ih
    obtain ⟨h1, h2, h3⟩ := h
    unfold putAt
    by_cases e : p.1 = k
    · rw [if_pos e, if_pos (h1.symm.trans e)]; exact ⟨h1, h2, rv⟩
    · rw [if_neg e, if_neg (fun z => e (h1.trans z))]; exact ⟨h1, h2, h3⟩
theorem pn_put {kvs : List (NestedKey × Addr × V)} {ys : List (NestedKey × Addr × Value)} (r : Paired NP kvs ys) (k : NestedKey) (b : Addr) {v : V} {u : Value} (rv : RelV v u) : Paired NP (putN kvs k b v) (storedH ys k b u) := by
  unfold putN storedH
  rw [pn_any r k]
  split
  · exact pn_repl r k rv
  · exact Paired.snoc r ⟨rfl, rfl, rv⟩
theorem nx_ok {P : Program} {w : World} {H : Hp} {h : Heap} {a : Addr} {kvs : List (NestedKey × Addr × V)} (hs : (a == sysModules) = false) {ys : List (NestedKey × Addr × Value)} (r : Paired NP kvs ys) {o : Obj} {es : Array DictEntry} {ep : Nat} (g1 : h.get? a = some o) (g2 : o.ExactDict) (g3 : o.data = .dict es ep) (g4 : es.toList = ys.map (entryOfKey (nestedKind P w))) (g5 : (ys.map (·.1)).Nodup) : ObjOk P w H h a (NX P w a kvs) :=
  ⟨⟨hs, ys, r, o, es, ep, g1, g2, g3, g4, g5⟩, ⟨o, g1⟩, fun _ _ ⟨hs', ys', r', o', es', ep', p1, p2⟩ hk' => ⟨hs', ys', r', o', es', ep', hk' _ p1, p2⟩⟩
section
variable {X : Cx} {pins : List (Addr × Obj)} {σ : L2.St} {H : Hp} {s : Shared} {a : Addr} {A : Around} {E : Value → Shared → Prop}
theorem nd_rd {G : KG} {P : Program} {w : World} {h : Heap} {m : List (NestedKey × V)} (ok : HOk P w H h) (d : ND G P w H a m) : ∃ kvs ys, H a = some (NX P w a kvs) ∧ (∀ p ∈ kvs, G.is H p.1 (.ref p.2.1)) ∧ kvN kvs = m ∧ Paired NP kvs ys ∧ (a == sysModules) = false ∧ h.DictOfH (nestedKind P w) a ys := by
  obtain ⟨kvs, h1, h2, h3⟩ := d
  obtain ⟨⟨hs, ys, r, o, es, ep, g1, g2, g3, g4, g5⟩, _, _⟩ := (show ObjOk P w H h a (NX P w a kvs) from ok a _ h1)
  refine ⟨kvs, ys, h1, h2, h3, r, hs, o, es, ep, g1, g2, g3, g4, fun y hy => ?_, g5⟩
  have all : ∀ {l : List (NestedKey × Addr × V)} {n : List (NestedKey × Addr × Value)}, Paired NP l n → (∀ p ∈ l, G.is H p.1 (.ref p.2.1)) → ∀ x ∈ n, (nestedKind P w).is h x.1 x.2.1 := by
    intro l n q
    induction q with
    | nil => intro _ x hx; exact nomatch hx
    | @cons p q ps qs hq t ih =>
      intro hp x hx
      rcases List.mem_cons.mp hx with e | hx
      · subst e
        obtain ⟨k1, k2⟩ := G.imp _ _ _ (hp p List.mem_cons_self)
        rw [← hq.1, ← hq.2.1]
        exact ⟨nested_of ok _ _ _ k1 rfl, k2⟩
      · exact ih (fun p hp' => hp p (List.mem_cons_of_mem _ hp')) x hx
  exact all r h2 y hy
theorem room8 (hu : A.units + 9 < cLine) : (nestedKind X.prog X.w).room A.in1 := by
  show A.in1.units + 8 < cLine
  rw [Around.in1_units]
  omega
theorem key_is {P : Program} {w : World} {h : Heap} {k : NestedKey} {b : Addr} (ok : HOk P w H h) (hk : KeyIs H k (.ref b)) (hd : k.depth ≤ 8) : (nestedKind P w).is h k b := ⟨nested_of ok _ _ _ hk rfl, hd⟩
theorem n_in {G : KG} {m : List (NestedKey × V)} {k : NestedKey} {b : Addr} {Q : Value → Shared → Prop} (hu : A.units + 9 < cLine) (I : Inv X pins σ H s) (d : ND G X.prog X.w H a m) (hg : G.is H k (.ref b)) (h : ∀ s', Inv X pins σ H s' → Q (.bool (valV m k).isSome) s') :
    wpAny (model X.prog X.w) A (compareOp .In (.ref b) (.ref a)) Q E s := by
  obtain ⟨hk, hd⟩ := G.imp _ _ _ hg
  obtain ⟨kvs, ys, _, _, em, r, hs, dd⟩ := nd_rd I.hok d
  refine wpAny_in_heap (room8 (X := X) hu) (key_is I.hok hk hd) hs dd ?_
  have q := (pn_val r k).isSome_eq
  rw [Option.isSome_map] at q
  rw [← q, em]
  exact h _ (I.tok _)
theorem n_notIn {G : KG} {m : List (NestedKey × V)} {k : NestedKey} {b : Addr} {Q : Value → Shared → Prop} (hu : A.units + 9 < cLine) (I : Inv X pins σ H s) (d : ND G X.prog X.w H a m) (hg : G.is H k (.ref b)) (h : ∀ s', Inv X pins σ H s' → Q (.bool (!(valV m k).isSome)) s') :
    wpAny (model X.prog X.w) A (compareOp .NotIn (.ref b) (.ref a)) Q E s := by
  obtain ⟨hk, hd⟩ := G.imp _ _ _ hg
  obtain ⟨kvs, ys, _, _, em, r, hs, dd⟩ := nd_rd I.hok d
  refine wpAny_notIn_heap (room8 (X := X) hu) (key_is I.hok hk hd) hs dd ?_
  have q := (pn_val r k).isSome_eq
  rw [Option.isSome_map] at q
  rw [← q, em]
  exact h _ (I.tok _)
theorem n_get {G : KG} {m : List (NestedKey × V)} {k : NestedKey} {b : Addr} {x : V} {u : Value} {Q : Value → Shared → Prop} (hu : A.units + 9 < cLine) (I : Inv X pins σ H s) (d : ND G X.prog X.w H a m) (hg : G.is H k (.ref b)) (rx : RelV x u) (h : ∀ w' s', Inv X pins σ H s' → RelV ((valV m k).getD x) w' → Q w' s') :
    wpAny (model X.prog X.w) A (call (.builtin "dict.get") [.ref a, .ref b, u]) Q E s := by
  obtain ⟨hk, hd⟩ := G.imp _ _ _ hg
  obtain ⟨kvs, ys, _, _, em, r, hs, dd⟩ := nd_rd I.hok d
  refine getOr_keyed (room8 (X := X) hu) (key_is I.hok hk hd) hs ⟨ys, dd, rfl⟩ ?_
  rw [valueAt_pairsH]
  have q := pn_val r k
  rw [em] at q
  refine h _ _ (I.tok _) ?_
  cases e1 : valV m k with
  | none =>
    rw [e1] at q
    cases e2 : (atKey ys k).map (·.2) with
    | none => exact rx
    | some z => rw [e2] at q; exact q.elim
  | some v =>
    rw [e1] at q
    obtain ⟨w', e2, r2⟩ := RelO.some_of q
    rw [e2]
    exact r2
theorem n_put {G : KG} {m : List (NestedKey × V)} {k : NestedKey} {b : Addr} {v : V} {r : Value} {Q : Unit → Shared → Prop} (hu : A.units + 9 < cLine) (I : Inv X pins σ H s) (d : ND G X.prog X.w H a m) (hg : G.is H k (.ref b)) (hl : m.length ≤ sizeLine) (rv : RelV v r)
    (h : ∀ (o : HO) s', ND G X.prog X.w (upd H a o) a (putK m k v) → Inv X pins σ (upd H a o) s' → Q () s') : wpAny (model X.prog X.w) A (setItem (.ref a) (.ref b) r) Q E s := by
  obtain ⟨hk, hd⟩ := G.imp _ _ _ hg
  obtain ⟨kvs, ys, h1, h2, em, rp, hs, dd⟩ := nd_rd I.hok d
  have hz : ys.length ≤ sizeLine := by
    rw [← Paired.length rp]
    have : kvs.length = m.length := by rw [← em]; unfold kvN; rw [List.length_map]
    omega
  have kup : ∀ (o : HO) (k' : NestedKey) (v' : V), G.is H k' v' → G.is (upd H a o) k' v' := fun o k' v' q => G.keep _ _ _ _ (fun c xs e => by rw [upd_ne (fun z => by rw [z, h1] at e; exact nx_tup (Option.some.inj e))]; exact e) q
  refine wpAny_setItem_heap (hsz := hz) (room8 (X := X) hu) (key_is I.hok hk hd) dd fun h' dd' hsb => h (NX X.prog X.w a (putN kvs k b v)) _ ⟨_, upd_same, fun p hp => ?_, ?_⟩ ?_
  · rcases put_mem hp with ⟨q, hq, e1, e2⟩ | ⟨e1, e2⟩
    · have g1 := h2 q hq
      rw [e1, e2] at g1
      exact kup _ _ _ g1
    · rw [e1, e2]
      exact kup _ _ _ hg
  · rw [kvN_put, em]
  · obtain ⟨q, es, ep, hq, g2, g3, g4, _, g5⟩ := dd'
    exact d_write I (by rw [h1]; exact True.intro) hsb ⟨q, hq⟩ (nx_ok hs (pn_put rp k b rv) hq g2 g3 g4 g5)
end
/-! ### readings and rules -/
def tNNew (P : Program) (w : World) : TE := fun _ H Q => ∀ (p : Addr) (o : HO), H p = none → (∀ G, ND G P w (upd H p o) p []) → Q (.ref p) (upd H p o)
def tNIn (P : Program) (w : World) (ty td : TE) : TE := fun σ H Q => ty σ H fun y H1 => td σ H1 fun x H2 => ∃ (G : KG) (a b : Addr) (m : List (NestedKey × V)) (k : NestedKey), x = .ref a ∧ y = .ref b ∧ ND G P w H2 a m ∧ G.is H2 k (.ref b) ∧ Q (.bl (valV m k).isSome) H2
def tNNotIn (P : Program) (w : World) (ty td : TE) : TE := fun σ H Q => ty σ H fun y H1 => td σ H1 fun x H2 => ∃ (G : KG) (a b : Addr) (m : List (NestedKey × V)) (k : NestedKey), x = .ref a ∧ y = .ref b ∧ ND G P w H2 a m ∧ G.is H2 k (.ref b) ∧ Q (.bl (!(valV m k).isSome)) H2
def sNPut (P : Program) (w : World) (td ty tv : TE) : TS := fun D σ H => tv σ H fun v H1 => td σ H1 fun x H2 => ty σ H2 fun y H3 => ∃ (G : KG) (a b : Addr) (m : List (NestedKey × V)) (k : NestedKey), x = .ref a ∧ y = .ref b ∧ ND G P w H3 a m ∧ G.is H3 k (.ref b) ∧ m.length ≤ sizeLine ∧ ∀ o : HO, ND G P w (upd H3 a o) a (putK m k v) → D.nx σ (upd H3 a o)
section
variable {X : Cx} {o i value : Expr} {pos pos' : Pos} {td ty tv : TE}
theorem pe_nnew : PE X (.Dict [] [] pos) (tNNew X.prog X.w) := ⟨fun pins s σ H Q I h => by
  have hs : (s.heap.objs.size == sysModules) = false := beq_eq_false_iff_ne.mpr (Ne.symm (Nat.ne_of_lt I.big))
  have ho : (s.heap.push { cls := .type "dict", data := .dict #[] }).get? s.heap.objs.size = some { cls := .type "dict", data := .dict #[] } := Heap.get?_push_size _ rfl
  have nd : ∀ G, ND G X.prog X.w (upd H s.heap.objs.size (NX X.prog X.w s.heap.objs.size [])) s.heap.objs.size [] := fun G => ⟨[], upd_same, fun p hp => (nomatch hp), rfl⟩
  exact wpAny_Dict_empty ⟨.ref s.heap.objs.size, _, I.laid (a := s.heap.objs.size) (o := NX X.prog X.w s.heap.objs.size []) (t' := s.toks) (fun _ _ q => Heap.get?_push_of_some _ q) (Nat.le_refl _) (nx_ok hs .nil ho ⟨rfl, rfl, rfl⟩ rfl rfl List.nodup_nil), rfl, h _ _ (I.hok.fresh (Nat.le_refl _)) nd⟩⟩
theorem pc_nin (hu : X.A.units + 9 < cLine) (hi : PE X i ty) (ho : PE X o td) : PC X .In i o (tNIn X.prog X.w ty td) := by
  refine ⟨fun pins s σ H Q I h => ?_⟩
  refine thn (hi.run pins s σ H _ I h) fun iv s1 ⟨y, H1, I1, ry, q1⟩ => thn (ho.run pins s1 σ H1 _ I1 q1) fun u s2 ⟨x, H2, I2, rx, G, a, b, m, k, ex, ey, nd, hg, q2⟩ => ?_
  subst ex ey
  obtain rfl : u = Value.ref a := rx
  obtain rfl : iv = Value.ref b := ry
  exact n_in hu I2 nd hg fun s3 I3 => ⟨.bl _, H2, I3, rfl, q2⟩
theorem pc_nnotin (hu : X.A.units + 9 < cLine) (hi : PE X i ty) (ho : PE X o td) : PC X .NotIn i o (tNNotIn X.prog X.w ty td) := by
  refine ⟨fun pins s σ H Q I h => ?_⟩
  refine thn (hi.run pins s σ H _ I h) fun iv s1 ⟨y, H1, I1, ry, q1⟩ => thn (ho.run pins s1 σ H1 _ I1 q1) fun u s2 ⟨x, H2, I2, rx, G, a, b, m, k, ex, ey, nd, hg, q2⟩ => ?_
  subst ex ey
  obtain rfl : u = Value.ref a := rx
  obtain rfl : iv = Value.ref b := ry
  exact n_notIn hu I2 nd hg fun s3 I3 => ⟨.bl _, H2, I3, rfl, q2⟩
theorem ps_nput (hu : X.A.units + 9 < cLine) (ho : PE X o td) (hi : PE X i ty) (hv : PE X value tv) (hs : swapsWith value (some (.Subscript o i pos')) pos.line X.env = pure false) :
    PS X (.Assign [.Subscript o i pos'] value pos) (sNPut X.prog X.w td ty tv) := by
  refine ⟨fun pins s σ H D I h => ?_⟩
  refine wpAny_Assign_Subscript (thn (hv.run pins s σ H _ I h) fun r s1 ⟨v, H1, I1, rv, q1⟩ => thn (ho.run pins s1 σ H1 _ I1 q1) fun u s2 ⟨x, H2, I2, rx, q2⟩ => thn (hi.run pins s2 σ H2 _ I2 q2) fun iv s3 ⟨y, H3, I3, ry, G, a, b, m, k, ex, ey, nd, hg, hl, q3⟩ => ?_) hs
  subst ex ey
  obtain rfl : u = Value.ref a := rx
  obtain rfl : iv = Value.ref b := ry
  exact n_put hu I3 nd hg hl rv fun o s4 nd' I4 => ⟨σ, _, I4, q3 o nd'⟩
end
end Nst
/-! dicts whose keys are tuples that nest: a display of one pair, list(d.items()), for .. in d.items() -/
namespace Nst
open PySem PySem.Spec PyProof.Rows L2 Wv
theorem at_ref {kvs : List (NestedKey × Addr × V)} {ys : List (NestedKey × Addr × Value)} (r : Paired NP kvs ys) {i : Nat} {k : NestedKey} {b : Addr} {v : V} (e : kvs[i]? = some (k, b, v)) : ∃ u, ys[i]? = some (k, b, u) ∧ RelV v u := by
  obtain ⟨y, h1, h2⟩ := LiI.paired_get r e
  obtain ⟨y1, y2, y3⟩ := y
  obtain ⟨e1, e2, e3⟩ := h2
  cases e1
  cases e2
  exact ⟨y3, h1, e3⟩
/-! ### {k: v} -/
section
variable {prog : Program} {w : World} {K : Type} [DecidableEq K] {knd : HeapKind prog w K} {A : Around} {E : Value → Shared → Prop} {s : Shared}
/-- the display tells where its keys stand -/
theorem dict_pairsX {env : Env} {keys : List (Option Expr)} {values : List Expr} {pos : Pos} {pairs : List (Sem Value × Sem Value)} {Q : Value → Shared → Prop} (hu : knd.room A)
    (hshape : (evalEachOpt keys env).zip ((evalEach values env).map fun v => do let x ← v; standAt pos; pure x) = pairs.map fun p => (some p.1, p.2)) (h0 : pairs ≠ []) (hlen : pairs.length ≤ 15)
    (h : wpAny (model prog w) A (evalPairs pairs) (fun vs s₁ => ∃ ps, CarriesH knd s₁.heap vs ps ∧ s₁.heap.DictOfH knd s.heap.objs.size [] ∧
      ∀ h' tk, h'.DictOfH knd s.heap.objs.size (storedAllH [] ps) → Heap.SameBut s.heap.objs.size s₁.heap h' → Q (.ref s.heap.objs.size) { s₁ with heap := h', toks := tk }) E
      { s with heap := s.heap.push { cls := .type "dict", data := .dict #[] } }) :
    wpAny (model prog w) A (eval (.Dict keys values pos) env) Q E s := by
  rw [arm_eval_Dict, hshape, dictDisplay_pairs pairs h0 (by omega)]
  exact wpAny_bind (wpAny_standAt (wpAny_bind (wpAny_subDictH (knd := knd) (Q := fun d s' => wpAny (model prog w) A (pure (Value.ref d)) Q E s') hu hlen
    (wpAny_mono h (fun vs s₁ h₁ => by obtain ⟨ps, hc, hm, hq⟩ := h₁; exact ⟨ps, hc, hm, fun h' tk a b => wpAny_pure (hq h' tk a b)⟩) fun _ _ e => e))))
end
def tNDisp (P : Program) (w : World) (tk tv : TE) : TE := fun σ H Q => ∀ (p : Addr) (o0 : HO), H p = none → (∀ G, ND G P w (upd H p o0) p []) → tk σ (upd H p o0) fun y H1 => tv σ H1 fun v H2 => ∃ (G : KG) (b : Addr) (k : NestedKey), y = .ref b ∧ G.is H2 k (.ref b) ∧ ND G P w H2 p [] ∧
  ∀ o : HO, ND G P w (upd H2 p o) p [(k, v)] → Q (.ref p) (upd H2 p o)
section
variable {X : Cx} {k v : Expr} {tk tv : TE} {pos : Pos}
theorem pe_ndisp (hu : X.A.units + 9 < cLine) (hk : PE X k tk) (hv : PE X v tv) : PE X (.Dict [some k] [v] pos) (tNDisp X.prog X.w tk tv) := by
  refine ⟨fun pins s σ H Q I q => ?_⟩
  have hn := I.hok.fresh (Nat.le_refl s.heap.objs.size)
  have hs : (s.heap.objs.size == sysModules) = false := beq_eq_false_iff_ne.mpr (Ne.symm (Nat.ne_of_lt I.big))
  have ho : (s.heap.push { cls := .type "dict", data := .dict #[] }).get? s.heap.objs.size = some { cls := .type "dict", data := .dict #[] } := Heap.get?_push_size _ rfl
  have nd : ∀ G, ND G X.prog X.w (upd H s.heap.objs.size (NX X.prog X.w s.heap.objs.size [])) s.heap.objs.size [] := fun G => ⟨[], upd_same, fun p hp => (nomatch hp), rfl⟩
  have I1 := I.laid (a := s.heap.objs.size) (o := NX X.prog X.w s.heap.objs.size []) (h' := s.heap.push { cls := .type "dict", data := .dict #[] }) (t' := s.toks) (fun _ _ q => Heap.get?_push_of_some _ q) (Nat.le_refl _) (nx_ok hs .nil ho ⟨rfl, rfl, rfl⟩ rfl rfl List.nodup_nil)
  have q1 := q _ _ hn nd
  refine dict_pairsX (knd := nestedKind X.prog X.w) (pairs := pairTrees [some k] [v] X.env pos) (by show X.A.units + 8 < cLine; omega) (zip_pairTrees [some k] [v] X.env pos rfl rfl) (fun h => by simp [pairTrees] at h) (by show 1 ≤ 15; decide) ?_
  refine thn ((pps_cons (pos := pos) hk hv pps_nil).run pins _ σ _ (fun ps H2 => match ps with
    | [(y, v)] => ∃ (G : KG) (b : Addr) (k : NestedKey), y = .ref b ∧ G.is H2 k (.ref b) ∧ ND G X.prog X.w H2 s.heap.objs.size [] ∧ ∀ o : HO, ND G X.prog X.w (upd H2 s.heap.objs.size o) s.heap.objs.size [(k, v)] → Q (.ref s.heap.objs.size) (upd H2 s.heap.objs.size o)
    | _ => False) I1 q1) fun ws s2 ⟨ps, H2, I2, rel, q2⟩ => ?_
  match ps, rel, q2 with
  | [(y, vv)], .cons (b := (z1, z2)) ⟨h1, h2⟩ .nil, ⟨G, b, kk, ey, hg, nd2, q2⟩ =>
    subst ey
    obtain rfl : z1 = Value.ref b := h1
    obtain ⟨hkey, hd⟩ := G.imp _ _ _ hg
    obtain ⟨kvs, ys, g1, g2, g3, g4, g5, g6⟩ := nd_rd I2.hok nd2
    have e0 : kvs = [] := by unfold kvN at g3; exact List.map_eq_nil_iff.mp g3
    subst e0
    cases g4
    refine ⟨[(kk, b, z2)], ⟨rfl, rfl, key_is I2.hok hkey hd, True.intro⟩, g6, fun h' tk hm hsb => ?_⟩
    have est : storedAllH ([] : List (NestedKey × Addr × Value)) [(kk, b, z2)] = [(kk, b, z2)] := rfl
    rw [est] at hm
    obtain ⟨o, es, ep, d1, d2, d3, d4, _, d6⟩ := hm
    have kup : ∀ (u : HO) (k' : NestedKey) (v' : V), G.is H2 k' v' → G.is (upd H2 s.heap.objs.size u) k' v' := fun u k' v' q => G.keep _ _ _ _ (fun c xs e => by rw [upd_ne (fun z => by rw [z, g1] at e; exact nx_tup (Option.some.inj e))]; exact e) q
    refine ⟨.ref _, _, d_write (ob := NX X.prog X.w s.heap.objs.size [(kk, b, vv)]) I2 (by rw [g1]; exact True.intro) hsb ⟨o, d1⟩ (nx_ok hs (.cons ⟨rfl, rfl, h2⟩ .nil) d1 d2 d3 d4 d6), rfl, q2 _ ⟨_, upd_same, fun p hp => ?_, rfl⟩⟩
    rw [List.mem_singleton] at hp
    subst hp
    exact kup _ _ _ hg
end
/-! ### list(d.items()) -/
/-- the tuples tracked at their addresses -/
def layT : Hp → List Addr → List (List V) → Hp
  | H, a :: as, t :: ts => layT (upd H a (.tup t)) as ts
  | H, _, _ => H
theorem layT_off {b : Addr} : ∀ (as : List Addr) (ts : List (List V)) (H : Hp), b ∉ as → layT H as ts b = H b
  | [], _, _, _ => rfl
  | _ :: _, [], _, _ => rfl
  | a :: as, t :: ts, H, h => by
    show layT (upd H a (.tup t)) as ts b = H b
    rw [layT_off as ts _ (fun z => h (List.mem_cons_of_mem _ z)), upd_ne (fun z => h (by rw [z]; exact List.mem_cons_self))]
theorem layT_at : ∀ (as : List Addr) (ts : List (List V)) (H : Hp), as.length = ts.length → as.Nodup → Paired (fun (a : Addr) (t : List V) => layT H as ts a = some (.tup t)) as ts
  | [], [], _, _, _ => .nil
  | [], _ :: _, _, h, _ => by cases h
  | _ :: _, [], _, h, _ => by cases h
  | a :: as, t :: ts, H, h, hn => by
    have hn' := List.nodup_cons.mp hn
    have ih := layT_at as ts (upd H a (.tup t)) (Nat.succ.inj h) hn'.2
    refine .cons ?_ ih
    show layT (upd H a (.tup t)) as ts a = some (.tup t)
    rw [layT_off as ts _ hn'.1, upd_same]
section
variable {prog : Program} {w : World} {A : Around} {E : Value → Shared → Prop} {s : Shared} {r d : Addr} {es : Array DictEntry} {ep : Nat}
theorem initN {R : Result → Shared → Prop} (hh : A.handled = none) (hv : s.heap.IsItemsView r d) (hm : DT.Raw s.heap d es ep) (S : Addr) (hSr : S ≠ r) (hSd : d ≠ S) (hS : s.heap.get? S = some { cls := .type "list", data := .seq #[] })
    (hR : ∀ h' tk acc c as, (∀ b o, b ≠ S → s.heap.get? b = some o → h'.get? b = some o) → h'.get? S = some { cls := .type "list", dict := none, data := .seq acc c, slots := #[] } → as.length = es.size → DT.Made es S h' as →
      acc.toList = as.map Value.ref → R (.ok (.ret .none)) { s with heap := h', toks := tk }) (hn : es.size ≤ sizeLine) :
    wpAny (model prog w) A.in1 (Builtin.«list.__init__» ⟨[.ref S, .ref r], []⟩)
      (fun fin s' => match fin with | .done f => R (.ok f) s' | .again c' => c'.quiet = true ∧ codeAny (model prog w) A c' R s') (fun e s' => R (.error e) s') s := by
  show wpAny _ _ (do let old ← Builtin.List.listItems (.ref S); Builtin.List.listUpdate (.ref S) (fun _ => #[]); letGo old.toList.reverse; Builtin.List.listExtendWith (.ref S) (.ref r) .none) _ _ s
  refine wpAny_bind ?_
  unfold Builtin.List.listItems
  refine wpAny_bind (wpAny_seqItems hS rfl (wpAny_pure ?_))
  show wpAny _ _ (updateSeq S (fun _ => #[]) >>= fun _ => letGo (#[] : Array Value).toList.reverse >>= fun _ => Builtin.List.listExtendWith (.ref S) (.ref r) .none) _ _ s
  refine wpAny_bind (wpAny_updateSeq hS rfl ?_)
  have hS₂ := Heap.get?_update_self (Obj.mapSeq (fun _ => (#[] : Array Value))) hS rfl
  have oth : ∀ b o, b ≠ S → s.heap.get? b = some o → (s.heap.update S (Obj.mapSeq (fun _ => (#[] : Array Value)))).get? b = some o :=
    fun b o hb e => (Heap.get?_update_other _ _ (Ne.symm hb)).trans e
  refine wpAny_bind (wpAny_letGo ?_)
  refine DT.extI hh (let ⟨o, ho, x⟩ := hv; ⟨o, oth r o hSr.symm ho, x⟩) (hm.at' fun o e => oth d o hSd e) S hSr hSd .none _ hS₂ (fun h' tk acc c as hk hS' hl hG hacc => ?_) hn
  exact hR h' tk acc c as (fun b o hb e => hk b o hb (oth b o hb e)) hS' hl (hG.low (Nat.le_of_lt (Heap.lt_size hS₂))) hacc
theorem callN {Q : Value → Shared → Prop} (hh : A.handled = none) (hv : s.heap.IsItemsView r d) (hm : DT.Raw s.heap d es ep) (hn : es.size ≤ sizeLine)
    (hQ : ∀ h' tk acc c as, (∀ b o, s.heap.get? b = some o → h'.get? b = some o) → h'.get? s.heap.objs.size = some { cls := .type "list", dict := none, data := .seq acc c, slots := #[] } → as.length = es.size → DT.Made es s.heap.objs.size h' as →
      acc.toList = as.map Value.ref → Q (.ref s.heap.objs.size) { s with heap := h', toks := tk }) :
    wpAny (model prog w) A (call (.type "list") [.ref r]) Q E s := by
  refine callType_codes (Q₁ := fun obj s₁ => obj = .ref s.heap.objs.size ∧ s₁ = { s with heap := s.heap.push { cls := .type "list", data := .seq #[] } }) PySem.F.called_list (PySem.F.typeCall_list_1 _) PySem.F.entry_list_init
    (code_list_new _ ⟨rfl, rfl⟩) fun obj s₁ h₁ => ?_
  obtain ⟨rfl, rfl⟩ := h₁
  have hS : (s.heap.push { cls := .type "list", data := .seq #[] }).get? s.heap.objs.size = some { cls := .type "list", data := .seq #[] } := Heap.get?_push_size _ rfl
  have hr : r < s.heap.objs.size := let ⟨_, ho, _⟩ := hv; Heap.lt_size ho
  have hd : d < s.heap.objs.size := hm.lt
  refine ⟨⟨_, hS, rfl⟩, PySem.F.args_list_init_2 _ _, initN (A := A.in1) hh (let ⟨o, ho, x⟩ := hv; ⟨o, Heap.get?_push_of_some _ ho, x⟩) (hm.push _) _ (Nat.ne_of_gt hr) (Nat.ne_of_lt hd) hS (fun h' tk acc c as hk hS' hl hG hacc => ?_) hn⟩
  exact ⟨rfl, hQ h' tk acc c as (fun b o e => hk b o (Nat.ne_of_lt (Heap.lt_size e)) (Heap.get?_push_of_some _ e)) hS' hl hG hacc⟩
end
theorem pair_keys {G : KG} {H : Hp} {as : List Addr} {kvs : List (NestedKey × Addr × V)} (h : Paired (fun (t : Addr) (q : NestedKey × Addr × V) => H t = some (.tup [.ref q.2.1, q.2.2])) as kvs) (kk : ∀ p ∈ kvs, G.is H p.1 (.ref p.2.1)) :
    Paired (fun (t : Addr) (q : NestedKey × V) => ∃ b, G.is H q.1 (.ref b) ∧ H t = some (.tup [.ref b, q.2])) as (kvN kvs) := by
  induction h with
  | nil => exact .nil
  | @cons a b as' bs' h1 h2 ih => exact .cons ⟨b.2.1, kk b List.mem_cons_self, h1⟩ (ih (fun p hp => kk p (List.mem_cons_of_mem _ hp)))
def tListItemsN (P : Program) (w : World) (te : TE) : TE := fun σ H Q => te σ H fun x H1 => ∃ (G : KG) (d : Addr) (m : List (NestedKey × V)), x = .ref d ∧ ND G P w H1 d m ∧ m.length ≤ sizeLine ∧
  ∀ (H' : Hp) (p : Addr) (ts : List Addr), Same H1 H' → H' p = some (.lst (ts.map V.ref)) → Paired (fun (t : Addr) (q : NestedKey × V) => ∃ b, G.is H' q.1 (.ref b) ∧ H' t = some (.tup [.ref b, q.2])) ts m → Q (.ref p) H'
section
variable {X : Cx} {e : Expr} {te : TE} {p apos cpos pos : Pos}
theorem items_laidN {pins : List (Addr × Obj)} {σ : L2.St} {H : Hp} {s : Shared} {h' : Heap} {tk : Nat} {kvs : List (NestedKey × Addr × V)} {ys : List (NestedKey × Addr × Value)} {es : Array DictEntry} {acc : Array Value} {c : Nat} {as : List Addr} (I : Inv X pins σ H s) (hz : kvs.length ≤ sizeLine) (kv : Paired NP kvs ys)
    (he : es.toList = ys.map (entryOfKey (nestedKind X.prog X.w))) (hk : ∀ b o, s.heap.get? b = some o → h'.get? b = some o) (hS : h'.get? s.heap.objs.size = some { cls := .type "list", dict := none, data := .seq acc c, slots := #[] }) (hl : as.length = es.size) (hG : DT.Made es s.heap.objs.size h' as) (hacc : acc.toList = as.map Value.ref) :
    ∃ H' : Hp, Same H H' ∧ H' s.heap.objs.size = some (.lst (as.map V.ref)) ∧ Paired (fun (t : Addr) (q : NestedKey × Addr × V) => H' t = some (.tup [.ref q.2.1, q.2.2])) as kvs ∧ Inv X pins σ H' { s with heap := h', toks := tk } := by
  have lk : kvs.length = ys.length := Paired.length kv
  have le : es.size = ys.length := by rw [← Array.length_toList, he, List.length_map]
  have hSn : s.heap.objs.size ∉ as := fun z => Nat.lt_irrefl _ (hG.above _ z)
  have nd : as.Nodup := List.Pairwise.imp (fun {a b} (h : a < b) => Nat.ne_of_lt h) hG.rise
  have new : ∀ t ∈ as, H t = none := fun t ht => I.hok.fresh (Nat.le_of_lt (hG.above t ht))
  have newS : H s.heap.objs.size = none := I.hok.fresh (Nat.le_refl _)
  obtain ⟨ts, ets⟩ : ∃ ts : List (List V), ts = kvs.map fun q => [V.ref q.2.1, q.2.2] := ⟨_, rfl⟩
  have atP := layT_at as ts (upd H s.heap.objs.size (.lst (as.map V.ref))) (by rw [ets, List.length_map]; omega) nd
  have off : ∀ b, b ∉ as → b ≠ s.heap.objs.size → layT (upd H s.heap.objs.size (.lst (as.map V.ref))) as ts b = H b := fun b h1 h2 => by rw [layT_off as ts _ h1, upd_ne h2]
  have low : ∀ b o, s.heap.get? b = some o → b ∉ as ∧ b ≠ s.heap.objs.size := fun b o e => ⟨fun z => absurd (Heap.lt_size e) (Nat.not_lt.mpr (Nat.le_of_lt (hG.above b z))), Nat.ne_of_lt (Heap.lt_size e)⟩
  have kp : ∀ b u, H b = some u → (layT (upd H s.heap.objs.size (.lst (as.map V.ref))) as ts) b = some u := fun b u e => by
    rw [off b (fun z => by rw [new b z] at e; cases e) (fun z => by rw [z, newS] at e; cases e)]
    exact e
  have eS : layT (upd H s.heap.objs.size (.lst (as.map V.ref))) as ts s.heap.objs.size = some (.lst (as.map V.ref)) := by rw [layT_off as ts _ hSn, upd_same]
  have atK : Paired (fun (t : Addr) (q : NestedKey × Addr × V) => layT (upd H s.heap.objs.size (.lst (as.map V.ref))) as ts t = some (.tup [.ref q.2.1, q.2.2])) as kvs := by
    generalize layT (upd H s.heap.objs.size (.lst (as.map V.ref))) as ts = Hz at atP
    subst ets
    have : ∀ (as : List Addr) (kvs : List (NestedKey × Addr × V)), Paired (fun (a : Addr) (t : List V) => Hz a = some (.tup t)) as (kvs.map fun q => [V.ref q.2.1, q.2.2]) → Paired (fun (t : Addr) (q : NestedKey × Addr × V) => Hz t = some (.tup [.ref q.2.1, q.2.2])) as kvs := by
      intro as kvs
      induction kvs generalizing as with
      | nil => intro h; cases h; exact .nil
      | cons q kvs ih => intro h; cases h with | cons h1 h2 => exact .cons h1 (ih _ h2)
    exact this _ _ atP
  refine ⟨layT (upd H s.heap.objs.size (.lst (as.map V.ref))) as ts, kp, eS, atK, ?_⟩
  refine I.call' (ch := []) rfl ⟨fun b o q _ _ _ => hk b o q, fun b o q _ _ _ => ⟨o.slots, hk b o q⟩, fun b o q n _ => ?_, fun b o q _ => ⟨o, hk b o q⟩, fun b xs q => kp b _ q, fun b o u q => kp b _ q, fun b ps q => ⟨#[], by rw [kp b _ q]; simp⟩⟩ (fun b u q => ?_) I.bare fun b z => by simp at z
  · obtain ⟨z1, z2⟩ := low b o q
    rw [off b z1 z2]
    exact n
  · by_cases hb : b ∈ as
    · obtain ⟨j, pk, e1, e2, e3⟩ := LiI.paired_ix atK hb
      rw [e3] at q
      cases q
      obtain ⟨ent, f1, f3⟩ := hG.pairs j b e1
      obtain ⟨y, g1, g2⟩ := LiI.paired_get kv e2
      have fe : es.toList[j]? = some ent := by rw [Array.getElem?_toList]; exact f1
      rw [he, List.getElem?_map, g1] at fe
      have fe : entryOfKey (nestedKind X.prog X.w) y = ent := Option.some.inj fe
      subst fe
      obtain ⟨q1, q2, q3⟩ := g2
      refine ⟨by show 2 ≤ sizeLine; decide, [.ref y.2.1, y.2.2], .cons (by rw [q2]; exact rfl) (.cons q3 .nil), ⟨_, f3, rfl, _, rfl⟩⟩
    · by_cases hb2 : b = s.heap.objs.size
      · rw [hb2] at q ⊢
        rw [eS] at q
        cases q
        refine ⟨by rw [List.length_map]; omega, acc.toList, c, by rw [hacc]; exact LiI.vals_refs as, ?_⟩
        rw [Array.toArray_toList]
        exact hS
      · rw [off b hb hb2] at q
        exact (I.hok b u q).stay (fun d v _ y => hk d v y) (fun d y => kp d _ y) fun d xs y => kp d _ y
/-- list(e.items()) -/
theorem pe_listItemsN (hc : X.calm = true) (he : PE X e te) (hg : Gl X "list") (hm : X.mg "list" = none) (hv : bootBuiltins "list" = some (.type "list")) (hbase : attributeBase e "items" X.env (eval e X.env) = eval e X.env := by rfl) (hline : (apos.endLine == cpos.line) = true := by rfl)
    (hs : starEach [.Call (.Attribute e "items" apos) [] [] cpos] X.env = (false, eval (.Call (.Attribute e "items" apos) [] [] cpos) X.env) :: starEach [] X.env := by rfl) :
    PE X (.Call (.Name "list" p) [.Call (.Attribute e "items" apos) [] [] cpos] [] pos) (tListItemsN X.prog X.w te) := by
  refine ⟨fun pins s σ H Q I hq => ?_⟩
  refine wpAny_Call_Name_kw (ld_blt I hg hm hv ?_)
  refine PyProof.Rows.callWith_type1 ?_ hs rfl
  rw [hs]
  show wpAny _ _ (spliced ((false, eval (.Call (.Attribute e "items" apos) [] [] cpos) X.env) :: backTo pos (starEach [] X.env))) _ _ s
  refine Calls.spliced_cons ?_
  refine wpAny_Call_method (T := "dict") (id := "dict.items") hbase rfl hline F.plainAttrs_dict F.slot_dict_items F.type_dict_items (thn (he.run pins s σ H _ I hq) fun u s1 ⟨x, H1, I1, rx, G, d, m, ex, nd, hz, q⟩ => ?_)
  subst ex
  obtain rfl : u = Value.ref d := rx
  obtain ⟨kvs, ys, g1, g2, g3, g4, hs0, o, es, ep, d1, d2, d3, d4, d5, d6⟩ := nd_rd I1.hok nd
  have hzk : kvs.length ≤ sizeLine := by rw [← g3] at hz; unfold kvN at hz; rwa [List.length_map] at hz
  have le : es.size = kvs.length := by rw [← Array.length_toList, d4, List.length_map, ← Paired.length g4]
  have raw : DT.Raw s1.heap d es ep := ⟨o, d1, d2, d3⟩
  have I2 : Inv X pins σ H1 { s1 with heap := s1.heap.push { cls := .type "dict_items", data := .fields #[.ref d] } } := I1.kept (t' := s1.toks) fun b ob q => Heap.get?_push_of_some _ q
  refine ⟨raw.typeIs, fun b q => by cases q; exact ⟨o, d1, d2.2.1⟩, ?_⟩
  show wpAny _ _ (callWith cpos (.builtin "dict.items") [.ref d] [] []) _ X.xe s1
  refine method_meetsIn F.slot_dict_items F.entry_dict_items rfl (PySem.evalArgs_none ⟨rfl, raw.typeIs, F.args_dict_items_1 _, _, DT.meetsItems (es := es) (ep := ep) hs0, raw, ?_⟩)
  refine Calls.spliced_nil ?_
  refine callN (es := es) (ep := ep) (I1.ok.hd hc) ⟨_, Heap.get?_push_size _ rfl, rfl, rfl⟩ (raw.push _) (by omega) fun h' tk acc c as hk hS hl hG hacc => ?_
  obtain ⟨H', k1, k5, k6, J⟩ := items_laidN (tk := tk) I2 hzk g4 d4 hk hS hl hG hacc
  refine ⟨.ref _, H', J, rfl, q H' _ as k1 k5 ?_⟩
  subst g3
  exact pair_keys (G := G) k6 fun p hp => G.keep _ _ _ _ (fun b ys e => k1 _ _ e) (g2 p hp)
end
/-! ### for .. in d.items(), the dict locked -/
def ItN (P : Program) (w : World) (d : Addr) (o : Obj) (kvs : List (NestedKey × Addr × V)) : It :=
  ⟨fun i H => H d = some (.frz o (NX P w d kvs)) ∧ i < kvs.length, fun i H x H' => ∃ T k b v, kvs[i]? = some (k, b, v) ∧ x = .ref T ∧ H T = none ∧ H' = upd H T (.tup [.ref b, v]), fun i H => H d = some (.frz o (NX P w d kvs)) ∧ kvs.length ≤ i⟩
section
variable {X : Cx} {pins : List (Addr × Obj)} {σ : L2.St} {H : Hp} {s : Shared} {d : Addr} {o : Obj}
theorem frzN {kvs : List (NestedKey × Addr × V)} (I : Inv X pins σ H s) (h : H d = some (.frz o (NX X.prog X.w d kvs))) :
    (d == sysModules) = false ∧ ∃ (es : Array DictEntry) (ep : Nat) (ys : List (NestedKey × Addr × Value)), o.data = .dict es ep ∧ es.size = kvs.length ∧ Paired NP kvs ys ∧ es.toList = ys.map (entryOfKey (nestedKind X.prog X.w)) ∧ DT.Raw s.heap d es ep ∧ o.dict = none := by
  obtain ⟨hd, ⟨hs, ys, r, o', es, ep, g1, g2, g3, g4, g5⟩, _, _⟩ := I.hok d _ h
  rw [hd] at g1
  cases g1
  refine ⟨hs, es, ep, ys, g3, ?_, r, g4, ⟨o, hd, g2, g3⟩, g2.2.1⟩
  rw [← Array.length_toList, g4, List.length_map, ← Paired.length r]
end
section
variable {P : Program} {w : World} {K : PySem.W.Frag} {d : Addr} {o : Obj} {es : Array DictEntry} {ep : Nat}
theorem turn_itemsN {kvs : List (NestedKey × Addr × V)} {elts : List Expr} {kk : Nat} {tpos : Pos} (it : Addr) (hod : o.data = .dict es ep) :
    Turn P w K (.Tuple elts kk tpos) (ItN P w d o kvs) [it] it (fun i h => ∃ ok ov, IsItemIter h it d i kvs.length ep ok ov) where
  mem := by simp
  obj := fun i h st b hb => by
    have e : b = it := by simpa using hb
    subst e
    obtain ⟨ok, ov, e⟩ := st
    exact ⟨_, e, fun v z => nomatch z⟩
  keep := fun i h h' st k => let ⟨ok, ov, e⟩ := st; ⟨ok, ov, k it (by simp) _ e⟩
  item := by
    intro X hP hw hK hc i pins s σ H E I hf st hg
    subst hP hw hK
    obtain ⟨hd, hi⟩ := hg
    obtain ⟨hs, es', ep', ys, hdt, hsz, kv, he4, raw, _⟩ := frzN I hd
    obtain ⟨rfl, rfl⟩ := dict_ep hod hdt
    obtain ⟨⟨k, b, v⟩, hkv⟩ : ∃ p, kvs[i]? = some p := ⟨kvs[i], List.getElem?_eq_getElem hi⟩
    obtain ⟨u, hu, ru⟩ := at_ref kv hkv
    obtain ⟨ok, ov, he⟩ := st
    rw [← hsz] at he
    have hlt : it < s.heap.objs.size := Heap.lt_size he
    have hie : i < es'.size := by omega
    have ent : es'[i] = entryOfKey (nestedKind X.prog X.w) (k, b, u) := by
      have e1 : es'.toList[i]? = some es'[i] := by rw [Array.getElem?_toList]; exact Array.getElem?_eq_getElem hie
      rw [he4, List.getElem?_map, hu] at e1
      exact (Option.some.inj e1).symm
    refine DT.nextI he raw hie fun h' ho hT hz hk => ?_
    refine ⟨_, rfl, wpAny_letOwnedTupleGo_items (s := { s with heap := h' }) ho fun h'' he' sb => ?_⟩
    have hT2 : h''.get? s.heap.objs.size = some { cls := .type "tuple", data := .seq #[.ref b, u] } := by
      have := (sb.2 _ (Nat.ne_of_gt hlt)).trans hT
      rw [ent] at this
      exact this
    have new : ObjOk X.prog X.w (upd H s.heap.objs.size (.tup [.ref b, v])) h'' s.heap.objs.size (.tup [.ref b, v]) :=
      ⟨by show 2 ≤ sizeLine; decide, [.ref b, u], .cons rfl (.cons ru .nil), ⟨_, hT2, rfl, _, rfl⟩⟩
    have I1 : Inv X pins σ (upd H s.heap.objs.size (.tup [.ref b, v])) { s with heap := h'' } :=
      I.turnedNew (t' := s.toks) (ch := [it]) (fun b ob hb e => (sb.2 b (by simpa using hb)).trans (hk b ob (by simpa using hb) e)) hf (Nat.le_refl _) new
    refine ⟨.ref s.heap.objs.size, _, I1, rfl, ⟨_, k, b, v, hkv, rfl, I.hok.fresh (Nat.le_refl _), rfl⟩, ⟨es'[i].key, es'[i].val, ?_⟩, fun b hb => ?_⟩
    · rw [← hsz]; exact he'
    · have e : b = it := by simpa using hb
      rw [e, upd_ne (Nat.ne_of_lt hlt)]
      exact (hf it (by simp)).1
  done := by
    intro X hP hw hK hc i pins s σ H E I hf st hg
    subst hP hw hK
    obtain ⟨hd, hi⟩ := hg
    obtain ⟨f0, f1, f2, f3, f4, f5⟩ := hf it (by simp)
    obtain ⟨hs, es', ep', ys, hdt, hsz, kv, he4, raw, _⟩ := frzN I hd
    obtain ⟨rfl, rfl⟩ := dict_ep hod hdt
    obtain ⟨ok, ov, he⟩ := st
    rw [← hsz] at he
    exact DT.endI (I.ok.hd hc) he raw (by omega) fun h' eb => ⟨rfl, I.turned (t' := s.toks) (fun b ob hb e => eb b ob hb e) f0 f1 f3 f4 f5⟩
  self := fun A i s Q E st h => let ⟨_, _, e⟩ := st; PySem.W.kcp_self e h
end
def iItemsN (P : Program) (w : World) (td : TE) : TI := fun σ H R => td σ H fun x H1 => ∃ d o kvs, x = .ref d ∧ H1 d = some (.frz o (NX P w d kvs)) ∧ R (ItN P w d o kvs) H1
section
variable {X : Cx} {e : Expr} {td : TE} {apos cpos : Pos}
theorem pi_itemsN {elts : List Expr} {kk : Nat} {tpos : Pos} (he : PE X e td) (hbase : attributeBase e "items" X.env (eval e X.env) = eval e X.env := by rfl) (hline : (apos.endLine == cpos.line) = true := by rfl) :
    PI X (.Tuple elts kk tpos) (.Call (.Attribute e "items" apos) [] [] cpos) (iItemsN X.prog X.w td) := by
  refine ⟨fun pins s σ H R I h => ?_⟩
  refine wpAny_Call_method (T := "dict") (id := "dict.items") hbase rfl hline F.plainAttrs_dict F.slot_dict_items F.type_dict_items (thn (he.run pins s σ H _ I h) fun u s1 ⟨x, H1, I1, rx, d, o, kvs, ex, hd, q⟩ => ?_)
  subst ex
  obtain rfl : u = Value.ref d := rx
  obtain ⟨hs, es, ep, ys, hdt, hsz, kv, he4, raw, hdn⟩ := frzN I1 hd
  refine ⟨raw.typeIs, fun b q => by cases q; obtain ⟨o', ho, hx, _⟩ := raw; exact ⟨o', ho, hx.2.1⟩, ?_⟩
  have I2 : Inv X pins σ H1 { s1 with heap := s1.heap.push { cls := .type "dict_items", data := .fields #[.ref d] } } := I1.kept (t' := s1.toks) fun b ob q => Heap.get?_push_of_some _ q
  have fin : wpAny (model X.prog X.w) X.A (pyIter (.ref s1.heap.objs.size)) (PIE X pins σ (.Tuple elts kk tpos) R) X.xe { s1 with heap := s1.heap.push { cls := .type "dict_items", data := .fields #[.ref d] } } := by
    refine DT.iterI (d := d) ⟨_, Heap.get?_push_size _ rfl, rfl, rfl⟩ (raw.push _) (pi_one (tk := s1.toks) I2 _ (turn_itemsN _ hdt) ⟨.none, .none, ?_⟩ q)
    rw [← hsz]
    exact Heap.get?_push_size _ rfl
  show wpAny _ _ (callWith cpos (.builtin "dict.items") [.ref d] [] []) _ X.xe s1
  exact method_meetsIn F.slot_dict_items F.entry_dict_items rfl (PySem.evalArgs_none ⟨rfl, raw.typeIs, F.args_dict_items_1 _, _, DT.meetsItems (es := es) (ep := ep) hs, raw, fin⟩)
/-- d.get(k, x) -/
def rNGet (P : Program) (w : World) : V → List V → Hp → VK → Prop := fun x xs H Q => ∃ (G : KG) (a b : Addr) (d : V) (m : List (NestedKey × V)) (k : NestedKey), x = .ref a ∧ xs = [.ref b, d] ∧ ND G P w H a m ∧ G.is H k (.ref b) ∧ Q ((valV m k).getD d) H
theorem mt_nget (hu : X.A.units + 9 < cLine) : MtR X "dict.get" (rNGet X.prog X.w) := by
  intro pins s σ H x xs v us Q I rx rxs h
  obtain ⟨G, a, b, d, m, k, rfl, rfl, nd, hg, q⟩ := h
  obtain rfl : v = Value.ref a := rx
  match us, rxs with
  | [_, u], .cons r1 (.cons r2 .nil) =>
    obtain rfl := r1
    exact n_get hu I nd hg r2 fun w' s' I' r' => ⟨_, H, I', r', q⟩
/-- o.m(..) of such a dict -/
def tNBM (P : Program) (w : World) (r : V → List V → Hp → VK → Prop) (to : TE) (t : TA) : TE := fun σ H Q => to σ H fun x H1 => (∃ (G : KG) (a : Addr) (m : List (NestedKey × V)), x = .ref a ∧ ND G P w H1 a m) ∧ t σ H1 fun xs H2 => r x xs H2 Q
theorem pe_nbm {o e : Expr} {es : List Expr} {to : TE} {t : TA} {name : Str} {apos cpos : Pos} {id : String} {r : V → List V → Hp → VK → Prop} (slot : Slot "dict" name id) (hty : typeOf (.builtin id) = pure (.type "method_descriptor")) (hm : MtR X id r) (ho : PE X o to) (ha : PA X (e :: es) t)
    (hbase : attributeBase o name X.env (eval o X.env) = eval o X.env := by rfl)
    (hfew : ((backTo cpos (starEach (e :: es) X.env)).all (fun x => !x.1) && (backToKw cpos (keywordEach [] X.env)).all (fun x => x.1.isSome)
      && decide ((e :: es).length + ([] : List Keyword).length + (if ([] : List Keyword).isEmpty then 0 else 1) < 30)) = true := by rfl)
    (hline : (apos.endLine == cpos.line) = true := by rfl) (hs : starEach (e :: es) X.env = (false, eval e X.env) :: starEach es X.env := by rfl) (hplain : (backTo cpos (starEach es X.env)).any (·.1) = false := by rfl) :
    PE X (.Call (.Attribute o name apos) (e :: es) [] cpos) (tNBM X.prog X.w r to t) := by
  refine ⟨fun pins s σ H Q I h => ?_⟩
  refine wpAny_Call_method_late hbase hfew hline rfl (thn (ho.run pins s σ H _ I h) fun v s1 ⟨x, H1, I1, r1, ty, q1⟩ => ?_)
  obtain ⟨G, a, m, ex, nd⟩ := ty
  subst ex
  obtain rfl : v = Value.ref a := r1
  obtain ⟨kvs, ys, _, _, _, _, _, ob, es', ep, d1, d2, d3, _⟩ := nd_rd I1.hok nd
  have raw : DT.Raw s1.heap a es' ep := ⟨ob, d1, d2, d3⟩
  refine ⟨"dict", id, F.plainAttrs_dict, slot, hty, raw.typeIs, fun b q => by cases q; exact ⟨ob, d1, d2.2.1⟩, ?_⟩
  have hA := ha.run cpos pins s1 σ H1 _ I1 q1
  rw [hs] at hA ⊢
  refine Calls.callWith_builtin (by show (false || (backTo cpos (starEach es X.env)).any (·.1)) = false; rw [hplain] <;> rfl) (Calls.evalArgs_plain ?_)
  exact thn hA fun us s2 ⟨vs, H2, I2, r2, q2⟩ => hm pins s2 σ H2 (.ref a) vs (.ref a) us Q I2 rfl r2 q2
end
end Nst
namespace Rk
open PySem PySem.Spec PyProof.Rows L2 Wv Tk
/-- pairs of a way and the number above it -/
def StackAt (c : Cs) (H : Hp) : List V → List (W × Option Nat) → Prop
  | vs, [] => vs = []
  | vs, e :: es => ∃ r v us, vs = V.ref r :: us ∧ H r = some (.tup [v, .int (eI e.2)]) ∧ ObjAt c H v e.1 ∧ StackAt c H us es
section
variable {c : Cs} {H H' : Hp}
theorem StackAt.keep (k : Still H H') : ∀ (es : List (W × Option Nat)) (vs : List V), StackAt c H vs es → StackAt c H' vs es
  | [], _, h => h
  | e :: es, vs, ⟨r, v, us, e1, h1, h2, h3⟩ => ⟨r, v, us, e1, k.tup h1, ObjAt.keep k _ _ h2, StackAt.keep k es us h3⟩
theorem StackAt.len : ∀ (es : List (W × Option Nat)) (vs : List V), StackAt c H vs es → vs.length = es.length
  | [], vs, h => by rw [show vs = [] from h]; rfl
  | e :: es, vs, ⟨r, v, us, e1, _, _, h3⟩ => by rw [e1, List.length_cons, List.length_cons, StackAt.len es us h3]
theorem StackAt.app : ∀ (es : List (W × Option Nat)) (vs : List V) {us : List V} {xs : List (W × Option Nat)}, StackAt c H vs es → StackAt c H us xs → StackAt c H (vs ++ us) (es ++ xs)
  | [], vs, us, xs, h, h2 => by rw [show vs = [] from h]; exact h2
  | e :: es, vs, us, xs, ⟨r, v, us', e1, h1, h3, h4⟩, h2 => by rw [e1]; exact ⟨r, v, us' ++ us, rfl, h1, h3, StackAt.app es us' h4 h2⟩
theorem StackAt.split : ∀ (es : List (W × Option Nat)) (e : W × Option Nat) (vs : List V), StackAt c H vs (es ++ [e]) → ∃ us r v, vs = us ++ [V.ref r] ∧ StackAt c H us es ∧ H r = some (.tup [v, .int (eI e.2)]) ∧ ObjAt c H v e.1
  | [], e, vs, ⟨r, v, us, e1, h1, h2, h3⟩ => ⟨[], r, v, by rw [e1, show us = [] from h3]; rfl, rfl, h1, h2⟩
  | x :: es, e, vs, ⟨r, v, us, e1, h1, h2, h3⟩ => by
    obtain ⟨us', r', v', e', g1, g2, g3⟩ := StackAt.split es e us h3
    exact ⟨V.ref r :: us', r', v', by rw [e1, e']; rfl, ⟨r, v, us', rfl, h1, h2, g1⟩, g2, g3⟩
end
/-- the object Parts as far as it is laid: n parts of these ways -/
def LdW (C : Addr) (H0 H : Hp) (a : Addr) (w : List W) (n : Nat) (wh : List V) : Prop := ∃ (p : Pp) (d : Pd) (dx : Addr), p.a = a ∧ Own H0 H p.keys (p.vals C dx d) ∧ Pz p d n ∧ DInv w n d ∧ PInv w n [] d.inn ∧ d.wh = wh
def spLay (c : Cs) (C : Addr) : Sp := fun vs H Q _ => ∃ (H0 : Hp) (a : Addr) (wh : List V) (v : V) (pre post : List W) (x : W), vs = [.ref a, v] ∧ LdW C H0 H a (pre ++ x :: post) (W.sizes pre) wh ∧ ObjAt c H v x ∧ W.sizes (pre ++ x :: post) ≤ 100 ∧
  ∀ H', LdW C H0 H' a (pre ++ x :: post) (W.sizes pre + x.size) wh → Still H H' → Q .non H'
theorem st_cutN {X : TS} {nx : L2.St → Hp → Prop} {rt : VK} {bk ct : L2.St → Hp → Prop} {σ : L2.St} {H : Hp} (Cn : L2.St → Hp → Prop) (h1 : ∀ nx' : L2.St → Hp → Prop, (∀ σ' H', Cn σ' H' → nx' σ' H') → X (Ends.mk nx' rt bk ct) σ H) (h2 : ∀ σ' H', Cn σ' H' → nx σ' H') : X (Ends.mk nx rt bk ct) σ H := h1 nx h2
theorem st_nx {nx : L2.St → Hp → Prop} {rt : VK} {bk ct : L2.St → Hp → Prop} {σ : L2.St} {H : Hp} (h : nx σ H) : (Ends.mk nx rt bk ct).nx σ H := h
theorem DInv.short {w : List W} {n : Nat} {d : Pd} {st : List (W × Option Nat)} (h : DInv w n d) (I : PInv w n st d.inn) (hn : n ≤ W.sizes w) (zl : d.lat.length = n) : ∀ y ∈ d.lat, y.length ≤ n := fun y hy => by
  obtain ⟨i, hi⟩ := List.getElem?_of_mem hy
  have hl := (List.getElem?_eq_some_iff.mp hi).1
  obtain ⟨x, fs, hx⟩ := at_all (w := w) (i := i) (by omega)
  obtain ⟨_, _, _, h4⟩ := h.at_ i x fs (by omega) hx
  rw [hi] at h4
  have e := Option.some.inj h4
  rw [e]
  match fs with
  | .row a m post :: gs =>
    show (iV _).length ≤ n
    unfold iV
    rw [List.length_map]
    refine Nat.le_trans (List.length_filter_le _ _) ?_
    cases q : d.inn[a]? with
    | none => rw [List.getD_eq_getElem?_getD, q]; exact Nat.zero_le _
    | some l => rw [List.getD_eq_getElem?_getD, q]; exact (I.low a l q).2
  | [] => exact Nat.zero_le _
  | .choice _ _ :: _ => exact Nat.zero_le _
  | .again _ _ :: _ => exact Nat.zero_le _
  | .maybe _ :: _ => exact Nat.zero_le _
  | .look _ :: _ => exact Nat.zero_le _
section
variable {P : Program} {w : World} {K : PySem.W.Frag} {mg : Str → Option Value} {base : Heap} {C : Addr} {c : Cs}
theorem objs_get {c : Cs} {H : Hp} {ws : List W} {vs : List V} {j : Nat} {v : V} (h : ObjsAt c H vs ws) (e : vs[j]? = some v) : ∃ w, ws[j]? = some w ∧ ObjAt c H v w := by
  have hl := ObjsAt.len _ _ h
  have hj := (List.getElem?_eq_some_iff.mp e).1
  obtain ⟨w, hw⟩ : ∃ w, ws[j]? = some w := ⟨ws[j]'(by omega), List.getElem?_eq_getElem (by omega)⟩
  obtain ⟨u, e2, h2⟩ := ObjsAt.at_ _ _ _ _ h hw
  rw [e] at e2
  cases e2
  exact ⟨w, hw, h2⟩
theorem sV_snoc (l : List Str) (v : Str) : (l ++ [v]).map V.str = l.map V.str ++ [.str v] := by simp
theorem rV_snoc (l : List Addr) (v : Addr) : (l ++ [v]).map V.ref = l.map V.ref ++ [.ref v] := by simp
abbrev s_Parts_lay_out : Stmt := inClass (top 50) 1
theorem sc_Parts_lay_out : FnScope ["self", "whole", "todo", "way", "above", "number", "part"] ["self", "whole"] (defScope s_Parts_lay_out) := ⟨rfl, rfl, rfl, by decide +kernel, rfl, by decide +kernel, by decide +kernel⟩
theorem ok_lay {f : Addr} {fd : FuncData} (F : Fun K "lay_out" "Parts.lay_out" s_Parts_lay_out f fd) (T : PtF K C) (B : Bs mg) (G_kind_of : DefOk P w K mg base 1 "kind_of" ["way"] (spKind c)) (G_word_of : DefOk P w K mg base 1 "word_of" ["way"] (spWord c))
    (G_made_of : DefOk P w K mg base 1 "made_of" ["way"] (spMadeOf c)) (G_put_inside : ScOk P w K mg base C 1 "put_inside" ["self", "number", "above"] (spPut C)) : FnOk P w K mg base CX0 2 f fd ["self", "whole"] (spLay c C) := by
  have B_len := B.len
  refine F.ok sc_Parts_lay_out (fun vs H Q E h => by obtain ⟨_, _, _, _, _, _, _, rfl, _⟩ := h; rfl) (fun cdv A outer s' H vs Q E hr h => ?_)
  obtain ⟨H0, a0, wh, v, pre, post, x, rfl, ⟨p, d0, dx, rfl, h, z0, hD0, hI0, ew0⟩, hv, hz, k⟩ := h
  have hI1 := hI0.push
  have hpx : W.sizes pre + x.size ≤ W.sizes (pre ++ x :: post) := by rw [W.sizes_app, W.sizes]; omega
  obtain ⟨fw, efw⟩ : ∃ fw, fw = pre ++ x :: post := ⟨_, rfl⟩
  rw [← efw] at hD0 hI1 hz k hpx
  obtain ⟨n0, en0⟩ : ∃ n0, n0 = W.sizes pre := ⟨_, rfl⟩
  rw [← en0] at hD0 hI1 k hpx z0
  refine ⟨_, (pss_cons (ps_set (i := 2) sc_Parts_lay_out.nd rfl (Or.inl rfl) (pe_lst (pa_cons (pe_tup (pa_cons (pv 1) (pa_cons (pe_un un_neg pe_int) pa_nil))) pa_nil)))
  (pss_one (ps_while PassesOwn.never (pt_truth (pv 2) (by intro _; rfl)) (pss_cons (ps_asg (pe_bm0 PySem.F.plainAttrs_list PySem.F.slot_list_pop PySem.F.type_list_pop mt_pop (pv 2)) (pg_tup rfl (pgs_cons (pg_name (i := 3) sc_Parts_lay_out.nd rfl (Or.inl rfl)) (pgs_cons (pg_name (i := 4) sc_Parts_lay_out.nd rfl (Or.inl rfl)) pgs_nil))))
  (pss_cons (ps_set (i := 5) sc_Parts_lay_out.nd rfl (Or.inr rfl) (pe_callB call_len_seq rfl B_len PySem.boot_len (pa_cons (pe_fld (pv 0) rfl) pa_nil)))
  (pss_cons (ps_expr (pe_bm PySem.F.plainAttrs_list PySem.F.slot_list_append PySem.F.type_list_append mt_append (pe_fld (pv 0) rfl) (pa_cons (pe_callD G_kind_of (hr.mono (by first | decide | omega)) rfl (pa_cons (pv 3) pa_nil)) pa_nil)))
  (pss_cons (ps_expr (pe_bm PySem.F.plainAttrs_list PySem.F.slot_list_append PySem.F.type_list_append mt_append (pe_fld (pv 0) rfl) (pa_cons (pe_callD G_word_of (hr.mono (by first | decide | omega)) rfl (pa_cons (pv 3) pa_nil)) pa_nil)))
  (pss_cons (ps_expr (pe_bm PySem.F.plainAttrs_list PySem.F.slot_list_append PySem.F.type_list_append mt_append (pe_fld (pv 0) rfl) (pa_cons (pe_lst pa_nil) pa_nil)))
  (pss_cons (ps_expr (pe_bm PySem.F.plainAttrs_list PySem.F.slot_list_append PySem.F.type_list_append mt_append (pe_fld (pv 0) rfl) (pa_cons (pv 4) pa_nil)))
  (pss_cons (ps_expr (pe_bm PySem.F.plainAttrs_list PySem.F.slot_list_append PySem.F.type_list_append mt_append (pe_fld (pv 0) rfl) (pa_cons (pe_lst pa_nil) pa_nil)))
  (pss_cons (ps_if (pt_cmpR op_ge (pv 4) pe_int (nomark _)) (pss_one (ps_expr (pe_methS G_put_inside (hr.mono (by first | decide | omega)) (pv 0) (pa_cons (pv 5) (pa_cons (pv 4) pa_nil))))) pss_nil)
  (pss_one (ps_expr (pe_bm PySem.F.plainAttrs_list PySem.F.slot_list_extend PySem.F.type_list_extend mt_extend (pv 2) (pa_cons (pe_lc (own := [("part", 6)]) (g := (gName 6)) (tt := tYes) rfl sc_Parts_lay_out.nd (pi_tup (pe_revT (pe_callD G_made_of (hr.mono (by first | decide | omega)) rfl (pa_cons (pv 3) pa_nil)))) (blkOk_by (own := [("part", 6)]) (N := ["self", "whole", "todo", "way", "above", "number", "part"]) (sc := defScope s_Parts_lay_out) (by decide +kernel)) (fun _ _ _ _ _ => pg_name (i := 6) sc_Parts_lay_out.nd rfl (Or.inl rfl)) (fun _ _ _ _ _ => pts_nil) (fun _ _ _ _ _ => (pe_tup (pa_cons (pv 6) (pa_cons (pv 5) pa_nil))))) pa_nil))))))))))))))), ?_⟩
  walk_at "rd"
  refine ⟨by show 2 ≤ sizeLine; decide, fun r hr => ?_⟩
  have s1 := Same.new hr (.tup [v, .int (-1)])
  refine ⟨by show 1 ≤ sizeLine; decide, fun t ht => ?_⟩
  have s2 := s1.trans (Same.new ht (.lst [.ref r]))
  have nrt : r ≠ t := ne_of_none upd_same ht
  have h1 := (h.of_same s1).cons ht (.lst [.ref r])
  refine gset ?_
  refine st_nx ?_
  refine while_m (fun m σ H' => ∃ (ts : List V) (st : List (W × Option Nat)) (x3 x4 x5 x6 : Option V) (p' : Pp) (d' : Pd) (n : Nat), σ = [some (.ref p.a), some v, some (.ref t), x3, x4, x5, x6] ∧ p'.a = p.a ∧ Own H0 H' (t :: p'.keys) (.lst ts :: p'.vals C dx d') ∧ Pz p' d' n ∧
    DInv fw n d' ∧ StackAt c H' ts st ∧ PInv fw n st d'.inn ∧ W.sizes (st.map (·.1)) = m ∧ n + m = n0 + x.size ∧ d'.wh = wh ∧ Still H H') x.size ?_ ?_
    (fun σ H Q Q' hq ⟨v, e, b, tv, h⟩ => ⟨v, e, b, tv, hq _ _ h⟩)
  · refine ⟨[.ref r], [(x, none)], none, none, none, none, p, d0, n0, rfl, rfl, h1, z0, hD0, ⟨r, v, [], rfl, by rw [upd_ne nrt]; exact upd_same, ObjAt.keep (stillS s2) _ _ hv, rfl⟩, hI1, by simp [W.sizes], by simp, ew0, stillS s2⟩
  · rintro m σ H1 ⟨ts, st, x3, x4, x5, x6, p', d', n, rfl, ea, h', z, hD, hst, hI, hm, hnm, ewh, hS⟩
    have ht1 : H1 t = some (.lst ts) := h'.at_ 0 t rfl
    refine ⟨_, rfl, _, tru_lst ht1, ?_⟩
    rcases List.eq_nil_or_concat st with e | ⟨sa, sl, e⟩
    · subst e
      have e2 : ts = [] := hst
      subst e2
      refine iteF ?_
      have : m = 0 := hm.symm
      subst this
      have en : n = n0 + x.size := by omega
      subst en
      exact k H1 ⟨p', d', dx, ea, h'.tail, z, hD, hI, ewh⟩ hS
    · have e' : st = sa ++ [sl] := by rw [e]; simp
      clear e
      subst e'
      obtain ⟨xl, al⟩ := sl
      obtain ⟨tsa, r1, v1, e2, hsa, hr1, hv1⟩ := StackAt.split _ _ _ hst
      subst e2
      have hsz : W.sizes (sa.map (·.1)) + xl.size = m := by rw [← hm, List.map_append, W.sizes_app]; simp [W.sizes]
      have xin := W.size_inner xl
      have sp := xl.size_pos
      have hstep := hI.step
      have dstep := hD.step hI z.ks z.ws z.ab z.lat
      have hB : ∀ y ∈ d'.lat, y.length ≤ 100 := fun y hy => Nat.le_trans (hD.short hI (by omega) z.lat y hy) (by omega)
      have hab : ∀ a, al = some a → a < n := fun a ha => hI.ab (xl, al) (by simp) a ha
      refine iteT' (by simp) ?_
      walk_at "nx"
      refine ⟨_, rfl, .inl ⟨rfl, _, SqL.of ht1⟩, t, _, _, rfl, rfl, ht1, last_get _ _, ?_⟩
      rw [List.dropLast_concat]
      have k1 : Still H1 (upd H1 t (.lst tsa)) := Still.put ht1
      refine ⟨r1, _, rfl, SqT.of (k1.tup hr1), rfl, _, _, rfl, _, _, rfl, rfl, ?_⟩
      walk_at "nx"
      have h2 : Own H0 (upd H1 t (.lst tsa)) (t :: p'.keys) (.lst tsa :: p'.vals C dx d') := h'.put (j := 0) rfl _
      have hv2 := ObjAt.keep k1 _ _ hv1
      have hsa2 := StackAt.keep k1 _ _ hsa
      generalize upd H1 t (.lst tsa) = H2 at *
      have hi2 : H2 p.a = some (.ins C dx p'.fs) := by rw [← ea]; exact h2.at_ 1 p'.a rfl
      have hk2 : H2 p'.ks = some (.lst (iV d'.kinds)) := h2.at_ 2 p'.ks rfl
      refine ⟨_, rfl, p.a, C, dx, _, _, rfl, hi2, T.cl, T.n1, rfl, p'.ks, _, rfl, .inl (SqL.of hk2), ?_⟩
      rw [show (iV d'.kinds).length = n by simp only [iV, List.length_map, z.ks]]
      walk_at "nx"
      refine ⟨_, rfl, p.a, C, dx, _, _, rfl, hi2, T.cl, T.n1, rfl, .inl ⟨rfl, _, SqL.of hk2⟩, _, rfl, v1, xl, rfl, hv2, p'.ks, _, _, rfl, rfl, hk2, small' (by simp only [iV, List.length_map, z.ks]; omega), ?_⟩
      have h3 : Own H0 (upd H2 p'.ks (.lst (iV (d'.kinds ++ [xl.kind])))) (t :: p'.keys) (.lst tsa :: p'.vals C dx { d' with kinds := d'.kinds ++ [xl.kind] }) := h2.put (j := 2) rfl _
      rw [iV_snoc] at h3
      have k3 : Still H2 (upd H2 p'.ks (.lst (iV d'.kinds ++ [.int (xl.kind : Nat)]))) := Still.put hk2
      have hv3 := ObjAt.keep k3 _ _ hv2
      have hsa3 := StackAt.keep k3 _ _ hsa2
      generalize upd H2 p'.ks (.lst (iV d'.kinds ++ [.int (xl.kind : Nat)])) = H3 at *
      walk_at "nx"
      have hi3 : H3 p.a = some (.ins C dx p'.fs) := by rw [← ea]; exact h3.at_ 1 p'.a rfl
      have hw3 : H3 p'.ws = some (.lst (d'.words.map V.str)) := h3.at_ 3 p'.ws rfl
      refine ⟨_, rfl, p.a, C, dx, _, _, rfl, hi3, T.cl, T.n2, rfl, .inl ⟨rfl, _, SqL.of hw3⟩, _, rfl, v1, xl, rfl, hv3, p'.ws, _, _, rfl, rfl, hw3, small' (by simp only [List.length_map, z.ws]; omega), ?_⟩
      have h4 : Own H0 (upd H3 p'.ws (.lst ((d'.words ++ [xl.word]).map V.str))) (t :: p'.keys) (.lst tsa :: p'.vals C dx { d' with kinds := d'.kinds ++ [xl.kind], words := d'.words ++ [xl.word] }) := h3.put (j := 3) rfl _
      rw [sV_snoc] at h4
      have k4 : Still H3 (upd H3 p'.ws (.lst (d'.words.map V.str ++ [.str xl.word]))) := Still.put hw3
      have hv4 := ObjAt.keep k4 _ _ hv3
      have hsa4 := StackAt.keep k4 _ _ hsa3
      generalize upd H3 p'.ws (.lst (d'.words.map V.str ++ [.str xl.word])) = H4 at *
      walk_at "nx"
      have hi4 : H4 p.a = some (.ins C dx p'.fs) := by rw [← ea]; exact h4.at_ 1 p'.a rfl
      have hn4 : H4 p'.ni = some (.lst (p'.is.map V.ref)) := h4.at_ 4 p'.ni rfl
      refine ⟨_, rfl, p.a, C, dx, _, _, rfl, hi4, T.cl, T.n3, rfl, .inl ⟨rfl, _, SqL.of hn4⟩, Nat.zero_le _, fun q1 hq1 => ?_⟩
      have s5 := Same.new hq1 (.lst [])
      have hn5 := s5 _ _ hn4
      refine ⟨p'.ni, _, _, rfl, rfl, hn5, small' (by simp only [List.length_map, z.is]; omega), ?_⟩
      have h5 := (h4.snoc hq1 (.lst [])).put (j := 4) (b := p'.ni) rfl (.lst ((p'.is ++ [q1]).map V.ref))
      rw [rV_snoc] at h5
      have k5 : Still H4 (upd (upd H4 q1 (.lst [])) p'.ni (.lst (p'.is.map V.ref ++ [.ref q1]))) := (stillS s5).trans (Still.put hn5)
      have hv5 := ObjAt.keep k5 _ _ hv4
      have hsa5 := StackAt.keep k5 _ _ hsa4
      generalize upd (upd H4 q1 (.lst [])) p'.ni (.lst (p'.is.map V.ref ++ [.ref q1])) = H5 at *
      walk_at "nx"
      have hi5 : H5 p.a = some (.ins C dx p'.fs) := by rw [← ea]; exact h5.at_ 1 p'.a rfl
      have ha5 : H5 p'.ab = some (.lst d'.ab) := h5.at_ 5 p'.ab rfl
      refine ⟨_, rfl, p.a, C, dx, _, _, rfl, hi5, T.cl, T.n4, rfl, .inl ⟨rfl, _, SqL.of ha5⟩, _, rfl, p'.ab, _, _, rfl, rfl, ha5, small' (by rw [z.ab]; omega), ?_⟩
      have h6 := h5.put (j := 5) (b := p'.ab) rfl (.lst (d'.ab ++ [.int (eI al)]))
      have k6 : Still H5 (upd H5 p'.ab (.lst (d'.ab ++ [.int (eI al)]))) := Still.put ha5
      have hv6 := ObjAt.keep k6 _ _ hv5
      have hsa6 := StackAt.keep k6 _ _ hsa5
      generalize upd H5 p'.ab (.lst (d'.ab ++ [.int (eI al)])) = H6 at *
      walk_at "nx"
      have hi6 : H6 p.a = some (.ins C dx p'.fs) := by rw [← ea]; exact h6.at_ 1 p'.a rfl
      have hl6 : H6 p'.la = some (.lst (p'.ls.map V.ref)) := h6.at_ 6 p'.la rfl
      refine ⟨_, rfl, p.a, C, dx, _, _, rfl, hi6, T.cl, T.n5, rfl, .inl ⟨rfl, _, SqL.of hl6⟩, Nat.zero_le _, fun q2 hq2 => ?_⟩
      have s7 := Same.new hq2 (.lst [])
      have hl7 := s7 _ _ hl6
      refine ⟨p'.la, _, _, rfl, rfl, hl7, small' (by simp only [List.length_map, z.ls]; omega), ?_⟩
      have h7 := (h6.snoc hq2 (.lst [])).put (j := 6) (b := p'.la) rfl (.lst ((p'.ls ++ [q2]).map V.ref))
      rw [rV_snoc] at h7
      have k7 : Still H6 (upd (upd H6 q2 (.lst [])) p'.la (.lst (p'.ls.map V.ref ++ [.ref q2]))) := (stillS s7).trans (Still.put hl7)
      have hv7 := ObjAt.keep k7 _ _ hv6
      have hsa7 := StackAt.keep k7 _ _ hsa6
      have hS7 : Still H (upd (upd H6 q2 (.lst [])) p'.la (.lst (p'.ls.map V.ref ++ [.ref q2]))) := (((((hS.trans k1).trans k3).trans k4).trans k5).trans k6).trans k7
      generalize upd (upd H6 q2 (.lst [])) p'.la (.lst (p'.ls.map V.ref ++ [.ref q2])) = H7 at *
      walk_at "nx"
      obtain ⟨p2, ep2⟩ : ∃ p2 : Pp, p2 = { p' with is := p'.is ++ [q1], ls := p'.ls ++ [q2] } := ⟨_, rfl⟩
      have ea2 : p2.a = p.a := by rw [ep2]; exact ea
      obtain ⟨d2, ed2⟩ : ∃ d2 : Pd, d2 = { d' with kinds := d'.kinds ++ [xl.kind], words := d'.words ++ [xl.word], inn := d'.inn ++ [[]], ab := d'.ab ++ [.int (eI al)], lat := d'.lat ++ [[]] } := ⟨_, rfl⟩
      have h8 : Own H0 H7 (t :: p2.keys) (.lst tsa :: p2.vals C dx d2) := by
        have ek : t :: p2.keys = ((t :: p'.keys) ++ [q1]) ++ [q2] := by
          rw [ep2]
          show t :: p'.a :: p'.ks :: p'.ws :: p'.ni :: p'.ab :: p'.la :: p'.wh :: il (p'.is ++ [q1]) (p'.ls ++ [q2]) = t :: p'.a :: p'.ks :: p'.ws :: p'.ni :: p'.ab :: p'.la :: p'.wh :: ((il p'.is p'.ls ++ [q1]) ++ [q2])
          rw [il_snoc _ _ (by rw [z.is, z.ls]), List.append_assoc]
          rfl
        rw [ek]
        have ev : (.lst tsa :: p2.vals C dx d2 : List HO) = .lst tsa :: .ins C dx p'.fs :: .lst (iV (d'.kinds ++ [xl.kind])) :: .lst ((d'.words ++ [xl.word]).map V.str) :: .lst ((p'.is ++ [q1]).map V.ref) :: .lst (d'.ab ++ [.int (eI al)]) :: .lst ((p'.ls ++ [q2]).map V.ref) :: .lst d'.wh ::
            ((il (d'.inn.map fun l => .lst (iV l)) (d'.lat.map .lst) ++ [.lst []]) ++ [.lst []]) := by
          rw [ep2, ed2]
          show (.lst tsa :: .ins C dx p'.fs :: .lst (iV (d'.kinds ++ [xl.kind])) :: .lst ((d'.words ++ [xl.word]).map V.str) :: .lst ((p'.is ++ [q1]).map V.ref) :: .lst (d'.ab ++ [.int (eI al)]) :: .lst ((p'.ls ++ [q2]).map V.ref) :: .lst d'.wh :: il ((d'.inn ++ [[]]).map fun l => .lst (iV l)) ((d'.lat ++ [[]]).map .lst) : List HO) = _
          have e1 : ((d'.inn ++ [[]]).map fun l => HO.lst (iV l)) = (d'.inn.map fun l => HO.lst (iV l)) ++ [.lst []] := by simp [iV]
          have e2 : ((d'.lat ++ [[]]).map HO.lst) = (d'.lat.map HO.lst) ++ [.lst []] := by simp
          rw [e1, e2, il_snoc _ _ (by rw [List.length_map, List.length_map, z.inn, z.lat]), List.append_assoc]
          rfl
        rw [ev, rV_snoc, rV_snoc]
        exact h7
      have z8 : Pz p2 d2 (n + 1) := by
        rw [ep2, ed2]
        exact ⟨by simp [z.ks], by simp [z.ws], by simp [z.inn], by simp [z.ab], by simp [z.lat], by simp [z.is], by simp [z.ls]⟩
      have hB8 : ∀ y ∈ d2.lat, y.length ≤ 100 := by
        rw [ed2]
        intro y hy
        rcases List.mem_append.mp hy with hy | hy
        · exact hB y hy
        · rw [List.mem_singleton] at hy; subst hy; exact Nat.zero_le _
      have ek8 : d2.kinds = d'.kinds ++ [xl.kind] := by rw [ed2]
      have el8' : d2.lat = d'.lat ++ [[]] := by rw [ed2]
      have ewh2 : d2.wh = wh := by rw [ed2]; exact ewh
      have dstep2 : DInv fw (n + 1) { d2 with inn := nxt n d'.inn al, lat := putLat d' xl.kind n al } := by rw [ed2]; exact dstep
      have ei8 : d2.inn = d'.inn ++ [[]] := by rw [ed2]
      have el8 : d2.lat.length = n + 1 := z8.lat
      clear ep2 ed2 h7
      refine st_cutN (fun σ' H' => σ' = [some (.ref p.a), some v, some (.ref t), some v1, some (.int (eI al)), some (.int (n : Nat)), x6] ∧ Own H0 H' (t :: p2.keys) (.lst tsa :: p2.vals C dx { d2 with inn := nxt n d'.inn al, lat := putLat d' xl.kind n al }) ∧ Still H7 H') (fun nx' hnx => ?_) (fun σ' H' hc => ?_)
      · have hi8 : H7 p.a = some (.ins C dx p2.fs) := by rw [← ea2]; exact h8.at_ 1 p2.a rfl
        refine ⟨_, rfl, _, _, rfl, rfl, _, rfl, ?_⟩
        cases al with
        | none =>
          refine ite2 (fun q => absurd (show (0 : Int) ≤ -1 from of_decide_eq_true q) (by decide)) (fun _ => hnx _ _ ⟨rfl, ?_, .refl _⟩)
          show Own H0 H7 (t :: p2.keys) (.lst tsa :: p2.vals C dx { d2 with inn := d'.inn ++ [[]], lat := d'.lat ++ [[]] })
          rw [← ei8, ← el8']
          exact h8
        | some a =>
          have han := hab a rfl
          obtain ⟨l, hl⟩ := get_lt (l := d'.inn) (j := a) (by rw [z.inn]; exact han)
          obtain ⟨hl1, hl2⟩ := hI.low a l hl
          refine ite2 (fun _ => ?_) (fun q => absurd (show decide ((0 : Int) ≤ ((a : Nat) : Int)) = true from decide_eq_true (by omega)) q)
          refine ⟨_, rfl, p.a, dx, _, rfl, hi8, rfl, _, rfl, _, rfl, ?_⟩
          refine ⟨H0, p2, d2, t, dx, .lst tsa, n, a, 100, l, by rw [ea2]; rfl, h8, z8, han, by rw [ei8, List.getElem?_append_left (by rw [z.inn]; exact han)]; exact hl, hl1, by omega, hI.nodup hl, hB8, by omega, fun H' ho st => hnx _ _ ⟨rfl, ?_, st⟩⟩
          show Own H0 H' (t :: p2.keys) (.lst tsa :: p2.vals C dx { d2 with inn := (d'.inn ++ [[]]).set a ((d'.inn[a]?.getD []) ++ [n]), lat := if (d'.kinds ++ [xl.kind])[a]? = some 3 then addL (d'.lat ++ [[]]) (d'.inn.getD a []) n else d'.lat ++ [[]] })
          rw [List.getD_eq_getElem?_getD, hl, ← ei8, ← ek8, ← el8']
          exact ho
      · obtain ⟨rfl, h9, st9⟩ := hc
        have hln : (putLat d' xl.kind n al).length = n + 1 := by
          unfold putLat
          cases al with
          | none => simp [z.lat]
          | some b => simp only []; split <;> simp [addL_len, z.lat]
        have ht9 : H' t = some (.lst tsa) := h9.at_ 0 t rfl
        have hv9 := ObjAt.keep st9 _ _ hv7
        refine ⟨_, rfl, .inl ⟨rfl, _, SqL.of ht9⟩, _, rfl, v1, xl, rfl, hv9, fun u us H10 s10 hu hus => ?_⟩
        refine ⟨u, us, rfl, SqT.of hu, fun rr hrr => ?_⟩
        have s11 := s10.trans (Same.new hrr (.tup us.reverse))
        have hu11 : upd H10 rr (.tup us.reverse) rr = some (.tup us.reverse) := upd_same
        have hus11 := ObjsAt.keep (stillS (Same.new hrr (.tup us.reverse))) _ _ (ObjsAt.rev _ _ hus)
        have lus := ObjsAt.len _ _ hus
        have lin := W.sizes_len xl.inner
        generalize upd H10 rr (.tup us.reverse) = H11 at *
        refine ⟨rr, rfl, ⟨_, SqT.of hu11⟩, fun D hD => ?_⟩
        have sD := Same.new hD (.lst [])
        refine lc_tup (K := K) (a := rr) (xs := us.reverse) (fun i Hx => ∃ acc, Hx D = some (.lst acc) ∧ acc.length = i ∧ StackAt c Hx acc ((xl.inner.reverse.take i).map fun y => (y, some n)) ∧ Same H11 Hx) ?_ ?_ ?_ ?_
        · exact ⟨[], upd_same, rfl, rfl, sD⟩
        · rintro i Hx _ ⟨_, _, _, _, sx⟩
          exact SqT.of (sx _ _ hu11)
        · rintro i e Hx he ⟨acc, hacc, hal, hsx, sx⟩
          obtain ⟨y, hy, hye⟩ := objs_get hus11 he
          have hi : i < us.reverse.length := (List.getElem?_eq_some_iff.mp he).1
          rw [List.length_reverse] at hi
          refine ⟨rfl, ?_⟩
          walk_at "rd"
          refine ⟨by show 2 ≤ sizeLine; decide, fun q hq => ?_⟩
          have sq := Same.new hq (.tup [e, .int (n : Nat)])
          have haccq := sq _ _ hacc
          refine ⟨acc, haccq, small' (by omega), acc ++ [.ref q], upd_same, by rw [List.length_append, hal]; rfl, ?_, Same.put hD (sx.trans sq) _⟩
          have kk : Still Hx (upd (upd Hx q (.tup [e, .int (n : Nat)])) D (.lst (acc ++ [.ref q]))) := (stillS sq).trans (Still.put haccq)
          rw [take_more' hy, List.map_append]
          refine StackAt.app _ _ (StackAt.keep kk _ _ hsx) ⟨q, e, [], rfl, ?_, ObjAt.keep ((stillS sx).trans kk) _ _ hye, rfl⟩
          exact (Still.put (ys := acc ++ [.ref q]) haccq).tup upd_same
        · rintro Hx ⟨acc, hacc, hal, hsx, sx⟩
          rw [List.length_reverse] at hal hsx
          rw [lus, ← List.length_reverse (as := xl.inner), List.take_length] at hsx
          have s12 := s11.trans sx
          have ht12 := s12 _ _ ht9
          refine ⟨t, D, _, _, rfl, rfl, ht12, hacc, ?_, ?_⟩
          · have := StackAt.len _ _ hsa7
            have hsl := W.sizes_len (sa.map (·.1))
            rw [List.length_map] at hsl
            exact Nat.le_of_lt (small' (by omega))
          · have h13 : Own H0 (upd Hx t (.lst (tsa ++ acc))) (t :: p2.keys) (.lst (tsa ++ acc) :: p2.vals C dx { d2 with inn := nxt n d'.inn al, lat := putLat d' xl.kind n al }) := (h9.of_same s12).put (j := 0) (b := t) rfl _
            have k13 : Still Hx (upd Hx t (.lst (tsa ++ acc))) := Still.put ht12
            have kA : Still H7 (upd Hx t (.lst (tsa ++ acc))) := (st9.trans (stillS s12)).trans k13
            refine ⟨W.sizes ((sa ++ xl.inner.reverse.map fun y => ((y, some n) : W × Option Nat)).map (·.1)), ?_, _, _, _, _, _, _, p2, _, n + 1, rfl, ea2, h13, ⟨z8.ks, z8.ws, hstep.il, z8.ab, hln, z8.is, z8.ls⟩, dstep2, StackAt.app _ _ (StackAt.keep kA _ _ hsa7) (StackAt.keep k13 _ _ hsx), hstep, rfl, ?_, ewh2, hS7.trans kA⟩
            · rw [List.map_append, map_fst, W.sizes_app, W.sizes_rev]; omega
            · rw [List.map_append, map_fst, W.sizes_app, W.sizes_rev]; omega
end
end Rk
namespace Rk
open PySem PySem.Spec PyProof.Rows L2 Wv Tk
/-! ### the object Parts, as it is read -/
structure PtV (C : Addr) (H : Hp) (a : Addr) (w : List W) (dx ks ws ni ab la wh : Addr) (kL wL nL aL lL : List V) : Prop where
  ins : H a = some (.ins C dx [(Str.ofString "kinds", .ref ks), (Str.ofString "words", .ref ws), (Str.ofString "inner", .ref ni), (Str.ofString "above", .ref ab), (Str.ofString "later", .ref la), (Str.ofString "wholes", .ref wh)])
  hks : H ks = some (.lst kL)
  hws : H ws = some (.lst wL)
  hni : H ni = some (.lst nL)
  hab : H ab = some (.lst aL)
  hla : H la = some (.lst lL)
  hwh : H wh = some (.lst (iV (offs 0 w)))
  len : kL.length = (W.sizes w) ∧ wL.length = (W.sizes w) ∧ nL.length = (W.sizes w) ∧ aL.length = (W.sizes w) ∧ lL.length = (W.sizes w)
  at_ : ∀ (i : Nat) (x : W) (fs : List Fr), At w i x fs → kL[i]? = some (.int (x.kind : Nat)) ∧ wL[i]? = some (.str x.word) ∧ (∃ b, nL[i]? = some (.ref b) ∧ H b = some (.lst (iV (offs (i + 1) x.inner)))) ∧ aL[i]? = some (.int (eI (abv fs))) ∧ ∃ b, lL[i]? = some (.ref b) ∧ H b = some (.lst (iV (latN fs)))
def PtAt (C : Addr) (H : Hp) (a : Addr) (w : List W) : Prop := ∃ dx ks ws ni ab la wh kL wL nL aL lL, PtV C H a w dx ks ws ni ab la wh kL wL nL aL lL
theorem PtV.keep {C : Addr} {H H' : Hp} {a : Addr} {w : List W} {dx ks ws ni ab la wh : Addr} {kL wL nL aL lL : List V} (h : PtV C H a w dx ks ws ni ab la wh kL wL nL aL lL) (s : Same H H') : PtV C H' a w dx ks ws ni ab la wh kL wL nL aL lL :=
  ⟨s _ _ h.ins, s _ _ h.hks, s _ _ h.hws, s _ _ h.hni, s _ _ h.hab, s _ _ h.hla, s _ _ h.hwh, h.len, fun i x fs hx => by
    obtain ⟨h1, h2, ⟨b, h3, h4⟩, h5, b2, h6, h7⟩ := h.at_ i x fs hx
    exact ⟨h1, h2, ⟨b, h3, s _ _ h4⟩, h5, b2, h6, s _ _ h7⟩⟩
theorem PtAt.keep {C : Addr} {H H' : Hp} {a : Addr} {w : List W} (h : PtAt C H a w) (s : Same H H') : PtAt C H' a w := by
  obtain ⟨_, _, _, _, _, _, _, _, _, _, _, _, h⟩ := h
  exact ⟨_, _, _, _, _, _, _, _, _, _, _, _, h.keep s⟩
theorem Own.inn0 {H0 H : Hp} {p : Pp} {d : Pd} {n : Nat} {C dx : Addr} (h : Own H0 H p.keys (p.vals C dx d)) (z : Pz p d n) {j : Nat} {b : Addr} (e : p.is[j]? = some b) : ∃ l, d.inn[j]? = some l ∧ H b = some (.lst (iV l)) := by
  have h1 := h.at_ (7 + 2 * j) b (by
    rw [show 7 + 2 * j = 2 * j + 1 + 1 + 1 + 1 + 1 + 1 + 1 by omega]
    unfold Pp.keys
    simp only [List.getElem?_cons_succ]
    rw [il_get0 _ _ _ (by rw [z.is, z.ls])]; exact e)
  have hj := (List.getElem?_eq_some_iff.mp e).1
  have z1 := z.is
  have z2 := z.inn
  obtain ⟨l, hl⟩ : ∃ l, d.inn[j]? = some l := ⟨d.inn[j]'(by omega), List.getElem?_eq_getElem (by omega)⟩
  refine ⟨l, hl, h1.trans ?_⟩
  rw [show 7 + 2 * j = 2 * j + 1 + 1 + 1 + 1 + 1 + 1 + 1 by omega]
  unfold Pp.vals
  simp only [List.getElem?_cons_succ]
  rw [il_get0 _ _ _ (by rw [List.length_map, List.length_map, z.inn, z.lat]), List.getElem?_map, hl]
  rfl
theorem Own.lat0 {H0 H : Hp} {p : Pp} {d : Pd} {n : Nat} {C dx : Addr} (h : Own H0 H p.keys (p.vals C dx d)) (z : Pz p d n) {j : Nat} {b : Addr} (e : p.ls[j]? = some b) : ∃ l, d.lat[j]? = some l ∧ H b = some (.lst l) := by
  have h1 := h.at_ (7 + 2 * j + 1) b (by
    rw [show 7 + 2 * j + 1 = 2 * j + 1 + 1 + 1 + 1 + 1 + 1 + 1 + 1 by omega]
    unfold Pp.keys
    rw [List.getElem?_cons_succ, List.getElem?_cons_succ, List.getElem?_cons_succ, List.getElem?_cons_succ, List.getElem?_cons_succ, List.getElem?_cons_succ, List.getElem?_cons_succ]
    rw [il_get1 _ _ _ (by rw [z.is, z.ls])]; exact e)
  have hj := (List.getElem?_eq_some_iff.mp e).1
  have z1 := z.ls
  have z2 := z.lat
  obtain ⟨l, hl⟩ : ∃ l, d.lat[j]? = some l := ⟨d.lat[j]'(by omega), List.getElem?_eq_getElem (by omega)⟩
  refine ⟨l, hl, h1.trans ?_⟩
  rw [show 7 + 2 * j + 1 = 2 * j + 1 + 1 + 1 + 1 + 1 + 1 + 1 + 1 by omega]
  unfold Pp.vals
  rw [List.getElem?_cons_succ, List.getElem?_cons_succ, List.getElem?_cons_succ, List.getElem?_cons_succ, List.getElem?_cons_succ, List.getElem?_cons_succ, List.getElem?_cons_succ]
  rw [il_get1 _ _ _ (by rw [List.length_map, List.length_map, z.inn, z.lat]), List.getElem?_map, hl]
  rfl
theorem LdW.view {C : Addr} {H0 H : Hp} {a : Addr} {w : List W} (h : LdW C H0 H a w (W.sizes w) (iV (offs 0 w))) : PtAt C H a w ∧ Same H0 H := by
  obtain ⟨p, d, dx, rfl, O, z, hD, hI, ew⟩ := h
  have F := Full.of hD hI
  have hw : H p.wh = some (.lst d.wh) := O.at_ 6 p.wh rfl
  rw [ew] at hw
  refine ⟨⟨dx, p.ks, p.ws, p.ni, p.ab, p.la, p.wh, iV d.kinds, d.words.map V.str, p.is.map V.ref, d.ab, p.ls.map V.ref, O.at_ 0 p.a rfl, O.at_ 1 p.ks rfl, O.at_ 2 p.ws rfl, O.at_ 3 p.ni rfl, O.at_ 4 p.ab rfl, O.at_ 5 p.la rfl, hw, ?_, fun i x fs hx => ?_⟩, O.same⟩
  · exact ⟨by simp [iV, z.ks], by simp [z.ws], by simp [z.is], z.ab, by simp [z.ls]⟩
  · have hi : i < W.sizes w := by have := hx.lt; have := x.size_pos; omega
    obtain ⟨h1, h2, h3, h4, h5⟩ := F.at_ i x fs hx
    obtain ⟨b, hb⟩ := get_lt (l := p.is) (j := i) (by rw [z.is]; exact hi)
    obtain ⟨b2, hb2⟩ := get_lt (l := p.ls) (j := i) (by rw [z.ls]; exact hi)
    obtain ⟨l, hl, hbl⟩ := Own.inn0 O z hb
    obtain ⟨l2, hl2, hbl2⟩ := Own.lat0 O z hb2
    rw [h3] at hl
    cases hl
    rw [h5] at hl2
    cases hl2
    exact ⟨iV_at h1, by rw [List.getElem?_map, h2]; rfl, ⟨b, rV_at hb, hbl⟩, h4, b2, rV_at hb2, hbl2⟩
theorem take_split {w : List W} {i : Nat} {x : W} (h : w[i]? = some x) : w = w.take i ++ x :: w.drop (i + 1) := by
  obtain ⟨hi, e⟩ := List.getElem?_eq_some_iff.mp h
  rw [← e, ← List.drop_eq_getElem_cons hi, List.take_append_drop]
def spInit (c : Cs) (C : Addr) : Sp := fun vs H Q _ => ∃ (p dx l : Addr) (us : List V) (w : List W) (H0 : Hp), vs = [.ref p, .ref l] ∧ H p = some (.ins C dx []) ∧ H0 p = none ∧ Same H0 H ∧ H0 l = some (.lst us) ∧ ObjsAt c H0 us w ∧ W.sizes w ≤ 100 ∧
  ∀ H', PtAt C H' p w → Same H0 H' → Q .non H'
section
variable {P : Program} {w : World} {K : PySem.W.Frag} {mg : Str → Option Value} {base : Heap} {C : Addr} {c : Cs}
abbrev s_Parts_init : Stmt := inClass (top 50) 0
theorem sc_Parts_init : FnScope ["self", "ways", "way"] ["self", "ways"] (defScope s_Parts_init) := ⟨rfl, rfl, rfl, by decide +kernel, rfl, by decide +kernel, by decide +kernel⟩
theorem ok_parts {f : Addr} {fd : FuncData} (F : Fun K "__init__" "Parts.__init__" s_Parts_init f fd) (T : PtF K C) (B : Bs mg) (G_lay_out : ScOk P w K mg base C 2 "lay_out" ["self", "whole"] (spLay c C)) : FnOk P w K mg base CX0 3 f fd ["self", "ways"] (spInit c C) := by
  have B_len := B.len
  refine F.ok sc_Parts_init (fun vs H Q E h => by obtain ⟨_, _, _, _, _, _, rfl, _⟩ := h; rfl) (fun cdv A outer s' H vs Q E hr h => ?_)
  obtain ⟨p, dx, l, us, fw, H0, rfl, hp, hp0, s0, hl, hv, hz, k⟩ := h
  refine ⟨_, (pss_cons (ps_fld (pv 0) (pe_lst pa_nil) rfl)
  (pss_cons (ps_fld (pv 0) (pe_lst pa_nil) rfl)
  (pss_cons (ps_fld (pv 0) (pe_lst pa_nil) rfl)
  (pss_cons (ps_fld (pv 0) (pe_lst pa_nil) rfl)
  (pss_cons (ps_fld (pv 0) (pe_lst pa_nil) rfl)
  (pss_cons (ps_fld (pv 0) (pe_lst pa_nil) rfl)
  (pss_one (ps_for PassesOwn.never rfl (pi_list (pv 1)) (pg_name (i := 2) sc_Parts_init.nd rfl (Or.inl rfl))
   (pss_cons (ps_expr (pe_bm PySem.F.plainAttrs_list PySem.F.slot_list_append PySem.F.type_list_append mt_append (pe_fld (pv 0) rfl) (pa_cons (pe_callB call_len_seq rfl B_len PySem.boot_len (pa_cons (pe_fld (pv 0) rfl) pa_nil)) pa_nil)))
  (pss_one (ps_expr (pe_methS G_lay_out (hr.mono (by first | decide | omega)) (pv 0) (pa_cons (pv 2) pa_nil))))))))))))), ?_⟩
  have o0 : Own H0 H [p] [.ins C dx []] := ⟨rfl, fun j b e => by
    cases j with
    | zero => cases e; exact hp
    | succ j => simp at e, by simp, fun b hb => by rw [List.mem_singleton] at hb; subst hb; exact hp0, s0⟩
  refine ⟨Nat.zero_le _, fun q1 h1 => ?_⟩
  have o1 := o0.snoc h1 (.lst [])
  have g1 := o1.at_ 0 p rfl
  refine ⟨_, rfl, p, C, dx, _, rfl, g1, T.cl, T.n1, (by show 0 < 1000; decide), ?_⟩
  have p1 := o1.put (j := 0) (b := p) rfl (.ins C dx (putF (Str.ofString "kinds") (.ref q1) []))
  generalize upd (upd H q1 (.lst [])) p (.ins C dx (putF (Str.ofString "kinds") (.ref q1) [])) = H1 at *
  refine ⟨Nat.zero_le _, fun q2 h2 => ?_⟩
  have o2 := p1.snoc h2 (.lst [])
  have g2 := o2.at_ 0 p rfl
  refine ⟨_, rfl, p, C, dx, _, rfl, g2, T.cl, T.n2, (by show 1 < 1000; decide), ?_⟩
  have p2 := o2.put (j := 0) (b := p) rfl (.ins C dx (putF (Str.ofString "words") (.ref q2) (putF (Str.ofString "kinds") (.ref q1) [])))
  generalize upd (upd H1 q2 (.lst [])) p (.ins C dx (putF (Str.ofString "words") (.ref q2) (putF (Str.ofString "kinds") (.ref q1) []))) = H2 at *
  refine ⟨Nat.zero_le _, fun q3 h3 => ?_⟩
  have o3 := p2.snoc h3 (.lst [])
  have g3 := o3.at_ 0 p rfl
  refine ⟨_, rfl, p, C, dx, _, rfl, g3, T.cl, T.n3, (by show 2 < 1000; decide), ?_⟩
  generalize e3 : putF (Str.ofString "inner") (.ref q3) (putF (Str.ofString "words") (.ref q2) (putF (Str.ofString "kinds") (.ref q1) [])) = f3
  have p3 := o3.put (j := 0) (b := p) rfl (.ins C dx f3)
  generalize upd (upd H2 q3 (.lst [])) p (.ins C dx f3) = H3 at *
  refine ⟨Nat.zero_le _, fun q4 h4 => ?_⟩
  have o4 := p3.snoc h4 (.lst [])
  have g4 := o4.at_ 0 p rfl
  refine ⟨_, rfl, p, C, dx, _, rfl, g4, T.cl, T.n4, (by rw [← e3]; show 3 < 1000; decide), ?_⟩
  generalize e4 : putF (Str.ofString "above") (.ref q4) f3 = f4
  have p4 := o4.put (j := 0) (b := p) rfl (.ins C dx f4)
  generalize upd (upd H3 q4 (.lst [])) p (.ins C dx f4) = H4 at *
  refine ⟨Nat.zero_le _, fun q5 h5 => ?_⟩
  have o5 := p4.snoc h5 (.lst [])
  have g5 := o5.at_ 0 p rfl
  refine ⟨_, rfl, p, C, dx, _, rfl, g5, T.cl, T.n5, (by rw [← e4, ← e3]; show 4 < 1000; decide), ?_⟩
  generalize e5 : putF (Str.ofString "later") (.ref q5) f4 = f5
  have p5 := o5.put (j := 0) (b := p) rfl (.ins C dx f5)
  generalize upd (upd H4 q5 (.lst [])) p (.ins C dx f5) = H5 at *
  refine ⟨Nat.zero_le _, fun q6 h6 => ?_⟩
  have o6 := p5.snoc h6 (.lst [])
  have g6 := o6.at_ 0 p rfl
  refine ⟨_, rfl, p, C, dx, _, rfl, g6, T.cl, T.n6, (by rw [← e5, ← e4, ← e3]; show 5 < 1000; decide), ?_⟩
  generalize e6 : putF (Str.ofString "wholes") (.ref q6) f5 = f6
  have p6 := o6.put (j := 0) (b := p) rfl (.ins C dx f6)
  generalize upd (upd H5 q6 (.lst [])) p (.ins C dx f6) = H6 at *
  have ef : f6 = (⟨p, q1, q2, q3, q4, q5, q6, [], []⟩ : Pp).fs := by
    rw [← e6, ← e5, ← e4, ← e3]
    rfl
  subst ef
  have own : Own H0 H6 (⟨p, q1, q2, q3, q4, q5, q6, [], []⟩ : Pp).keys ((⟨p, q1, q2, q3, q4, q5, q6, [], []⟩ : Pp).vals C dx ⟨[], [], [], [], [], []⟩) := p6
  clear p6 o6 p5 o5 p4 o4 p3 o3 p2 o2 p1 o1 o0
  obtain ⟨pp, epp⟩ : ∃ pp : Pp, pp = ⟨p, q1, q2, q3, q4, q5, q6, [], []⟩ := ⟨_, rfl⟩
  rw [← epp] at own
  have ea : pp.a = p := by rw [epp]
  have eis : pp.is = [] := by rw [epp]
  have els : pp.ls = [] := by rw [epp]
  clear epp e6
  have hul := ObjsAt.len _ _ hv
  refine ⟨_, rfl, l, rfl, ⟨_, SqL.of (own.same _ _ hl)⟩, ?_⟩
  refine for_list (K := K) (a := l) (xs := us) (fun i σ H' => ∃ x2 : Option V, σ = [some (.ref p), some (.ref l), x2] ∧ LdW C H0 H' p fw (W.sizes (fw.take i)) (iV (offs 0 (fw.take i)))) ?_ ?_ ?_ ?_
  · exact ⟨none, rfl, pp, _, dx, ea, own, ⟨rfl, rfl, rfl, rfl, rfl, by rw [eis]; rfl, by rw [els]; rfl⟩, ⟨fun i x fs h => absurd h (Nat.not_lt_zero _)⟩, PInv.start fw, rfl⟩
  · rintro i σ H' _ ⟨_, rfl, p', d', dx', _, O, _⟩
    exact SqL.of (O.same _ _ hl)
  · rintro i e σ H7 he ⟨x2, rfl, p', d', dx', ea', o7, z7, hD7, hI7, ew7⟩
    obtain ⟨x, hx, hex⟩ := objs_get hv he
    have esp := take_split hx
    have hi : H7 p = some (.ins C dx' p'.fs) := by rw [← ea']; exact o7.at_ 0 p'.a rfl
    have hk : H7 p'.ks = some (.lst (iV d'.kinds)) := o7.at_ 1 p'.ks rfl
    have hw : H7 p'.wh = some (.lst d'.wh) := o7.at_ 6 p'.wh rfl
    have hil := (List.getElem?_eq_some_iff.mp hx).1
    have hsl := W.sizes_len fw
    refine gset ?_
    refine ⟨_, rfl, p, C, dx', _, _, rfl, hi, T.cl, T.n6, rfl, .inl ⟨rfl, _, SqL.of hw⟩, _, rfl, p, C, dx', _, _, rfl, hi, T.cl, T.n1, rfl, p'.ks, _, rfl, .inl (SqL.of hk), p'.wh, _, _, rfl, rfl, hw, small' (by rw [ew7]; simp only [iV, List.length_map, offs_len, List.length_take]; omega), ?_⟩
    rw [show (iV d'.kinds).length = W.sizes (fw.take i) by simp only [iV, List.length_map, z7.ks]]
    have o8 : Own H0 (upd H7 p'.wh (.lst (d'.wh ++ [.int ((W.sizes (fw.take i) : Nat) : Int)]))) p'.keys (p'.vals C dx' { d' with wh := d'.wh ++ [.int ((W.sizes (fw.take i) : Nat) : Int)] }) := o7.put (j := 6) (b := p'.wh) rfl (.lst (d'.wh ++ [.int ((W.sizes (fw.take i) : Nat) : Int)]))
    generalize upd H7 p'.wh (.lst (d'.wh ++ [.int ((W.sizes (fw.take i) : Nat) : Int)])) = H8 at *
    walk_at "nx"
    have hi8 : H8 p = some (.ins C dx' p'.fs) := by rw [← ea']; exact o8.at_ 0 p'.a rfl
    have eo : offs 0 (fw.take (i + 1)) = offs 0 (fw.take i) ++ [W.sizes (fw.take i)] := by
      rw [take_more' hx, offs_app]
      simp only [offs, Nat.zero_add]
    have es : W.sizes (fw.take (i + 1)) = W.sizes (fw.take i) + x.size := by
      rw [take_more' hx, W.sizes_app]
      simp only [W.sizes, Nat.add_zero]
    have hL8 : LdW C H0 H8 p (fw.take i ++ x :: fw.drop (i + 1)) (W.sizes (fw.take i)) (iV (offs 0 (fw.take (i + 1)))) := by
      rw [← esp]
      refine ⟨p', _, dx', ea', o8, ⟨z7.ks, z7.ws, z7.inn, z7.ab, z7.lat, z7.is, z7.ls⟩, ⟨hD7.at_⟩, hI7, ?_⟩
      show d'.wh ++ [.int ((W.sizes (fw.take i) : Nat) : Int)] = _
      rw [ew7, eo]
      unfold iV
      rw [List.map_append]
      rfl
    refine ⟨_, rfl, p, dx', _, rfl, hi8, rfl, _, rfl, H0, p, _, _, _, _, x, rfl, hL8, ObjAt.keep (stillS o8.same) _ _ hex, by rw [← esp]; exact hz, fun H' hL st => ?_⟩
    rw [← esp, ← es] at hL
    exact ⟨_, rfl, hL⟩
  · rintro σ H' ⟨_, rfl, hL⟩
    rw [hul, List.take_length] at hL
    obtain ⟨h1, s1⟩ := hL.view
    exact k H' h1 s1
end
end Rk
namespace Rk
open PySem PySem.Spec PyProof.Rows L2 Wv Tk
/-! ### which parts are tried, and how many around each -/
def lay (w : List W) : List (W × List Fr) := layF 0 w
theorem lay_len (w : List W) : (lay w).length = (W.sizes w) := layF_len w 0
theorem lay_at {w : List W} {x : W} {i : Nat} {fs : List Fr} : (lay w)[i]? = some (x, fs) ↔ At w i x fs := at_iff.symm
/-- tried, as far as the parts below k tell -/
def trK (k : Nat) : List Fr → Bool
  | [] => true
  | f :: fs => trd (f :: fs) && decide (f.num < k)
theorem trK_cons (k : Nat) (f : Fr) (fs : List Fr) : trK k (f :: fs) = (trd (f :: fs) && decide (f.num < k)) := rfl
def triedK (w : List W) (k : Nat) : List V := (lay w).map fun e => V.bl (trK k e.2)
def triedL (w : List W) : List V := (lay w).map fun e => V.bl (trd e.2)
def aroundL (w : List W) : List Nat := (lay w).map fun e => ard e.2
theorem triedK_len (w : List W) (k : Nat) : (triedK w k).length = (W.sizes w) := by unfold triedK; rw [List.length_map, lay_len]
def setT (l : List V) (ms : List Nat) : List V := ms.foldl (fun l m => l.set m (.bl true)) l
theorem setT_len : ∀ (ms : List Nat) (l : List V), (setT l ms).length = l.length
  | [], _ => rfl
  | m :: ms, l => by show (setT (l.set m _) ms).length = _; rw [setT_len ms, List.length_set]
theorem setT_at {i : Nat} : ∀ (ms : List Nat) (l : List V), i < l.length → (setT l ms)[i]? = if i ∈ ms then some (V.bl true) else l[i]?
  | [], l, h => by rw [if_neg (by simp)]; rfl
  | m :: ms, l, h => by
    show (setT (l.set m _) ms)[i]? = _
    rw [setT_at ms _ (by rw [List.length_set]; exact h)]
    by_cases c : i ∈ ms
    · rw [if_pos c, if_pos (List.mem_cons_of_mem _ c)]
    · rw [if_neg c]
      by_cases e : i = m
      · subst e
        rw [if_pos List.mem_cons_self, List.getElem?_set_self h]
      · rw [if_neg (fun q => by rcases List.mem_cons.mp q with q | q; exact e q; exact c q), List.getElem?_set_ne (Ne.symm e)]
theorem setT_snoc (l : List V) (ms : List Nat) (m : Nat) : setT l (ms ++ [m]) = (setT l ms).set m (.bl true) := by unfold setT; rw [List.foldl_append]; rfl
/-- the parts inside that are tried -/
def triesOf (k : Nat) (x : W) : List Nat := match x with
  | .row _ => []
  | .choice ws => (offs (k + 1) ws).dropLast
  | x => offs (k + 1) x.inner
theorem dropLast_mem {n m : Nat} : ∀ {ws : List W}, m ∈ (offs n ws).dropLast ↔ ∃ pre y post, ws = pre ++ y :: post ∧ m = n + W.sizes pre ∧ post ≠ [] := by
  intro ws
  induction ws generalizing n with
  | nil => simp [offs]
  | cons u ws ih =>
    cases ws with
    | nil =>
      simp only [offs, List.dropLast_singleton, List.not_mem_nil, false_iff]
      rintro ⟨pre, y, post, e, _, hp⟩
      cases pre with
      | nil => simp only [List.nil_append, List.cons.injEq] at e; exact hp e.2.symm
      | cons a pre => simp at e
    | cons v ws =>
      have e1 : (offs n (u :: v :: ws)).dropLast = n :: (offs (n + u.size) (v :: ws)).dropLast := by
        rw [offs]
        exact List.dropLast_cons_of_ne_nil (by simp [offs])
      rw [e1, List.mem_cons, ih]
      constructor
      · rintro (rfl | ⟨pre, y, post, e, hm, hp⟩)
        · exact ⟨[], u, v :: ws, rfl, rfl, by simp⟩
        · exact ⟨u :: pre, y, post, by rw [e]; rfl, by rw [hm, W.sizes]; omega, hp⟩
      · rintro ⟨pre, y, post, e, hm, hp⟩
        cases pre with
        | nil => exact .inl hm
        | cons a pre =>
          simp only [List.cons_append, List.cons.injEq] at e
          obtain ⟨rfl, e⟩ := e
          exact .inr ⟨pre, y, post, e, by rw [hm, W.sizes]; omega, hp⟩
/-- a part's parts -/
theorem tries_iff {w : List W} {x y : W} {i k : Nat} {fs gs : List Fr} (hx : At w k x gs) (hy : At w i y fs) : i ∈ triesOf k x ↔ (∃ f rs, fs = f :: rs ∧ f.num = k ∧ trd fs = true) := by
  have key : ∀ pre y' post, x.inner = pre ++ y' :: post → i = k + 1 + W.sizes pre → fs = frOf k x (i + y'.size) post :: gs := fun pre y' post e hi => by
    have hk := hx.kid e
    rw [← hi] at hk
    exact (hy.uniq hk).2
  constructor
  · intro h
    cases x with
    | row ws => exact (nomatch h)
    | choice ws =>
      obtain ⟨pre, y', post, e, hm, hp⟩ := dropLast_mem.mp h
      have := key pre y' post e hm
      refine ⟨_, _, this, frOf_num _ _ _ _, ?_⟩
      rw [this]
      show (!post.isEmpty) = true
      cases post with
      | nil => exact absurd rfl hp
      | cons a b => rfl
    | again u =>
      obtain ⟨pre, y', post, e, hm⟩ := mem_offs (show i ∈ offs (k + 1) (W.again u).inner from h)
      have := key pre y' post e hm
      exact ⟨_, _, this, frOf_num _ _ _ _, by rw [this]; rfl⟩
    | maybe u =>
      obtain ⟨pre, y', post, e, hm⟩ := mem_offs (show i ∈ offs (k + 1) (W.maybe u).inner from h)
      have := key pre y' post e hm
      exact ⟨_, _, this, frOf_num _ _ _ _, by rw [this]; rfl⟩
    | ahead u =>
      obtain ⟨pre, y', post, e, hm⟩ := mem_offs (show i ∈ offs (k + 1) (W.ahead u).inner from h)
      have := key pre y' post e hm
      exact ⟨_, _, this, frOf_num _ _ _ _, by rw [this]; rfl⟩
    | «unless» u =>
      obtain ⟨pre, y', post, e, hm⟩ := mem_offs (show i ∈ offs (k + 1) (W.unless u).inner from h)
      have := key pre y' post e hm
      exact ⟨_, _, this, frOf_num _ _ _ _, by rw [this]; rfl⟩
    | _ => exact (nomatch (show i ∈ ([] : List Nat) from h))
  · rintro ⟨f, rs, rfl, hf, ht⟩
    have hp := hy.par2
    cases f with
    | row a m post => cases ht
    | choice a b =>
      have hf : a = k := hf
      subst hf
      obtain ⟨pre, post, hX, e1, e2⟩ := hp
      obtain ⟨rfl, _⟩ := hx.uniq hX
      refine dropLast_mem.mpr ⟨pre, y, post, rfl, e1, fun q => ?_⟩
      rw [e2, q] at ht
      cases ht
    | again a u =>
      have hf : a = k := hf
      subst hf
      obtain ⟨hX, e1, _⟩ := hp
      obtain ⟨rfl, _⟩ := hx.uniq hX
      exact List.mem_singleton.mpr e1
    | maybe a =>
      have hf : a = k := hf
      subst hf
      obtain ⟨hX, e1⟩ := hp
      obtain ⟨rfl, _⟩ := hx.uniq hX
      exact List.mem_singleton.mpr e1
    | look a =>
      have hf : a = k := hf
      subst hf
      obtain ⟨hX | hX, e1⟩ := hp
      · obtain ⟨rfl, _⟩ := hx.uniq hX
        exact List.mem_singleton.mpr e1
      · obtain ⟨rfl, _⟩ := hx.uniq hX
        exact List.mem_singleton.mpr e1
theorem tried_step {w : List W} {x : W} {k : Nat} {gs : List Fr} (hx : At w k x gs) : setT (triedK w k) (triesOf k x) = triedK w (k + 1) := by
  refine List.ext_getElem? fun i => ?_
  by_cases hi : i < (W.sizes w)
  · rw [setT_at _ _ (by rw [triedK_len]; exact hi)]
    obtain ⟨y, fs, hy⟩ := at_all hi
    have g : ∀ k, (triedK w k)[i]? = some (V.bl (trK k fs)) := fun k => by
      unfold triedK
      rw [List.getElem?_map, lay_at.mpr hy]
      rfl
    rw [g k, g (k + 1)]
    have hI := tries_iff hx hy
    by_cases c : i ∈ triesOf k x
    · rw [if_pos c]
      obtain ⟨f, rs, rfl, hf, ht⟩ := hI.mp c
      rw [trK_cons, ht, decide_eq_true (show f.num < k + 1 by omega)]
      rfl
    · rw [if_neg c]
      cases fs with
      | nil => rfl
      | cons f rs =>
        rw [trK_cons, trK_cons]
        by_cases ht : trd (f :: rs) = true
        · have hf : f.num ≠ k := fun q => c (hI.mpr ⟨f, rs, rfl, q, ht⟩)
          rw [show decide (f.num < k + 1) = decide (f.num < k) from decide_eq_decide.mpr (by omega)]
        · rw [Bool.not_eq_true] at ht
          rw [ht]
          rfl
  · rw [List.getElem?_eq_none (by rw [setT_len, triedK_len]; omega), List.getElem?_eq_none (by rw [triedK_len]; omega)]
theorem par_num {w : List W} {x : W} {i : Nat} {f : Fr} {fs : List Fr} (h : At w i x (f :: fs)) : f.num < i := by
  have hp := h.par2
  cases f with
  | row a m post => obtain ⟨pre, _, e, _⟩ := hp; show a < i; omega
  | choice a b => obtain ⟨pre, _, _, e, _⟩ := hp; show a < i; omega
  | again a u => obtain ⟨_, e, _⟩ := hp; show a < i; omega
  | maybe a => obtain ⟨_, e⟩ := hp; show a < i; omega
  | look a => obtain ⟨_, e⟩ := hp; show a < i; omega
theorem tried_end (w : List W) : triedK w (W.sizes w) = triedL w := by
  refine List.ext_getElem? fun i => ?_
  unfold triedK triedL
  rw [List.getElem?_map, List.getElem?_map]
  cases e : (lay w)[i]? with
  | none => rfl
  | some p =>
    obtain ⟨x, fs⟩ := p
    have hx := lay_at.mp e
    show some (V.bl (trK (W.sizes w) fs)) = some (V.bl (trd fs))
    cases fs with
    | nil => rfl
    | cons f rs =>
      have := par_num hx
      have := hx.lt
      have := x.size_pos
      rw [trK_cons, decide_eq_true (show f.num < (W.sizes w) by omega), Bool.and_true]
theorem tried_start (w : List W) (a : List V) (hl : a.length = (W.sizes w)) (h : ∀ (i : Nat) (x : W) (fs : List Fr), At w i x fs → a[i]? = some (.int (eI (abv fs)))) : a.map (fun v => V.bl (decide (v = .int (-1)))) = triedK w 0 := by
  refine List.ext_getElem? fun i => ?_
  by_cases hi : i < (W.sizes w)
  · obtain ⟨x, fs, hx⟩ := at_all hi
    unfold triedK
    rw [List.getElem?_map, List.getElem?_map, h i x fs hx, lay_at.mpr hx]
    show some (V.bl (decide (V.int (eI (abv fs)) = V.int (-1)))) = some (V.bl (trK 0 fs))
    rw [eI_no]
    cases fs <;> simp [abv, trK]
  · rw [List.getElem?_eq_none (by rw [List.length_map]; omega), List.getElem?_eq_none (by rw [triedK_len]; omega)]
theorem cut_last (xs : List V) : cutV xs none (some (-1)) = xs.dropLast := by
  unfold cutV
  have h1 : HT.sIx xs.length 0 none = 0 := rfl
  have h2 : HT.sIx xs.length xs.length (some (-1)) = xs.length - 1 := by
    show (if (-1 : Int) < 0 then ((-1 : Int) + (xs.length : Int)).toNat else min (-1 : Int).toNat xs.length) = _
    rw [if_pos (by decide)]
    omega
  rw [h1, h2, List.drop_zero, Nat.sub_zero, List.dropLast_eq_take]
def spTried (C : Addr) : Sp := fun vs H Q _ => ∃ (a : Addr) (w : List W), vs = [.ref a] ∧ PtAt C H a w ∧ (W.sizes w) ≤ 100 ∧ ∀ (q : Addr) (H' : Hp), Same H H' → H' q = some (.lst (triedL w)) → Q (.ref q) H'
def spAround (C : Addr) : Sp := fun vs H Q _ => ∃ (a : Addr) (w : List W), vs = [.ref a] ∧ PtAt C H a w ∧ (W.sizes w) ≤ 100 ∧ ∀ (q : Addr) (H' : Hp), Same H H' → H' q = some (.lst (iV (aroundL w))) → Q (.ref q) H'
section
variable {P : Program} {w : World} {K : PySem.W.Frag} {mg : Str → Option Value} {base : Heap} {C : Addr} {c : Cs}
abbrev s_are_tried : Stmt := top 58
theorem sc_are_tried : FnScope ["parts", "tried", "part", "inner", "number", "above"] ["parts"] (defScope s_are_tried) := ⟨rfl, rfl, rfl, by decide +kernel, rfl, by decide +kernel, by decide +kernel⟩
theorem d_are_tried (h : Here K mg "are_tried" s_are_tried ["parts"]) (T : PtF K C) (B : Bs mg) (Cc : Kc mg) : DefOk P w K mg base 1 "are_tried" ["parts"] (spTried C) := by
  have B_enumerate := B.enumerate; have GC_ROW := Cc.k3; have GC_CHOICE := Cc.k4
  refine h.ok sc_are_tried (fun vs H Q E h => by obtain ⟨_, _, rfl, _⟩ := h; rfl) (fun f cdv A' outer s H vs Q E hr h => ?_)
  obtain ⟨a, x, rfl, ⟨dx, ks, ws, ni, ab, la, wh, kL, wL, nL, aL, lL, L⟩, hz, k⟩ := h
  obtain ⟨lk, lw, ln, lb, ll⟩ := L.len
  refine ⟨_, (pss_cons (ps_setLc (i := 1) (own := [("above", 5)]) (g := (gName 5)) (tt := tYes) rfl sc_are_tried.nd rfl rfl (sw_true rfl rfl rfl (by decide +kernel)) (pi_list (pe_fld (pv 0) rfl)) (blkOk_by (own := [("above", 5)]) (N := ["parts", "tried", "part", "inner", "number", "above"]) (sc := defScope s_are_tried) (by decide +kernel)) (fun _ _ _ _ _ => pg_name (i := 5) sc_are_tried.nd rfl (Or.inl rfl)) (fun _ _ _ _ _ => pts_nil) (fun _ _ _ _ _ => (pe_cmpR op_eq (pv 5) (pe_un un_neg pe_int) (nomark _))))
  (pss_cons (ps_for PassesOwn.never rfl (pi_enum rfl B_enumerate (pa_cons (pe_fld (pv 0) rfl) pa_nil)) (pg_tup rfl (pgs_cons (pg_name (i := 2) sc_are_tried.nd rfl (Or.inl rfl)) (pgs_cons (pg_name (i := 3) sc_are_tried.nd rfl (Or.inl rfl)) pgs_nil)))
   (pss_cons (ps_if (pt_cmpR op_eq (pe_ix ix_list (pe_fld (pv 0) rfl) (pv 2) (fun _ _ => rfl)) (pe_globI rfl GC_CHOICE) (nomark _)) (pss_one (ps_set (i := 3) sc_are_tried.nd rfl (Or.inl rfl) (pe_slice sl_list (pv 3) po_none (po_some (pe_un un_neg pe_int))))) pss_nil)
  (pss_one (ps_if (pt_cmpR op_ne (pe_ix ix_list (pe_fld (pv 0) rfl) (pv 2) (fun _ _ => rfl)) (pe_globI rfl GC_ROW) (nomark _)) (pss_one (ps_for PassesOwn.never rfl (pi_list (pv 3)) (pg_name (i := 4) sc_are_tried.nd rfl (Or.inl rfl))
   (pss_one (ps_asg pe_bl (pg_sub (pv 1) (pv 4) set_list))))) pss_nil))))
  (pss_one (ps_ret (pv 1))))), ?_⟩
  refine ⟨_, rfl, a, C, dx, _, _, rfl, L.ins, T.cl, T.n4, rfl, ab, rfl, ⟨_, SqL.of L.hab⟩, fun D hD => ?_⟩
  refine lc_list (K := K) (a := ab) (xs := aL) (fun i Hx => Hx D = some (.lst ((aL.map fun v => V.bl (decide (v = .int (-1)))).take i)) ∧ Same H Hx) ?_ ?_ ?_ ?_
  · exact ⟨upd_same, Same.new hD _⟩
  · rintro i Hx _ ⟨_, sx⟩
    exact SqL.of (sx _ _ L.hab)
  · rintro i e Hx he ⟨hd, sx⟩
    have hi := (List.getElem?_eq_some_iff.mp he).1
    obtain ⟨y, fs, hy⟩ := at_all (w := x) (i := i) (by omega)
    have ee := (L.at_ i y fs hy).2.2.2.1
    rw [he] at ee
    have ee := Option.some.inj ee
    subst ee
    refine ⟨rfl, ?_⟩
    refine ⟨_, rfl, _, rfl, rfl, ?_⟩
    refine ⟨_, hd, small' (by rw [List.length_take, List.length_map]; omega), ?_, Same.put hD sx _⟩
    rw [upd_same, take_more' (by rw [List.getElem?_map, he]; rfl)]
  · rintro H1 ⟨hd1, s1⟩
    rw [List.take_of_length_le (by rw [List.length_map]; exact Nat.le_refl _), tried_start x aL lb fun i y fs hy => (L.at_ i y fs hy).2.2.2.1] at hd1
    have L1 := L.keep s1
    walk_at "nx"
    refine ⟨_, rfl, a, C, dx, _, _, rfl, L1.ins, T.cl, T.n3, rfl, ?_⟩
    refine ⟨ni, nL, rfl, SqL.of L1.hni, ?_⟩
    refine for_it (walk_enum (K := K) (a := ni) (xs := nL)) (fun i σ H' => ∃ x2 x3 x4 : Option V, σ = [some (.ref a), some (.ref D), x2, x3, x4, none] ∧ H' D = some (.lst (triedK x i)) ∧ Same H H') ?_ ?_ ?_ ?_
    · exact ⟨none, none, none, rfl, hd1, s1⟩
    · rintro i σ H2 _ ⟨_, _, _, rfl, _, s2⟩
      exact SqL.of ((L.keep s2).hni)
    · rintro i e σ H2 H3 hi ⟨x2, x3, x4, rfl, hd2, s2⟩ ⟨tt, v1, v2, rfl, htt, rfl, hv1, hv2⟩
      cases hv1
      have s3 := s2.trans (Same.new htt (.tup [.int (i : Nat), v2]))
      have hd3 := Same.new htt (.tup [.int (i : Nat), v2]) _ _ hd2
      have htt3 : upd H2 tt (.tup [.int (i : Nat), v2]) tt = some (.tup [.int (i : Nat), v2]) := upd_same
      generalize upd H2 tt (.tup [.int (i : Nat), v2]) = H3 at *
      have L3 := L.keep s3
      obtain ⟨y, gs, hy⟩ := at_all (w := x) (i := i) (by omega)
      obtain ⟨g1, _, ⟨b, g3, g4⟩, _, _⟩ := L3.at_ i y gs hy
      have ev : v2 = .ref b := Option.some.inj (hv2.symm.trans g3)
      subst ev
      have hsz := y.size_inner
      have hyz := hy.lt
      have hwid := W.sizes_len y.inner
      refine ⟨tt, _, rfl, SqT.of htt3, rfl, .int (i : Nat), [.ref b], rfl, .ref b, [], rfl, rfl, ?_⟩
      refine st_cut (fun σ' H' => ∃ (b' : Addr) (ms : List Nat), σ' = [some (.ref a), some (.ref D), some (.int (i : Nat)), some (.ref b'), x4, none] ∧ H' b' = some (.lst (iV ms)) ∧ (y.kind ≠ 3 → ms = triesOf i y) ∧ (∀ m ∈ ms, m < (W.sizes x)) ∧ ms.length ≤ 100 ∧ H' D = some (.lst (triedK x i)) ∧ b' ≠ D ∧ Same H H') (fun nx' hnx => ?_) (fun σ' H' hc => ?_)
      · have nbD : b ≠ D := by
          obtain ⟨_, _, ⟨b0, q3, q4⟩, _, _⟩ := L.at_ i y gs hy
          have e0 : b0 = b := V.ref.inj (Option.some.inj (q3.symm.trans g3))
          rw [e0] at q4
          exact ne_of_none q4 hD
        refine ⟨_, rfl, a, C, dx, _, _, rfl, L3.ins, T.cl, T.n1, rfl, _, rfl, ks, _, _, _, rfl, rfl, SqL.of L3.hks, atI_nat g1, rfl, _, rfl, ?_⟩
        refine ite2 (fun e => ?_) (fun e => hnx _ _ ⟨b, offs (i + 1) y.inner, rfl, g4, fun k3 => ?_, fun m hm => ?_, by rw [offs_len]; omega, hd3, nbD, s3⟩)
        · have k4 : y.kind = 4 := by have := V.int.inj (of_decide_eq_true e); omega
          refine ⟨_, rfl, _, rfl, _, rfl, b, _, rfl, SqL.of g4, fun p hp => ?_⟩
          have sp := Same.new hp (.lst (cutV (iV (offs (i + 1) y.inner)) none (some (-1))))
          refine hnx _ _ ⟨p, (offs (i + 1) y.inner).dropLast, rfl, ?_, fun _ => ?_, fun m hm => ?_, ?_, sp _ _ hd3, (ne_of_none hd3 hp).symm, s3.trans sp⟩
          · rw [upd_same, cut_last]; unfold iV; rw [List.map_dropLast]
          · cases y with
            | choice ws => rfl
            | _ => exact absurd k4 (by simp [W.kind])
          · have := (offs_ge _ _ m ((List.dropLast_sublist _).subset hm)).2; omega
          · rw [List.length_dropLast, offs_len]; omega
        · cases y with
          | row ws => exact absurd rfl k3
          | choice ws => exact absurd (decide_eq_true rfl) e
          | _ => rfl
        · have := (offs_ge _ _ m hm).2; omega
      · obtain ⟨b', ms, rfl, hb', hms, hmx, hml, hd', nbD, s'⟩ := hc
        have L' := L.keep s'
        have hts := tried_step hy
        refine ⟨_, rfl, a, C, dx, _, _, rfl, L'.ins, T.cl, T.n1, rfl, _, rfl, ks, _, _, _, rfl, rfl, SqL.of L'.hks, atI_nat g1, rfl, _, rfl, ?_⟩
        refine ite2 (fun e => ?_) (fun e => ?_)
        · have k3 : y.kind ≠ 3 := fun q => by rw [q] at e; exact absurd e (by decide)
          have e2 := hms k3
          subst e2
          refine ⟨_, rfl, b', rfl, ⟨_, SqL.of hb'⟩, ?_⟩
          refine for_list (K := K) (a := b') (xs := iV (triesOf i y)) (fun j σ Hx => ∃ x4 : Option V, σ = [some (.ref a), some (.ref D), some (.int (i : Nat)), some (.ref b'), x4, none] ∧ Hx D = some (.lst (setT (triedK x i) ((triesOf i y).take j))) ∧ Hx b' = some (.lst (iV (triesOf i y))) ∧ Same H Hx) ?_ ?_ ?_ ?_
          · exact ⟨x4, rfl, hd', hb', s'⟩
          · rintro j σ Hx _ ⟨_, rfl, _, hb2, _⟩
            exact SqL.of hb2
          · rintro j e σ Hx he ⟨x5, rfl, hd5, hb5, s5⟩
            obtain ⟨m, hm, rfl⟩ := iV_back he
            have hmlt := hmx m (List.mem_of_getElem? hm)
            refine gset ?_
            refine ⟨_, rfl, _, rfl, D, _, _, _, rfl, rfl, hd5, ix_nat (by rw [setT_len, triedK_len]; exact hmlt), ?_⟩
            refine ⟨_, rfl, ?_, by rw [upd_ne nbD]; exact hb5, Same.put hD s5 _⟩
            rw [upd_same, take_more' hm, setT_snoc]
          · rintro σ Hx ⟨x5, rfl, hd5, hb5, s5⟩
            rw [show (iV (triesOf i y)).length = (triesOf i y).length by simp only [iV, List.length_map], List.take_length, hts] at hd5
            exact ⟨_, _, _, rfl, hd5, s5⟩
        · have k3 : y.kind = 3 := by
            by_cases q : y.kind = 3
            · exact q
            · exfalso
              apply e
              have : ¬ V.int ((y.kind : Nat) : Int) = V.int 3 := fun z => q (by have := V.int.inj z; omega)
              rw [decide_eq_false this]
              rfl
          obtain ⟨ws, rfl⟩ := kind_row.mp k3
          exact ⟨_, _, _, rfl, by rw [← hts]; exact hd', s'⟩
    · rintro σ H2 ⟨x2, x3, x4, rfl, hd2, s2⟩
      rw [ln, tried_end] at hd2
      exact ⟨_, rfl, k D H2 s2 hd2⟩
/-- the numbers around, so far -/
theorem around_at {w : List W} {x : W} {i : Nat} {fs : List Fr} (h : At w i x fs) : (aroundL w)[i]? = some (ard fs) := by
  unfold aroundL
  rw [List.getElem?_map, lay_at.mpr h]
  rfl
theorem tried_at {w : List W} {x : W} {i : Nat} {fs : List Fr} (h : At w i x fs) : (triedL w)[i]? = some (V.bl (trd fs)) := by
  unfold triedL
  rw [List.getElem?_map, lay_at.mpr h]
  rfl
theorem around_len (w : List W) : (aroundL w).length = (W.sizes w) := by unfold aroundL; rw [List.length_map, lay_len]
abbrev s_counts_around : Stmt := top 59
theorem sc_counts_around : FnScope ["parts", "tried", "around", "above"] ["parts"] (defScope s_counts_around) := ⟨rfl, rfl, rfl, by decide +kernel, rfl, by decide +kernel, by decide +kernel⟩
theorem d_counts_around (h : Here K mg "counts_around" s_counts_around ["parts"]) (T : PtF K C) (G_are_tried : DefOk P w K mg base 1 "are_tried" ["parts"] (spTried C)) : DefOk P w K mg base 2 "counts_around" ["parts"] (spAround C) := by
  refine h.ok sc_counts_around (fun vs H Q E h => by obtain ⟨_, _, rfl, _⟩ := h; rfl) (fun f cdv A' outer s H vs Q E hr h => ?_)
  obtain ⟨a, x, rfl, hP, hz, k⟩ := h
  refine ⟨_, (pss_cons (ps_set (i := 1) sc_counts_around.nd rfl (Or.inl rfl) (pe_callD G_are_tried (hr.mono (by first | decide | omega)) rfl (pa_cons (pv 0) pa_nil)))
  (pss_cons (ps_set (i := 2) sc_counts_around.nd rfl (Or.inl rfl) (pe_lst pa_nil))
  (pss_cons (ps_for PassesOwn.never rfl (pi_list (pe_fld (pv 0) rfl)) (pg_name (i := 3) sc_counts_around.nd rfl (Or.inl rfl))
   (pss_one (ps_if (pt_cmpR op_eq (pv 3) (pe_un un_neg pe_int) (nomark _)) (pss_one (ps_expr (pe_bm PySem.F.plainAttrs_list PySem.F.slot_list_append PySem.F.type_list_append mt_append (pv 2) (pa_cons pe_int pa_nil)))) (pss_one (ps_expr (pe_bm PySem.F.plainAttrs_list PySem.F.slot_list_append PySem.F.type_list_append mt_append (pv 2) (pa_cons (pe_op op_add (pe_ix ix_list (pv 2) (pv 3) (fun _ _ => rfl)) (pe_ifExp (pt_val (pe_ix ix_list (pv 1) (pv 3) (fun _ _ => rfl))) pe_int pe_int)) pa_nil)))))))
  (pss_one (ps_ret (pv 2)))))), ?_⟩
  refine ⟨_, rfl, a, x, rfl, hP, hz, fun D H1 s1 hd1 => ?_⟩
  obtain ⟨dx, ks, ws, ni, ab, la, wh, kL, wL, nL, aL, lL, L⟩ := hP.keep s1
  obtain ⟨lk, lw, ln, lb, ll⟩ := L.len
  walk_at "nx"
  refine ⟨Nat.zero_le _, fun E2 hE2 => ?_⟩
  have s2 := Same.new hE2 (.lst [])
  have he2 : upd H1 E2 (.lst []) E2 = some (.lst (iV ((aroundL x).take 0))) := upd_same
  generalize upd H1 E2 (.lst []) = H2 at *
  have L2 := L.keep s2
  walk_at "nx"
  refine ⟨_, rfl, a, C, dx, _, _, rfl, L2.ins, T.cl, T.n4, rfl, ab, rfl, ⟨_, SqL.of L2.hab⟩, ?_⟩
  refine for_list (K := K) (a := ab) (xs := aL) (fun i σ Hx => ∃ x3 : Option V, σ = [some (.ref a), some (.ref D), some (.ref E2), x3] ∧ Hx E2 = some (.lst (iV ((aroundL x).take i))) ∧ Same H1 Hx) ?_ ?_ ?_ ?_
  · exact ⟨none, rfl, he2, s2⟩
  · rintro i σ Hx _ ⟨_, rfl, _, sx⟩
    exact SqL.of (sx _ _ L.hab)
  · rintro i e σ Hx he ⟨x3, rfl, hx2, sx⟩
    have hi := (List.getElem?_eq_some_iff.mp he).1
    obtain ⟨y, fs, hy⟩ := at_all (w := x) (i := i) (by omega)
    have ee := (L.at_ i y fs hy).2.2.2.1
    rw [he] at ee
    have ee := Option.some.inj ee
    subst ee
    refine gset ?_
    have hty : ((aroundL x).take i).length = i := by rw [List.length_take, around_len]; omega
    have hnext : (aroundL x).take (i + 1) = (aroundL x).take i ++ [ard fs] := take_more' (around_at hy)
    refine ⟨_, rfl, _, rfl, rfl, _, rfl, ?_⟩
    cases fs with
    | nil =>
      refine ite2 (fun _ => ?_) (fun q => absurd (decide_eq_true rfl) q)
      refine ⟨_, rfl, .inl ⟨rfl, _, SqL.of hx2⟩, E2, _, _, rfl, rfl, hx2, small' (by simp only [iV, List.length_map]; omega), ?_⟩
      refine ⟨_, rfl, ?_, Same.put hE2 sx _⟩
      rw [upd_same, hnext, iV_snoc]
      rfl
    | cons fr gs =>
      have hnum := par_num hy
      obtain ⟨X, hX⟩ := hy.par.up
      refine ite2 (fun q => absurd (of_decide_eq_true q) (fun z => by have := V.int.inj z; simp [abv, eI] at this)) (fun _ => ?_)
      have hr : ((aroundL x).take i)[fr.num]? = some (ard gs) := by rw [List.getElem?_take, if_pos hnum]; exact around_at hX
      have hd := (sx _ _ hd1)
      refine ⟨_, rfl, .inl ⟨rfl, _, SqL.of hx2⟩, _, rfl, _, rfl, E2, _, _, _, rfl, rfl, SqL.of hx2, atI_nat (iV_at hr), ?_⟩
      refine ⟨_, rfl, _, rfl, D, _, _, _, rfl, rfl, SqL.of hd, atI_nat (tried_at hX), _, rfl, ?_⟩
      have last : ∀ j : Int, ((ard gs : Nat) : Int) + j = ((ard (fr :: gs) : Nat) : Int) → ∃ acc, Hx E2 = some (.lst acc) ∧ acc.length < sizeLine ∧ upd Hx E2 (.lst (acc ++ [V.int (((ard gs : Nat) : Int) + j)])) E2 = some (.lst (iV ((aroundL x).take (i + 1)))) := fun j ej => by
        refine ⟨_, hx2, small' (by simp only [iV, List.length_map]; omega), ?_⟩
        rw [upd_same, hnext, iV_snoc, ej]
      by_cases ht : trd gs = true
      · rw [ht]
        obtain ⟨acc, a1, a2, a3⟩ := last 1 (by rw [ard, ht, if_pos rfl]; omega)
        exact iteT ⟨_, _, rfl, rfl, E2, _, _, rfl, rfl, a1, a2, _, rfl, a3, Same.put hE2 sx _⟩
      · rw [Bool.not_eq_true] at ht
        rw [ht]
        obtain ⟨acc, a1, a2, a3⟩ := last 0 (by rw [ard, ht, if_neg Bool.false_ne_true]; omega)
        exact iteF ⟨_, _, rfl, rfl, E2, _, _, rfl, rfl, a1, a2, _, rfl, a3, Same.put hE2 sx _⟩
  · rintro σ Hx ⟨x3, rfl, hx2, sx⟩
    rw [lb, List.take_of_length_le (by rw [around_len]; exact Nat.le_refl _)] at hx2
    exact ⟨_, rfl, k E2 Hx (s1.trans sx) hx2⟩
end
end Rk
namespace Rk
open PySem PySem.Spec PyProof.Rows L2 Wv Tk
/-! ### the object Backward -/
structure BaF (K : PySem.W.Frag) (C : Addr) : Prop where
  cl : Cls K C
  n1 : NoAttr K C "parts"
  n2 : NoAttr K C "around"
  n3 : NoAttr K C "leaves"
  n4 : NoAttr K C "slots"
/-- the slots of the leaves -/
def SlotsOk (w : List W) (n : Nat) (kvs : List (Key × V)) : Prop := kvs.length ≤ n ∧ ∀ (j s : Nat), j < n → (lvs w)[j]? = some s → valV kvs (.inl ((s : Nat) : Int)) = some (.int (j : Nat))
structure BaV (C CB : Addr) (H : Hp) (b : Addr) (w : List W) (dx a ar lv sl : Addr) (kvs : List (Key × V)) : Prop where
  ins : H b = some (.ins CB dx [(Str.ofString "parts", .ref a), (Str.ofString "around", .ref ar), (Str.ofString "leaves", .ref lv), (Str.ofString "slots", .ref sl)])
  pt : PtAt C H a w
  har : H ar = some (.lst (iV (aroundL w)))
  hlv : H lv = some (.lst (iV (lvs w)))
  hsl : H sl = some (.dK kvs)
  sok : SlotsOk w (lvs w).length kvs
  sz : (W.sizes w) ≤ 100
def BaAt (C CB : Addr) (H : Hp) (b : Addr) (w : List W) : Prop := ∃ dx a ar lv sl kvs, BaV C CB H b w dx a ar lv sl kvs
theorem BaV.keep {C CB : Addr} {H H' : Hp} {b : Addr} {w : List W} {dx a ar lv sl : Addr} {kvs : List (Key × V)} (h : BaV C CB H b w dx a ar lv sl kvs) (s : Same H H') : BaV C CB H' b w dx a ar lv sl kvs :=
  ⟨s _ _ h.ins, h.pt.keep s, s _ _ h.har, s _ _ h.hlv, s _ _ h.hsl, h.sok, h.sz⟩
theorem BaAt.keep {C CB : Addr} {H H' : Hp} {b : Addr} {w : List W} (h : BaAt C CB H b w) (s : Same H H') : BaAt C CB H' b w := by
  obtain ⟨_, _, _, _, _, _, h⟩ := h
  exact ⟨_, _, _, _, _, _, h.keep s⟩
theorem PtV.putIns {C CB : Addr} {H : Hp} {a b : Addr} {w : List W} {dx dy ks ws ni ab la wh : Addr} {kL wL nL aL lL : List V} {fs : List (Str × V)} {o : HO} (h : PtV C H a w dx ks ws ni ab la wh kL wL nL aL lL) (hb : H b = some (.ins CB dy fs)) (nab : a ≠ b) : PtV C (upd H b o) a w dx ks ws ni ab la wh kL wL nL aL lL := by
  have ne : ∀ {q : Addr} {l : List V}, H q = some (.lst l) → upd H b o q = some (.lst l) := fun {q l} hq => by
    have : q ≠ b := fun e => by rw [e, hb] at hq; cases hq
    rw [upd_ne this]; exact hq
  exact ⟨by rw [upd_ne nab]; exact h.ins, ne h.hks, ne h.hws, ne h.hni, ne h.hab, ne h.hla, ne h.hwh, h.len, fun i x fs hx => by
    obtain ⟨h1, h2, ⟨b, h3, h4⟩, h5, b2, h6, h7⟩ := h.at_ i x fs hx
    exact ⟨h1, h2, ⟨b, h3, ne h4⟩, h5, b2, h6, ne h7⟩⟩
theorem PtAt.putIns {C CB : Addr} {H : Hp} {a b : Addr} {w : List W} {dy : Addr} {fs : List (Str × V)} {o : HO} (h : PtAt C H a w) (hb : H b = some (.ins CB dy fs)) (nab : a ≠ b) : PtAt C (upd H b o) a w := by
  obtain ⟨_, _, _, _, _, _, _, _, _, _, _, _, h⟩ := h
  exact ⟨_, _, _, _, _, _, _, _, _, _, _, _, h.putIns hb nab⟩
/-- the leaves among the first parts -/
def lvsK (w : List W) (k : Nat) : List Nat := (List.range k).filter fun i => ((layF 0 w)[i]?.map fun e => isLeafB e.1).getD false
theorem lvsK_end (w : List W) : lvsK w (W.sizes w) = lvs w := rfl
theorem lvsK_step {w : List W} {x : W} {k : Nat} {fs : List Fr} (h : At w k x fs) : lvsK w (k + 1) = lvsK w k ++ (if isLeafB x = true then [k] else []) := by
  unfold lvsK
  rw [List.range_succ, List.filter_append, List.filter_cons, h.get, List.filter_nil]
  rfl
theorem lvsK_len (w : List W) (k : Nat) : (lvsK w k).length ≤ k := by
  unfold lvsK
  have := List.length_filter_le (fun i => ((layF 0 w)[i]?.map fun e => isLeafB e.1).getD false) (List.range k)
  rw [List.length_range] at this
  exact this
theorem lvs_le (w : List W) : (lvs w).length ≤ (W.sizes w) := lvsK_len w (W.sizes w)
theorem leaf_kind (x : W) : inV (.int (x.kind : Nat)) [.int 0, .int 1] = isLeafB x := by
  cases x <;> rfl
def spBack (c : Cs) (C CB : Addr) : Sp := fun vs H Q _ => ∃ (b dx l : Addr) (us : List V) (w : List W) (H0 : Hp), vs = [.ref b, .ref l] ∧ At0 CB b dx H0 H ∧ H0 l = some (.lst us) ∧ ObjsAt c H0 us w ∧ (W.sizes w) ≤ 100 ∧ ∀ H' : Hp, BaAt C CB H' b w → Same H0 H' → Q .non H'
section
variable {P : Program} {w : World} {K : PySem.W.Frag} {mg : Str → Option Value} {base : Heap} {C CB : Addr} {c : Cs}
theorem dc_it {J : It} {n : Nat} {G : Hp → Prop} {Y : Nat → Hp → V → Hp → Prop} (w : Walk J n G Y) {g : TG} {tt : TT} {tk tv : TE} {vs : List Nat} {σ : L2.St} {H1 : Hp} {D : Addr} {Qd : Hp → Prop} (Pv : Nat → Hp → Prop) (h0 : Pv 0 (upd H1 D (.dK []))) (hG : ∀ i H, i ≤ n → Pv i H → G H)
    (hs : ∀ i x H H', i < n → Pv i H → Y i H x H' → g x (wipe σ vs) H' fun σ2 H2 => wipe σ2 vs = wipe σ vs ∧ tt σ2 H2 fun b H3 =>
      if b = true then tk σ2 H3 fun y H4 => tv σ2 H4 fun z H5 => ∃ kvs k, y = kV k ∧ H5 D = some (.dK kvs) ∧ kvs.length < sizeLine ∧ Pv (i + 1) (upd H5 D (.dK (putK kvs k z))) else Pv (i + 1) H3) (hd : ∀ H, Pv n H → Qd H) :
    ∃ W : Nat → Nat → Hp → Prop, (∃ m, W 0 m (upd H1 D (.dK []))) ∧ ∀ i m H, W i m H →
      (J.stop i H ∧ Qd H) ∨ (J.go i H ∧ ∃ Nx : Hp → Prop, (∀ H', Nx H' → ∃ m', m' < m ∧ W (i + 1) m' H') ∧ ∀ x H', J.yld i H x H' → g x (wipe σ vs) H' fun σ2 H2 => wipe σ2 vs = wipe σ vs ∧ tt σ2 H2 fun b H3 =>
        if b = true then tk σ2 H3 fun y H4 => tv σ2 H4 fun z H5 => ∃ kvs k, y = kV k ∧ H5 D = some (.dK kvs) ∧ kvs.length < sizeLine ∧ Nx (upd H5 D (.dK (putK kvs k z))) else Nx H3) := by
  refine ⟨fun i m H => m = n - i ∧ i ≤ n ∧ Pv i H, ⟨n, by simp, Nat.zero_le _, h0⟩, ?_⟩
  rintro i m H ⟨rfl, hi, p⟩
  have q := hG i H hi p
  by_cases hlt : i < n
  · refine .inr ⟨w.goes i H hlt q, Pv (i + 1), fun H' p' => ⟨n - (i + 1), by omega, rfl, hlt, p'⟩, fun x H' y => hs i x H H' hlt p (w.yields i H x H' hlt q y)⟩
  · have e : i = n := by omega
    subst e
    exact .inl ⟨w.stops H q, hd H p⟩
abbrev s_Backward_init : Stmt := inClass (top 60) 0
theorem sc_Backward_init : FnScope ["self", "ways", "part", "kind", "slot", "leaf"] ["self", "ways"] (defScope s_Backward_init) := ⟨rfl, rfl, rfl, by decide +kernel, rfl, by decide +kernel, by decide +kernel⟩
theorem ok_back {f : Addr} {fd : FuncData} (F : Fun K "__init__" "Backward.__init__" s_Backward_init f fd) (T : BaF K CB) (TP : PtF K C) (B : Bs mg) (Cc : Kc mg) (G_Parts : ClsOk P w K mg base 3 "Parts" C ["self", "ways"] (spInit c C)) (G_counts_around : DefOk P w K mg base 2 "counts_around" ["parts"] (spAround C)) : FnOk P w K mg base CX0 5 f fd ["self", "ways"] (spBack c C CB) := by
  have B_enumerate := B.enumerate; have GC_LETTER := Cc.k0; have GC_ONE := Cc.k1
  refine F.ok sc_Backward_init (fun vs H Q E h => by obtain ⟨_, _, _, _, _, _, rfl, _⟩ := h; rfl) (fun cdv A outer s' H vs Q E hr h => ?_)
  obtain ⟨b, dx, l, v, x, H0, rfl, ⟨hb, hb0, s0⟩, hl, hv, hz, k⟩ := h
  refine ⟨_, (pss_cons (ps_fld (pv 0) (pe_makeD G_Parts (hr.mono (by first | decide | omega)) rfl (pa_cons (pv 1) pa_nil)) rfl)
  (pss_cons (ps_fld (pv 0) (pe_callD G_counts_around (hr.mono (by first | decide | omega)) rfl (pa_cons (pe_fld (pv 0) rfl) pa_nil)) rfl)
  (pss_cons (ps_fld (pv 0) (pe_lc (own := [("part", 2), ("kind", 3)]) rfl sc_Backward_init.nd (pi_enum rfl B_enumerate (pa_cons (pe_fld (pe_fld (pv 0) rfl) rfl) pa_nil)) (blkOk_by (own := [("part", 2), ("kind", 3)]) (N := ["self", "ways", "part", "kind", "slot", "leaf"]) (sc := defScope s_Backward_init) (by decide +kernel)) (fun _ _ _ _ _ => (pg_tupK (K := K) (n := 2) rfl rfl (pgs_cons (pg_name (i := 2) sc_Backward_init.nd rfl (Or.inl rfl)) (pgs_cons (pg_name (i := 3) sc_Backward_init.nd rfl (Or.inl rfl)) pgs_nil)))) (fun _ _ _ _ _ => pts_one (pt_cmpR (Gd.op_in_seqK (K := K) rfl) (pv 3) (pe_tup (pa_cons (pe_globI rfl GC_LETTER) (pa_cons (pe_globI rfl GC_ONE) pa_nil))) (by rfl))) (fun _ _ _ _ _ => (pv 2))) rfl)
  (pss_one (ps_fld (pv 0) (pe_dc (own := [("slot", 4), ("leaf", 5)]) (tt := tYes) rfl sc_Backward_init.nd (pi_enum rfl B_enumerate (pa_cons (pe_fld (pv 0) rfl) pa_nil)) (blkOk_by (own := [("slot", 4), ("leaf", 5)]) (N := ["self", "ways", "part", "kind", "slot", "leaf"]) (sc := defScope s_Backward_init) (by decide +kernel)) (fun _ _ _ _ _ => (pg_tupK (K := K) (n := 2) rfl rfl (pgs_cons (pg_name (i := 4) sc_Backward_init.nd rfl (Or.inl rfl)) (pgs_cons (pg_name (i := 5) sc_Backward_init.nd rfl (Or.inl rfl)) pgs_nil)))) (fun _ _ _ _ _ => pts_nil) (fun _ _ _ _ _ => (pv 5)) (fun _ _ _ _ _ => (pv 4))) rfl))))), ?_⟩
  refine ⟨_, rfl, ?_⟩
  intro q dq hq hdq nd
  have s4 := Same.new hdq (.own q)
  have hq4 : upd H dq (.own q) q = none := by rw [upd_ne nd.symm]; exact hq
  have s5 := s4.trans (Same.new hq4 (.ins C dq []))
  refine ⟨q, dq, l, v, x, H, rfl, upd_same, hq, s5, s0 _ _ hl, ObjsAt.keep (stillS s0) _ _ hv, hz, fun H1 hP1 s1 => ⟨rfl, ?_⟩⟩
  have hb1 := s1 _ _ hb
  have nqb : q ≠ b := (ne_of_none hb hq).symm
  have s01 := s0.trans s1
  refine ⟨_, rfl, b, CB, dx, [], rfl, hb1, T.cl, T.n1, (by show 0 < 1000; decide), ?_⟩
  have hP2 := hP1.putIns (o := .ins CB dx (putF (Str.ofString "parts") (.ref q) [])) hb1 nqb
  have s2 : Same H0 (upd H1 b (.ins CB dx (putF (Str.ofString "parts") (.ref q) []))) := Same.put hb0 s01 _
  have hb2 : upd H1 b (.ins CB dx (putF (Str.ofString "parts") (.ref q) [])) b = some (.ins CB dx (putF (Str.ofString "parts") (.ref q) [])) := upd_same
  generalize upd H1 b (.ins CB dx (putF (Str.ofString "parts") (.ref q) [])) = H2 at *
  walk_at "nx"
  refine ⟨_, rfl, b, CB, dx, _, _, rfl, hb2, T.cl, T.n1, rfl, q, x, rfl, hP2, hz, fun ar H3 s3 har => ?_⟩
  have hb3 := s3 _ _ hb2
  refine ⟨_, rfl, b, CB, dx, _, rfl, hb3, T.cl, T.n2, (by show 1 < 1000; decide), ?_⟩
  generalize ef3 : putF (Str.ofString "around") (.ref ar) (putF (Str.ofString "parts") (.ref q) []) = f3
  have hP4 := (hP2.keep s3).putIns (o := .ins CB dx f3) hb3 nqb
  have s4 : Same H0 (upd H3 b (.ins CB dx f3)) := Same.put hb0 (s2.trans s3) _
  have hb4 : upd H3 b (.ins CB dx f3) b = some (.ins CB dx f3) := upd_same
  have nar : ar ≠ b := fun e => by rw [e, hb3] at har; cases har
  have har4 : upd H3 b (.ins CB dx f3) ar = some (.lst (iV (aroundL x))) := by rw [upd_ne nar]; exact har
  generalize upd H3 b (.ins CB dx f3) = H4 at *
  walk_at "nx"
  obtain ⟨dp, ks, ws, ni, ab, la, wh, kL, wL, nL, aL, lL, L⟩ := id hP4
  obtain ⟨lk, _⟩ := L.len
  refine ⟨_, rfl, b, CB, dx, _, _, rfl, hb4, T.cl, T.n1, by rw [← ef3]; rfl, q, C, dp, _, _, rfl, L.ins, TP.cl, TP.n1, rfl, ks, kL, rfl, SqL.of L.hks, fun D hD => ?_⟩
  refine lc_it (walk_enum (K := K) (a := ks) (xs := kL)) (fun i Hx => Hx D = some (.lst (iV (lvsK x i))) ∧ Same H4 Hx) ?_ ?_ ?_ ?_
  · exact ⟨upd_same, Same.new hD _⟩
  · rintro i Hx _ ⟨_, sx⟩
    exact SqL.of (sx _ _ L.hks)
  · rintro i e Hx Hy hi ⟨hd, sx⟩ ⟨tt, v1, v2, rfl, htt, rfl, hv1, hv2⟩
    cases hv1
    obtain ⟨y, gs, hy⟩ := at_all (w := x) (i := i) (by omega)
    have ev := Option.some.inj (hv2.symm.trans (L.at_ i y gs hy).1)
    subst ev
    have s3' := Same.new htt (.tup [.int (i : Nat), .int (y.kind : Nat)])
    have hd3 := s3' _ _ hd
    have htt3 : upd Hx tt (.tup [.int (i : Nat), .int (y.kind : Nat)]) tt = some (.tup [.int (i : Nat), .int (y.kind : Nat)]) := upd_same
    have sx3 := sx.trans s3'
    generalize upd Hx tt (.tup [.int (i : Nat), .int (y.kind : Nat)]) = Hz at *
    refine ⟨tt, _, rfl, SqT.of htt3, rfl, .int (i : Nat), [.int (y.kind : Nat)], rfl, .int (y.kind : Nat), [], rfl, rfl, rfl, _, rfl, by show 2 ≤ sizeLine; decide, fun q2 hq2 => ?_⟩
    have s6 := Same.new hq2 (.tup [.int 0, .int 1])
    refine ⟨q2, _, rfl, .inr (SqT.of upd_same), rfl, rfl, _, rfl, ?_⟩
    rw [if_neg Bool.false_ne_true, leaf_kind, lvsK_step hy]
    have hd6 := s6 _ _ hd3
    have hll := lvsK_len x i
    cases hb : isLeafB y with
    | true =>
      refine iteT ⟨_, rfl, _, hd6, small' (by simp only [iV, List.length_map]; omega), ?_, Same.put hD (sx3.trans s6) _⟩
      rw [upd_same, if_pos rfl, iV_snoc]
    | false =>
      refine iteF ⟨?_, sx3.trans s6⟩
      rw [if_neg Bool.false_ne_true, List.append_nil]
      exact hd6
  · rintro H5 ⟨hd5, s5⟩
    rw [lk, lvsK_end] at hd5
    have hb5 := s5 _ _ hb4
    have har5 := s5 _ _ har4
    have hP5 := hP4.keep s5
    refine ⟨_, rfl, b, CB, dx, _, rfl, hb5, T.cl, T.n3, by rw [← ef3]; show 2 < 1000; decide, ?_⟩
    generalize ef6 : putF (Str.ofString "leaves") (.ref D) f3 = f6
    have hP6 := hP5.putIns (o := .ins CB dx f6) hb5 nqb
    have s6 : Same H0 (upd H5 b (.ins CB dx f6)) := Same.put hb0 (s4.trans s5) _
    have hb6 : upd H5 b (.ins CB dx f6) b = some (.ins CB dx f6) := upd_same
    have nDb : D ≠ b := fun e => by rw [e, hb5] at hd5; cases hd5
    have har6 : upd H5 b (.ins CB dx f6) ar = some (.lst (iV (aroundL x))) := by rw [upd_ne nar]; exact har5
    have hd6 : upd H5 b (.ins CB dx f6) D = some (.lst (iV (lvs x))) := by rw [upd_ne nDb]; exact hd5
    generalize upd H5 b (.ins CB dx f6) = H6 at *
    walk_at "nx"
    refine ⟨_, rfl, b, CB, dx, _, _, rfl, hb6, T.cl, T.n3, by rw [← ef6, ← ef3]; rfl, D, _, rfl, SqL.of hd6, fun S hS => ?_⟩
    refine dc_it (walk_enum (K := K) (a := D) (xs := iV (lvs x))) (fun i Hx => ∃ kvs, Hx S = some (.dK kvs) ∧ SlotsOk x i kvs ∧ Same H6 Hx) ?_ ?_ ?_ ?_
    · exact ⟨[], upd_same, ⟨Nat.le_refl _, fun j s h => absurd h (Nat.not_lt_zero _)⟩, Same.new hS _⟩
    · rintro i Hx _ ⟨_, _, _, sx⟩
      exact SqL.of (sx _ _ hd6)
    · rintro i e Hx Hy hi ⟨kvs, hkv, hso, sx⟩ ⟨tt, v1, v2, rfl, htt, rfl, hv1, hv2⟩
      cases hv1
      obtain ⟨sl, hsl, rfl⟩ := iV_back hv2
      have s3' := Same.new htt (.tup [.int (i : Nat), .int (sl : Nat)])
      have hkv3 := s3' _ _ hkv
      have htt3 : upd Hx tt (.tup [.int (i : Nat), .int (sl : Nat)]) tt = some (.tup [.int (i : Nat), .int (sl : Nat)]) := upd_same
      have sx3 := sx.trans s3'
      generalize upd Hx tt (.tup [.int (i : Nat), .int (sl : Nat)]) = Hz at *
      refine ⟨tt, _, rfl, SqT.of htt3, rfl, .int (i : Nat), [.int (sl : Nat)], rfl, .int (sl : Nat), [], rfl, rfl, rfl, ?_⟩
      have hle := lvs_le x
      have hil := (List.getElem?_eq_some_iff.mp hsl).1
      refine ⟨_, rfl, _, rfl, kvs, .inl ((sl : Nat) : Int), rfl, hkv3, small' (by have := hso.1; omega), _, upd_same, ⟨Nat.le_trans (length_putK _ _ _) (Nat.succ_le_succ hso.1), fun j s hj hs => ?_⟩, Same.put hS sx3 _⟩
      rw [valV_put]
      by_cases ej : j = i
      · subst ej
        rw [hsl] at hs
        rw [if_pos (by rw [Option.some.inj hs])]
      · rw [if_neg, hso.2 j s (by omega) hs]
        intro z
        have z2 : s = sl := by have := Sum.inl.inj z; omega
        rw [z2] at hs
        exact ej ((List.getElem?_inj (List.getElem?_eq_some_iff.mp hs).1 (lvs_nodup x)).mp (hs.trans hsl.symm))
    · rintro H7 ⟨kvs, hkv, hso, s7⟩
      have hb7 := s7 _ _ hb6
      rw [show (iV (lvs x)).length = (lvs x).length by simp only [iV, List.length_map]] at hso
      refine ⟨_, rfl, b, CB, dx, _, rfl, hb7, T.cl, T.n4, by rw [← ef6, ← ef3]; show 3 < 1000; decide, ?_⟩
      have nSb : S ≠ b := fun e => by rw [e, hb7] at hkv; cases hkv
      have e9 : putF (Str.ofString "slots") (.ref S) f6 = [(Str.ofString "parts", .ref q), (Str.ofString "around", .ref ar), (Str.ofString "leaves", .ref D), (Str.ofString "slots", .ref S)] := by rw [← ef6, ← ef3]; rfl
      refine k _ ⟨dx, q, ar, D, S, kvs, ⟨?_, (hP6.keep s7).putIns hb7 nqb, ?_, ?_, ?_, hso, hz⟩⟩ (Same.put hb0 (s6.trans s7) _)
      · rw [upd_same, e9]
      · rw [upd_ne nar]; exact s7 _ _ har6
      · rw [upd_ne nDb]; exact s7 _ _ hd6
      · rw [upd_ne nSb]; exact hkv
end
end Rk
namespace Rk
open PySem PySem.Spec PyProof.Rows L2 Wv Tk
/-! ### steps as numbers; whether a part fits; the first step of some parts -/
def code (w : List W) : Fs → Int
  | .fails => -2
  | .ends => -1
  | .leaf s => ((slot w s : Nat) : Int)
def mWi (w : List W) (c : Option Nat) (st : Nat → Nat) (i : Nat) : Fs := match (lay w)[i]? with
  | some (x, fs) => mW c st i fs x
  | none => .fails
theorem mWi_at {w : List W} {x : W} {c : Option Nat} {st : Nat → Nat} {i : Nat} {fs : List Fr} (h : At w i x fs) : mWi w c st i = mW c st i fs x := by unfold mWi; rw [lay_at.mpr h]
/-- the steps from the part k on -/
def stepsV (w : List W) (c : Option Nat) (st : Nat → Nat) (k : Nat) : List V := (List.range (W.sizes w)).map fun i => V.int (if k ≤ i then code w (mWi w c st i) else -2)
theorem stepsV_len (w : List W) (c : Option Nat) (st : Nat → Nat) (k : Nat) : (stepsV w c st k).length = (W.sizes w) := by simp [stepsV]
theorem stepsV_get {w : List W} {c : Option Nat} {st : Nat → Nat} {k i : Nat} (h : i < (W.sizes w)) : (stepsV w c st k)[i]? = some (.int (if k ≤ i then code w (mWi w c st i) else -2)) := by
  unfold stepsV
  rw [List.getElem?_map, List.getElem?_range h]
  rfl
theorem At.lt' {w : List W} {x : W} {i : Nat} {fs : List Fr} (h : At w i x fs) : i < (W.sizes w) := by have := h.lt; have := x.size_pos; omega
theorem stepsV_at {w : List W} {x : W} {c : Option Nat} {st : Nat → Nat} {k i : Nat} {fs : List Fr} (h : At w i x fs) (hk : k ≤ i) : (stepsV w c st k)[i]? = some (.int (code w (mW c st i fs x))) := by
  rw [stepsV_get h.lt', if_pos hk, mWi_at h]
theorem stepsV_end (w : List W) (c : Option Nat) (st : Nat → Nat) : stepsV w c st (W.sizes w) = List.replicate (W.sizes w) (.int (-2)) := by
  refine List.ext_getElem? fun i => ?_
  by_cases h : i < (W.sizes w)
  · rw [stepsV_get h, if_neg (by omega), List.getElem?_replicate, if_pos h]
  · rw [List.getElem?_eq_none (by rw [stepsV_len]; omega), List.getElem?_eq_none (by rw [List.length_replicate]; omega)]
theorem stepsV_set {w : List W} {c : Option Nat} {st : Nat → Nat} {k : Nat} (h : k < (W.sizes w)) : (stepsV w c st (k + 1)).set k (.int (code w (mWi w c st k))) = stepsV w c st k := by
  refine List.ext_getElem? fun i => ?_
  by_cases hi : i < (W.sizes w)
  · by_cases e : i = k
    · subst e
      rw [List.getElem?_set_self (by rw [stepsV_len]; exact h), stepsV_get h, if_pos (Nat.le_refl _)]
    · rw [List.getElem?_set_ne (Ne.symm e), stepsV_get hi, stepsV_get hi]
      by_cases q : k ≤ i
      · rw [if_pos q, if_pos (by omega)]
      · rw [if_neg q, if_neg (by omega)]
  · rw [List.getElem?_eq_none (by rw [List.length_set, stepsV_len]; omega), List.getElem?_eq_none (by rw [stepsV_len]; omega)]
section
variable {w : List W} {c : Option Nat} {st : Nat → Nat}
theorem mR_cons (i n : Nat) (fs : List Fr) (y : W) (ws : List W) : mR c st i n fs (y :: ws) = match mW c st n (.row i (n + y.size) ws :: fs) y with | .ends => mR c st i (n + y.size) fs ws | r => r := by
  conv => lhs; unfold mR
  all_goals (cases mW c st n (.row i (n + y.size) ws :: fs) y <;> rfl)
theorem mC_cons (i n : Nat) (fs : List Fr) (y : W) (ws : List W) : mC c st i n fs (y :: ws) = if ws.isEmpty = true ∨ fitF st (ard (.choice i ws.isEmpty :: fs)) (mW c st n (.choice i ws.isEmpty :: fs) y) = true then mW c st n (.choice i ws.isEmpty :: fs) y else mC c st i (n + y.size) fs ws := by rw [mC]
mutual
theorem mW_leaf : ∀ (x : W) (i : Nat) (fs : List Fr), At w i x fs → ∀ s, mW c st i fs x = .leaf s → c.isSome = true ∧ s ∈ lvs w
  | .letter a, i, fs, h, s, e => by
    rw [mW] at e
    split at e
    · rename_i q
      cases e
      exact ⟨by rw [q]; rfl, mem_lvs.mpr ⟨_, _, h, .inr ⟨a, rfl⟩⟩⟩
    · cases e
  | .one, i, fs, h, s, e => by
    rw [mW] at e
    split at e
    · rename_i q
      cases e
      exact ⟨q, mem_lvs.mpr ⟨_, _, h, .inl rfl⟩⟩
    · cases e
  | .nothing, i, fs, h, s, e => by rw [mW] at e; cases e
  | .call x, i, fs, h, s, e => by rw [mW] at e; cases e
  | .row ws, i, fs, h, s, e => by rw [mW] at e; exact mR_leaf ws i (i + 1) fs h.row s e
  | .choice ws, i, fs, h, s, e => by rw [mW] at e; exact mC_leaf ws i (i + 1) fs h.choice s e
  | .again y, i, fs, h, s, e => by
    rw [mW] at e
    split at e
    · exact mW_leaf y (i + 1) _ h.again s e
    · cases e
  | .maybe y, i, fs, h, s, e => by
    rw [mW] at e
    split at e
    · exact mW_leaf y (i + 1) _ h.maybe s e
    · cases e
  | .ahead y, i, fs, h, s, e => by
    rw [mW] at e
    split at e <;> cases e
  | .unless y, i, fs, h, s, e => by
    rw [mW] at e
    split at e <;> cases e
theorem mR_leaf : ∀ (ws : List W) (i n : Nat) (fs : List Fr), AtR w i n fs ws → ∀ s, mR c st i n fs ws = .leaf s → c.isSome = true ∧ s ∈ lvs w
  | [], i, n, fs, h, s, e => by rw [mR] at e; cases e
  | y :: ws, i, n, fs, h, s, e => by
    rw [mR_cons] at e
    cases q : mW c st n (.row i (n + y.size) ws :: fs) y with
    | ends => rw [q] at e; exact mR_leaf ws i _ fs h.cons.2 s e
    | fails => rw [q] at e; cases e
    | leaf t => rw [q] at e; cases e; exact mW_leaf y n _ h.cons.1 s q
theorem mC_leaf : ∀ (ws : List W) (i n : Nat) (fs : List Fr), AtC w i n fs ws → ∀ s, mC c st i n fs ws = .leaf s → c.isSome = true ∧ s ∈ lvs w
  | [], i, n, fs, h, s, e => by rw [mC] at e; cases e
  | y :: ws, i, n, fs, h, s, e => by
    rw [mC_cons] at e
    split at e
    · exact mW_leaf y n _ h.cons.1 s e
    · exact mC_leaf ws i _ fs h.cons.2 s e
end
end
/-- a state that is asked for -/
def StOk (w : List W) (c : Option Nat) (T : List Nat) : Prop := c = none ∨ T.length = (lvs w).length
theorem StOk.get {w : List W} {c : Option Nat} {T : List Nat} (h : StOk w c T) {s : Nat} (hc : c.isSome = true) (hs : s ∈ lvs w) : T[slot w s]? = some (stf w T s) := by
  rcases h with h | h
  · rw [h] at hc; cases hc
  · have hl := slot_lt hs
    rw [← h] at hl
    unfold stf
    rw [List.getD_eq_getElem?_getD, List.getElem?_eq_getElem hl]
    rfl
def spFit (C CB : Addr) : Sp := fun vs H Q _ => ∃ (b ta sl : Addr) (w : List W) (x : W) (c : Option Nat) (T : List Nat) (i k : Nat) (fs : List Fr), vs = [.ref b, .int (i : Nat), .ref ta, .ref sl] ∧ BaAt C CB H b w ∧ H ta = some (.tup (iV T)) ∧ H sl = some (.lst (stepsV w c (stf w T) k)) ∧ StOk w c T ∧ At w i x fs ∧ k ≤ i ∧
  Q (.bl (fitF (stf w T) (ard fs) (mW c (stf w T) i fs x))) H
def spFirst1 : Sp := fun vs H Q _ => ∃ (a sl : Addr) (w : List W) (ws : List W) (c : Option Nat) (st : Nat → Nat) (i n k : Nat) (fs : List Fr), vs = [.ref a, .ref sl] ∧ H a = some (.lst (iV (offs n ws))) ∧ H sl = some (.lst (stepsV w c st k)) ∧ AtR w i n fs ws ∧ k ≤ n ∧
  Q (.int (code w (mR c st i n fs ws))) H
structure Kb (mg : Str → Option Value) : Prop where
  c : Kc mg
  f : ∃ t, mg "FAILS" = some (.int (-2) t)
  e : ∃ t, mg "ENDS" = some (.int (-1) t)
  m : ∃ t, mg "MISSES" = some (.int 2 t)
  p : ∃ t, mg "MOST_PARTS" = some (.int 10 t)
theorem code_ends (w : List W) (r : Fs) : decide (V.int (code w r) = V.int (-1)) = match r with | .ends => true | _ => false := by
  cases r with
  | ends => exact decide_eq_true rfl
  | fails => exact decide_eq_false (fun h => by have := V.int.inj h; simp [code] at this)
  | leaf s => exact decide_eq_false (fun h => by have := V.int.inj h; simp only [code] at this; omega)
section
variable {P : Program} {w : World} {K : PySem.W.Frag} {mg : Str → Option Value} {base : Heap} {C CB : Addr}
abbrev s_Backward_is_fit : Stmt := inClass (top 60) 3
theorem sc_Backward_is_fit : FnScope ["self", "part", "state", "steps", "step"] ["self", "part", "state", "steps"] (defScope s_Backward_is_fit) := ⟨rfl, rfl, rfl, by decide +kernel, rfl, by decide +kernel, by decide +kernel⟩
theorem ok_fit {f : Addr} {fd : FuncData} (F : Fun K "is_fit" "Backward.is_fit" s_Backward_is_fit f fd) (T : BaF K CB) (Kk : Kb mg) : FnOk P w K mg base CX0 1 f fd ["self", "part", "state", "steps"] (spFit C CB) := by
  have GC_ENDS := Kk.e
  refine F.ok sc_Backward_is_fit (fun vs H Q E h => by obtain ⟨_, _, _, _, _, _, _, _, _, _, rfl, _⟩ := h; rfl) (fun cdv A outer s' H vs Q E hr h => ?_)
  obtain ⟨b, ta, sl, x, y, cc, T', i, k0, fs, rfl, ⟨dx, a, ar, lv, so, kvs, L⟩, hta, hsl, hok, hy, hk, k⟩ := h
  refine ⟨_, (pss_cons (ps_set (i := 4) sc_Backward_is_fit.nd rfl (Or.inl rfl) (pe_ix ix_list (pv 3) (pv 1) (fun _ _ => rfl)))
  (pss_one (ps_ret (pe_or (pe_cmpR op_eq (pv 4) (pe_globI rfl GC_ENDS) (nomark _)) (pe_one (pe_and (pe_cmpR op_ge (pv 4) pe_int (nomark _)) (pe_one (pe_cmpR op_le (pe_ix ix_tup (pv 2) (pv 4) (fun _ _ => rfl)) (pe_ix ix_list (pe_fld (pv 0) rfl) (pv 1) (fun _ _ => rfl)) (nomark _))))))))), ?_⟩
  refine ⟨_, rfl, _, rfl, sl, _, _, _, rfl, rfl, SqL.of hsl, atI_nat (stepsV_at hy hk), ?_⟩
  walk_at "nx"
  refine ⟨_, rfl, rfl, _, rfl, ?_⟩
  rw [code_ends]
  cases e : mW cc (stf x T') i fs y with
  | ends =>
    rw [e] at k
    exact k
  | fails =>
    rw [e] at k
    refine ⟨_, rfl, _, _, rfl, rfl, _, rfl, ?_⟩
    exact k
  | leaf s =>
    rw [e] at k
    obtain ⟨hc, hs⟩ := mW_leaf y i fs hy s e
    have hg := hok.get hc hs
    refine ⟨_, rfl, _, _, rfl, rfl, _, rfl, ?_⟩
    rw [show decide ((0 : Int) ≤ code x (.leaf s)) = true from decide_eq_true (by show (0 : Int) ≤ ((slot x s : Nat) : Int); omega)]
    refine ⟨_, rfl, _, rfl, ta, _, _, _, rfl, rfl, SqT.of hta, atI_nat (iV_at hg), ?_⟩
    refine ⟨_, rfl, b, CB, dx, _, _, rfl, L.ins, T.cl, T.n2, rfl, _, rfl, ar, _, _, _, rfl, rfl, SqL.of L.har, atI_nat (iV_at (around_at hy)), ?_⟩
    refine ⟨_, _, rfl, rfl, ?_⟩
    have k : Q (.bl (decide (stf x T' s ≤ ard fs))) H := k
    rw [show decide (stf x T' s ≤ ard fs) = decide (((stf x T' s : Nat) : Int) ≤ ((ard fs : Nat) : Int)) from decide_eq_decide.mpr (by omega)] at k
    exact k
abbrev s_first_step : Stmt := top 61
theorem sc_first_step : FnScope ["numbers", "steps", "number"] ["numbers", "steps"] (defScope s_first_step) := ⟨rfl, rfl, rfl, by decide +kernel, rfl, by decide +kernel, by decide +kernel⟩
theorem d_first_step (h : Here K mg "first_step" s_first_step ["numbers", "steps"]) (Kk : Kb mg) : DefOk P w K mg base 1 "first_step" ["numbers", "steps"] spFirst1 := by
  have GC_ENDS := Kk.e
  refine h.ok sc_first_step (fun vs H Q E h => by obtain ⟨_, _, _, _, _, _, _, _, _, _, rfl, _⟩ := h; rfl) (fun f cdv A' outer s H vs Q E hr h => ?_)
  obtain ⟨a, sl, x, ws, cc, st, i, n, k0, fs, rfl, ha, hsl, hR, hk, k⟩ := h
  refine ⟨_, (pss_cons (ps_for PassesOwn.never rfl (pi_list (pv 0)) (pg_name (i := 2) sc_first_step.nd rfl (Or.inl rfl))
   (pss_one (ps_if (pt_cmpR op_ne (pe_ix ix_list (pv 1) (pv 2) (fun _ _ => rfl)) (pe_globI rfl GC_ENDS) (nomark _)) (pss_one (ps_ret (pe_ix ix_list (pv 1) (pv 2) (fun _ _ => rfl)))) pss_nil)))
  (pss_one (ps_ret (pe_globI rfl GC_ENDS)))), ?_⟩
  refine ⟨_, rfl, a, rfl, ⟨_, SqL.of ha⟩, ?_⟩
  refine for_list (K := K) (a := a) (xs := iV (offs n ws)) (fun j σ Hx => ∃ (x2 : Option V) (m : Nat) (us : List W), σ = [some (.ref a), some (.ref sl), x2] ∧ Hx = H ∧ (offs n ws).drop j = offs m us ∧ AtR x i m fs us ∧ n ≤ m ∧ mR cc st i n fs ws = mR cc st i m fs us) ?_ ?_ ?_ ?_
  · exact ⟨none, n, ws, rfl, rfl, rfl, hR, Nat.le_refl _, rfl⟩
  · rintro j σ Hx _ ⟨_, _, _, rfl, rfl, _⟩
    exact SqL.of ha
  · rintro j e σ Hx he ⟨x2, m, us, rfl, rfl, hd, hR2, hnm, em⟩
    obtain ⟨q, hq, rfl⟩ := iV_back he
    rw [drop_at hq] at hd
    cases us with
    | nil => simp [offs] at hd
    | cons u us =>
      rw [offs] at hd
      obtain ⟨rfl, hd⟩ := List.cons.inj hd
      have hu := hR2.cons.1
      refine gset ?_
      refine ⟨_, rfl, _, rfl, sl, _, _, _, rfl, rfl, SqL.of hsl, atI_nat (stepsV_at hu (by omega)), rfl, _, rfl, ?_⟩
      rw [code_ends]
      rw [mR_cons] at em
      cases e : mW cc st q (.row i (q + u.size) us :: fs) u with
      | ends =>
        rw [e] at em
        exact iteF ⟨_, _, us, rfl, rfl, hd, hR2.cons.2, by omega, em⟩
      | fails =>
        rw [e] at em
        have em : mR cc st i n fs ws = .fails := em
        rw [em] at k
        refine iteT ⟨_, rfl, _, rfl, sl, _, _, _, rfl, rfl, SqL.of hsl, atI_nat (stepsV_at hu (by omega)), ?_⟩
        rw [e]
        exact k
      | leaf t =>
        rw [e] at em
        have em : mR cc st i n fs ws = .leaf t := em
        rw [em] at k
        refine iteT ⟨_, rfl, _, rfl, sl, _, _, _, rfl, rfl, SqL.of hsl, atI_nat (stepsV_at hu (by omega)), ?_⟩
        rw [e]
        exact k
  · rintro σ Hx ⟨x2, m, us, rfl, rfl, hd, hR2, hnm, em⟩
    rw [List.drop_of_length_le (by simp only [iV, List.length_map]; exact Nat.le_refl _)] at hd
    cases us with
    | cons u us => simp [offs] at hd
    | nil =>
      rw [em, mR] at k
      exact k
end
end Rk
namespace Rk
open PySem PySem.Spec PyProof.Rows L2 Wv Tk
/-! ### the step of a part, all steps -/
/-- ways that may be read so: without calls -/
def Fine (w : List W) : Prop := ∀ (i : Nat) (x : W) (fs : List Fr), At w i x fs → x.kind < 9 ∧ x ≠ .choice []
theorem iteN' {b : Bool} {T F : Prop} (h : ¬ b = true) (f : F) : if b = true then T else F := by rw [if_neg h]; exact f
def spStep (C CB : Addr) : Sp := fun vs H Q _ => ∃ (b ta sl : Addr) (w : List W) (x : W) (c : Option Nat) (T : List Nat) (i : Nat) (fs : List Fr), vs = [.ref b, .int (i : Nat), .str (sgn c), .ref ta, .ref sl] ∧ BaAt C CB H b w ∧ H ta = some (.tup (iV T)) ∧ H sl = some (.lst (stepsV w c (stf w T) (i + 1))) ∧ StOk w c T ∧ At w i x fs ∧ Fine w ∧
  ∀ H', Same H H' → Q (.int (code w (mW c (stf w T) i fs x))) H'
def spSteps (C CB : Addr) : Sp := fun vs H Q _ => ∃ (b ta : Addr) (w : List W) (c : Option Nat) (T : List Nat), vs = [.ref b, .str (sgn c), .ref ta] ∧ BaAt C CB H b w ∧ H ta = some (.tup (iV T)) ∧ StOk w c T ∧ Fine w ∧
  ∀ (q : Addr) (H' : Hp), Same H H' → H' q = some (.lst (stepsV w c (stf w T) 0)) → Q (.ref q) H'
theorem sgn_ne (c : Option Nat) : (!decide (V.str (sgn c) = V.str (Str.ofString ""))) = c.isSome := by
  cases c with
  | none => rw [decide_eq_true (show V.str (sgn none) = V.str (Str.ofString "") from rfl)]; rfl
  | some a =>
    rw [decide_eq_false]
    · rfl
    · intro h
      have := V.str.inj h
      have := congrArg (fun s : Str => s.cps.size) this
      revert this
      show ¬ (1 = (Str.ofString "").cps.size)
      decide +kernel
theorem one_offs {n m : Nat} {ws : List W} {j : Nat} {u : W} (h : (offs n ws).drop j = offs m [u]) : ∃ r, iV (offs n ws) = r ++ [V.int (m : Nat)] := by
  refine ⟨iV ((offs n ws).take j), ?_⟩
  have := List.take_append_drop j (offs n ws)
  rw [h] at this
  conv => lhs; rw [← this]
  exact iV_snoc _ _
section
variable {P : Program} {w : World} {K : PySem.W.Frag} {mg : Str → Option Value} {base : Heap} {C CB : Addr}
abbrev s_Backward_step_of : Stmt := inClass (top 60) 2
theorem sc_Backward_step_of : FnScope ["self", "part", "letter", "state", "steps", "kind", "inner", "number", "fit"] ["self", "part", "letter", "state", "steps"] (defScope s_Backward_step_of) := ⟨rfl, rfl, rfl, by decide +kernel, rfl, by decide +kernel, by decide +kernel⟩
theorem ok_step {f : Addr} {fd : FuncData} (F : Fun K "step_of" "Backward.step_of" s_Backward_step_of f fd) (T : BaF K CB) (TP : PtF K C) (Kk : Kb mg) (G_is_fit : ScOk P w K mg base CB 1 "is_fit" ["self", "part", "state", "steps"] (spFit C CB)) (G_first_step : DefOk P w K mg base 1 "first_step" ["numbers", "steps"] spFirst1) :
    FnOk P w K mg base CX0 2 f fd ["self", "part", "letter", "state", "steps"] (spStep C CB) := by
  have GC_ENDS := Kk.e; have GC_FAILS := Kk.f; have GC_LETTER := Kk.c.k0; have GC_ONE := Kk.c.k1; have GC_NOTHING := Kk.c.k2; have GC_ROW := Kk.c.k3; have GC_CHOICE := Kk.c.k4; have GC_AGAIN := Kk.c.k5; have GC_MAYBE := Kk.c.k6; have GC_AHEAD := Kk.c.k7
  refine F.ok sc_Backward_step_of (fun vs H Q E h => by obtain ⟨_, _, _, _, _, _, _, _, _, rfl, _⟩ := h; rfl) (fun cdv A outer s' H vs Q E hr h => ?_)
  have hu := Nat.lt_of_le_of_lt (Nat.add_le_add_left (show 1 ≤ 64 by decide) _) hr.units
  obtain ⟨b, ta, sl, x, y, cc, T', i, fs, rfl, hB, hta, hsl, hok, hy, hfine, k⟩ := h
  obtain ⟨dx, a, ar, lv, so, kvs, L⟩ := id hB
  obtain ⟨dp, ks, ws, ni, ab, la, wh, kL, wL, nL, aL, lL, LP⟩ := L.pt
  obtain ⟨g1, g2, ⟨bi, g3, g4⟩, _, _⟩ := LP.at_ i y fs hy
  obtain ⟨hk9, hch⟩ := hfine i y fs hy
  refine ⟨_, (pss_cons (ps_set (i := 5) sc_Backward_step_of.nd rfl (Or.inl rfl) (pe_ix ix_list (pe_fld (pe_fld (pv 0) rfl) rfl) (pv 1) (fun _ _ => rfl)))
  (pss_cons (ps_if (pt_cmpR op_eq (pv 5) (pe_globI rfl GC_LETTER) (nomark _)) (pss_one (ps_ret (pe_ifExp (pt_cmpR op_eq (pv 2) (pe_ix ix_list (pe_fld (pe_fld (pv 0) rfl) rfl) (pv 1) (fun _ _ => rfl)) (nomark _)) (pe_dget hu (pe_fld (pv 0) rfl) (pv 1) (fun _ _ => rfl)) (pe_globI rfl GC_FAILS)))) pss_nil)
  (pss_cons (ps_if (pt_cmpR op_eq (pv 5) (pe_globI rfl GC_ONE) (nomark _)) (pss_one (ps_ret (pe_ifExp (pt_cmpR op_ne (pv 2) pe_str (nomark _)) (pe_dget hu (pe_fld (pv 0) rfl) (pv 1) (fun _ _ => rfl)) (pe_globI rfl GC_FAILS)))) pss_nil)
  (pss_cons (ps_if (pt_cmpR op_eq (pv 5) (pe_globI rfl GC_NOTHING) (nomark _)) (pss_one (ps_ret (pe_globI rfl GC_ENDS))) pss_nil)
  (pss_cons (ps_set (i := 6) sc_Backward_step_of.nd rfl (Or.inl rfl) (pe_ix ix_list (pe_fld (pe_fld (pv 0) rfl) rfl) (pv 1) (fun _ _ => rfl)))
  (pss_cons (ps_if (pt_cmpR op_eq (pv 5) (pe_globI rfl GC_ROW) (nomark _)) (pss_one (ps_ret (pe_callD G_first_step (hr.mono (by first | decide | omega)) rfl (pa_cons (pv 6) (pa_cons (pv 4) pa_nil))))) pss_nil)
  (pss_cons (ps_if (pt_cmpR op_eq (pv 5) (pe_globI rfl GC_CHOICE) (nomark _)) (pss_cons (ps_for PassesOwn.never rfl (pi_list (pe_slice sl_list (pv 6) po_none (po_some (pe_un un_neg pe_int)))) (pg_name (i := 7) sc_Backward_step_of.nd rfl (Or.inl rfl))
   (pss_one (ps_if (pt_val (pe_methS G_is_fit (hr.mono (by first | decide | omega)) (pv 0) (pa_cons (pv 7) (pa_cons (pv 3) (pa_cons (pv 4) pa_nil))))) (pss_one (ps_ret (pe_ix ix_list (pv 4) (pv 7) (fun _ _ => rfl)))) pss_nil)))
  (pss_one (ps_ret (pe_ix ix_list (pv 4) (pe_ix ix_list (pv 6) (pe_un un_neg pe_int) (fun _ _ => rfl)) (fun _ _ => rfl))))) pss_nil)
  (pss_cons (ps_set (i := 8) sc_Backward_step_of.nd rfl (Or.inl rfl) (pe_methS G_is_fit (hr.mono (by first | decide | omega)) (pv 0) (pa_cons (pe_ix ix_list (pv 6) pe_int (fun _ _ => rfl)) (pa_cons (pv 3) (pa_cons (pv 4) pa_nil)))))
  (pss_cons (ps_if (pt_cmpR op_in_seq (pv 5) (pe_tup (pa_cons (pe_globI rfl GC_AGAIN) (pa_cons (pe_globI rfl GC_MAYBE) pa_nil))) (by rfl)) (pss_one (ps_ret (pe_ifExp (pt_val (pv 8)) (pe_ix ix_list (pv 4) (pe_ix ix_list (pv 6) pe_int (fun _ _ => rfl)) (fun _ _ => rfl)) (pe_globI rfl GC_ENDS)))) pss_nil)
  (pss_one (ps_ret (pe_ifExp (pt_cmpR op_eq (pv 8) (pe_cmpR op_eq (pv 5) (pe_globI rfl GC_AHEAD) (nomark _)) (nomark _)) (pe_globI rfl GC_ENDS) (pe_globI rfl GC_FAILS))))))))))))), ?_⟩
  refine ⟨_, rfl, b, CB, dx, _, _, rfl, L.ins, T.cl, T.n1, rfl, a, C, dp, _, _, rfl, LP.ins, TP.cl, TP.n1, rfl, _, rfl, ks, _, _, _, rfl, rfl, SqL.of LP.hks, atI_nat g1, ?_⟩
  walk_at "nx"
  have k0 := k H (fun _ _ h => h)
  refine ⟨_, rfl, rfl, _, rfl, ite2 (fun e => ?_) (fun e0 => ?_)⟩
  · cases y <;> first | exact absurd (V.int.inj (of_decide_eq_true e)) (by simp only [W.kind]; omega) | skip
    rename_i a0
    refine ⟨_, rfl, _, rfl, b, CB, dx, _, _, rfl, L.ins, T.cl, T.n1, rfl, a, C, dp, _, _, rfl, LP.ins, TP.cl, TP.n2, rfl, _, rfl, ws, _, _, _, rfl, rfl, SqL.of LP.hws, atI_nat g2, rfl, _, rfl, ?_⟩
    rw [show (W.letter a0).word = sg a0 from rfl, sgn_eq]
    have em : mW cc (stf x T') i fs (.letter a0) = if cc = some a0 then .leaf i else .fails := by rw [mW]
    rw [em] at k0
    refine ite2 (fun c => ?_) (fun c => ?_)
    · rw [if_pos (of_decide_eq_true c)] at k0
      have hm := mem_lvs.mpr ⟨_, _, hy, .inr ⟨a0, rfl⟩⟩
      have hv := L.sok.2 _ _ (slot_lt hm) (slot_get hm)
      refine ⟨_, rfl, b, CB, dx, _, _, rfl, L.ins, T.cl, T.n4, rfl, _, rfl, so, .int ((slot x i : Nat)), rfl, ?_, k0⟩
      have := DGet.k (k := .inl ((i : Nat) : Int)) L.hsl
      rw [hv] at this
      exact this
    · rw [if_neg (fun q => c (decide_eq_true q))] at k0
      exact k0
  walk_at "nx"
  refine ⟨_, rfl, rfl, _, rfl, ite2 (fun e => ?_) (fun e1 => ?_)⟩
  · cases y <;> first | exact absurd (V.int.inj (of_decide_eq_true e)) (by simp only [W.kind]; omega) | skip
    refine ⟨_, rfl, rfl, _, rfl, ?_⟩
    rw [sgn_ne]
    have em : mW cc (stf x T') i fs .one = if cc.isSome = true then .leaf i else .fails := by rw [mW]
    rw [em] at k0
    refine ite2 (fun c => ?_) (fun c => ?_)
    · rw [if_pos c] at k0
      have hm := mem_lvs.mpr ⟨_, _, hy, .inl rfl⟩
      have hv := L.sok.2 _ _ (slot_lt hm) (slot_get hm)
      refine ⟨_, rfl, b, CB, dx, _, _, rfl, L.ins, T.cl, T.n4, rfl, _, rfl, so, .int ((slot x i : Nat)), rfl, ?_, k0⟩
      have := DGet.k (k := .inl ((i : Nat) : Int)) L.hsl
      rw [hv] at this
      exact this
    · rw [if_neg c] at k0
      exact k0
  walk_at "nx"
  refine ⟨_, rfl, rfl, _, rfl, ite2 (fun e => ?_) (fun e2 => ?_)⟩
  · cases y <;> first | exact absurd (V.int.inj (of_decide_eq_true e)) (by simp only [W.kind]; omega) | skip
    have em : mW cc (stf x T') i fs .nothing = .ends := by rw [mW]
    rw [em] at k0
    exact k0
  walk_at "nx"
  refine ⟨_, rfl, b, CB, dx, _, _, rfl, L.ins, T.cl, T.n1, rfl, a, C, dp, _, _, rfl, LP.ins, TP.cl, TP.n3, rfl, _, rfl, ni, _, _, _, rfl, rfl, SqL.of LP.hni, atI_nat g3, ?_⟩
  walk_at "nx"
  refine ⟨_, rfl, rfl, _, rfl, ite2 (fun e => ?_) (fun e3 => ?_)⟩
  · cases y <;> first | exact absurd (V.int.inj (of_decide_eq_true e)) (by simp only [W.kind]; omega) | skip
    rename_i us
    have em : mW cc (stf x T') i fs (.row us) = mR cc (stf x T') i (i + 1) fs us := by rw [mW]
    rw [em] at k0
    exact ⟨_, rfl, _, rfl, bi, sl, x, us, cc, _, i, i + 1, i + 1, fs, rfl, g4, hsl, hy.row, Nat.le_refl _, k0⟩
  walk_at "nx"
  refine ⟨_, rfl, rfl, _, rfl, ite2 (fun e => ?_) (fun e4 => ?_)⟩
  · cases y <;> first | exact absurd (V.int.inj (of_decide_eq_true e)) (by simp only [W.kind]; omega) | skip
    rename_i us
    have em : mW cc (stf x T') i fs (.choice us) = mC cc (stf x T') i (i + 1) fs us := by rw [mW]
    rw [em] at k
    have hR := hy.choice
    have g4 : H bi = some (.lst (iV (offs (i + 1) us))) := g4
    refine ⟨_, rfl, _, rfl, _, rfl, bi, _, rfl, SqL.of g4, fun p hp => ?_⟩
    rw [cut_last]
    have sp := Same.new hp (.lst (iV (offs (i + 1) us)).dropLast)
    have hp1 : upd H p (.lst (iV (offs (i + 1) us)).dropLast) p = some (.lst (iV (offs (i + 1) us).dropLast)) := by rw [upd_same]; unfold iV; rw [List.map_dropLast]
    generalize upd H p (.lst (iV (offs (i + 1) us)).dropLast) = H1 at *
    have hB1 := hB.keep sp
    have hta1 := sp _ _ hta
    have hsl1 := sp _ _ hsl
    refine ⟨p, rfl, ⟨_, SqL.of hp1⟩, ?_⟩
    refine for_list (K := K) (a := p) (xs := iV (offs (i + 1) us).dropLast) (fun j σ Hx => ∃ (x7 : Option V) (m : Nat) (vs : List W), σ = [some (.ref b), some (.int (i : Nat)), some (.str (sgn cc)), some (.ref ta), some (.ref sl), some (.int (4 : Nat)), some (.ref bi), x7, none] ∧ Hx = H1 ∧ (offs (i + 1) us).drop j = offs m vs ∧ vs ≠ [] ∧ AtC x i m fs vs ∧ i + 1 ≤ m ∧ mC cc (stf x T') i (i + 1) fs us = mC cc (stf x T') i m fs vs) ?_ ?_ ?_ ?_
    · exact ⟨none, i + 1, us, rfl, rfl, rfl, fun q => hch (by rw [q]), hR, Nat.le_refl _, rfl⟩
    · rintro j σ Hx _ ⟨_, _, _, rfl, rfl, _⟩
      exact SqL.of hp1
    · rintro j e σ Hx he ⟨x7, m, vs, rfl, rfl, hd, hne, hR2, hnm, em2⟩
      obtain ⟨q, hq, rfl⟩ := iV_back he
      have hq2 : (offs (i + 1) us)[j]? = some q := by
        have hj := (List.getElem?_eq_some_iff.mp hq).1
        rw [List.dropLast_eq_take, List.getElem?_take] at hq
        split at hq
        · exact hq
        · cases hq
      rw [drop_at hq2] at hd
      cases vs with
      | nil => exact absurd rfl hne
      | cons u vs =>
        rw [offs] at hd
        obtain ⟨rfl, hd⟩ := List.cons.inj hd
        have hvne : vs ≠ [] := fun z => by
          subst z
          have hj := (List.getElem?_eq_some_iff.mp hq).1
          rw [List.length_dropLast] at hj
          have := congrArg List.length hd
          rw [List.length_drop] at this
          simp only [offs, List.length_nil] at this
          omega
        have hu1 := hR2.cons.1
        rw [mC_cons] at em2
        refine gset ?_
        refine ⟨_, rfl, b, dx, _, rfl, (L.keep sp).ins, rfl, _, rfl, _, rfl, _, rfl, ?_⟩
        refine ⟨b, ta, sl, x, u, cc, T', q, i + 1, _, rfl, hB1, hta1, hsl1, hok, hu1, hnm, _, rfl, ?_⟩
        by_cases hf : fitF (stf x T') (ard (.choice i vs.isEmpty :: fs)) (mW cc (stf x T') q (.choice i vs.isEmpty :: fs) u) = true
        · rw [if_pos (.inr hf)] at em2
          rw [em2] at k
          refine iteT' hf ?_
          exact ⟨_, rfl, _, rfl, sl, _, _, _, rfl, rfl, SqL.of hsl1, atI_nat (stepsV_at hu1 hnm), k _ sp⟩
        · rw [if_neg (fun z => by rcases z with z | z; exact hvne (by simpa using z); exact hf z)] at em2
          rw [Bool.not_eq_true] at hf
          rw [hf]
          exact iteF ⟨_, _, vs, rfl, rfl, hd, hvne, hR2.cons.2, by omega, em2⟩
    · rintro σ Hx ⟨x7, m, vs, rfl, rfl, hd, hne, hR2, hnm, em2⟩
      cases vs with
      | nil => exact absurd rfl hne
      | cons u vs =>
        have hlen := congrArg List.length hd
        rw [List.length_drop, offs_len] at hlen
        simp only [iV, List.length_map, List.length_dropLast, offs_len, List.length_cons] at hlen
        have hus : us.length ≠ 0 := fun z => hch (by rw [List.length_eq_zero_iff.mp z])
        have hv0 : vs = [] := by
          apply List.eq_nil_of_length_eq_zero
          omega
        subst hv0
        obtain ⟨r, hr2⟩ := one_offs hd
        have hu1 := hR2.cons.1
        rw [mC_cons, if_pos (.inl rfl)] at em2
        rw [em2] at k
        have g5 := sp _ _ g4
        rw [hr2] at g5
        refine ⟨_, rfl, _, rfl, _, rfl, bi, _, _, _, rfl, rfl, SqL.of g5, atI_last _ _, ?_⟩
        exact ⟨sl, _, _, _, rfl, rfl, SqL.of hsl1, atI_nat (stepsV_at hu1 hnm), k _ sp⟩
  walk_at "nx"
  have hsingle : ∃ (u : W) (fr : Fr), y.inner = [u] ∧ At x (i + 1) u (fr :: fs) ∧
      (((y.kind = 5 ∨ y.kind = 6) ∧ mW cc (stf x T') i fs y = if fitF (stf x T') (ard (fr :: fs)) (mW cc (stf x T') (i + 1) (fr :: fs) u) = true then mW cc (stf x T') (i + 1) (fr :: fs) u else .ends) ∨
      (y.kind = 7 ∧ mW cc (stf x T') i fs y = if fitF (stf x T') (ard (fr :: fs)) (mW cc (stf x T') (i + 1) (fr :: fs) u) = true then .ends else .fails) ∨
      (y.kind = 8 ∧ mW cc (stf x T') i fs y = if fitF (stf x T') (ard (fr :: fs)) (mW cc (stf x T') (i + 1) (fr :: fs) u) = true then .fails else .ends)) := by
    have ne : ∀ n : Nat, y.kind = n → ¬ decide (V.int ((y.kind : Nat) : Int) = V.int ((n : Nat) : Int)) = true → False := fun n h1 h2 => h2 (decide_eq_true (by rw [h1]))
    cases y with
    | letter a => exact (ne 0 rfl e0).elim
    | one => exact (ne 1 rfl e1).elim
    | nothing => exact (ne 2 rfl e2).elim
    | call a => simp [W.kind] at hk9
    | row us => exact (ne 3 rfl e3).elim
    | choice us => exact (ne 4 rfl e4).elim
    | again u => exact ⟨u, _, rfl, hy.again, .inl ⟨.inl rfl, by rw [mW]⟩⟩
    | maybe u => exact ⟨u, _, rfl, hy.maybe, .inl ⟨.inr rfl, by rw [mW]⟩⟩
    | ahead u => exact ⟨u, _, rfl, hy.ahead, .inr (.inl ⟨rfl, by rw [mW]⟩)⟩
    | «unless» u => exact ⟨u, _, rfl, hy.unless, .inr (.inr ⟨rfl, by rw [mW]⟩)⟩
  obtain ⟨u, fr, ein, hu1, hcase⟩ := hsingle
  have g5 : H bi = some (.lst [V.int ((i + 1 : Nat) : Int)]) := by rw [g4, ein]; rfl
  refine ⟨_, rfl, b, dx, _, rfl, L.ins, rfl, _, rfl, bi, _, _, _, rfl, rfl, SqL.of g5, atI0, _, rfl, _, rfl, ?_⟩
  refine ⟨b, ta, sl, x, u, cc, T', i + 1, i + 1, _, rfl, hB, hta, hsl, hok, hu1, Nat.le_refl _, ?_⟩
  walk_at "nx"
  generalize em : mW cc (stf x T') (i + 1) (fr :: fs) u = m at *
  generalize ef : fitF (stf x T') (ard (fr :: fs)) m = ft at *
  refine ⟨_, rfl, by show 2 ≤ sizeLine; decide, fun q2 hq2 => ?_⟩
  have s2 := Same.new hq2 (.tup [.int 5, .int 6])
  refine ⟨q2, _, rfl, .inr (SqT.of upd_same), rfl, rfl, _, rfl, ?_⟩
  rw [if_neg Bool.false_ne_true]
  have k2 := k _ s2
  have hst := stepsV_at (c := cc) (st := stf x T') hu1 (Nat.le_refl (i + 1))
  rw [em] at hst
  rcases hcase with ⟨h56, hm⟩ | ⟨h7, hm⟩ | ⟨h8, hm⟩
  · rw [hm] at k2
    have hin : inV (V.int ((y.kind : Nat) : Int)) [.int 5, .int 6] = true := by rcases h56 with h | h <;> (rw [h]; rfl)
    rw [hin]
    refine iteT ⟨_, rfl, _, rfl, ?_⟩
    cases ft with
    | true =>
      rw [if_pos rfl] at k2
      exact iteT ⟨_, rfl, _, rfl, bi, _, _, _, rfl, rfl, SqL.of (s2 _ _ g5), atI0, sl, _, _, _, rfl, rfl, SqL.of (s2 _ _ hsl), atI_nat hst, k2⟩
    | false =>
      rw [if_neg Bool.false_ne_true] at k2
      exact iteF k2
  · rw [hm] at k2
    have hin : inV (V.int ((y.kind : Nat) : Int)) [.int 5, .int 6] = false := by rw [h7]; rfl
    rw [hin]
    refine iteF ?_
    walk_at "nx"
    refine ⟨_, rfl, _, rfl, rfl, rfl, _, rfl, ?_⟩
    rw [h7]
    cases ft with
    | true =>
      rw [if_pos rfl] at k2
      exact iteT' (by decide) k2
    | false =>
      rw [if_neg Bool.false_ne_true] at k2
      exact iteN' (by decide) k2
  · rw [hm] at k2
    have hin : inV (V.int ((y.kind : Nat) : Int)) [.int 5, .int 6] = false := by rw [h8]; rfl
    rw [hin]
    refine iteF ?_
    walk_at "nx"
    refine ⟨_, rfl, _, rfl, rfl, rfl, _, rfl, ?_⟩
    rw [h8]
    cases ft with
    | true =>
      rw [if_pos rfl] at k2
      exact iteN' (by decide) k2
    | false =>
      rw [if_neg Bool.false_ne_true] at k2
      exact iteT' (by decide) k2
abbrev s_Backward_steps_at : Stmt := inClass (top 60) 1
theorem sc_Backward_steps_at : FnScope ["self", "letter", "state", "steps", "part", "_"] ["self", "letter", "state"] (defScope s_Backward_steps_at) := ⟨rfl, rfl, rfl, by decide +kernel, rfl, by decide +kernel, by decide +kernel⟩
theorem ok_steps {f : Addr} {fd : FuncData} (F : Fun K "steps_at" "Backward.steps_at" s_Backward_steps_at f fd) (T : BaF K CB) (TP : PtF K C) (B : Bs mg) (Kk : Kb mg) (G_step_of : ScOk P w K mg base CB 2 "step_of" ["self", "part", "letter", "state", "steps"] (spStep C CB)) :
    FnOk P w K mg base CX0 3 f fd ["self", "letter", "state"] (spSteps C CB) := by
  have GC_FAILS := Kk.f
  have B_len := B.len; have B_range := B.range; have B_reversed := B.reversed
  refine F.ok sc_Backward_steps_at (fun vs H Q E h => by obtain ⟨_, _, _, _, _, rfl, _⟩ := h; rfl) (fun cdv A outer s' H vs Q E hr h => ?_)
  obtain ⟨b, ta, x, cc, T', rfl, hB, hta, hok, hfine, k⟩ := h
  obtain ⟨dx, a, ar, lv, so, kvs, L⟩ := id hB
  obtain ⟨dp, ks, ws, ni, ab, la, wh, kL, wL, nL, aL, lL, LP⟩ := L.pt
  obtain ⟨lk, _⟩ := LP.len
  have hsz := L.sz
  refine ⟨_, (pss_cons (ps_setLc (i := 3) (own := [("_", 5)]) (g := (gName 5)) (tt := tYes) rfl sc_Backward_steps_at.nd rfl rfl (sw_true rfl rfl rfl (by decide +kernel)) (pi_list (pe_fld (pe_fld (pv 0) rfl) rfl)) (blkOk_by (own := [("_", 5)]) (N := ["self", "letter", "state", "steps", "part", "_"]) (sc := defScope s_Backward_steps_at) (by decide +kernel)) (fun _ _ _ _ _ => pg_name (i := 5) sc_Backward_steps_at.nd rfl (Or.inl rfl)) (fun _ _ _ _ _ => pts_nil) (fun _ _ _ _ _ => (pe_globI rfl GC_FAILS)))
  (pss_cons (ps_for PassesOwn.never rfl (pi_revR rfl B_reversed (prg_1 rfl B_range (pe_callB call_len_seq rfl B_len PySem.boot_len (pa_cons (pv 3) pa_nil)))) (pg_name (i := 4) sc_Backward_steps_at.nd rfl (Or.inl rfl))
   (pss_one (ps_asg (pe_methS G_step_of (hr.mono (by first | decide | omega)) (pv 0) (pa_cons (pv 4) (pa_cons (pv 1) (pa_cons (pv 2) (pa_cons (pv 3) pa_nil))))) (pg_sub (pv 3) (pv 4) set_list))))
  (pss_one (ps_ret (pv 3))))), ?_⟩
  refine ⟨_, rfl, b, CB, dx, _, _, rfl, L.ins, T.cl, T.n1, rfl, a, C, dp, _, _, rfl, LP.ins, TP.cl, TP.n1, rfl, ks, rfl, ⟨_, SqL.of LP.hks⟩, fun D hD => ?_⟩
  refine lc_list (K := K) (a := ks) (xs := kL) (fun i Hx => Hx D = some (.lst ((List.replicate (W.sizes x) (V.int (-2))).take i)) ∧ Same H Hx) ?_ ?_ ?_ ?_
  · exact ⟨upd_same, Same.new hD _⟩
  · rintro i Hx _ ⟨_, sx⟩
    exact SqL.of (sx _ _ LP.hks)
  · rintro i e Hx he ⟨hd, sx⟩
    have hi := (List.getElem?_eq_some_iff.mp he).1
    refine ⟨rfl, _, hd, small' (by rw [List.length_take, List.length_replicate]; omega), ?_, Same.put hD sx _⟩
    rw [upd_same, take_more' (x := V.int (-2)) (by rw [List.getElem?_replicate, if_pos (by omega)])]
  · rintro H1 ⟨hd1, s1⟩
    rw [lk, List.take_of_length_le (by rw [List.length_replicate]; exact Nat.le_refl _), ← stepsV_end x cc (stf x T')] at hd1
    walk_at "nx"
    refine ⟨_, rfl, D, _, rfl, .inl (SqL.of hd1), _, rfl, ?_⟩
    rw [stepsV_len]
    refine ⟨by omega, by omega, by omega, by omega, ?_⟩
    rw [show ((((W.sizes x) : Nat) : Int) - 0).toNat = (W.sizes x) by omega]
    refine for_rangeC (fun i σ H' => ∃ x4 : Option V, σ = [some (.ref b), some (.str (sgn cc)), some (.ref ta), some (.ref D), x4, none] ∧ H' D = some (.lst (stepsV x cc (stf x T') ((W.sizes x) - i))) ∧ Same H H') ?_ ?_ ?_
    · exact ⟨none, rfl, hd1, s1⟩
    · rintro i σ H2 hi ⟨x4, rfl, hd2, s2⟩
      have ep : (0 : Int) + (((W.sizes x) : Nat) : Int) - 1 + (i : Nat) * (-1) = (((W.sizes x) - 1 - i : Nat) : Int) := by omega
      rw [ep]
      obtain ⟨m, em⟩ : ∃ m, (W.sizes x) - 1 - i = m := ⟨_, rfl⟩
      have hm : m < (W.sizes x) := by omega
      have e1 : (W.sizes x) - i = m + 1 := by omega
      have e2 : (W.sizes x) - (i + 1) = m := by omega
      rw [em]
      rw [e1] at hd2
      rw [e2]
      obtain ⟨y, fs, hy⟩ := at_all hm
      refine gset ?_
      refine ⟨_, rfl, b, dx, _, rfl, (L.keep s2).ins, rfl, _, rfl, _, rfl, _, rfl, _, rfl, ?_⟩
      refine ⟨b, ta, D, x, y, cc, T', m, fs, rfl, hB.keep s2, s2 _ _ hta, hd2, hok, hy, hfine, fun H3 s3 => ?_⟩
      refine ⟨_, rfl, _, rfl, D, _, _, _, rfl, rfl, s3 _ _ hd2, ix_nat (by rw [stepsV_len]; exact hm), ?_⟩
      refine ⟨_, rfl, ?_, Same.put hD (s2.trans s3) _⟩
      rw [upd_same, ← mWi_at hy, stepsV_set hm]
    · rintro σ H2 ⟨x4, rfl, hd2, s2⟩
      rw [Nat.sub_self] at hd2
      exact ⟨_, rfl, k D H2 s2 hd2⟩
end
end Rk
namespace Rk
open PySem PySem.Spec PyProof.Rows L2 Wv Tk
/-! ### how one goes on behind a leaf -/
def spGo (C CB : Addr) : Sp := fun vs H Q _ => ∃ (b sl : Addr) (w : List W) (x : W) (c : Option Nat) (st : Nat → Nat) (i : Nat) (fs : List Fr), vs = [.ref b, .int (i : Nat), .ref sl] ∧ BaAt C CB H b w ∧ H sl = some (.lst (stepsV w c st 0)) ∧ At w i x fs ∧
  ∀ (q : Addr) (H' : Hp), Same H H' → H' q = some (.tup [.int ((mgo c st i fs).1 : Nat), .int (code w (mgo c st i fs).2.2)]) → Q (.ref q) H'
theorem sq_setC {v : V} {i : Nat} {Y : TS} {D : Ends} {σ : L2.St} {H : Hp} (h : Y D (List.set σ i (some v)) H) : tSeq (tAsg (tC v) (gName i)) Y D σ H := h
/-- what happens behind the part around -/
def nextF (c : Option Nat) (st : Nat → Nat) (gs : List Fr) : Fr → Fs
  | .row j n ws => mR c st j n gs ws
  | .again j y => mW c st j gs (.again y)
  | _ => .ends
theorem mgo_step {c : Option Nat} {st : Nat → Nat} {fr : Fr} {gs : List Fr} {i : Nat} (h : fr.isLook = false) : mgo c st i (fr :: gs) = match nextF c st gs fr with | .ends => mgo c st fr.num gs | r => (i, fr :: gs, r) := by
  cases fr with
  | row j n ws => rw [mgo, nextF]; cases mR c st j n gs ws <;> rfl
  | again j y => rw [mgo, nextF]; cases mW c st j gs (.again y) <;> rfl
  | choice j b => rfl
  | maybe j => rfl
  | look j => cases h
section
variable {P : Program} {w : World} {K : PySem.W.Frag} {mg : Str → Option Value} {base : Heap} {C CB : Addr}
abbrev s_Backward_go_on : Stmt := inClass (top 60) 4
theorem sc_Backward_go_on : FnScope ["self", "leaf", "steps", "part", "above", "kind", "step"] ["self", "leaf", "steps"] (defScope s_Backward_go_on) := ⟨rfl, rfl, rfl, by decide +kernel, rfl, by decide +kernel, by decide +kernel⟩
theorem ok_go {f : Addr} {fd : FuncData} (F : Fun K "go_on" "Backward.go_on" s_Backward_go_on f fd) (T : BaF K CB) (TP : PtF K C) (Kk : Kb mg) (G_first_step : DefOk P w K mg base 1 "first_step" ["numbers", "steps"] spFirst1) :
    FnOk P w K mg base CX0 2 f fd ["self", "leaf", "steps"] (spGo C CB) := by
  have GC_ENDS := Kk.e; have GC_ROW := Kk.c.k3; have GC_AGAIN := Kk.c.k5; have GC_AHEAD := Kk.c.k7; have GC_UNLESS := Kk.c.k8
  refine F.ok sc_Backward_go_on (fun vs H Q E h => by obtain ⟨_, _, _, _, _, _, _, _, rfl, _⟩ := h; rfl) (fun cdv A outer s' H vs Q E hr h => ?_)
  obtain ⟨b, sl, x, y0, cc, st, i0, fs0, rfl, hB, hsl, hy0, k⟩ := h
  obtain ⟨dx, a, ar, lv, so, kvs, L⟩ := id hB
  obtain ⟨dp, ks, ws, ni, ab, la, wh, kL, wL, nL, aL, lL, LP⟩ := L.pt
  refine ⟨_, (pss_cons (ps_set (i := 3) sc_Backward_go_on.nd rfl (Or.inl rfl) (pv 1))
  (pss_cons (ps_while PassesOwn.never (pt_cmpR op_ge (pe_ix ix_list (pe_fld (pe_fld (pv 0) rfl) rfl) (pv 3) (fun _ _ => rfl)) pe_int (nomark _)) (pss_cons (ps_set (i := 4) sc_Backward_go_on.nd rfl (Or.inl rfl) (pe_ix ix_list (pe_fld (pe_fld (pv 0) rfl) rfl) (pv 3) (fun _ _ => rfl)))
  (pss_cons (ps_set (i := 5) sc_Backward_go_on.nd rfl (Or.inl rfl) (pe_ix ix_list (pe_fld (pe_fld (pv 0) rfl) rfl) (pv 4) (fun _ _ => rfl)))
  (pss_cons (ps_if (pt_cmpR op_in_seq (pv 5) (pe_tup (pa_cons (pe_globI rfl GC_AHEAD) (pa_cons (pe_globI rfl GC_UNLESS) pa_nil))) (by rfl)) (pss_one (ps_ret (pe_tup (pa_cons (pv 3) (pa_cons (pe_globI rfl GC_ENDS) pa_nil))))) pss_nil)
  (pss_cons (ps_set (i := 6) sc_Backward_go_on.nd rfl (Or.inl rfl) (pe_globI rfl GC_ENDS))
  (pss_cons (ps_if (pt_cmpR op_eq (pv 5) (pe_globI rfl GC_ROW) (nomark _)) (pss_one (ps_set (i := 6) sc_Backward_go_on.nd rfl (Or.inl rfl) (pe_callD G_first_step (hr.mono (by first | decide | omega)) rfl (pa_cons (pe_ix ix_list (pe_fld (pe_fld (pv 0) rfl) rfl) (pv 3) (fun _ _ => rfl)) (pa_cons (pv 2) pa_nil))))) (pss_one (ps_if (pt_cmpR op_eq (pv 5) (pe_globI rfl GC_AGAIN) (nomark _)) (pss_one (ps_set (i := 6) sc_Backward_go_on.nd rfl (Or.inl rfl) (pe_ix ix_list (pv 2) (pv 4) (fun _ _ => rfl)))) pss_nil)))
  (pss_cons (ps_if (pt_cmpR op_ne (pv 6) (pe_globI rfl GC_ENDS) (nomark _)) (pss_one (ps_ret (pe_tup (pa_cons (pv 3) (pa_cons (pv 6) pa_nil))))) pss_nil)
  (pss_one (ps_set (i := 3) sc_Backward_go_on.nd rfl (Or.inl rfl) (pv 4))))))))))
  (pss_one (ps_ret (pe_tup (pa_cons (pv 3) (pa_cons (pe_globI rfl GC_ENDS) pa_nil))))))), ?_⟩
  refine ⟨_, rfl, ?_⟩
  walk_at "nx"
  refine while_m (fun n σ Hx => ∃ (i : Nat) (y : W) (fs : List Fr) (x4 x5 x6 : Option V), σ = [some (.ref b), some (.int (i0 : Nat)), some (.ref sl), some (.int (i : Nat)), x4, x5, x6] ∧ At x i y fs ∧ mgo cc st i0 fs0 = mgo cc st i fs ∧ n = fs.length ∧ Same H Hx) fs0.length ?_ ?_ (fun σ H Q Q' hq h => ?_)
  · exact ⟨i0, y0, fs0, none, none, none, rfl, hy0, rfl, rfl, Same.refl _⟩
  · rintro n σ Hx ⟨i, y, fs, x4, x5, x6, rfl, hy, hm, rfl, sx⟩
    have Lx := L.keep sx
    have Px := LP.keep sx
    obtain ⟨_, _, _, g5, bl, g6, g7⟩ := Px.at_ i y fs hy
    refine ⟨_, rfl, b, CB, dx, _, _, rfl, Lx.ins, T.cl, T.n1, rfl, a, C, dp, _, _, rfl, Px.ins, TP.cl, TP.n4, rfl, _, rfl, ab, _, _, _, rfl, rfl, SqL.of Px.hab, atI_nat g5, ?_⟩
    refine ⟨_, _, rfl, rfl, _, rfl, ?_⟩
    cases fs with
    | nil =>
      refine ite2 (fun q => absurd (of_decide_eq_true q) (by show ¬ (0 : Int) ≤ -1; decide)) (fun _ => ?_)
      walk_at "nx"
      refine ⟨_, rfl, by show 2 ≤ sizeLine; decide, fun q hq => ?_⟩
      refine k q _ (sx.trans (Same.new hq _)) ?_
      rw [upd_same, hm]
      rfl
    | cons fr gs =>
      have hnum := par_num hy
      obtain ⟨X, hX⟩ := hy.par.up
      refine ite2 (fun _ => ?_) (fun q => absurd (show decide ((0 : Int) ≤ eI (abv (fr :: gs))) = true from decide_eq_true (by show (0 : Int) ≤ ((fr.num : Nat) : Int); omega)) q)
      obtain ⟨h1, _, _, _, _⟩ := Px.at_ fr.num X gs hX
      refine ⟨_, rfl, b, CB, dx, _, _, rfl, Lx.ins, T.cl, T.n1, rfl, a, C, dp, _, _, rfl, Px.ins, TP.cl, TP.n4, rfl, _, rfl, ab, _, _, _, rfl, rfl, SqL.of Px.hab, atI_nat g5, ?_⟩
      walk_at "nx"
      have hX2 : (V.int (eI (abv (fr :: gs)))) = .int ((fr.num : Nat) : Int) := rfl
      refine ⟨_, rfl, b, CB, dx, _, _, rfl, Lx.ins, T.cl, T.n1, rfl, a, C, dp, _, _, rfl, Px.ins, TP.cl, TP.n1, rfl, _, rfl, ks, _, _, _, rfl, hX2, SqL.of Px.hks, atI_nat h1, ?_⟩
      walk_at "nx"
      refine ⟨_, rfl, by show 2 ≤ sizeLine; decide, fun q2 hq2 => ?_⟩
      have s2 := sx.trans (Same.new hq2 (.tup [.int 7, .int 8]))
      have hq3 : upd Hx q2 (.tup [.int 7, .int 8]) q2 = some (.tup [.int 7, .int 8]) := upd_same
      generalize upd Hx q2 (.tup [.int 7, .int 8]) = H2 at *
      refine ⟨q2, _, rfl, .inr (SqT.of hq3), rfl, rfl, _, rfl, ?_⟩
      rw [if_neg Bool.false_ne_true]
      have L2 := L.keep s2
      have P2 := LP.keep s2
      have hsl2 := s2 _ _ hsl
      have hp := hy.par2
      by_cases hlook : fr.isLook = true
      · have hk : X.kind = 7 ∨ X.kind = 8 := by
          cases fr with
          | look j =>
            obtain ⟨q | q, _⟩ := hp
            · exact .inl (by rw [(hX.uniq q).1]; rfl)
            · exact .inr (by rw [(hX.uniq q).1]; rfl)
          | _ => cases hlook
        have hin : inV (V.int ((X.kind : Nat) : Int)) [.int 7, .int 8] = true := by rcases hk with h | h <;> (rw [h]; rfl)
        rw [hin]
        refine iteT ⟨_, rfl, by show 2 ≤ sizeLine; decide, fun q hq => ?_⟩
        refine k q _ (s2.trans (Same.new hq _)) ?_
        rw [upd_same, hm]
        cases fr with
        | look j => rfl
        | _ => cases hlook
      · rw [Bool.not_eq_true] at hlook
        have hk : ((∃ j n ws, fr = .row j n ws) ∧ X.kind = 3) ∨ ((∃ j y, fr = .again j y) ∧ X.kind = 5) ∨ ((∃ j b, fr = .choice j b) ∧ X.kind = 4) ∨ ((∃ j, fr = .maybe j) ∧ X.kind = 6) := by
          cases fr with
          | row j n ws =>
            obtain ⟨pre, q, _⟩ := hp
            exact .inl ⟨⟨_, _, _, rfl⟩, by rw [(hX.uniq q).1]; rfl⟩
          | choice j b =>
            obtain ⟨pre, post, q, _⟩ := hp
            exact .inr (.inr (.inl ⟨⟨_, _, rfl⟩, by rw [(hX.uniq q).1]; rfl⟩))
          | again j u =>
            obtain ⟨q, _⟩ := hp
            exact .inr (.inl ⟨⟨_, _, rfl⟩, by rw [(hX.uniq q).1]; rfl⟩)
          | maybe j =>
            obtain ⟨q, _⟩ := hp
            exact .inr (.inr (.inr ⟨⟨_, rfl⟩, by rw [(hX.uniq q).1]; rfl⟩))
          | look j => cases hlook
        have hin : inV (V.int ((X.kind : Nat) : Int)) [.int 7, .int 8] = false := by rcases hk with ⟨_, h⟩ | ⟨_, h⟩ | ⟨_, h⟩ | ⟨_, h⟩ <;> (rw [h]; rfl)
        rw [hin]
        refine iteF ?_
        walk_at "nx"
        refine sq_setC ?_
        refine st_cut (fun σ' H' => σ' = [some (.ref b), some (.int (i0 : Nat)), some (.ref sl), some (.int (i : Nat)), some (.int ((fr.num : Nat) : Int)), some (.int (X.kind : Nat)), some (.int (code x (nextF cc st gs fr)))] ∧ H' = H2) (fun nx' hnx => ?_) (fun σ' H' hc => ?_)
        · rcases hk with ⟨⟨j, n, ws, rfl⟩, e⟩ | ⟨⟨j, u, rfl⟩, e⟩ | ⟨⟨j, u, rfl⟩, e⟩ | ⟨⟨j, rfl⟩, e⟩
          · obtain ⟨_, _, _, _, bl2, q6, q7⟩ := P2.at_ i y _ hy
            refine ⟨_, rfl, rfl, _, rfl, iteT' (decide_eq_true (by rw [e]; rfl)) ?_⟩
            refine ⟨_, rfl, b, CB, dx, _, _, rfl, L2.ins, T.cl, T.n1, rfl, a, C, dp, _, _, rfl, P2.ins, TP.cl, TP.n5, rfl, _, rfl, la, _, _, _, rfl, rfl, SqL.of P2.hla, atI_nat q6, _, rfl, ?_⟩
            exact ⟨bl2, sl, x, ws, cc, st, j, n, 0, gs, rfl, q7, hsl2, hy.par.1, Nat.zero_le _, hnx _ _ ⟨rfl, rfl⟩⟩
          · refine ⟨_, rfl, rfl, _, rfl, iteN' (by rw [e]; decide) ?_⟩
            refine ⟨_, rfl, rfl, _, rfl, iteT' (decide_eq_true (by rw [e]; rfl)) ?_⟩
            exact ⟨_, rfl, _, rfl, sl, _, _, _, rfl, rfl, SqL.of hsl2, atI_nat (stepsV_at hy.par (Nat.zero_le _)), hnx _ _ ⟨rfl, rfl⟩⟩
          · refine ⟨_, rfl, rfl, _, rfl, iteN' (by rw [e]; decide) ?_⟩
            exact ⟨_, rfl, rfl, _, rfl, iteN' (by rw [e]; decide) (hnx _ _ ⟨rfl, rfl⟩)⟩
          · refine ⟨_, rfl, rfl, _, rfl, iteN' (by rw [e]; decide) ?_⟩
            exact ⟨_, rfl, rfl, _, rfl, iteN' (by rw [e]; decide) (hnx _ _ ⟨rfl, rfl⟩)⟩
        · obtain ⟨rfl, rfl⟩ := hc
          rw [mgo_step hlook] at hm
          refine ⟨_, rfl, rfl, _, rfl, ?_⟩
          rw [code_ends]
          have out : ∀ r, nextF cc st gs fr = r → r ≠ .ends → tRet (tTup (tCons (tVar 3) (tCons (tVar 6) tNil))) { nx := fun _ H' => Q .non H', rt := Q } [some (.ref b), some (.int (i0 : Nat)), some (.ref sl), some (.int (i : Nat)), some (.int ((fr.num : Nat) : Int)), some (.int (X.kind : Nat)), some (.int (code x (nextF cc st gs fr)))] H' := fun r e hne => by
            refine ⟨_, rfl, _, rfl, by show 2 ≤ sizeLine; decide, fun q hq => ?_⟩
            refine k q _ (s2.trans (Same.new hq _)) ?_
            rw [upd_same, hm]
            rw [e]
            cases r with
            | ends => exact absurd rfl hne
            | fails => rfl
            | leaf t => rfl
          cases e : nextF cc st gs fr with
          | ends =>
            rw [e] at hm
            refine iteF ⟨_, rfl, gs.length, by simp, fr.num, X, gs, _, _, _, rfl, hX, hm, rfl, s2⟩
          | fails => rw [e] at out; exact iteT (out _ rfl (by intro z; cases z))
          | leaf t => rw [e] at out; exact iteT (out _ rfl (by intro z; cases z))
  · obtain ⟨v0, e0, p1, c1, d1, f1, w1, e1, i1, l1, n1, k1, p2, c2, d2, f2, w2, e2, i2, l2, n2, k2, v3, e3, p3, xs3, i3, z3, q1, q2, q3, q4, ii, jj, r1, r2, bb, eb, q⟩ := h
    exact ⟨v0, e0, p1, c1, d1, f1, w1, e1, i1, l1, n1, k1, p2, c2, d2, f2, w2, e2, i2, l2, n2, k2, v3, e3, p3, xs3, i3, z3, q1, q2, q3, q4, ii, jj, r1, r2, bb, eb, hq _ _ q⟩
end
end Rk
namespace Rk
open PySem PySem.Spec PyProof.Rows L2 Wv Tk
/-! ### the state at a place -/
theorem mgo_at {w : List W} {c : Option Nat} {st : Nat → Nat} : ∀ (fs : List Fr) (i : Nat) (x : W), At w i x fs → (∃ y, At w (mgo c st i fs).1 y (mgo c st i fs).2.1) ∧ ∀ t, (mgo c st i fs).2.2 = .leaf t → c.isSome = true ∧ t ∈ lvs w
  | [], i, x, h => ⟨⟨x, h⟩, fun t e => by cases e⟩
  | .look j :: fs, i, x, h => ⟨⟨x, h⟩, fun t e => by cases e⟩
  | .choice j b :: fs, i, x, h => by
    obtain ⟨X, hX⟩ := h.par.up
    exact mgo_at fs j X hX
  | .maybe j :: fs, i, x, h => by
    obtain ⟨X, hX⟩ := h.par.up
    exact mgo_at fs j X hX
  | .row j n ws :: fs, i, x, h => by
    obtain ⟨X, hX⟩ := h.par.up
    rw [mgo_step (fr := .row j n ws) rfl, nextF]
    have hl := fun t => mR_leaf (c := c) (st := st) ws j n fs h.par.1 t
    cases e : mR c st j n fs ws with
    | ends => exact mgo_at fs j X hX
    | fails => exact ⟨⟨x, h⟩, fun t e => by cases e⟩
    | leaf s => exact ⟨⟨x, h⟩, fun t e2 => hl t (by rw [e]; exact e2)⟩
  | .again j y :: fs, i, x, h => by
    obtain ⟨X, hX⟩ := h.par.up
    rw [mgo_step (fr := .again j y) rfl, nextF]
    have hl := fun t => mW_leaf (c := c) (st := st) (.again y) j fs h.par t
    cases e : mW c st j fs (.again y) with
    | ends => exact mgo_at fs j X hX
    | fails => exact ⟨⟨x, h⟩, fun t e => by cases e⟩
    | leaf s => exact ⟨⟨x, h⟩, fun t e2 => hl t (by rw [e]; exact e2)⟩
def spState (C CB : Addr) : Sp := fun vs H Q _ => ∃ (b sl ta : Addr) (w : List W) (c : Option Nat) (T : List Nat) (wo : Nat), vs = [.ref b, .ref sl, .ref ta, .int (wo : Nat)] ∧ BaAt C CB H b w ∧ H sl = some (.lst (stepsV w c (stf w T) 0)) ∧ H ta = some (.tup (iV T)) ∧ StOk w c T ∧
  ∀ (q : Addr) (H' : Hp), Same H H' → H' q = some (.tup (iV (nextT w c T wo))) → Q (.ref q) H'
section
variable {P : Program} {w : World} {K : PySem.W.Frag} {mg : Str → Option Value} {base : Heap} {C CB : Addr}
abbrev s_Backward_state_at : Stmt := inClass (top 60) 5
theorem sc_Backward_state_at : FnScope ["self", "steps", "state", "worth", "ranks", "leaf", "part", "step"] ["self", "steps", "state", "worth"] (defScope s_Backward_state_at) := ⟨rfl, rfl, rfl, by decide +kernel, rfl, by decide +kernel, by decide +kernel⟩
theorem ok_state {f : Addr} {fd : FuncData} (F : Fun K "state_at" "Backward.state_at" s_Backward_state_at f fd) (T : BaF K CB) (TP : PtF K C) (B : Bs mg) (Kk : Kb mg) (G_go_on : ScOk P w K mg base CB 2 "go_on" ["self", "leaf", "steps"] (spGo C CB)) :
    FnOk P w K mg base CX0 3 f fd ["self", "steps", "state", "worth"] (spState C CB) := by
  have B_min := B.min; have B_tuple := B.tuple
  refine F.ok sc_Backward_state_at (fun vs H Q E h => by obtain ⟨_, _, _, _, _, _, _, rfl, _⟩ := h; rfl) (fun cdv A outer s' H vs Q E hr h => ?_)
  obtain ⟨b, sl, ta, x, cc, T', wo, rfl, hB, hsl, hta, hok, k⟩ := h
  obtain ⟨dx, a, ar, lv, so, kvs, L⟩ := id hB
  obtain ⟨dp, ks, ws, ni, ab, la, wh, kL, wL, nL, aL, lL, LP⟩ := L.pt
  have hsz := L.sz
  have hll := lvs_le x
  refine ⟨_, (pss_cons (ps_set (i := 4) sc_Backward_state_at.nd rfl (Or.inl rfl) (pe_lst pa_nil))
  (pss_cons (ps_for PassesOwn.never rfl (pi_list (pe_fld (pv 0) rfl)) (pg_name (i := 5) sc_Backward_state_at.nd rfl (Or.inl rfl))
   (pss_cons (ps_asg (pe_methS G_go_on (hr.mono (by first | decide | omega)) (pv 0) (pa_cons (pv 5) (pa_cons (pv 1) pa_nil))) (pg_tup rfl (pgs_cons (pg_name (i := 6) sc_Backward_state_at.nd rfl (Or.inl rfl)) (pgs_cons (pg_name (i := 7) sc_Backward_state_at.nd rfl (Or.inl rfl)) pgs_nil))))
  (pss_one (ps_if (pt_cmpR op_ge (pv 7) pe_int (nomark _)) (pss_one (ps_expr (pe_bm PySem.F.plainAttrs_list PySem.F.slot_list_append PySem.F.type_list_append mt_append (pv 4) (pa_cons (pe_callB (call_min2 rfl) rfl B_min (by decide +kernel) (pa_cons (pe_ix ix_tup (pv 2) (pv 7) (fun _ _ => rfl)) (pa_cons (pe_ix ix_list (pe_fld (pv 0) rfl) (pv 6) (fun _ _ => rfl)) pa_nil))) pa_nil)))) (pss_one (ps_if (pt_cmpR op_eq (pe_ix ix_list (pe_fld (pe_fld (pv 0) rfl) rfl) (pv 6) (fun _ _ => rfl)) (pe_un un_neg pe_int) (nomark _)) (pss_one (ps_expr (pe_bm PySem.F.plainAttrs_list PySem.F.slot_list_append PySem.F.type_list_append mt_append (pv 4) (pa_cons (pv 3) pa_nil)))) (pss_one (ps_expr (pe_bm PySem.F.plainAttrs_list PySem.F.slot_list_append PySem.F.type_list_append mt_append (pv 4) (pa_cons (pe_ix ix_list (pe_fld (pv 0) rfl) (pv 6) (fun _ _ => rfl)) pa_nil))))))))))
  (pss_one (ps_ret (pe_callTy call_tuple_of rfl B_tuple (by decide +kernel) (pa_cons (pv 4) pa_nil)))))), ?_⟩
  refine ⟨Nat.zero_le _, fun D hD => ?_⟩
  have s1 := Same.new hD (.lst [])
  have hd1 : upd H D (.lst []) D = some (.lst (iV ((nextT x cc T' wo).take 0))) := upd_same
  generalize upd H D (.lst []) = H1 at *
  walk_at "nx"
  refine ⟨_, rfl, b, CB, dx, _, _, rfl, (L.keep s1).ins, T.cl, T.n3, rfl, lv, rfl, ⟨_, SqL.of (L.keep s1).hlv⟩, ?_⟩
  refine for_list (K := K) (a := lv) (xs := iV (lvs x)) (fun j σ Hx => ∃ x5 x6 x7 : Option V, σ = [some (.ref b), some (.ref sl), some (.ref ta), some (.int (wo : Nat)), some (.ref D), x5, x6, x7] ∧ Hx D = some (.lst (iV ((nextT x cc T' wo).take j))) ∧ Same H Hx) ?_ ?_ ?_ ?_
  · exact ⟨none, none, none, rfl, hd1, s1⟩
  · rintro j σ Hx _ ⟨_, _, _, rfl, _, sx⟩
    exact SqL.of (L.keep sx).hlv
  · rintro j e σ Hx he ⟨x5, x6, x7, rfl, hd, sx⟩
    obtain ⟨lf, hlf, rfl⟩ := iV_back he
    have hj := (List.getElem?_eq_some_iff.mp hlf).1
    obtain ⟨y, fs, hy, hleaf⟩ := mem_lvs.mp (List.mem_of_getElem? hlf)
    have Lx := L.keep sx
    have hnx : (nextT x cc T' wo)[j]? = some (val (stf x T') wo (mgo cc (stf x T') lf fs)) := by
      unfold nextT
      rw [List.getElem?_map, hlf, ← hy.frs]
      rfl
    have hlen : ((nextT x cc T' wo).take j).length ≤ 100 := by rw [List.length_take]; unfold nextT; rw [List.length_map]; omega
    refine gset ?_
    refine ⟨_, rfl, b, dx, _, rfl, Lx.ins, rfl, _, rfl, _, rfl, ?_⟩
    refine ⟨b, sl, x, y, cc, stf x T', lf, fs, rfl, hB.keep sx, sx _ _ hsl, hy, fun q H2 s2 hq => ?_⟩
    have sx2 := sx.trans s2
    have L2 := L.keep sx2
    have P2 := LP.keep sx2
    have hd2 := s2 _ _ hd
    obtain ⟨⟨y2, hy2⟩, hlf2⟩ := mgo_at (c := cc) (st := stf x T') fs lf y hy
    generalize em : mgo cc (stf x T') lf fs = r at *
    obtain ⟨i2, fs2, r2⟩ := r
    have hy2 : At x i2 y2 fs2 := hy2
    refine ⟨q, _, rfl, SqT.of hq, rfl, .int (i2 : Nat), [.int (code x r2)], rfl, .int (code x r2), [], rfl, rfl, ?_⟩
    have fin : ∀ v : Nat, val (stf x T') wo (i2, fs2, r2) = v → ∃ acc, H2 D = some (.lst acc) ∧ acc.length < sizeLine ∧ upd H2 D (.lst (acc ++ [V.int (v : Nat)])) D = some (.lst (iV ((nextT x cc T' wo).take (j + 1)))) := fun v ev => by
      refine ⟨_, hd2, small' (by simp only [iV, List.length_map]; omega), ?_⟩
      rw [upd_same, take_more' hnx, iV_snoc, ev]
    refine ⟨_, rfl, _, _, rfl, rfl, _, rfl, ?_⟩
    cases r2 with
    | leaf t =>
      obtain ⟨hc, ht⟩ := hlf2 t rfl
      have hg := hok.get hc ht
      refine iteT' (decide_eq_true (by show (0 : Int) ≤ ((slot x t : Nat) : Int); omega)) ?_
      refine ⟨_, rfl, .inl ⟨rfl, _, SqL.of hd2⟩, ?_⟩
      refine ⟨_, rfl, _, rfl, ta, _, _, _, rfl, rfl, SqT.of (sx2 _ _ hta), atI_nat (iV_at hg), ?_⟩
      refine ⟨_, rfl, b, CB, dx, _, _, rfl, L2.ins, T.cl, T.n2, rfl, _, rfl, ar, _, _, _, rfl, rfl, SqL.of L2.har, atI_nat (iV_at (around_at hy2)), ?_⟩
      refine ⟨_, _, rfl, ?_⟩
      obtain ⟨acc, a1, a2, a3⟩ := fin (min (stf x T' t) (ard fs2)) rfl
      have emin : (if ((ard fs2 : Nat) : Int) < ((stf x T' t : Nat) : Int) then ((ard fs2 : Nat) : Int) else ((stf x T' t : Nat) : Int)) = ((min (stf x T' t) (ard fs2) : Nat) : Int) := by
        by_cases q : ard fs2 < stf x T' t
        · rw [if_pos (by omega), Nat.min_eq_right (by omega)]
        · rw [if_neg (by omega), Nat.min_eq_left (by omega)]
      rw [emin]
      exact ⟨D, _, _, rfl, rfl, a1, a2, _, _, _, rfl, a3, Same.put hD sx2 _⟩
    | fails =>
      refine iteN' (by show ¬ decide ((0 : Int) ≤ -2) = true; decide) ?_
      obtain ⟨acc, a1, a2, a3⟩ := fin _ rfl
      refine ⟨_, rfl, b, CB, dx, _, _, rfl, L2.ins, T.cl, T.n1, rfl, a, C, dp, _, _, rfl, P2.ins, TP.cl, TP.n4, rfl, _, rfl, ab, _, _, _, rfl, rfl, SqL.of P2.hab, atI_nat (P2.at_ i2 y2 fs2 hy2).2.2.2.1, _, rfl, rfl, _, rfl, ?_⟩
      cases fs2 with
      | nil =>
        refine iteT' (decide_eq_true rfl) ?_
        exact ⟨_, rfl, .inl ⟨rfl, _, SqL.of hd2⟩, _, rfl, D, _, _, rfl, rfl, a1, a2, _, _, _, rfl, a3, Same.put hD sx2 _⟩
      | cons f gs =>
        refine iteN' (by rw [eI_no]; simp [abv]) ?_
        refine ⟨_, rfl, .inl ⟨rfl, _, SqL.of hd2⟩, _, rfl, b, CB, dx, _, _, rfl, L2.ins, T.cl, T.n2, rfl, _, rfl, ar, _, _, _, rfl, rfl, SqL.of L2.har, atI_nat (iV_at (around_at hy2)), ?_⟩
        exact ⟨D, _, _, rfl, rfl, a1, a2, _, _, _, rfl, a3, Same.put hD sx2 _⟩
    | ends =>
      refine iteN' (by show ¬ decide ((0 : Int) ≤ -1) = true; decide) ?_
      obtain ⟨acc, a1, a2, a3⟩ := fin _ rfl
      refine ⟨_, rfl, b, CB, dx, _, _, rfl, L2.ins, T.cl, T.n1, rfl, a, C, dp, _, _, rfl, P2.ins, TP.cl, TP.n4, rfl, _, rfl, ab, _, _, _, rfl, rfl, SqL.of P2.hab, atI_nat (P2.at_ i2 y2 fs2 hy2).2.2.2.1, _, rfl, rfl, _, rfl, ?_⟩
      cases fs2 with
      | nil =>
        refine iteT' (decide_eq_true rfl) ?_
        exact ⟨_, rfl, .inl ⟨rfl, _, SqL.of hd2⟩, _, rfl, D, _, _, rfl, rfl, a1, a2, _, _, _, rfl, a3, Same.put hD sx2 _⟩
      | cons f gs =>
        refine iteN' (by rw [eI_no]; simp [abv]) ?_
        refine ⟨_, rfl, .inl ⟨rfl, _, SqL.of hd2⟩, _, rfl, b, CB, dx, _, _, rfl, L2.ins, T.cl, T.n2, rfl, _, rfl, ar, _, _, _, rfl, rfl, SqL.of L2.har, atI_nat (iV_at (around_at hy2)), ?_⟩
        exact ⟨D, _, _, rfl, rfl, a1, a2, _, _, _, rfl, a3, Same.put hD sx2 _⟩
  · rintro σ Hx ⟨x5, x6, x7, rfl, hd, sx⟩
    rw [List.take_of_length_le (by unfold nextT; simp only [iV, List.length_map]; exact Nat.le_refl _)] at hd
    refine ⟨_, rfl, D, _, rfl, .inl ⟨SqL.of hd, fun q hq => ?_⟩⟩
    exact k q _ (sx.trans (Same.new hq _)) upd_same
end
end Rk
namespace Rk
open PySem PySem.Spec PyProof.Rows L2 Wv Tk
/-! ### what whole ways do at a place -/
def rv (st : Nat → Nat) (wo : Nat) : Fs → Nat
  | .leaf t => min (st t) 2
  | .ends => wo
  | .fails => 2
def resF (c : Option Nat) (st : Nat → Nat) (wo : Nat) : Nat → List W → List Nat
  | _, [] => []
  | n, y :: ws => rv st wo (mW c st n [] y) :: resF c st wo (n + y.size) ws
theorem resF_len (c : Option Nat) (st : Nat → Nat) (wo : Nat) : ∀ (ws : List W) (n : Nat), (resF c st wo n ws).length = ws.length
  | [], _ => rfl
  | y :: ws, n => by rw [resF, List.length_cons, List.length_cons, resF_len c st wo ws]
theorem resF_app (c : Option Nat) (st : Nat → Nat) (wo : Nat) : ∀ (a b : List W) (n : Nat), resF c st wo n (a ++ b) = resF c st wo n a ++ resF c st wo (n + W.sizes a) b
  | [], b, n => rfl
  | y :: a, b, n => by rw [List.cons_append, resF, resF, resF_app c st wo a b, W.sizes, List.cons_append, Nat.add_assoc]
theorem resF_take {c : Option Nat} {st : Nat → Nat} {wo : Nat} {w : List W} {j : Nat} {y : W} (h : w[j]? = some y) : resF c st wo 0 (w.take (j + 1)) = resF c st wo 0 (w.take j) ++ [rv st wo (mW c st (W.sizes (w.take j)) [] y)] := by
  rw [take_more' h, resF_app, Nat.zero_add]
  rfl
/-- what a way does that begins at the place: the rank of where it ends -/
def due (z : List Nat) (p : Nat) (wo : Nat → Nat) (y : W) : Nat := match ew z y p with
  | some q => wo q
  | none => 2
theorem rv_due {w : List W} {z : List Nat} {p : Nat} {wo : Nat → Nat} {st : Nat → Nat} (hp : p ≤ z.length) (hw : ∀ q, wo q ≤ 2) (hR : p < z.length → Ranks w z (p + 1) wo st) {y : W} {n : Nat} (hy : At w n y []) :
    rv st (wo p) (mW z[p]? st n [] y) = due z p wo y := by
  rw [mW_eq hp hR y n [] hy]
  have F := first_W (z := z) y n [] p hp hy
  unfold due
  cases e : fst z p n y with
  | ends => rw [e] at F; have F : ew z y p = some p := F; rw [F]; rfl
  | fails => rw [e] at F; have F : ew z y p = none := F; rw [F]; rfl
  | leaf s =>
    rw [e] at F
    obtain ⟨y', gs, ha, hl, hg, hp1, F⟩ := F
    have R := (hR hp1 s y' gs [] ha hl hg).whole rfl
    rw [← F] at R
    show min (st s) 2 = _
    cases eo : ew z y p with
    | none =>
      rw [eo] at R
      have h1 := R 1 (Nat.le_refl _)
      have : ¬ st s ≤ 1 := fun q => by obtain ⟨_, z, _⟩ := h1.mp q; cases z
      show min (st s) 2 = 2
      omega
    | some q =>
      rw [eo] at R
      have h0 := R 0 (Nat.zero_le _)
      have h1 := R 1 (Nat.le_refl _)
      have hq := hw q
      show min (st s) 2 = wo q
      by_cases c0 : wo q ≤ 0
      · have := h0.mpr ⟨q, rfl, c0⟩; omega
      · by_cases c1 : wo q ≤ 1
        · have a1 := h1.mpr ⟨q, rfl, c1⟩
          have a0 : ¬ st s ≤ 0 := fun z => by obtain ⟨q', e', h'⟩ := h0.mp z; cases e'; exact c0 h'
          omega
        · have a1 : ¬ st s ≤ 1 := fun z => by obtain ⟨q', e', h'⟩ := h1.mp z; cases e'; exact c1 h'
          omega
theorem resF_due {w : List W} {z : List Nat} {p : Nat} {wo : Nat → Nat} {st : Nat → Nat} (hp : p ≤ z.length) (hw : ∀ q, wo q ≤ 2) (hR : p < z.length → Ranks w z (p + 1) wo st) :
    ∀ (post pre : List W), w = pre ++ post → resF z[p]? st (wo p) (W.sizes pre) post = post.map (due z p wo)
  | [], _, _ => rfl
  | y :: post, pre, e => by
    have hy : At w (W.sizes pre) y [] := by rw [e]; exact at_root pre y post
    have ih := resF_due hp hw hR post (pre ++ [y]) (by rw [e]; simp)
    rw [W.sizes_app, W.sizes, W.sizes] at ih
    rw [resF, List.map_cons, rv_due hp hw hR hy]
    exact congrArg _ ih
def spResults (C CB : Addr) : Sp := fun vs H Q _ => ∃ (b sl ta : Addr) (w : List W) (c : Option Nat) (T : List Nat) (wo : Nat), vs = [.ref b, .ref sl, .ref ta, .int (wo : Nat)] ∧ BaAt C CB H b w ∧ H sl = some (.lst (stepsV w c (stf w T) 0)) ∧ H ta = some (.tup (iV T)) ∧ StOk w c T ∧
  ∀ (q : Addr) (H' : Hp), Same H H' → H' q = some (.lst (iV (resF c (stf w T) wo 0 w))) → Q (.ref q) H'
def spTurned (C CB : Addr) : Sp := fun vs H Q _ => ∃ (b ta : Addr) (w : List W) (c : Option Nat) (T : List Nat) (wo : Nat), vs = [.ref b, .str (sgn c), .ref ta, .int (wo : Nat)] ∧ BaAt C CB H b w ∧ H ta = some (.tup (iV T)) ∧ StOk w c T ∧ Fine w ∧
  ∀ (q r t : Addr) (H' : Hp), Same H H' → H' q = some (.tup [.ref r, .ref t]) → H' r = some (.tup (iV (resF c (stf w T) wo 0 w))) → H' t = some (.tup (iV (nextT w c T wo))) → Q (.ref q) H'
section
variable {P : Program} {w : World} {K : PySem.W.Frag} {mg : Str → Option Value} {base : Heap} {C CB : Addr}
abbrev s_Backward_results_at : Stmt := inClass (top 60) 6
theorem sc_Backward_results_at : FnScope ["self", "steps", "state", "worth", "results", "part", "step"] ["self", "steps", "state", "worth"] (defScope s_Backward_results_at) := ⟨rfl, rfl, rfl, by decide +kernel, rfl, by decide +kernel, by decide +kernel⟩
theorem ok_results {f : Addr} {fd : FuncData} (F : Fun K "results_at" "Backward.results_at" s_Backward_results_at f fd) (T : BaF K CB) (TP : PtF K C) (B : Bs mg) (Kk : Kb mg) : FnOk P w K mg base CX0 1 f fd ["self", "steps", "state", "worth"] (spResults C CB) := by
  have B_min := B.min; have GC_MISSES := Kk.m; have GC_ENDS := Kk.e
  refine F.ok sc_Backward_results_at (fun vs H Q E h => by obtain ⟨_, _, _, _, _, _, _, rfl, _⟩ := h; rfl) (fun cdv A outer s' H vs Q E hr h => ?_)
  obtain ⟨b, sl, ta, x, cc, T', wo, rfl, hB, hsl, hta, hok, k⟩ := h
  obtain ⟨dx, a, ar, lv, so, kvs, L⟩ := id hB
  obtain ⟨dp, ks, ws, ni, ab, la, wh, kL, wL, nL, aL, lL, LP⟩ := L.pt
  have hsz := L.sz
  have hxl := W.sizes_len x
  refine ⟨_, (pss_cons (ps_set (i := 4) sc_Backward_results_at.nd rfl (Or.inl rfl) (pe_lst pa_nil))
  (pss_cons (ps_for PassesOwn.never rfl (pi_list (pe_fld (pe_fld (pv 0) rfl) rfl)) (pg_name (i := 5) sc_Backward_results_at.nd rfl (Or.inl rfl))
   (pss_cons (ps_set (i := 6) sc_Backward_results_at.nd rfl (Or.inl rfl) (pe_ix ix_list (pv 1) (pv 5) (fun _ _ => rfl)))
  (pss_one (ps_if (pt_cmpR op_ge (pv 6) pe_int (nomark _)) (pss_one (ps_expr (pe_bm PySem.F.plainAttrs_list PySem.F.slot_list_append PySem.F.type_list_append mt_append (pv 4) (pa_cons (pe_callB (call_min2 rfl) rfl B_min (by decide +kernel) (pa_cons (pe_ix ix_tup (pv 2) (pv 6) (fun _ _ => rfl)) (pa_cons (pe_globI rfl GC_MISSES) pa_nil))) pa_nil)))) (pss_one (ps_expr (pe_bm PySem.F.plainAttrs_list PySem.F.slot_list_append PySem.F.type_list_append mt_append (pv 4) (pa_cons (pe_ifExp (pt_cmpR op_eq (pv 6) (pe_globI rfl GC_ENDS) (nomark _)) (pv 3) (pe_globI rfl GC_MISSES)) pa_nil))))))))
  (pss_one (ps_ret (pv 4))))), ?_⟩
  refine ⟨Nat.zero_le _, fun D hD => ?_⟩
  have s1 := Same.new hD (.lst [])
  have hd1 : upd H D (.lst []) D = some (.lst (iV (resF cc (stf x T') wo 0 (x.take 0)))) := upd_same
  generalize upd H D (.lst []) = H1 at *
  walk_at "nx"
  refine ⟨_, rfl, b, CB, dx, _, _, rfl, (L.keep s1).ins, T.cl, T.n1, rfl, a, C, dp, _, _, rfl, (LP.keep s1).ins, TP.cl, TP.n6, rfl, wh, rfl, ⟨_, SqL.of (LP.keep s1).hwh⟩, ?_⟩
  refine for_list (K := K) (a := wh) (xs := iV (offs 0 x)) (fun j σ Hx => ∃ x5 x6 : Option V, σ = [some (.ref b), some (.ref sl), some (.ref ta), some (.int (wo : Nat)), some (.ref D), x5, x6] ∧ Hx D = some (.lst (iV (resF cc (stf x T') wo 0 (x.take j)))) ∧ Same H Hx) ?_ ?_ ?_ ?_
  · exact ⟨none, none, rfl, hd1, s1⟩
  · rintro j σ Hx _ ⟨_, _, rfl, _, sx⟩
    exact SqL.of (LP.keep sx).hwh
  · rintro j e σ Hx he ⟨x5, x6, rfl, hd, sx⟩
    obtain ⟨n, hn, rfl⟩ := iV_back he
    have hj := (List.getElem?_eq_some_iff.mp hn).1
    rw [offs_len] at hj
    obtain ⟨y, hy⟩ : ∃ y, x[j]? = some y := ⟨x[j], List.getElem?_eq_getElem hj⟩
    have esp := take_split hy
    have hroot : At x (W.sizes (x.take j)) y [] := by conv => arg 1; rw [esp]
                                                      exact at_root _ y _
    have en : n = W.sizes (x.take j) := by
      have h2 := offs_at (pre := x.take j) (post := x.drop (j + 1)) (y := y) (n := 0)
      rw [← esp, List.length_take, Nat.min_eq_left (Nat.le_of_lt hj), hn] at h2
      have := Option.some.inj h2
      omega
    subst en
    have hsl' := sx _ _ hsl
    have hlen : (resF cc (stf x T') wo 0 (x.take j)).length ≤ 100 := by rw [resF_len, List.length_take]; omega
    have fin : ∀ v : Nat, rv (stf x T') wo (mW cc (stf x T') (W.sizes (x.take j)) [] y) = v → ∀ H2, Same Hx H2 → ∃ acc, H2 D = some (.lst acc) ∧ acc.length < sizeLine ∧ upd H2 D (.lst (acc ++ [V.int (v : Nat)])) D = some (.lst (iV (resF cc (stf x T') wo 0 (x.take (j + 1))))) := fun v ev H2 s2 => by
      refine ⟨_, s2 _ _ hd, small' (by simp only [iV, List.length_map]; omega), ?_⟩
      rw [upd_same, resF_take hy, iV_snoc, ev]
    refine gset ?_
    refine ⟨_, rfl, _, rfl, sl, _, _, _, rfl, rfl, SqL.of hsl', atI_nat (stepsV_at hroot (Nat.zero_le _)), ?_⟩
    walk_at "nx"
    refine ⟨_, rfl, _, _, rfl, rfl, _, rfl, ?_⟩
    cases e : mW cc (stf x T') (W.sizes (x.take j)) [] y with
    | leaf t =>
      rw [e] at fin
      obtain ⟨hc, ht⟩ := mW_leaf y _ _ hroot t e
      have hg := hok.get hc ht
      refine iteT' (decide_eq_true (by show (0 : Int) ≤ ((slot x t : Nat) : Int); omega)) ?_
      refine ⟨_, rfl, .inl ⟨rfl, _, SqL.of hd⟩, ?_⟩
      refine ⟨_, rfl, _, rfl, ta, _, _, _, rfl, rfl, SqT.of (sx _ _ hta), atI_nat (iV_at hg), ?_⟩
      refine ⟨_, _, rfl, ?_⟩
      obtain ⟨acc, a1, a2, a3⟩ := fin (min (stf x T' t) 2) rfl Hx (Same.refl _)
      have emin : (if (2 : Int) < ((stf x T' t : Nat) : Int) then (2 : Int) else ((stf x T' t : Nat) : Int)) = ((min (stf x T' t) 2 : Nat) : Int) := by
        by_cases q : 2 < stf x T' t
        · rw [if_pos (by omega), Nat.min_eq_right (by omega)]; rfl
        · rw [if_neg (by omega), Nat.min_eq_left (by omega)]
      rw [emin]
      exact ⟨D, _, _, rfl, rfl, a1, a2, _, _, rfl, a3, Same.put hD sx _⟩
    | fails =>
      rw [e] at fin
      refine iteN' (by show ¬ decide ((0 : Int) ≤ -2) = true; decide) ?_
      obtain ⟨acc, a1, a2, a3⟩ := fin 2 rfl Hx (Same.refl _)
      refine ⟨_, rfl, .inl ⟨rfl, _, SqL.of hd⟩, ?_⟩
      refine ⟨_, rfl, rfl, _, rfl, iteN' (by show ¬ decide (V.int (-2) = V.int (-1)) = true; decide) ?_⟩
      exact ⟨D, _, _, rfl, rfl, a1, a2, _, _, rfl, a3, Same.put hD sx _⟩
    | ends =>
      rw [e] at fin
      refine iteN' (by show ¬ decide ((0 : Int) ≤ -1) = true; decide) ?_
      obtain ⟨acc, a1, a2, a3⟩ := fin wo rfl Hx (Same.refl _)
      refine ⟨_, rfl, .inl ⟨rfl, _, SqL.of hd⟩, ?_⟩
      refine ⟨_, rfl, rfl, _, rfl, iteT' (decide_eq_true rfl) ?_⟩
      exact ⟨_, rfl, D, _, _, rfl, rfl, a1, a2, _, _, rfl, a3, Same.put hD sx _⟩
  · rintro σ Hx ⟨x5, x6, rfl, hd, sx⟩
    rw [List.take_of_length_le (by simp only [iV, List.length_map, offs_len]; exact Nat.le_refl _)] at hd
    exact ⟨_, rfl, k D Hx sx hd⟩
abbrev s_Backward_turned : Stmt := inClass (top 60) 7
theorem sc_Backward_turned : FnScope ["self", "letter", "state", "worth", "steps"] ["self", "letter", "state", "worth"] (defScope s_Backward_turned) := ⟨rfl, rfl, rfl, by decide +kernel, rfl, by decide +kernel, by decide +kernel⟩
theorem ok_turned {f : Addr} {fd : FuncData} (F : Fun K "turned" "Backward.turned" s_Backward_turned f fd) (T : BaF K CB) (B : Bs mg) (G_steps_at : ScOk P w K mg base CB 3 "steps_at" ["self", "letter", "state"] (spSteps C CB)) (G_results_at : ScOk P w K mg base CB 1 "results_at" ["self", "steps", "state", "worth"] (spResults C CB))
    (G_state_at : ScOk P w K mg base CB 3 "state_at" ["self", "steps", "state", "worth"] (spState C CB)) : FnOk P w K mg base CX0 4 f fd ["self", "letter", "state", "worth"] (spTurned C CB) := by
  have B_tuple := B.tuple
  refine F.ok sc_Backward_turned (fun vs H Q E h => by obtain ⟨_, _, _, _, _, _, rfl, _⟩ := h; rfl) (fun cdv A outer s' H vs Q E hr h => ?_)
  obtain ⟨b, ta, x, cc, T', wo, rfl, hB, hta, hok, hfine, k⟩ := h
  obtain ⟨dx, a, ar, lv, so, kvs, L⟩ := id hB
  refine ⟨_, (pss_cons (ps_set (i := 4) sc_Backward_turned.nd rfl (Or.inl rfl) (pe_methS G_steps_at (hr.mono (by first | decide | omega)) (pv 0) (pa_cons (pv 1) (pa_cons (pv 2) pa_nil))))
  (pss_one (ps_ret (pe_tup (pa_cons (pe_callTy call_tuple_of rfl B_tuple (by decide +kernel) (pa_cons (pe_methS G_results_at (hr.mono (by first | decide | omega)) (pv 0) (pa_cons (pv 4) (pa_cons (pv 2) (pa_cons (pv 3) pa_nil)))) pa_nil)) (pa_cons (pe_methS G_state_at (hr.mono (by first | decide | omega)) (pv 0) (pa_cons (pv 4) (pa_cons (pv 2) (pa_cons (pv 3) pa_nil)))) pa_nil)))))), ?_⟩
  refine ⟨_, rfl, b, dx, _, rfl, L.ins, rfl, _, rfl, _, rfl, b, ta, x, cc, T', rfl, hB, hta, hok, hfine, fun sl H1 s1 hsl => ?_⟩
  walk_at "nx"
  refine ⟨_, rfl, b, dx, _, rfl, (L.keep s1).ins, rfl, _, rfl, _, rfl, _, rfl, b, sl, ta, x, cc, T', wo, rfl, hB.keep s1, hsl, s1 _ _ hta, hok, fun q H2 s2 hq => ?_⟩
  have s12 := s1.trans s2
  refine ⟨q, _, rfl, .inl ⟨SqL.of hq, fun r hr' => ?_⟩⟩
  have s3 := s12.trans (Same.new hr' (.tup (iV (resF cc (stf x T') wo 0 x))))
  have hr3 : upd H2 r (.tup (iV (resF cc (stf x T') wo 0 x))) r = some (.tup (iV (resF cc (stf x T') wo 0 x))) := upd_same
  have hsl3 := (s2.trans (Same.new hr' (.tup (iV (resF cc (stf x T') wo 0 x))))) _ _ hsl
  generalize upd H2 r (.tup (iV (resF cc (stf x T') wo 0 x))) = H3 at *
  refine ⟨_, rfl, b, dx, _, rfl, (L.keep s3).ins, rfl, _, rfl, _, rfl, _, rfl, b, sl, ta, x, cc, T', wo, rfl, hB.keep s3, hsl3, s3 _ _ hta, hok, fun t H4 s4 ht => ?_⟩
  refine ⟨by show 2 ≤ sizeLine; decide, fun p hp => ?_⟩
  have s5 := Same.new hp (.tup [.ref r, .ref t])
  exact k p r t _ (s3.trans (s4.trans s5)) upd_same (s5 _ _ (s4 _ _ hr3)) (s5 _ _ ht)
end
end Rk
namespace Wv
open PySem PySem.Spec PyProof.Rows L2
/-! ### Way.__len__, Way.__eq__, Way.at -/
def W.at? : W → List Int → Option W
  | w, [] => some w
  | w, i :: is => match w.inner[i.toNat]? with
    | some u => W.at? u is
    | none => none
def Told (c : Cs) (H : Hp) (r : V) : Option W → Prop
  | some u => ObjAt c H r u
  | none => r = .non
def spLenW (c : Cs) : Sp := fun vs H Q _ => ∃ (v : V) (w : W), vs = [v] ∧ ObjAt c H v w ∧ w.size ≤ 1000 ∧ ∀ H', Same H H' → Q (.int w.size) H'
def spAt (c : Cs) : Sp := fun vs H Q _ => ∃ (v : V) (w : W) (pa : Addr) (is : List Int), vs = [v, .ref pa] ∧ ObjAt c H v w ∧ H pa = some (.tup (is.map V.int)) ∧ (∀ i ∈ is, 0 ≤ i) ∧ ∀ (r : V) (H' : Hp), Same H H' → Told c H' r (w.at? is) → Q r H'
section
variable {P : Program} {w : World} {K : PySem.W.Frag} {mg : Str → Option Value} {base : Heap} {c : Cs}
abbrev s_Way_len : Stmt := inClass (top 22) 4
theorem sc_Way_len : FnScope ["self"] ["self"] (defScope s_Way_len) := ⟨rfl, rfl, rfl, by decide +kernel, rfl, by decide +kernel, by decide +kernel⟩
theorem ok_Way_len {f : Addr} {fd : FuncData} (F : Fun K "__len__" "Way.__len__" s_Way_len f fd) (B : Bs mg) (G_parts_of : DefOk P w K mg base 2 "parts_of" ["way"] (spParts c)) : FnOk P w K mg base CX0 3 f fd ["self"] (spLenW c) := by
  have B_len := B.len
  refine F.ok sc_Way_len (fun vs H Q E h => by obtain ⟨v, w, rfl, _⟩ := h; rfl) (fun cdv A outer s H vs Q E hr h => ?_)
  obtain ⟨v, x, rfl, hv, hx, k⟩ := h
  refine ⟨_, (pss_one (ps_ret (pe_callB call_len_seq rfl B_len PySem.boot_len (pa_cons (pe_callD G_parts_of (hr.mono (by first | decide | omega)) rfl (pa_cons (pv 0) pa_nil)) pa_nil)))), ?_⟩
  refine ⟨_, rfl, v, x, rfl, hv, hx, fun p ps H' s1 hp hl _ => ?_⟩
  refine ⟨p, ps, rfl, .inl (SqL.of hp), ?_⟩
  rw [hl]
  exact k H' s1
abbrev s_Way_eq : Stmt := inClass (top 22) 3
theorem sc_Way_eq : FnScope ["self", "other"] ["self", "other"] (defScope s_Way_eq) := ⟨rfl, rfl, rfl, by decide +kernel, rfl, by decide +kernel, by decide +kernel⟩
theorem ok_Way_eq {f wy : Addr} {fd : FuncData} (F : Fun K "__eq__" "Way.__eq__" s_Way_eq f fd) (A : AllF K mg c) (GK_Way : mg "Way" = some (.ref wy)) (hW : ∀ x : W, PySem.W.kitOne K (.ref (c.of x)) (.ref wy) = some true) (B : Bs mg)
    (G_same_ways : DefOk P w K mg base 2 "same_ways" ["one", "other"] (spSameW c)) : FnOk P w K mg base CX0 3 f fd ["self", "other"] (spEq fun a b H => DW c (.ref a) (.ref b) H) := by
  have B_isinstance := B.isinstance
  refine F.ok sc_Way_eq (fun vs H Q E h => by obtain ⟨a, b, rfl, _⟩ := h; rfl) (fun cdv A' outer s H vs Q E hr h => ?_)
  obtain ⟨a, b, rfl, ⟨x, hx, ha, hb⟩, k⟩ := h
  refine ⟨_, (pss_one (ps_ret (pe_and (pe_callB call_isi rfl B_isinstance (by decide +kernel) (pa_cons (pv 1) (pa_cons (pe_globC rfl GK_Way) pa_nil))) (pe_one (pe_callD G_same_ways (hr.mono (by first | decide | omega)) rfl (pa_cons (pv 0) (pa_cons (pv 1) pa_nil))))))), ?_⟩
  refine ⟨_, rfl, .ref b, .ref wy, _, _, _, rfl, .own _, hb.ty A, hW x, _, rfl, ?_⟩
  refine iteT ?_
  exact ⟨_, rfl, _, rfl, .ref a, .ref b, x, rfl, ha, hb, hx, fun H' s => k H' s⟩
abbrev s_Way_at : Stmt := inClass (top 22) 2
theorem sc_Way_at : FnScope ["self", "path", "part", "index", "inner"] ["self", "path"] (defScope s_Way_at) := ⟨rfl, rfl, rfl, by decide +kernel, rfl, by decide +kernel, by decide +kernel⟩
theorem ok_Way_at {f : Addr} {fd : FuncData} (F : Fun K "at" "Way.at" s_Way_at f fd) (B : Bs mg) (G_made_of : DefOk P w K mg base 1 "made_of" ["way"] (spMadeOf c)) : FnOk P w K mg base CX0 2 f fd ["self", "path"] (spAt c) := by
  have B_len := B.len
  refine F.ok sc_Way_at (fun vs H Q E h => by obtain ⟨v, w, pa, is, rfl, _⟩ := h; rfl) (fun cdv A' outer s H vs Q E hr h => ?_)
  obtain ⟨v, x, pa, is, rfl, hv, hp, hn, k⟩ := h
  refine ⟨_, (pss_cons (ps_set (i := 2) sc_Way_at.nd rfl (Or.inl rfl) (pv 0))
  (pss_cons (ps_for PassesOwn.never rfl (pi_tup (pv 1)) (pg_name (i := 3) sc_Way_at.nd rfl (Or.inl rfl))
   (pss_cons (ps_set (i := 4) sc_Way_at.nd rfl (Or.inl rfl) (pe_callD G_made_of (hr.mono (by first | decide | omega)) rfl (pa_cons (pv 2) pa_nil)))
  (pss_cons (ps_if (pt_cmpR op_ge (pv 3) (pe_callB call_len_seq rfl B_len PySem.boot_len (pa_cons (pv 4) pa_nil)) (nomark _)) (pss_one (ps_ret pe_non)) pss_nil)
  (pss_one (ps_set (i := 2) sc_Way_at.nd rfl (Or.inl rfl) (pe_ix ix_tup (pv 4) (pv 3) (fun _ _ => rfl)))))))
  (pss_one (ps_ret (pv 2))))), ?_⟩
  walk_at "rd"
  walk_at "nx"
  refine ⟨⟨_, SqT.of hp⟩, ?_⟩
  refine for_tup (K := K) (a := pa) (xs := is.map V.int) (fun i σ H' => ∃ (part : V) (u : W) (x3 x4 : Option V), σ = [some v, some (.ref pa), some part, x3, x4] ∧ ObjAt c H' part u ∧ u.at? (is.drop i) = x.at? is ∧ Same H H') ?_ ?_ ?_ ?_
  · exact ⟨v, x, none, none, rfl, hv, rfl, fun _ _ h => h⟩
  · rintro i σ H' _ ⟨part, u, x3, x4, rfl, _, _, s1⟩
    exact SqT.of (s1 _ _ hp)
  · rintro i y σ H1 hy ⟨part, u, x3, x4, rfl, hu, ha, s1⟩
    obtain ⟨j, hj, rfl⟩ : ∃ j, is[i]? = some j ∧ V.int j = y := by simpa using hy
    have hj0 : 0 ≤ j := hn j (List.mem_of_getElem? hj)
    have hd : is.drop i = j :: is.drop (i + 1) := by
      obtain ⟨hi, e⟩ := List.getElem?_eq_some_iff.mp hj
      rw [List.drop_eq_getElem_cons hi, e]
    rw [hd] at ha
    walk_at "nx"
    refine ⟨_, rfl, part, u, rfl, hu, fun t us H2 s2 ht hus => ?_⟩
    have hl := ObjsAt.len _ _ hus
    have s12 := s1.trans s2
    walk_at "nx"
    refine ⟨_, rfl, _, rfl, t, us, rfl, .inr (SqT.of ht), _, _, rfl, rfl, _, rfl, ?_⟩
    refine ite2 (fun e => ?_) (fun e => ?_)
    · have e : ((us.length : Nat) : Int) ≤ j := of_decide_eq_true e
      walk_at "nx"
      walk_at "rd"
      refine k _ H2 s12 ?_
      rw [← ha]
      have q : u.inner[j.toNat]? = none := List.getElem?_eq_none (by omega)
      show Told c H2 .non (match u.inner[j.toNat]? with | some u => W.at? u (is.drop (i + 1)) | none => none)
      rw [q]
      rfl
    · have e : j < (us.length : Nat) := by
        by_cases h : j < (us.length : Nat)
        · exact h
        · exact absurd (decide_eq_true (show ((us.length : Nat) : Int) ≤ j by omega)) e
      walk_at "nx"
      have hjn : j.toNat < u.inner.length := by omega
      have q : u.inner[j.toNat]? = some (u.inner[j.toNat]) := List.getElem?_eq_getElem hjn
      obtain ⟨z, hz, hzw⟩ := ObjsAt.at_ _ _ _ _ hus q
      obtain ⟨z', hz', hat⟩ := atI_of (xs := us) hj0 e
      have ez : z = z' := Option.some.inj (hz.symm.trans hz')
      subst ez
      refine ⟨_, rfl, _, rfl, t, _, _, z, rfl, rfl, SqT.of ht, hat, ?_⟩
      refine ⟨z, _, _, _, rfl, hzw, ?_, s12⟩
      rw [← ha]
      show _ = (match u.inner[j.toNat]? with | some u => W.at? u (is.drop (i + 1)) | none => none)
      rw [q]
  · rintro σ H' ⟨part, u, x3, x4, rfl, hu, ha, s1⟩
    rw [List.length_map, List.drop_length] at ha
    walk_at "nx"
    walk_at "rd"
    refine k part H' s1 ?_
    rw [← ha]
    exact hu
end
end Wv
namespace Rk
open PySem PySem.Spec PyProof.Rows L2 Wv Tk
/-! ### what is asked first of all -/
mutual
theorem fine_W {z : List Nat} : ∀ (w : W) (n : Nat) (fs : List Fr), w.wf z → ∀ e ∈ layW n fs w, e.1.kind < 9 ∧ e.1 ≠ .choice []
  | .row ws, n, fs, h, e, he => by
    rw [layW] at he
    rcases List.mem_cons.mp he with rfl | he
    · exact ⟨by show 3 < 9; decide, fun q => nomatch q⟩
    · exact fine_R ws _ _ _ h.2 e he
  | .choice ws, n, fs, h, e, he => by
    rw [layW] at he
    rcases List.mem_cons.mp he with rfl | he
    · refine ⟨by show 4 < 9; decide, fun q => ?_⟩
      have q : ws = [] := W.choice.inj q
      have h2 := h.1
      rw [q] at h2
      exact absurd h2 (by decide)
    · exact fine_C ws _ _ _ h.2 e he
  | .again y, n, fs, h, e, he => by
    rw [layW] at he
    rcases List.mem_cons.mp he with rfl | he
    · exact ⟨by show 5 < 9; decide, fun q => nomatch q⟩
    · exact fine_W y _ _ h e he
  | .maybe y, n, fs, h, e, he => by
    rw [layW] at he
    rcases List.mem_cons.mp he with rfl | he
    · exact ⟨by show 6 < 9; decide, fun q => nomatch q⟩
    · exact fine_W y _ _ h e he
  | .ahead y, n, fs, h, e, he => by
    rw [layW] at he
    rcases List.mem_cons.mp he with rfl | he
    · exact ⟨by show 7 < 9; decide, fun q => nomatch q⟩
    · exact fine_W y _ _ h e he
  | .unless y, n, fs, h, e, he => by
    rw [layW] at he
    rcases List.mem_cons.mp he with rfl | he
    · exact ⟨by show 8 < 9; decide, fun q => nomatch q⟩
    · exact fine_W y _ _ h e he
  | .letter c, n, fs, h, e, he => by
    rw [layW, List.mem_singleton] at he
    subst he
    exact ⟨by show 0 < 9; decide, fun q => nomatch q⟩
  | .one, n, fs, h, e, he => by
    rw [layW, List.mem_singleton] at he
    subst he
    exact ⟨by show 1 < 9; decide, fun q => nomatch q⟩
  | .nothing, n, fs, h, e, he => by
    rw [layW, List.mem_singleton] at he
    subst he
    exact ⟨by show 2 < 9; decide, fun q => nomatch q⟩
  | .call x, n, fs, h, e, he => h.elim
theorem fine_R {z : List Nat} : ∀ (ws : List W) (i n : Nat) (fs : List Fr), W.wfs z ws → ∀ e ∈ layR i n fs ws, e.1.kind < 9 ∧ e.1 ≠ .choice []
  | [], i, n, fs, h, e, he => by rw [layR] at he; cases he
  | y :: ws, i, n, fs, h, e, he => by
    rw [layR] at he
    rcases List.mem_append.mp he with he | he
    · exact fine_W y _ _ h.1 e he
    · exact fine_R ws _ _ _ h.2 e he
theorem fine_C {z : List Nat} : ∀ (ws : List W) (i n : Nat) (fs : List Fr), W.wfs z ws → ∀ e ∈ layC i n fs ws, e.1.kind < 9 ∧ e.1 ≠ .choice []
  | [], i, n, fs, h, e, he => by rw [layC] at he; cases he
  | y :: ws, i, n, fs, h, e, he => by
    rw [layC] at he
    rcases List.mem_append.mp he with he | he
    · exact fine_W y _ _ h.1 e he
    · exact fine_C ws _ _ _ h.2 e he
end
theorem fine_F {z : List Nat} : ∀ (ws : List W) (n : Nat), W.wfs z ws → ∀ e ∈ layF n ws, e.1.kind < 9 ∧ e.1 ≠ .choice []
  | [], n, h, e, he => by rw [layF] at he; cases he
  | y :: ws, n, h, e, he => by
    rw [layF] at he
    rcases List.mem_append.mp he with he | he
    · exact fine_W y _ _ h.1 e he
    · exact fine_F ws _ h.2 e he
theorem fine_wfs {z : List Nat} {ws : List W} (h : W.wfs z ws) : Fine ws := fun i x fs hx => fine_F ws 0 h (x, fs) (List.mem_of_getElem? hx.get)
mutual
theorem called_W {z : List Nat} : ∀ w : W, w.wf z → w.called = none
  | .row ws, h => by unfold W.called; exact called_Ws ws h.2
  | .choice ws, h => by unfold W.called; exact called_Ws ws h.2
  | .again y, h => by unfold W.called; exact called_W y h
  | .maybe y, h => by unfold W.called; exact called_W y h
  | .ahead y, h => by unfold W.called; exact called_W y h
  | .unless y, h => by unfold W.called; exact called_W y h
  | .letter c, h => by unfold W.called; rfl
  | .one, h => by unfold W.called; rfl
  | .nothing, h => by unfold W.called; rfl
  | .call x, h => h.elim
theorem called_Ws {z : List Nat} : ∀ ws : List W, W.wfs z ws → W.calleds ws = none
  | [], h => by unfold W.calleds; rfl
  | y :: ws, h => by unfold W.calleds; rw [called_W y h.1]; exact called_Ws ws h.2
end
def spRefuse (c : Cs) : Sp := fun vs H Q _ => ∃ (l : Addr) (us : List V) (ws : List W), vs = [.ref l] ∧ H l = some (.lst us) ∧ ObjsAt c H us ws ∧ (∀ w ∈ ws, w.called = none) ∧ Q .non H
def spRefP (c : Cs) : Sp := fun vs H Q _ => ∃ (l : Addr) (us : List V) (ws : List W) (m : Nat), vs = [.ref l, .int (m : Nat)] ∧ H l = some (.lst us) ∧ ObjsAt c H us ws ∧ W.sizes ws ≤ m ∧ W.sizes ws ≤ 1000 ∧ ∀ H', Same H H' → Q .non H'
def spAsked (c : Cs) (C CB : Addr) : Sp := fun vs H Q _ => ∃ (l : Addr) (us : List V) (ws : List W) (m : Nat), vs = [.ref l, .int (m : Nat)] ∧ H l = some (.lst us) ∧ ObjsAt c H us ws ∧ (∀ w ∈ ws, w.called = none) ∧ W.sizes ws ≤ m ∧ W.sizes ws ≤ 100 ∧ ∀ (b : Addr) (H' : Hp), Same H H' → BaAt C CB H' b ws → Q (.ref b) H'
theorem sizes_mem {ws : List W} {w : W} (h : w ∈ ws) : w.size ≤ W.sizes ws := by
  induction ws with
  | nil => cases h
  | cons u ws ih =>
    rw [W.sizes]
    rcases List.mem_cons.mp h with rfl | h
    · omega
    · have := ih h; omega
theorem sum_sizes : ∀ ws : List W, (ws.map fun w => ((w.size : Nat) : Int)).sum = ((W.sizes ws : Nat) : Int)
  | [] => rfl
  | w :: ws => by rw [List.map_cons, List.sum_cons, sum_sizes ws, W.sizes]; omega
section
variable {P : Program} {w : World} {K : PySem.W.Frag} {mg : Str → Option Value} {base : Heap} {c : Cs} {C CB : Addr}
abbrev s_refuse_calls : Stmt := top 48
theorem sc_refuse_calls : FnScope ["ways", "way"] ["ways"] (defScope s_refuse_calls) := ⟨rfl, rfl, rfl, by decide +kernel, rfl, by decide +kernel, by decide +kernel⟩
theorem d_refuse_calls (h : Here K mg "refuse_calls" s_refuse_calls ["ways"]) (T : ∀ u : W, ClsF K (c.of u)) : DefOk P w K mg base 1 "refuse_calls" ["ways"] (spRefuse c) := by
  refine h.ok sc_refuse_calls (fun vs H Q E h => by obtain ⟨_, _, _, rfl, _⟩ := h; rfl) (fun f cdv A' outer s H vs Q E hr h => ?_)
  obtain ⟨l, us, ws, rfl, hl, hv, hc, k⟩ := h
  refine ⟨_, (pss_one (ps_for PassesOwn.never rfl (pi_list (pv 0)) (pg_name (i := 1) sc_refuse_calls.nd rfl (Or.inl rfl))
   (pss_one (ps_if (pt_cmpR op_notN (pe_fld (pv 1) rfl) pe_non (nomark _)) (pss_one ps_never) pss_nil)))), ?_⟩
  refine ⟨_, rfl, l, rfl, ⟨_, SqL.of hl⟩, ?_⟩
  refine for_list (K := K) (a := l) (xs := us) (fun i σ H' => ∃ x1 : Option V, σ = [some (.ref l), x1] ∧ H' = H) ?_ ?_ ?_ ?_
  · exact ⟨none, rfl, rfl⟩
  · rintro i σ H' _ ⟨_, rfl, rfl⟩
    exact SqL.of hl
  · rintro i e σ H1 he ⟨x1, rfl, rfl⟩
    obtain ⟨x, hx, hex⟩ := objs_get hv he
    obtain ⟨a, d, fs, ea, ha, l1, l2⟩ := hex.notes
    refine gset ?_
    refine ⟨_, rfl, a, _, d, fs, _, ea, ha, (T x).cl, (T x).nc, l1, rfl, _, rfl, ?_⟩
    rw [hc x (List.mem_of_getElem? hx)]
    exact iteF ⟨_, rfl, rfl⟩
  · rintro σ H1 ⟨x1, rfl, rfl⟩
    exact k
abbrev s_refuse_parts : Stmt := top 49
theorem sc_refuse_parts : FnScope ["ways", "most", "way"] ["ways", "most"] (defScope s_refuse_parts) := ⟨rfl, rfl, rfl, by decide +kernel, rfl, by decide +kernel, by decide +kernel⟩
theorem d_refuse_parts (h : Here K mg "refuse_parts" s_refuse_parts ["ways", "most"]) (B : Bs mg) (G_len : LenOk P w K mg base c 3 (spLenW c)) : DefOk P w K mg base 5 "refuse_parts" ["ways", "most"] (spRefP c) := by
  have B_len := B.len; have B_sum := B.sum
  refine h.ok sc_refuse_parts (fun vs H Q E h => by obtain ⟨_, _, _, _, rfl, _⟩ := h; rfl) (fun f cdv A' outer s H vs Q E hr h => ?_)
  obtain ⟨l, us, ws, m, rfl, hl, hv, hm, hs, k⟩ := h
  have hul := ObjsAt.len _ _ hv
  have hwl := W.sizes_len ws
  refine ⟨_, (pss_one (ps_if (pt_cmpR op_gt (pe_callB (cr_sum rfl) rfl B_sum (by decide +kernel) (pa_cons (pe_lc (own := [("way", 2)]) (g := (gName 2)) (tt := tYes) rfl sc_refuse_parts.nd (pi_list (pv 0)) (blkOk_by (own := [("way", 2)]) (N := ["ways", "most", "way"]) (sc := defScope s_refuse_parts) (by decide +kernel)) (fun _ _ _ _ _ => pg_name (i := 2) sc_refuse_parts.nd rfl (Or.inl rfl)) (fun _ _ _ _ _ => pts_nil) (fun _ _ _ _ _ => (pe_callB (call_lenW G_len (hr.mono (by first | decide | omega))) rfl B_len PySem.boot_len (pa_cons (pv 2) pa_nil)))) pa_nil)) (pv 1) (nomark _)) (pss_one ps_never) pss_nil)), ?_⟩
  refine ⟨_, rfl, l, rfl, ⟨_, SqL.of hl⟩, fun D hD => ?_⟩
  refine lc_it (walk_list (K := K) (a := l) (xs := us)) (fun i Hx => Hx D = some (.lst (((ws.map fun w => ((w.size : Nat) : Int)).map V.int).take i)) ∧ Same H Hx) ?_ ?_ ?_ ?_
  · exact ⟨upd_same, Same.new hD _⟩
  · rintro i Hx _ ⟨_, sx⟩
    exact SqL.of (sx _ _ hl)
  · rintro i e Hx Hy hi ⟨hd, sx⟩ ⟨rfl, he⟩
    obtain ⟨x, hx, hex⟩ := objs_get (ObjsAt.keep (stillS sx) _ _ hv) he
    have hxs := sizes_mem (List.mem_of_getElem? hx)
    refine ⟨rfl, ?_⟩
    refine ⟨_, rfl, e, x, rfl, hex, e, x, rfl, hex, by omega, fun H' s' => ⟨_, rfl, by omega, by omega, ?_⟩⟩
    refine ⟨_, s' _ _ hd, small' (by simp only [List.length_take, List.length_map]; omega), ?_, Same.put hD (sx.trans s') _⟩
    rw [upd_same, take_more' (by rw [List.getElem?_map, List.getElem?_map, hx]; rfl)]
  · rintro Hx ⟨hd, sx⟩
    rw [List.take_of_length_le (by simp only [List.length_map]; omega)] at hd
    refine ⟨D, _, rfl, SqL.of hd, _, rfl, _, _, rfl, rfl, _, rfl, ?_⟩
    rw [sum_sizes]
    refine iteN' (fun q => by have := of_decide_eq_true q; omega) ?_
    exact k _ sx
abbrev s_asked : Stmt := top 57
theorem sc_asked : FnScope ["ways", "most"] ["ways", "most"] (defScope s_asked) := ⟨rfl, rfl, rfl, by decide +kernel, rfl, by decide +kernel, by decide +kernel⟩
theorem d_asked (h : Here K mg "asked" s_asked ["ways", "most"]) (G_refuse_calls : DefOk P w K mg base 1 "refuse_calls" ["ways"] (spRefuse c)) (G_refuse_parts : DefOk P w K mg base 5 "refuse_parts" ["ways", "most"] (spRefP c)) (G_Backward : ClsOk P w K mg base 5 "Backward" CB ["self", "ways"] (spBack c C CB)) : DefOk P w K mg base 7 "asked" ["ways", "most"] (spAsked c C CB) := by
  refine h.ok sc_asked (fun vs H Q E h => by obtain ⟨_, _, _, _, rfl, _⟩ := h; rfl) (fun f cdv A' outer s H vs Q E hr h => ?_)
  obtain ⟨l, us, ws, m, rfl, hl, hv, hc, hm, hs, k⟩ := h
  refine ⟨_, (pss_cons (ps_expr (pe_callD G_refuse_calls (hr.mono (by first | decide | omega)) rfl (pa_cons (pv 0) pa_nil)))
  (pss_cons (ps_expr (pe_callD G_refuse_parts (hr.mono (by first | decide | omega)) rfl (pa_cons (pv 0) (pa_cons (pv 1) pa_nil))))
  (pss_one (ps_ret (pe_makeD G_Backward (hr.mono (by first | decide | omega)) rfl (pa_cons (pv 0) pa_nil)))))), ?_⟩
  refine ⟨_, rfl, l, us, ws, rfl, hl, hv, hc, ?_⟩
  walk_at "nx"
  refine ⟨_, rfl, _, rfl, l, us, ws, m, rfl, hl, hv, hm, by omega, fun H1 s1 => ?_⟩
  walk_at "nx"
  refine ⟨_, rfl, ?_⟩
  intro b dx hb hdx nd
  have s2 := Same.new hdx (.own b)
  have hb2 : upd H1 dx (.own b) b = none := by rw [upd_ne nd.symm]; exact hb
  have s3 := s2.trans (Same.new hb2 (.ins CB dx []))
  refine ⟨b, dx, l, us, ws, H1, rfl, ⟨upd_same, hb, s3⟩, s1 _ _ hl, ObjsAt.keep (stillS s1) _ _ hv, hs, fun H' hB sx => ⟨rfl, ?_⟩⟩
  exact k b H' (s1.trans sx) hB
end
end Rk
namespace Rk
open PySem PySem.Spec PyProof.Rows L2 Wv Tk
/-! ### how many states there may be -/
mutual
def lf : W → Nat
  | .letter _ => 1
  | .one => 1
  | .nothing => 0
  | .call _ => 0
  | .row ws => lfs ws
  | .choice ws => lfs ws
  | .again y => lf y
  | .maybe y => lf y
  | .ahead y => lf y
  | .unless y => lf y
def lfs : List W → Nat
  | [] => 0
  | y :: ws => lf y + lfs ws
end
mutual
theorem lf_le : ∀ w : W, lf w ≤ w.size
  | .letter _ => by unfold lf W.size; omega
  | .one => by unfold lf W.size; omega
  | .nothing => by unfold lf W.size; omega
  | .call _ => by unfold lf W.size; omega
  | .row ws => by have := lfs_le ws; unfold lf W.size; omega
  | .choice ws => by have := lfs_le ws; unfold lf W.size; omega
  | .again y => by have := lf_le y; unfold lf W.size; omega
  | .maybe y => by have := lf_le y; unfold lf W.size; omega
  | .ahead y => by have := lf_le y; unfold lf W.size; omega
  | .unless y => by have := lf_le y; unfold lf W.size; omega
theorem lfs_le : ∀ ws : List W, lfs ws ≤ W.sizes ws
  | [] => by unfold lfs W.sizes; omega
  | y :: ws => by have := lf_le y; have := lfs_le ws; unfold lfs W.sizes; omega
end
abbrev isL (e : W × List Fr) : Bool := isLeafB e.1
mutual
theorem cnt_W : ∀ (w : W) (n : Nat) (fs : List Fr), (layW n fs w).countP isL = lf w
  | .letter c, n, fs => by rw [layW]; rfl
  | .one, n, fs => by rw [layW]; rfl
  | .nothing, n, fs => by rw [layW]; rfl
  | .call x, n, fs => by rw [layW]; rfl
  | .row ws, n, fs => by rw [layW, List.countP_cons_of_neg (by simp [isL, isLeafB]), cnt_R ws, lf]
  | .choice ws, n, fs => by rw [layW, List.countP_cons_of_neg (by simp [isL, isLeafB]), cnt_C ws, lf]
  | .again y, n, fs => by rw [layW, List.countP_cons_of_neg (by simp [isL, isLeafB]), cnt_W y, lf]
  | .maybe y, n, fs => by rw [layW, List.countP_cons_of_neg (by simp [isL, isLeafB]), cnt_W y, lf]
  | .ahead y, n, fs => by rw [layW, List.countP_cons_of_neg (by simp [isL, isLeafB]), cnt_W y, lf]
  | .unless y, n, fs => by rw [layW, List.countP_cons_of_neg (by simp [isL, isLeafB]), cnt_W y, lf]
theorem cnt_R : ∀ (ws : List W) (i n : Nat) (fs : List Fr), (layR i n fs ws).countP isL = lfs ws
  | [], i, n, fs => by rw [layR]; rfl
  | y :: ws, i, n, fs => by rw [layR, List.countP_append, cnt_W y, cnt_R ws, lfs]
theorem cnt_C : ∀ (ws : List W) (i n : Nat) (fs : List Fr), (layC i n fs ws).countP isL = lfs ws
  | [], i, n, fs => by rw [layC]; rfl
  | y :: ws, i, n, fs => by rw [layC, List.countP_append, cnt_W y, cnt_C ws, lfs]
end
theorem cnt_range {α : Type} (p : α → Bool) (l : List α) : ((List.range l.length).filter fun i => (l[i]?.map p).getD false).length = l.countP p := by
  have e : (List.range l.length).map (fun i => l[i]?) = l.map some := by
    refine List.ext_getElem? fun i => ?_
    rw [List.getElem?_map, List.getElem?_map]
    by_cases h : i < l.length
    · rw [List.getElem?_range h, List.getElem?_eq_getElem h]
      show some (l[i]?) = some (some l[i])
      rw [List.getElem?_eq_getElem h]
    · rw [List.getElem?_eq_none (by rw [List.length_range]; omega), List.getElem?_eq_none (by omega)]; rfl
  have e2 := congrArg (List.countP fun o : Option α => (o.map p).getD false) e
  rw [List.countP_map, List.countP_map] at e2
  rw [← List.countP_eq_length_filter]
  exact e2
theorem cnt_F : ∀ (ws : List W) (n : Nat), (layF n ws).countP isL = lfs ws
  | [], n => by rw [layF]; rfl
  | y :: ws, n => by rw [layF, List.countP_append, cnt_W y, cnt_F ws, lfs]
theorem lvs_cnt (w : List W) : (lvs w).length = lfs w := by
  unfold lvs
  have := cnt_range (fun e : W × List Fr => isLeafB e.1) (layF 0 w)
  rw [layF_len] at this
  exact this.trans (cnt_F w 0)
mutual
theorem deep_W : ∀ (w : W) (n : Nat) (fs : List Fr), ∀ e ∈ layW n fs w, e.2.length + lf w ≤ fs.length + w.size
  | .letter c, n, fs, e, he => by rw [layW, List.mem_singleton] at he; subst he; have := lf_le (.letter c); show fs.length + _ ≤ _; omega
  | .one, n, fs, e, he => by rw [layW, List.mem_singleton] at he; subst he; have := lf_le .one; show fs.length + _ ≤ _; omega
  | .nothing, n, fs, e, he => by rw [layW, List.mem_singleton] at he; subst he; have := lf_le .nothing; show fs.length + _ ≤ _; omega
  | .call x, n, fs, e, he => by rw [layW, List.mem_singleton] at he; subst he; have := lf_le (.call x); show fs.length + _ ≤ _; omega
  | .row ws, n, fs, e, he => by
    rw [layW] at he
    have h0 : (W.row ws).size = 1 + W.sizes ws := rfl
    have h1 : lf (.row ws) = lfs ws := by rw [lf]
    rcases List.mem_cons.mp he with rfl | he
    · have := lfs_le ws; show fs.length + _ ≤ _; omega
    · have := deep_R ws _ _ _ e he; omega
  | .choice ws, n, fs, e, he => by
    rw [layW] at he
    have h0 : (W.choice ws).size = 1 + W.sizes ws := rfl
    have h1 : lf (.choice ws) = lfs ws := by rw [lf]
    rcases List.mem_cons.mp he with rfl | he
    · have := lfs_le ws; show fs.length + _ ≤ _; omega
    · have := deep_C ws _ _ _ e he; omega
  | .again y, n, fs, e, he => by
    rw [layW] at he
    have h0 : (W.again y).size = 1 + y.size := rfl
    have h1 : lf (.again y) = lf y := by rw [lf]
    rcases List.mem_cons.mp he with rfl | he
    · have := lf_le y; show fs.length + _ ≤ _; omega
    · have := deep_W y _ _ e he; rw [List.length_cons] at this; omega
  | .maybe y, n, fs, e, he => by
    rw [layW] at he
    have h0 : (W.maybe y).size = 1 + y.size := rfl
    have h1 : lf (.maybe y) = lf y := by rw [lf]
    rcases List.mem_cons.mp he with rfl | he
    · have := lf_le y; show fs.length + _ ≤ _; omega
    · have := deep_W y _ _ e he; rw [List.length_cons] at this; omega
  | .ahead y, n, fs, e, he => by
    rw [layW] at he
    have h0 : (W.ahead y).size = 1 + y.size := rfl
    have h1 : lf (.ahead y) = lf y := by rw [lf]
    rcases List.mem_cons.mp he with rfl | he
    · have := lf_le y; show fs.length + _ ≤ _; omega
    · have := deep_W y _ _ e he; rw [List.length_cons] at this; omega
  | .unless y, n, fs, e, he => by
    rw [layW] at he
    have h0 : (W.unless y).size = 1 + y.size := rfl
    have h1 : lf (.unless y) = lf y := by rw [lf]
    rcases List.mem_cons.mp he with rfl | he
    · have := lf_le y; show fs.length + _ ≤ _; omega
    · have := deep_W y _ _ e he; rw [List.length_cons] at this; omega
theorem deep_R : ∀ (ws : List W) (i n : Nat) (fs : List Fr), ∀ e ∈ layR i n fs ws, e.2.length + lfs ws ≤ fs.length + 1 + W.sizes ws
  | [], i, n, fs, e, he => by rw [layR] at he; cases he
  | y :: ws, i, n, fs, e, he => by
    rw [layR] at he
    have h1 := lf_le y
    have h2 := lfs_le ws
    rw [lfs, W.sizes]
    rcases List.mem_append.mp he with he | he
    · have := deep_W y _ _ e he; rw [List.length_cons] at this; omega
    · have := deep_R ws _ _ _ e he; omega
theorem deep_C : ∀ (ws : List W) (i n : Nat) (fs : List Fr), ∀ e ∈ layC i n fs ws, e.2.length + lfs ws ≤ fs.length + 1 + W.sizes ws
  | [], i, n, fs, e, he => by rw [layC] at he; cases he
  | y :: ws, i, n, fs, e, he => by
    rw [layC] at he
    have h1 := lf_le y
    have h2 := lfs_le ws
    rw [lfs, W.sizes]
    rcases List.mem_append.mp he with he | he
    · have := deep_W y _ _ e he; rw [List.length_cons] at this; omega
    · have := deep_C ws _ _ _ e he; omega
end
theorem deep_F : ∀ (ws : List W) (n : Nat), ∀ e ∈ layF n ws, e.2.length + lfs ws ≤ W.sizes ws
  | [], n, e, he => by rw [layF] at he; cases he
  | y :: ws, n, e, he => by
    rw [layF] at he
    have h1 := lf_le y
    have h2 := lfs_le ws
    rw [lfs, W.sizes]
    rcases List.mem_append.mp he with he | he
    · have := deep_W y _ _ e he; rw [List.length_nil] at this; omega
    · have := deep_F ws _ e he; omega
theorem frs_deep {w : List W} {s : Nat} (h : s ∈ lvs w) : (frs w s).length + (lvs w).length ≤ W.sizes w := by
  obtain ⟨y, fs, ha, _⟩ := mem_lvs.mp h
  have := deep_F w 0 (y, fs) (List.mem_of_getElem? ha.get)
  rw [ha.frs, lvs_cnt]
  simpa using this
theorem ard_le : ∀ fs : List Fr, ard fs ≤ 1 + fs.length
  | [] => Nat.le_refl _
  | f :: fs => by
    have := ard_le fs
    have h2 : ard (f :: fs) = ard fs + (if trd fs then 1 else 0) := by rw [ard]
    rw [h2, List.length_cons]
    split <;> omega
theorem ard_cons (f : Fr) (fs : List Fr) : ard fs ≤ ard (f :: fs) := by
  have h2 : ard (f :: fs) = ard fs + (if trd fs then 1 else 0) := by rw [ard]
  omega
theorem mgo_ard (c : Option Nat) (st : Nat → Nat) : ∀ (fs : List Fr) (i : Nat), ard (mgo c st i fs).2.1 ≤ ard fs
  | [], i => by rw [mgo]; exact Nat.le_refl _
  | .look j :: fs, i => by rw [mgo]; exact Nat.le_refl _
  | .row j n ws :: fs, i => by
    have ih := mgo_ard c st fs j
    have := ard_cons (.row j n ws) fs
    rw [mgo]
    split
    · omega
    · exact Nat.le_refl _
  | .again j y :: fs, i => by
    have ih := mgo_ard c st fs j
    have := ard_cons (.again j y) fs
    rw [mgo]
    split
    · omega
    · exact Nat.le_refl _
  | .choice j b :: fs, i => by
    have ih := mgo_ard c st fs j
    have := ard_cons (.choice j b) fs
    rw [mgo]
    omega
  | .maybe j :: fs, i => by
    have ih := mgo_ard c st fs j
    have := ard_cons (.maybe j) fs
    rw [mgo]
    omega
theorem val_low (c : Option Nat) (st st' : Nat → Nat) (wo : Nat) (hw : wo ≤ 2) (fs : List Fr) (i : Nat) : val st' wo (mgo c st i fs) ≤ 2 + fs.length := by
  have h1 := mgo_ard c st fs i
  have h2 := ard_le fs
  unfold val
  split
  · have := Nat.min_le_right (st' (by assumption)) (ard (mgo c st i fs).2.1)
    omega
  · split <;> omega
/-- a state whose ranks are as low as they must be -/
def Cell (w : List W) (T : List Nat) : Prop := T.length = (lvs w).length ∧ ∀ r ∈ T, r < W.sizes w - (lvs w).length + 3
theorem cell_next (w : List W) (c : Option Nat) (T : List Nat) {wo : Nat} (hw : wo ≤ 2) : Cell w (nextT w c T wo) := by
  refine ⟨by simp [nextT], fun r hr => ?_⟩
  unfold nextT at hr
  obtain ⟨s, hs, rfl⟩ := List.mem_map.mp hr
  have h1 := frs_deep hs
  have h2 := val_low c (stf w T) (stf w T) wo hw (frs w s) s
  omega
theorem nodup_lt : ∀ (N : Nat) (l : List Nat), l.Nodup → (∀ x ∈ l, x < N) → l.length ≤ N
  | 0, [], _, _ => Nat.le_refl _
  | 0, x :: l, _, h => absurd (h x List.mem_cons_self) (Nat.not_lt_zero _)
  | N + 1, l, nd, h => by
    have ih := nodup_lt N (l.erase N) (nd.erase N) fun x hx => by
      have h1 := (List.Nodup.mem_erase_iff nd).mp hx
      have h2 := h x h1.2
      have h3 : x ≠ N := h1.1
      omega
    rw [List.length_erase] at ih
    split at ih <;> omega
def enc (K : Nat) : List Nat → Nat
  | [] => 0
  | r :: T => r + K * enc K T
theorem enc_lt {K : Nat} : ∀ (T : List Nat), (∀ r ∈ T, r < K) → enc K T < K ^ T.length
  | [], _ => by show 0 < 1; omega
  | r :: T, h => by
    have h1 := h r List.mem_cons_self
    have h2 := enc_lt T fun x hx => h x (List.mem_cons_of_mem _ hx)
    rw [List.length_cons, Nat.pow_succ, Nat.mul_comm]
    have h3 : K * (enc K T + 1) ≤ K * K ^ T.length := Nat.mul_le_mul_left _ h2
    show r + K * enc K T < _
    rw [Nat.mul_add] at h3
    omega
theorem enc_inj {K : Nat} : ∀ (T T' : List Nat), T.length = T'.length → (∀ r ∈ T, r < K) → (∀ r ∈ T', r < K) → enc K T = enc K T' → T = T'
  | [], [], _, _, _, _ => rfl
  | r :: T, r' :: T', hl, h, h', e => by
    have h1 := h r List.mem_cons_self
    have h2 := h' r' List.mem_cons_self
    have e : r + K * enc K T = r' + K * enc K T' := e
    have e1 : r = r' := by
      have := congrArg (· % K) e
      simpa [Nat.add_mul_mod_self_left, Nat.mod_eq_of_lt h1, Nat.mod_eq_of_lt h2] using this
    subst e1
    have e2 : enc K T = enc K T' := Nat.eq_of_mul_eq_mul_left (Nat.lt_of_le_of_lt (Nat.zero_le _) h1) (Nat.add_left_cancel e)
    rw [enc_inj T T' (by simpa using hl) (fun x hx => h x (List.mem_cons_of_mem _ hx)) (fun x hx => h' x (List.mem_cons_of_mem _ hx)) e2]
/-- as many states as there are at most -/
theorem box_len {K L : Nat} (Ts : List (List Nat)) (nd : Ts.Nodup) (h : ∀ T ∈ Ts, T.length = L ∧ ∀ r ∈ T, r < K) : Ts.length ≤ K ^ L := by
  have h1 : (Ts.map (enc K)).Nodup := by
    refine List.pairwise_map.mpr (List.Pairwise.imp_of_mem (fun {a b} ha hb hab e => ?_) nd)
    exact hab (enc_inj a b ((h a ha).1.trans (h b hb).1.symm) (h a ha).2 (h b hb).2 e)
  have h2 := nodup_lt (K ^ L) _ h1 fun x hx => by
    obtain ⟨T, hT, rfl⟩ := List.mem_map.mp hx
    have := enc_lt T (h T hT).2
    rwa [(h T hT).1] at this
  rwa [List.length_map] at h2
theorem lvs_sizes (w : List W) : (lvs w).length ≤ W.sizes w := by rw [lvs_cnt]; exact lfs_le w
/-- as many states, with something below three ahead, as there may be -/
theorem box_states {w : List W} (h10 : W.sizes w ≤ 10) {Ts : List (List Nat)} (nd : Ts.Nodup) (h : ∀ T ∈ Ts, Cell w T) : Ts.length ≤ 400000 := by
  have h1 := lvs_sizes w
  have h3 := box_len (K := W.sizes w - (lvs w).length + 3) (L := (lvs w).length) Ts nd h
  generalize (lvs w).length = L at *
  have h2 : ∀ L, L ≤ 10 → (10 - L + 3) ^ L ≤ 400000 := by decide
  exact Nat.le_trans h3 (Nat.le_trans (Nat.pow_le_pow_left (by omega) L) (h2 L (by omega)))
theorem box_nodes {w : List W} (h10 : W.sizes w ≤ 10) {m : Nat} (hm : m ≤ 2) {Ns : List (List Nat × List Nat)} (nd : Ns.Nodup) (h : ∀ n ∈ Ns, n.1.length = m ∧ (∀ r ∈ n.1, r < 3) ∧ Cell w n.2) : Ns.length ≤ 11000000 := by
  have h1 := lvs_sizes w
  have hi : ∀ a ∈ Ns, ∀ b ∈ Ns, a.1 ++ a.2 = b.1 ++ b.2 → a = b := fun a ha b hb e => by
    obtain ⟨a1, a2⟩ := a
    obtain ⟨b1, b2⟩ := b
    obtain ⟨e1, e2⟩ := List.append_inj e ((h _ ha).1.trans (h _ hb).1.symm)
    rw [show a1 = b1 from e1, show a2 = b2 from e2]
  have ndm : (Ns.map fun n => n.1 ++ n.2).Nodup := List.pairwise_map.mpr (List.Pairwise.imp_of_mem (fun {a b} ha hb hab e => hab (hi a ha b hb e)) nd)
  have h3 := box_len (K := W.sizes w - (lvs w).length + 3) (L := m + (lvs w).length) (Ns.map fun n => n.1 ++ n.2) ndm fun T hT => by
    obtain ⟨n, hn, rfl⟩ := List.mem_map.mp hT
    obtain ⟨g1, g2, g3⟩ := h n hn
    refine ⟨by rw [List.length_append, g1, g3.1], fun r hr => ?_⟩
    rcases List.mem_append.mp hr with hr | hr
    · have := g2 r hr; omega
    · exact g3.2 r hr
  rw [List.length_map] at h3
  generalize (lvs w).length = L at *
  have h2 : ∀ L, L ≤ 10 → (10 - L + 3) ^ (2 + L) ≤ 11000000 := by decide
  refine Nat.le_trans h3 (Nat.le_trans ?_ (h2 L (by omega)))
  refine Nat.le_trans (Nat.pow_le_pow_left (show W.sizes w - L + 3 ≤ 10 - L + 3 by omega) _) (Nat.pow_le_pow_right (by omega) (by omega))
end Rk
namespace Rk
open PySem PySem.Spec PyProof.Rows L2 Wv Tk
/-! ### the nodes of texts, and how often each is there -/
abbrev Node := List Nat × List Nat
def turnT (w : List W) (c : Option Nat) (T : List Nat) (wo : Nat) : Node := (resF c (stf w T) wo 0 w, nextT w c T wo)
def nodeT (w : List W) (a b : Nat) : List Nat → Node
  | [] => turnT w none [] a
  | c :: z => turnT w (some c) (nodeT w a b z).2 b
def woE (a b : Nat) (z : List Nat) (q : Nat) : Nat := if q = z.length then a else b
theorem woE_le {a b : Nat} (ha : a ≤ 2) (hb : b ≤ 2) (z : List Nat) (q : Nat) : woE a b z q ≤ 2 := by unfold woE; split <;> assumption
theorem node_ranks {w : List W} {a b : Nat} (ha : a ≤ 2) (hb : b ≤ 2) (z : List Nat) : ∀ (u : List Nat) (p : Nat), z.drop p = u → p ≤ z.length → Ranks w z p (woE a b z) (stf w (nodeT w a b u).2) ∧ (nodeT w a b u).1 = w.map (due z p (woE a b z))
  | [], p, e, hp => by
    have e1 : p = z.length := Nat.le_antisymm hp (List.drop_eq_nil_iff.mp e)
    have e2 : z[p]? = none := List.getElem?_eq_none (by omega)
    have hR : p < z.length → Ranks w z (p + 1) (woE a b z) (stf w []) := fun q => absurd q (by omega)
    have ew : woE a b z p = a := if_pos e1
    have r1 := next_ranks (w := w) (T := []) hp (woE_le ha hb z p) hR
    have r2 := resF_due (w := w) hp (woE_le ha hb z) hR w [] rfl
    rw [e2, ew] at r1 r2
    exact ⟨r1, r2⟩
  | c :: u, p, e, hp => by
    have hlt : p < z.length := by
      refine Nat.lt_of_not_le fun q => ?_
      rw [List.drop_eq_nil_of_le q] at e
      cases e
    have e2 : z[p]? = some c := by
      have := congrArg (fun l : List Nat => l[0]?) e
      simpa using this
    have e3 : z.drop (p + 1) = u := by
      have := congrArg List.tail e
      rwa [List.tail_drop, List.tail_cons] at this
    obtain ⟨h1, _⟩ := node_ranks ha hb z u (p + 1) e3 hlt
    have ew : woE a b z p = b := if_neg (by omega)
    have r1 := next_ranks (w := w) hp (woE_le ha hb z p) (fun _ => h1)
    have r2 := resF_due (w := w) hp (woE_le ha hb z) (fun _ => h1) w [] rfl
    rw [e2, ew] at r1 r2
    exact ⟨r1, r2⟩
theorem node_res {w : List W} {a b : Nat} (ha : a ≤ 2) (hb : b ≤ 2) (z : List Nat) : (nodeT w a b z).1 = w.map (due z 0 (woE a b z)) := (node_ranks ha hb z z 0 rfl (Nat.zero_le _)).2
def txs (s : List Nat) : Nat → List (List Nat)
  | 0 => [[]]
  | n + 1 => (txs s n).flatMap fun z => s.map fun c => c :: z
abbrev Cnt := List (Node × Nat)
def addC : Cnt → Node → Nat → Cnt
  | [], n, k => [(n, k)]
  | e :: m, n, k => if e.1 = n then (e.1, e.2 + k) :: m else e :: addC m n k
def getC : Cnt → Node → Nat
  | [], _ => 0
  | e :: m, n => if e.1 = n then e.2 else getC m n
def totC (f : Node → Nat) (m : Cnt) : Nat := (m.map fun e => f e.1 * e.2).sum
theorem tot_cons (f : Node → Nat) (e : Node × Nat) (m : Cnt) : totC f (e :: m) = f e.1 * e.2 + totC f m := by unfold totC; rw [List.map_cons, List.sum_cons]
theorem tot_add (f : Node → Nat) (n : Node) (k : Nat) : ∀ m, totC f (addC m n k) = totC f m + f n * k
  | [] => by rw [addC, tot_cons]; show f n * k + 0 = 0 + f n * k; omega
  | e :: m => by
    rw [addC]
    split
    · rename_i h
      rw [tot_cons, tot_cons, h, Nat.mul_add]
      omega
    · rw [tot_cons, tot_cons, tot_add f n k m]
      omega
def rowC (m : Cnt) (ns : List Node) (k : Nat) : Cnt := ns.foldl (fun m n => addC m n k) m
theorem tot_row (f : Node → Nat) (k : Nat) : ∀ (ns : List Node) (m : Cnt), totC f (rowC m ns k) = totC f m + (ns.map f).sum * k
  | [], m => by show totC f m = totC f m + 0 * k; omega
  | n :: ns, m => by
    show totC f (rowC (addC m n k) ns k) = _
    rw [tot_row f k ns, tot_add, List.map_cons, List.sum_cons, Nat.add_mul]
    omega
def kids (w : List W) (s : List Nat) (b : Nat) (T : List Nat) : List Node := s.map fun c => turnT w (some c) T b
def stepC (w : List W) (s : List Nat) (b : Nat) (acc m : Cnt) : Cnt := m.foldl (fun acc e => rowC acc (kids w s b e.1.2) e.2) acc
theorem tot_step (f : Node → Nat) {w : List W} {s : List Nat} {b : Nat} : ∀ (m acc : Cnt), totC f (stepC w s b acc m) = totC f acc + totC (fun n => ((kids w s b n.2).map f).sum) m
  | [], acc => by show totC f acc = totC f acc + 0; omega
  | e :: m, acc => by
    show totC f (stepC w s b (rowC acc (kids w s b e.1.2) e.2) m) = _
    rw [tot_step f m, tot_row, tot_cons]
    omega
def cntsC (w : List W) (s : List Nat) (a b : Nat) : Nat → Cnt
  | 0 => [(turnT w none [] a, 1)]
  | n + 1 => stepC w s b [] (cntsC w s a b n)
theorem sum_flat {α β : Type} (g : α → List β) (f : β → Nat) : ∀ l : List α, ((l.flatMap g).map f).sum = (l.map fun x => ((g x).map f).sum).sum
  | [] => rfl
  | x :: l => by rw [List.flatMap_cons, List.map_append, List.sum_append, List.map_cons, List.sum_cons, sum_flat g f l]
theorem tot_cnts {w : List W} {s : List Nat} {a b : Nat} : ∀ (n : Nat) (f : Node → Nat), totC f (cntsC w s a b n) = ((txs s n).map fun z => f (nodeT w a b z)).sum
  | 0, f => by
    rw [cntsC, tot_cons]
    show f (turnT w none [] a) * 1 + 0 = f (nodeT w a b []) + 0
    rw [show nodeT w a b [] = turnT w none [] a by rw [nodeT]]
    omega
  | n + 1, f => by
    rw [cntsC, tot_step, tot_cnts n, txs, sum_flat]
    show 0 + _ = _
    rw [Nat.zero_add]
    congr 1
    refine List.map_congr_left fun z _ => ?_
    unfold kids
    rw [List.map_map, List.map_map]
    rfl
/-- nodes that may be, each once -/
def NodeOk (w : List W) (n : Node) : Prop := n.1.length = w.length ∧ (∀ r ∈ n.1, r < 3) ∧ Cell w n.2
def CntOk (w : List W) (m : Cnt) : Prop := (m.map (·.1)).Nodup ∧ ∀ e ∈ m, NodeOk w e.1
theorem add_mem {n : Node} {k : Nat} : ∀ {m : Cnt} {e : Node × Nat}, e ∈ addC m n k → e.1 = n ∨ ∃ e' ∈ m, e'.1 = e.1
  | [], e, h => by rw [addC, List.mem_singleton] at h; exact .inl (by rw [h])
  | x :: m, e, h => by
    rw [addC] at h
    split at h
    · rcases List.mem_cons.mp h with rfl | h
      · exact .inr ⟨x, List.mem_cons_self, rfl⟩
      · exact .inr ⟨e, List.mem_cons_of_mem _ h, rfl⟩
    · rcases List.mem_cons.mp h with rfl | h
      · exact .inr ⟨e, List.mem_cons_self, rfl⟩
      · rcases add_mem h with h | ⟨e', h1, h2⟩
        · exact .inl h
        · exact .inr ⟨e', List.mem_cons_of_mem _ h1, h2⟩
theorem add_ok {w : List W} {n : Node} {k : Nat} (hn : NodeOk w n) : ∀ {m : Cnt}, CntOk w m → CntOk w (addC m n k)
  | [], h => ⟨by rw [addC]; exact List.nodup_cons.mpr ⟨List.not_mem_nil, List.nodup_nil⟩, fun e he => by rw [addC, List.mem_singleton] at he; rw [he]; exact hn⟩
  | x :: m, h => by
    obtain ⟨h1, h2⟩ := h
    rw [List.map_cons, List.nodup_cons] at h1
    have ih : CntOk w (addC m n k) := add_ok hn ⟨h1.2, fun e he => h2 e (List.mem_cons_of_mem _ he)⟩
    rw [addC]
    split
    · refine ⟨?_, fun e he => ?_⟩
      · rw [List.map_cons, List.nodup_cons]; exact h1
      · rcases List.mem_cons.mp he with rfl | he
        · exact h2 x List.mem_cons_self
        · exact h2 e (List.mem_cons_of_mem _ he)
    · rename_i hx
      refine ⟨?_, fun e he => ?_⟩
      · rw [List.map_cons, List.nodup_cons]
        refine ⟨fun q => ?_, ih.1⟩
        obtain ⟨e, he, eq⟩ := List.mem_map.mp q
        rcases add_mem he with h | ⟨e', g1, g2⟩
        · exact hx (eq.symm.trans h)
        · exact h1.1 (List.mem_map.mpr ⟨e', g1, g2.trans eq⟩)
      · rcases List.mem_cons.mp he with rfl | he
        · exact h2 e List.mem_cons_self
        · exact ih.2 e he
theorem row_ok {w : List W} {k : Nat} : ∀ (ns : List Node) {m : Cnt}, (∀ n ∈ ns, NodeOk w n) → CntOk w m → CntOk w (rowC m ns k)
  | [], m, _, h => h
  | n :: ns, m, hn, h => row_ok ns (fun x hx => hn x (List.mem_cons_of_mem _ hx)) (add_ok (hn n List.mem_cons_self) h)
theorem rv_low {wo : Nat} (h : wo ≤ 2) (st : Nat → Nat) : ∀ r : Fs, rv st wo r < 3
  | .leaf t => by show min (st t) 2 < 3; omega
  | .ends => by show wo < 3; omega
  | .fails => by show 2 < 3; omega
theorem resF_low {c : Option Nat} {st : Nat → Nat} {wo : Nat} (h : wo ≤ 2) : ∀ (ws : List W) (n : Nat), ∀ r ∈ resF c st wo n ws, r < 3
  | [], n, r, hr => by rw [resF] at hr; cases hr
  | y :: ws, n, r, hr => by
    rw [resF] at hr
    rcases List.mem_cons.mp hr with rfl | hr
    · exact rv_low h st _
    · exact resF_low h ws _ r hr
theorem turn_ok (w : List W) (c : Option Nat) (T : List Nat) {wo : Nat} (h : wo ≤ 2) : NodeOk w (turnT w c T wo) := ⟨resF_len c _ wo w 0, resF_low h w 0, cell_next w c T h⟩
theorem kids_ok {w : List W} {s : List Nat} {b : Nat} (h : b ≤ 2) (T : List Nat) : ∀ n ∈ kids w s b T, NodeOk w n := fun n hn => by
  obtain ⟨c, _, rfl⟩ := List.mem_map.mp hn
  exact turn_ok w _ T h
theorem step_ok {w : List W} {s : List Nat} {b : Nat} (h : b ≤ 2) : ∀ (m : Cnt) {acc : Cnt}, CntOk w acc → CntOk w (stepC w s b acc m)
  | [], acc, ha => ha
  | e :: m, acc, ha => step_ok h m (row_ok _ (kids_ok h _) ha)
theorem nil_ok (w : List W) : CntOk w [] := ⟨List.nodup_nil, fun e he => nomatch he⟩
theorem cnts_ok {w : List W} {s : List Nat} {a b : Nat} (ha : a ≤ 2) (hb : b ≤ 2) : ∀ n, CntOk w (cntsC w s a b n)
  | 0 => ⟨by rw [cntsC]; exact List.nodup_cons.mpr ⟨List.not_mem_nil, List.nodup_nil⟩, fun e he => by rw [cntsC, List.mem_singleton] at he; rw [he]; exact turn_ok w _ _ ha⟩
  | n + 1 => step_ok hb _ (nil_ok w)
theorem CntOk.small {w : List W} {m : Cnt} (h : CntOk w m) (h10 : W.sizes w ≤ 10) (h2 : w.length ≤ 2) : m.length ≤ 11000000 := by
  have := box_nodes h10 h2 h.1 fun n hn => by
    obtain ⟨e, he, rfl⟩ := List.mem_map.mp hn
    exact h.2 e he
  rwa [List.length_map] at this
theorem rowC_take {m : Cnt} {ns : List Node} {k j : Nat} {n : Node} (h : ns[j]? = some n) : rowC m (ns.take (j + 1)) k = addC (rowC m (ns.take j) k) n k := by
  rw [take_more' h]
  unfold rowC
  rw [List.foldl_append]
  rfl
theorem stepC_take {w : List W} {s : List Nat} {b : Nat} {acc m : Cnt} {j : Nat} {e : Node × Nat} (h : m[j]? = some e) : stepC w s b acc (m.take (j + 1)) = rowC (stepC w s b acc (m.take j)) (kids w s b e.1.2) e.2 := by
  rw [take_more' h]
  unfold stepC
  rw [List.foldl_append]
  rfl
theorem tot_take {f : Node → Nat} {m : Cnt} {j : Nat} {e : Node × Nat} (h : m[j]? = some e) : totC f (m.take (j + 1)) = totC f (m.take j) + f e.1 * e.2 := by
  rw [take_more' h]
  unfold totC
  rw [List.map_append, List.sum_append]
  rfl
/-! ### as keys of a dict -/
def nums (T : List Nat) : List NestedKey := T.map fun x => .num ((x : Nat) : Int)
def keyN (n : Node) : NestedKey := .tup [.tup (nums n.1), .tup (nums n.2)]
theorem nums_inj : ∀ {T T' : List Nat}, nums T = nums T' → T = T'
  | [], [], _ => rfl
  | [], _ :: _, h => by simp [nums] at h
  | _ :: _, [], h => by simp [nums] at h
  | a :: T, b :: T', h => by
    simp only [nums, List.map_cons, List.cons.injEq, NestedKey.num.injEq] at h
    have e1 : a = b := by omega
    rw [e1, nums_inj (T := T) (T' := T') h.2]
theorem keyN_inj {n n' : Node} (h : keyN n = keyN n') : n = n' := by
  simp only [keyN, NestedKey.tup.injEq, List.cons.injEq, and_true] at h
  exact Prod.ext (nums_inj h.1) (nums_inj h.2)
def encC (m : Cnt) : List (NestedKey × V) := m.map fun e => (keyN e.1, V.int ((e.2 : Nat) : Int))
theorem val_enc (n : Node) : ∀ m : Cnt, (valV (encC m) (keyN n)).getD (.int 0) = .int ((getC m n : Nat) : Int)
  | [] => rfl
  | e :: m => by
    show (valV ((keyN e.1, V.int ((e.2 : Nat) : Int)) :: encC m) (keyN n)).getD (.int 0) = _
    rw [getC]
    split
    · rename_i h; rw [valV_pos (by rw [h])]; rfl
    · rename_i h; rw [valV_neg (fun q => h (keyN_inj q))]; exact val_enc n m
theorem putK_ne {κ : Type} [DecidableEq κ] {p : κ × V} {r : List (κ × V)} {k : κ} {v : V} (h : p.1 ≠ k) : putK (p :: r) k v = p :: putK r k v := by
  unfold putK
  rw [List.any_cons, decide_eq_false h, Bool.false_or]
  split
  · rw [List.map_cons, if_neg h]
  · rfl
theorem map_id {κ : Type} [DecidableEq κ] {r : List (κ × V)} {k : κ} {v : V} (h : ∀ p ∈ r, p.1 ≠ k) : (r.map fun kv => if kv.1 = k then (kv.1, v) else kv) = r := by
  have : ∀ p ∈ r, (fun kv : κ × V => if kv.1 = k then (kv.1, v) else kv) p = id p := fun p hp => if_neg (h p hp)
  rw [List.map_congr_left this, List.map_id]
theorem put_add (n : Node) (k : Nat) : ∀ m : Cnt, (m.map (·.1)).Nodup → putK (encC m) (keyN n) (.int ((getC m n + k : Nat) : Int)) = encC (addC m n k)
  | [], _ => by rw [getC, Nat.zero_add]; rfl
  | e :: m, h => by
    rw [List.map_cons, List.nodup_cons] at h
    show putK ((keyN e.1, V.int ((e.2 : Nat) : Int)) :: encC m) (keyN n) _ = _
    rw [getC, addC]
    split
    · rename_i he
      subst he
      unfold putK
      rw [List.any_cons, decide_eq_true rfl, Bool.true_or, if_pos rfl, List.map_cons, if_pos rfl, map_id]
      · rfl
      · intro p hp q
        unfold encC at hp
        obtain ⟨x, hx, rfl⟩ := List.mem_map.mp hp
        exact h.1 (List.mem_map.mpr ⟨x, hx, keyN_inj q⟩)
    · rename_i he
      rw [putK_ne (fun q => he (keyN_inj q)), put_add n k m h.2]
      rfl
end Rk
namespace Rk
open PySem PySem.Spec PyProof.Rows L2 Wv Tk Nst
/-! ### count_results -/
section
variable {X : Cx}
/-- xs[i] of a list, for an augmented one -/
def rGetL (K : PySem.W.Frag) : V → V → Hp → VK → Prop := fun o i H Q => ∃ p xs k z, o = .ref p ∧ i = .int k ∧ SqL K H p xs ∧ atI xs k = some z ∧ Q z H
theorem get_list : PGet X (rGetL X.K) := by
  intro pins s σ H x y v u Q I rx ry h
  obtain ⟨p, xs, i, z, rfl, rfl, hq, he, q⟩ := h
  cases rx
  obtain ⟨t, rfl⟩ := ry
  obtain ⟨its, r, pl, hz⟩ := I.list hq
  obtain ⟨j, h1, h2, h3, h4, h5⟩ := atI_get he
  obtain ⟨w, ew, rw'⟩ := r.get h2
  have hl := r.length
  have hn := line63
  have fin : EP X pins σ Q w s := ⟨z, H, I, rw', q⟩
  by_cases h0 : 0 ≤ i
  · have hj : i.toNat = j := by
      rw [seqIndex_of h0 h5] at h1
      exact Option.some.inj h1
    exact wpAny_getItem_list pl.isList h0 (by omega) (by rw [hj]; simpa using ew) fin
  · have hj : (i + (its.toArray.size : Int)).toNat = j := by
      rw [seqIndex_neg (by omega) h4] at h1
      rw [List.size_toArray, ← hl]
      exact Option.some.inj h1
    exact wpAny_getItem_list_neg pl.isList (by omega) (by rw [List.size_toArray] <;> omega) (by omega) (by rw [hj]; simpa using ew) fin
end
def NdAt (H : Hp) (q : Addr) (n : Node) : Prop := ∃ r t, H q = some (.tup [.ref r, .ref t]) ∧ H r = some (.tup (iV n.1)) ∧ H t = some (.tup (iV n.2))
theorem keys_iV (H : Hp) : ∀ T : List Nat, Nst.KeysAre H (nums T) (iV T)
  | [] => by show Nst.KeysAre H [] []; rw [Nst.KeysAre]
  | x :: T => by
    show Nst.KeysAre H (.num ((x : Nat) : Int) :: nums T) (.int (x : Nat) :: iV T)
    rw [Nst.KeysAre]
    exact ⟨_, _, rfl, by rw [KeyIs]; exact .inl rfl, keys_iV H T⟩
theorem NdAt.is {H : Hp} {q : Addr} {n : Node} (h : NdAt H q n) : KeyIs H (keyN n) (.ref q) := by
  obtain ⟨r, t, h1, h2, h3⟩ := h
  unfold keyN
  rw [KeyIs]
  refine ⟨q, _, rfl, h1, ?_⟩
  rw [Nst.KeysAre]
  refine ⟨_, _, rfl, by rw [KeyIs]; exact ⟨r, _, rfl, h2, keys_iV H _⟩, ?_⟩
  rw [Nst.KeysAre]
  refine ⟨_, _, rfl, by rw [KeyIs]; exact ⟨t, _, rfl, h3, keys_iV H _⟩, ?_⟩
  rw [Nst.KeysAre]
theorem nums_deep : ∀ T : List Nat, NestedKey.depthAll (nums T) = 0
  | [] => by show NestedKey.depthAll [] = 0; rw [NestedKey.depthAll]
  | x :: T => by
    show NestedKey.depthAll (.num ((x : Nat) : Int) :: nums T) = 0
    rw [NestedKey.depthAll, nums_deep T, NestedKey.depth]
    rfl
theorem keyN_deep (n : Node) : (keyN n).depth ≤ 8 := by
  unfold keyN
  rw [NestedKey.depth, NestedKey.depthAll, NestedKey.depthAll, NestedKey.depthAll, NestedKey.depth, NestedKey.depth, nums_deep, nums_deep]
  decide
theorem NdAt.keep {H H' : Hp} {q : Addr} {n : Node} (ht : ∀ b ys, H b = some (.tup ys) → H' b = some (.tup ys)) (h : NdAt H q n) : NdAt H' q n := by
  obtain ⟨r, t, h1, h2, h3⟩ := h
  exact ⟨r, t, ht _ _ h1, ht _ _ h2, ht _ _ h3⟩
def GN : KG := ⟨fun H k v => ∃ q n, v = .ref q ∧ k = keyN n ∧ NdAt H q n, fun H k v ⟨q, n, e1, e2, h⟩ => by subst e1 e2; exact ⟨h.is, keyN_deep n⟩, fun H H' k v ht ⟨q, n, e1, e2, h⟩ => ⟨q, n, e1, e2, h.keep ht⟩⟩
theorem GN.mk {H : Hp} {q : Addr} {n : Node} (h : NdAt H q n) : GN.is H (keyN n) (.ref q) := ⟨q, n, rfl, rfl, h⟩
theorem GN.out {H : Hp} {q : Addr} {n : Node} (h : GN.is H (keyN n) (.ref q)) : NdAt H q n := by
  obtain ⟨q', n', e1, e2, h⟩ := h
  cases e1
  rw [keyN_inj e2]
  exact h
def keyT (T : List Nat) : List Key := T.map fun n => Sum.inl ((n : Nat) : Int)
theorem iV_key (T : List Nat) : iV T = (keyT T).map kV := by
  unfold iV keyT
  rw [List.map_map]
  rfl
theorem keyT_inj : ∀ {T T' : List Nat}, keyT T = keyT T' → T = T'
  | [], [], _ => rfl
  | [], _ :: _, h => by simp [keyT] at h
  | _ :: _, [], h => by simp [keyT] at h
  | a :: T, b :: T', h => by
    simp only [keyT, List.map_cons, List.cons.injEq] at h
    have h1 := Sum.inl.inj h.1
    rw [show a = b by omega, keyT_inj (T := T) (T' := T') h.2]
def Stay (H H' : Hp) : Prop := (∀ b xs, H b = some (.tup xs) → H' b = some (.tup xs)) ∧ (∀ b xs, H b = some (.lst xs) → H' b = some (.lst xs))
theorem Stay.refl (H : Hp) : Stay H H := ⟨fun _ _ h => h, fun _ _ h => h⟩
theorem Stay.trans {H1 H2 H3 : Hp} (a : Stay H1 H2) (b : Stay H2 H3) : Stay H1 H3 := ⟨fun _ _ h => b.1 _ _ (a.1 _ _ h), fun _ _ h => b.2 _ _ (a.2 _ _ h)⟩
theorem Stay.of {H H' : Hp} (s : Same H H') : Stay H H' := ⟨fun _ _ h => s _ _ h, fun _ _ h => s _ _ h⟩
theorem Stay.put {H : Hp} {a : Addr} {o o' : HO} (h : H a = some o) (n1 : ∀ xs, o ≠ .tup xs) (n2 : ∀ xs, o ≠ .lst xs) : Stay H (upd H a o') :=
  ⟨fun b xs e => by rw [upd_ne (fun q => by rw [q, h] at e; exact n1 _ (Option.some.inj e))]; exact e, fun b xs e => by rw [upd_ne (fun q => by rw [q, h] at e; exact n2 _ (Option.some.inj e))]; exact e⟩
theorem Stay.dT {H : Hp} {a : Addr} {kvs : List (List Key × V)} {o' : HO} (h : H a = some (.dT kvs)) : Stay H (upd H a o') := Stay.put h (fun _ z => by cases z) (fun _ z => by cases z)
theorem Stay.nd {G : KG} {P : Program} {w : World} {H : Hp} {a : Addr} {m : List (NestedKey × V)} {o' : HO} (h : ND G P w H a m) : Stay H (upd H a o') := by
  obtain ⟨kvs, h1, _⟩ := h
  exact Stay.put h1 (fun _ z => by unfold NX at z; cases z) (fun _ z => by unfold NX at z; cases z)
theorem none_of {H H' : Hp} (s : Same H H') {a : Addr} (h : H' a = none) : H a = none := by
  cases e : H a with
  | none => rfl
  | some o => rw [s _ _ e] at h; cases h
theorem ND.nT {G : KG} {P : Program} {w : World} {H : Hp} {a b : Addr} {m : List (NestedKey × V)} {kvs : List (List Key × V)} (h : ND G P w H a m) (hb : H b = some (.dT kvs)) : b ≠ a := fun e => by
  obtain ⟨_, h1, _⟩ := h
  rw [← e, hb] at h1
  unfold NX at h1
  cases h1
theorem pimp {α β : Type} {F G : α → β → Prop} (h : ∀ a b, F a b → G a b) {l : List α} {l' : List β} (p : Paired F l l') : Paired G l l' := by
  induction p with
  | nil => exact .nil
  | cons h1 _ ih => exact .cons (h _ _ h1) ih
def NsAt (H : Hp) (us : List V) (ns : List Node) : Prop := Paired (fun u n => ∃ q, u = V.ref q ∧ NdAt H q n) us ns
theorem NsAt.tups {H H' : Hp} {us : List V} {ns : List Node} (s : ∀ b ys, H b = some (.tup ys) → H' b = some (.tup ys)) (h : NsAt H us ns) : NsAt H' us ns := pimp (fun _ _ ⟨q, e, h⟩ => ⟨q, e, h.keep s⟩) h
theorem tup_lst {H : Hp} {D : Addr} {xs : List V} {o : HO} (h : H D = some (.lst xs)) : ∀ b ys, H b = some (.tup ys) → upd H D o b = some (.tup ys) := fun b ys e => by
  rw [upd_ne (fun q => by rw [q, h] at e; cases e)]
  exact e
theorem NsAt.stay {H H' : Hp} {us : List V} {ns : List Node} (s : Stay H H') (h : NsAt H us ns) : NsAt H' us ns := pimp (fun _ _ ⟨q, e, h⟩ => ⟨q, e, h.keep s.1⟩) h
def TurnsOk (w : List W) (s : List Nat) (b : Nat) (H : Hp) (tD : Addr) : Prop := ∃ (kvs : List (List Key × V)) (Ts : List (List Nat)), H tD = some (.dT kvs) ∧ kvs.map (·.1) = Ts.map keyT ∧ Ts.Nodup ∧ (∀ T ∈ Ts, Cell w T) ∧
  ∀ T v, valV kvs (keyT T) = some v → ∃ l us, v = V.ref l ∧ H l = some (.lst us) ∧ NsAt H us (kids w s b T)
theorem TurnsOk.stay {w : List W} {s : List Nat} {b : Nat} {H H' : Hp} {tD : Addr} (h : TurnsOk w s b H tD) (st : Stay H H') (e : H' tD = H tD) : TurnsOk w s b H' tD := by
  obtain ⟨kvs, Ts, h1, h2, h3, h4, h5⟩ := h
  refine ⟨kvs, Ts, e.trans h1, h2, h3, h4, fun T v hv => ?_⟩
  obtain ⟨l, us, e1, e2, e3⟩ := h5 T v hv
  exact ⟨l, us, e1, st.2 _ _ e2, e3.stay st⟩
theorem TurnsOk.same {w : List W} {s : List Nat} {b : Nat} {H H' : Hp} {tD : Addr} (h : TurnsOk w s b H tD) (st : Same H H') : TurnsOk w s b H' tD := by
  obtain ⟨kvs, Ts, h1, _⟩ := id h
  exact h.stay (Stay.of st) ((st _ _ h1).trans h1.symm)
theorem keys_in {w : List W} {kvs : List (List Key × V)} {Ts : List (List Nat)} (h2 : kvs.map (·.1) = Ts.map keyT) {T : List Nat} (h : valV kvs (keyT T) = none) : T ∉ Ts := fun q => by
  have : keyT T ∈ kvs.map (·.1) := by rw [h2]; exact List.mem_map.mpr ⟨T, q, rfl⟩
  obtain ⟨p, hp, e⟩ := List.mem_map.mp this
  have ha := valV_any (keyT T) kvs
  rw [h] at ha
  have : (kvs.any fun kv => decide (kv.1 = keyT T)) = true := List.any_eq_true.mpr ⟨p, hp, decide_eq_true e⟩
  rw [this] at ha
  cases ha
theorem TurnsOk.more {w : List W} {s : List Nat} {b : Nat} {H : Hp} {tD : Addr} {kvs : List (List Key × V)} {Ts : List (List Nat)} (h1 : H tD = some (.dT kvs)) (h2 : kvs.map (·.1) = Ts.map keyT) (h3 : Ts.Nodup) (h4 : ∀ T ∈ Ts, Cell w T)
    (h5 : ∀ T v, valV kvs (keyT T) = some v → ∃ l us, v = V.ref l ∧ H l = some (.lst us) ∧ NsAt H us (kids w s b T)) {T : List Nat} (hv : valV kvs (keyT T) = none) (hT : Cell w T) {l : Addr} {us : List V} (hl : H l = some (.lst us)) (hn : NsAt H us (kids w s b T)) :
    TurnsOk w s b (upd H tD (.dT (putK kvs (keyT T) (.ref l)))) tD := by
  have st : Stay H (upd H tD (.dT (putK kvs (keyT T) (.ref l)))) := Stay.dT h1
  refine ⟨_, Ts ++ [T], upd_same, ?_, ?_, ?_, fun T' v h => ?_⟩
  · rw [putK_new _ hv, List.map_append, List.map_append, h2]; rfl
  · refine List.nodup_append.mpr ⟨h3, List.nodup_cons.mpr ⟨List.not_mem_nil, List.nodup_nil⟩, fun a ha b hb e => ?_⟩
    rw [List.mem_singleton] at hb
    rw [e, hb] at ha
    exact keys_in (w := w) h2 hv ha
  · intro T' h
    rcases List.mem_append.mp h with h | h
    · exact h4 T' h
    · rw [List.mem_singleton] at h; rw [h]; exact hT
  · rw [valV_put] at h
    split at h
    · rename_i e
      cases h
      rw [keyT_inj e]
      exact ⟨l, us, rfl, st.2 _ _ hl, hn.stay st⟩
    · obtain ⟨l', us', e1, e2, e3⟩ := h5 T' v h
      exact ⟨l', us', e1, st.2 _ _ e2, e3.stay st⟩
theorem walk_itemsN {P : Program} {w : World} {d : Addr} {o : Obj} {kvs : List (NestedKey × Addr × V)} : Walk (ItN P w d o kvs) kvs.length (fun H => H d = some (.frz o (NX P w d kvs))) (fun i H x H' => ∃ T k b v, kvs[i]? = some (k, b, v) ∧ x = .ref T ∧ H T = none ∧ H' = upd H T (.tup [.ref b, v])) :=
  ⟨fun _ _ hi q => ⟨q, hi⟩, fun _ q => ⟨q, Nat.le_refl _⟩, fun _ _ _ _ _ _ y => y⟩
def PrAt (H : Hp) (ts : List Addr) (m : Cnt) : Prop := Paired (fun (t : Addr) (q : NestedKey × V) => ∃ b, GN.is H q.1 (.ref b) ∧ H t = some (.tup [.ref b, q.2])) ts (encC m)
theorem PrAt.stay {H H' : Hp} {ts : List Addr} {m : Cnt} (s : Stay H H') (h : PrAt H ts m) : PrAt H' ts m := pimp (fun _ _ ⟨b, h1, h2⟩ => ⟨b, GN.keep _ _ _ _ s.1 h1, s.1 _ _ h2⟩) h
theorem PrAt.get {H : Hp} {ts : List Addr} {m : Cnt} (h : PrAt H ts m) {j : Nat} {t : Addr} (e : ts[j]? = some t) : ∃ x b, m[j]? = some x ∧ NdAt H b x.1 ∧ H t = some (.tup [.ref b, .int ((x.2 : Nat) : Int)]) := by
  obtain ⟨q, hq, b, h1, h2⟩ := LiI.paired_get h e
  unfold encC at hq
  rw [List.getElem?_map] at hq
  obtain ⟨x, hx, rfl⟩ := Option.map_eq_some_iff.mp hq
  exact ⟨x, b, hx, GN.out h1, h2⟩
def tots (y : W) (s : List Nat) (a b n : Nat) : List Nat := [0, 1, 2].map fun r => (txs s n).countP fun z => decide (due z 0 (woE a b z) y = r)
def isR (r : Nat) (n : Node) : Nat := if n.1.head? = some r then 1 else 0
def tl (m : Cnt) : List Nat := [totC (isR 0) m, totC (isR 1) m, totC (isR 2) m]
theorem sum_count {α : Type} (p : α → Bool) : ∀ l : List α, (l.map fun z => if p z = true then 1 else 0).sum = l.countP p
  | [] => rfl
  | x :: l => by
    rw [List.map_cons, List.sum_cons, sum_count p l]
    by_cases h : p x = true
    · rw [if_pos h, List.countP_cons_of_pos h]; omega
    · rw [if_neg h, List.countP_cons_of_neg h]; omega
theorem tl_tots {y : W} {s : List Nat} {a b n : Nat} (ha : a ≤ 2) (hb : b ≤ 2) : tl (cntsC [y] s a b n) = tots y s a b n := by
  have one : ∀ r, totC (isR r) (cntsC [y] s a b n) = (txs s n).countP fun z => decide (due z 0 (woE a b z) y = r) := fun r => by
    rw [tot_cnts, ← sum_count]
    congr 1
    refine List.map_congr_left fun z _ => ?_
    unfold isR
    rw [node_res ha hb z]
    simp
  unfold tl tots
  rw [one, one, one]
  rfl
theorem tl_take {m : Cnt} {j : Nat} {x : Node × Nat} (h : m[j]? = some x) {r : Nat} (hr : x.1.1 = [r]) (h3 : r < 3) : ∃ v : Nat, (tl (m.take j))[r]? = some v ∧ tl (m.take (j + 1)) = (tl (m.take j)).set r (v + x.2) := by
  have e : ∀ q, isR q x.1 = if r = q then 1 else 0 := fun q => by
    unfold isR
    rw [hr]
    simp
  unfold tl
  rw [tot_take h, tot_take h, tot_take h, e, e, e]
  match r, h3 with
  | 0, _ => exact ⟨_, rfl, by simp⟩
  | 1, _ => exact ⟨_, rfl, by simp⟩
  | 2, _ => exact ⟨_, rfl, by simp⟩
def spCount (C CB : Addr) : Sp := fun vs H Q _ => ∃ (b : Addr) (s : List Nat) (y : W) (n a c : Nat), vs = [.str (tx s), .ref b, .int (n : Nat), .int (a : Nat), .int (c : Nat)] ∧ a ≤ 2 ∧ c ≤ 2 ∧ BaAt C CB H b [y] ∧ Fine [y] ∧ y.size ≤ 10 ∧ s.length ≤ 100 ∧ n ≤ 1000 ∧
  ∀ (q : Addr) (H' : Hp), Same H H' → H' q = some (.lst (iV (tots y s a c n))) → Q (.ref q) H'
section
variable {P : Program} {w : World} {K : PySem.W.Frag} {mg : Str → Option Value} {base : Heap} {c : Cs} {C CB : Addr}
abbrev s_count_results : Stmt := top 63
theorem sc_count_results : FnScope ["signs", "backward", "length", "at_end", "elsewhere", "turns", "counts", "_", "longer", "state", "many", "node", "totals", "results", "letter"] ["signs", "backward", "length", "at_end", "elsewhere"] (defScope s_count_results) := ⟨rfl, rfl, rfl, by decide +kernel, rfl, by decide +kernel, by decide +kernel⟩
theorem d_count_results (h : Here K mg "count_results" s_count_results ["signs", "backward", "length", "at_end", "elsewhere"]) (B : Bs mg) (BL : mg "list" = none) (G_turned : ScOk P w K mg base CB 4 "turned" ["self", "letter", "state", "worth"] (spTurned C CB)) : DefOk P w K mg base 5 "count_results" ["signs", "backward", "length", "at_end", "elsewhere"] (spCount C CB) := by
  have B_range := B.range; have B_list := BL
  refine h.ok sc_count_results (fun vs H Q E h => by obtain ⟨_, _, _, _, _, _, rfl, _⟩ := h; rfl) (fun f cdv A' outer s' H vs Q E hr h => ?_)
  obtain ⟨b, s, y, n, a, cc, rfl, ha, hc, hB, hfine, hsz, hsl, hn1000, k⟩ := h
  obtain ⟨dx, aa, ar, lv, so, kvs0, L⟩ := id hB
  have hu9 := Nat.lt_of_le_of_lt (Nat.add_le_add_left (show 9 ≤ 64 by decide) _) hr.units
  have hu := Nat.lt_of_le_of_lt (Nat.add_le_add_left (show 1 ≤ 64 by decide) _) hr.units
  refine ⟨_, (pss_cons (ps_set (i := 5) sc_count_results.nd rfl (Or.inl rfl) pe_dnewT)
  (pss_cons (ps_set (i := 6) sc_count_results.nd rfl (Or.inl rfl) (Nst.pe_ndisp hu9 (pe_methS G_turned (hr.mono (by first | decide | omega)) (pv 1) (pa_cons pe_str (pa_cons (pe_tup pa_nil) (pa_cons (pv 3) pa_nil)))) pe_int))
  (pss_cons (ps_for PassesOwn.never rfl (pi_range1 rfl B_range (pa_cons (pv 2) pa_nil)) (pg_name (i := 7) sc_count_results.nd rfl (Or.inl rfl))
   (pss_cons (ps_set (i := 8) sc_count_results.nd rfl (Or.inl rfl) Nst.pe_nnew)
  (pss_cons (ps_for PassesOwn.never rfl (pi_list (Nst.pe_listItemsN rfl (pv 6) rfl B_list (by decide +kernel))) (pg_tup rfl (pgs_cons (pg_tup rfl (pgs_cons (pg_name (i := 7) sc_count_results.nd rfl (Or.inl rfl)) (pgs_cons (pg_name (i := 9) sc_count_results.nd rfl (Or.inr rfl)) pgs_nil))) (pgs_cons (pg_name (i := 10) sc_count_results.nd rfl (Or.inl rfl)) pgs_nil)))
   (pss_cons (ps_if (pt_cmp (pc_dnotin hu (pv 9) (pv 5))) (pss_one (ps_dput hu (pv 5) (pv 9) (pe_lc (own := [("letter", 14)]) (g := (gName 14)) (tt := tYes) rfl sc_count_results.nd (pi_str (pv 0)) (blkOk_by (own := [("letter", 14)]) (N := ["signs", "backward", "length", "at_end", "elsewhere", "turns", "counts", "_", "longer", "state", "many", "node", "totals", "results", "letter"]) (sc := defScope s_count_results) (by decide +kernel)) (fun _ _ _ _ _ => pg_name (i := 14) sc_count_results.nd rfl (Or.inl rfl)) (fun _ _ _ _ _ => pts_nil) (fun _ _ _ _ _ => (pe_methS G_turned (hr.mono (by first | decide | omega)) (pv 1) (pa_cons (pv 14) (pa_cons (pv 9) (pa_cons (pv 4) pa_nil)))))) rfl)) pss_nil)
  (pss_one (ps_for PassesOwn.never rfl (pi_list (pe_dget hu (pv 5) (pv 9) (fun _ _ => rfl))) (pg_name (i := 11) sc_count_results.nd rfl (Or.inl rfl))
   (pss_one (Nst.ps_nput hu9 (pv 8) (pv 11) (pe_op op_add (Nst.pe_nbm PySem.F.slot_dict_get PySem.F.type_dict_get (Nst.mt_nget hu9) (pv 8) (pa_cons (pv 11) (pa_cons pe_int pa_nil))) (pv 10)) rfl))))))
  (pss_one (ps_set (i := 6) sc_count_results.nd rfl (Or.inl rfl) (pv 8))))))
  (pss_cons (ps_set (i := 12) sc_count_results.nd rfl (Or.inl rfl) (pe_lst (pa_cons pe_int (pa_cons pe_int (pa_cons pe_int pa_nil)))))
  (pss_cons (ps_lock (ps_for PassesOwn.never rfl (Nst.pi_itemsN (pv 6)) (pg_tup rfl (pgs_cons (pg_tup rfl (pgs_cons (pg_name (i := 13) sc_count_results.nd rfl (Or.inl rfl)) (pgs_cons (pg_name (i := 7) sc_count_results.nd rfl (Or.inl rfl)) pgs_nil))) (pgs_cons (pg_name (i := 10) sc_count_results.nd rfl (Or.inl rfl)) pgs_nil)))
   (pss_one (ps_augS (pv 12) (pe_ix ix_tup (pv 13) pe_int (fun _ _ => rfl)) get_list (pv 10) ip_add set_list))))
  (pss_one (ps_ret (pv 12)))))))), ?_⟩
  intro tD htD
  walk_at "nx"
  intro m0 o0 hm0 hnd0
  have s0 : Same H (upd (upd H tD (.dT [])) m0 o0) := (Same.new htD _).trans (Same.new hm0 _)
  have hmH : H m0 = none := none_of (Same.new htD _) hm0
  have ht0 : upd (upd H tD (.dT [])) m0 o0 tD = some (.dT []) := by rw [upd_ne (ne_of_none upd_same hm0)]; exact upd_same
  generalize upd (upd H tD (.dT [])) m0 o0 = H0 at *
  refine ⟨_, rfl, b, dx, _, rfl, (L.keep s0).ins, rfl, ?_⟩
  refine ⟨by show 0 ≤ sizeLine; decide, fun e0 he0 => ?_⟩
  have s01 : Same H0 (upd H0 e0 (.tup [])) := Same.new he0 _
  refine ⟨_, rfl, b, e0, [y], none, [], a, rfl, hB.keep (s0.trans s01), upd_same, .inl rfl, hfine, fun q r t H2 s2 hq hr' ht => ?_⟩
  have s02 := s01.trans s2
  refine ⟨GN, q, keyN (turnT [y] none [] a), rfl, GN.mk ⟨r, t, hq, hr', ht⟩, (hnd0 GN).same s02, fun o hnd => ?_⟩
  have htn := s02 _ _ ht0
  have ntm : tD ≠ m0 := ND.nT (hnd0 GN) ht0
  have hto : upd H2 m0 o tD = some (.dT []) := by rw [upd_ne ntm]; exact htn
  have sH : Same H (upd H2 m0 o) := Same.put hmH (s0.trans s02) _
  have tk0 : TurnsOk [y] s cc (upd H2 m0 o) tD := ⟨[], [], hto, rfl, List.nodup_nil, fun T (hT : T ∈ ([] : List (List Nat))) => (nomatch hT), fun T v (hv : valV [] _ = some v) => by cases hv⟩
  generalize upd H2 m0 o = H3 at *
  walk_at "nx"
  refine ⟨_, rfl, n, rfl, by omega, by omega, ?_⟩
  refine for_range (lo := 0) (n := (n : Int).toNat) (fun i σ Hx => ∃ (cD : Addr) (x7 x8 x9 x10 x11 : Option V), σ = [some (.str (tx s)), some (.ref b), some (.int (n : Nat)), some (.int (a : Nat)), some (.int (cc : Nat)), some (.ref tD), some (.ref cD), x7, x8, x9, x10, x11, none, none, none] ∧
    Same H Hx ∧ H cD = none ∧ ND GN P w Hx cD (encC (cntsC [y] s a cc i)) ∧ TurnsOk [y] s cc Hx tD) ?_ ?_ ?_
  · exact ⟨m0, none, none, none, none, none, rfl, sH, hmH, hnd, tk0⟩
  · rintro i σ Hx hi ⟨cD, x7, x8, x9, x10, x11, rfl, sx, hcH, hndx, tkx⟩
    have hok := cnts_ok (w := [y]) (s := s) ha hc i
    have hsm := hok.small (by show W.sizes [y] ≤ 10; simp only [W.sizes]; omega) (by show 1 ≤ 2; decide)
    refine gset ?_
    intro lD oL hlD hndL
    have hlH := none_of sx hlD
    have s1 : Same Hx (upd Hx lD oL) := Same.new hlD _
    have hndL := hndL GN
    have hndx1 := hndx.same s1
    have tk1 := tkx.same s1
    generalize upd Hx lD oL = H4 at *
    walk_at "nx"
    refine ⟨_, rfl, GN, cD, _, rfl, hndx1, by rw [encC, List.length_map]; exact Nat.le_trans hsm (by decide), fun H5 p ts s5 hp hpr => ?_⟩
    have hpr : PrAt H5 ts (cntsC [y] s a cc i) := hpr
    have hts := Paired.length hpr
    rw [encC, List.length_map] at hts
    have tk5 := tk1.same s5
    have nd5 := hndL.same s5
    have sx5 := sx.trans (s1.trans s5)
    refine ⟨p, rfl, ⟨_, SqL.of hp⟩, ?_⟩
    have hcs : cntsC [y] s a cc (i + 1) = stepC [y] s cc [] (cntsC [y] s a cc i) := rfl
    rw [hcs]
    generalize cntsC [y] s a cc i = m at *
    refine for_list (K := K) (a := p) (xs := ts.map V.ref) (fun j σ Hy => ∃ (x7 x9 x10 x11 : Option V), σ = [some (.str (tx s)), some (.ref b), some (.int (n : Nat)), some (.int (a : Nat)), some (.int (cc : Nat)), some (.ref tD), some (.ref cD), x7, some (.ref lD), x9, x10, x11, none, none, none] ∧
      Stay H5 Hy ∧ Same H Hy ∧ ND GN P w Hy lD (encC (stepC [y] s cc [] (m.take j))) ∧ TurnsOk [y] s cc Hy tD) ?_ ?_ ?_ ?_
    · exact ⟨_, _, _, _, rfl, Stay.refl _, sx5, nd5, tk5⟩
    · rintro j σ Hy _ ⟨_, _, _, _, _, st, _⟩
      exact SqL.of (st.2 _ _ hp)
    · rintro j e σ Hy he ⟨x7, x9, x10, x11, rfl, st, sy, ndl, tky⟩
      rw [List.getElem?_map] at he
      obtain ⟨t, ht, rfl⟩ := Option.map_eq_some_iff.mp he
      obtain ⟨x, bq, hx, hb, htt⟩ := (hpr.stay st).get ht
      obtain ⟨r, tt, hq1, hq2, hq3⟩ := id hb
      refine ⟨t, _, rfl, SqT.of htt, rfl, .ref bq, [.int (x.2 : Nat)], rfl, bq, _, rfl, SqT.of hq1, rfl, .ref r, [.ref tt], rfl, .ref tt, [], rfl, rfl, .int (x.2 : Nat), [], rfl, rfl, ?_⟩
      have hT : Cell [y] x.1.2 := (hok.2 x (List.mem_of_getElem? hx)).2.2
      have hacc : CntOk [y] (stepC [y] s cc [] (m.take j)) := step_ok hc _ (nil_ok _)
      rw [stepC_take hx]
      generalize stepC [y] s cc [] (m.take j) = acc at *
      refine st_cut (fun σ' Hz => σ' = [some (.str (tx s)), some (.ref b), some (.int (n : Nat)), some (.int (a : Nat)), some (.int (cc : Nat)), some (.ref tD), some (.ref cD), some (.ref r), some (.ref lD), some (.ref tt), some (.int (x.2 : Nat)), x11, none, none, none] ∧
        Stay H5 Hz ∧ Same H Hz ∧ ND GN P w Hz lD (encC acc) ∧ TurnsOk [y] s cc Hz tD ∧ Hz tt = some (.tup (iV x.1.2)) ∧ ∃ kvs l us, Hz tD = some (.dT kvs) ∧ valV kvs (keyT x.1.2) = some (.ref l) ∧ Hz l = some (.lst us) ∧ NsAt Hz us (kids [y] s cc x.1.2)) ?_ ?_
      · intro nx' hnx
        obtain ⟨kvs, Ts, k1, k2, k3, k4, k5⟩ := id tky
        have hti' : Hy tt = some (.tup ((keyT x.1.2).map kV)) := by rw [← iV_key]; exact hq3
        refine ⟨_, rfl, _, rfl, tD, _, rfl, DGet.t k1 hti', _, rfl, ?_⟩
        cases hv : valV kvs (keyT x.1.2) with
        | some v =>
          obtain ⟨l, us, rfl, k6, k7⟩ := k5 _ _ hv
          exact iteF (hnx _ _ ⟨rfl, st, sy, ndl, tky, hq3, kvs, l, us, k1, hv, k6, k7⟩)
        | none =>
          refine iteT ?_
          refine ⟨_, rfl, tx s, rfl, fun D hD => ?_⟩
          have hsz2 : (tx s).cps.size = s.length := by simp [tx]
          refine lc_it (walk_str (z := tx s)) (fun jj Hw => ∃ us : List V, Hw D = some (.lst us) ∧ NsAt Hw us ((kids [y] s cc x.1.2).take jj) ∧ Same Hy Hw) ?_ ?_ ?_ ?_
          · exact ⟨[], upd_same, .nil, Same.new hD _⟩
          · intro jj Hw _ _
            exact True.intro
          · rintro jj e Hw Hw2 hj ⟨us, hus, hns, sw⟩ ⟨rfl, ch, hch, rfl⟩
            rw [hsz2] at hj
            have hc' : s[jj]? = some ch := by
              have : (tx s).cps[jj]? = s[jj]? := by simp [tx]
              rw [← this]; exact hch
            have hst : (V.str ⟨#[ch]⟩ : V) = .str (sgn (some ch)) := rfl
            rw [hst]
            refine ⟨rfl, ?_⟩
            have sHw := sy.trans sw
            refine ⟨_, rfl, b, dx, _, rfl, (L.keep sHw).ins, rfl, _, rfl, _, rfl, _, rfl, b, tt, [y], some ch, x.1.2, cc, rfl, hB.keep sHw, sw _ _ hq3, .inr hT.1, hfine, fun q' r' t' H2 s2 hq' hr2 ht2 => ?_⟩
            have hlen : us.length = ((kids [y] s cc x.1.2).take jj).length := Paired.length hns
            have hk : (kids [y] s cc x.1.2)[jj]? = some (turnT [y] (some ch) x.1.2 cc) := by unfold kids; rw [List.getElem?_map, hc']; rfl
            refine ⟨us, s2 _ _ hus, small' (by rw [hlen, List.length_take]; omega), us ++ [.ref q'], upd_same, ?_, Same.put hD (sw.trans s2) _⟩
            rw [take_more' hk]
            have hq4 : NdAt H2 q' (turnT [y] (some ch) x.1.2 cc) := ⟨r', t', hq', hr2, ht2⟩
            exact NsAt.tups (tup_lst (s2 _ _ hus)) (Paired.snoc (NsAt.stay (Stay.of s2) hns) ⟨q', rfl, hq4⟩)
          · rintro Hw ⟨us, hus, hns, sw⟩
            rw [List.take_of_length_le (by unfold kids; rw [List.length_map]; omega)] at hns
            have hkl : kvs.length ≤ 400000 := by
              have e1 := congrArg List.length k2
              rw [List.length_map, List.length_map] at e1
              rw [e1]
              exact box_states (by show W.sizes [y] ≤ 10; simp only [W.sizes]; omega) k3 k4
            refine ⟨_, rfl, _, rfl, tD, _, rfl, DPut.t (sw _ _ k1) (sw _ _ hti') (Nat.lt_of_le_of_lt hkl (by decide)), ?_⟩
            have hlT : lD ≠ tD := (ND.nT ndl k1).symm
            have stp : Stay Hw (upd Hw tD (.dT (putK kvs (keyT x.1.2) (.ref D)))) := Stay.dT (sw _ _ k1)
            refine hnx _ _ ⟨rfl, st.trans ((Stay.of sw).trans stp), Same.put htD (sy.trans sw) _, ND.put (ndl.same sw) (sw _ _ k1) hlT (fun xs z => by cases z), ?_, stp.1 _ _ (sw _ _ hq3), _, D, us, upd_same, ?_, stp.2 _ _ hus, hns.stay stp⟩
            · refine TurnsOk.more (sw _ _ k1) k2 k3 k4 (fun T v hv => ?_) hv hT hus hns
              obtain ⟨l, us', e1, e2, e3⟩ := k5 T v hv
              exact ⟨l, us', e1, sw _ _ e2, e3.stay (Stay.of sw)⟩
            · rw [valV_put, if_pos rfl]
      · rintro σ' Hz ⟨rfl, st2, sz, ndz, tkz, hz3, kvs, l, us, k1, k2, k3, k4⟩
        have hti2 : Hz tt = some (.tup ((keyT x.1.2).map kV)) := by rw [← iV_key]; exact hz3
        have hul := Paired.length k4
        have hkids := kids_ok (w := [y]) (s := s) hc x.1.2
        refine ⟨_, rfl, _, rfl, tD, .ref l, rfl, by rw [← k2]; exact DGet.t k1 hti2, l, rfl, ⟨_, SqL.of k3⟩, ?_⟩
        generalize kids [y] s cc x.1.2 = ns at *
        refine for_list (K := K) (a := l) (xs := us) (fun jj σ Hw => ∃ (x11 : Option V), σ = [some (.str (tx s)), some (.ref b), some (.int (n : Nat)), some (.int (a : Nat)), some (.int (cc : Nat)), some (.ref tD), some (.ref cD), some (.ref r), some (.ref lD), some (.ref tt), some (.int (x.2 : Nat)), x11, none, none, none] ∧
          Stay Hz Hw ∧ Same H Hw ∧ ND GN P w Hw lD (encC (rowC acc (ns.take jj) x.2)) ∧ Hw tD = Hz tD) ?_ ?_ ?_ ?_
        · exact ⟨_, rfl, Stay.refl _, sz, ndz, rfl⟩
        · rintro jj σ Hw _ ⟨_, _, st3, _⟩
          exact SqL.of (st3.2 _ _ k3)
        · rintro jj u σ Hw hu2 ⟨x11, rfl, st3, sw, ndw, etD⟩
          obtain ⟨nn, hnn, q', rfl, hq'⟩ := LiI.paired_get k4 hu2
          have hq2' := hq'.keep st3.1
          have hrow : CntOk [y] (rowC acc (ns.take jj) x.2) := row_ok _ (fun z hz => hkids z (List.mem_of_mem_take hz)) hacc
          rw [rowC_take hnn]
          generalize rowC acc (ns.take jj) x.2 = mm at *
          have hmm := hrow.small (by show W.sizes [y] ≤ 10; simp only [W.sizes]; omega) (by show 1 ≤ 2; decide)
          refine gset ?_
          refine ⟨_, rfl, ⟨GN, lD, _, rfl, ndw⟩, _, rfl, GN, lD, q', .int 0, _, keyN nn, rfl, rfl, ndw, GN.mk hq2', ?_⟩
          refine ⟨_, rfl, _, _, val_enc nn mm, rfl, ?_⟩
          refine ⟨_, rfl, _, rfl, GN, lD, q', _, keyN nn, rfl, rfl, ndw, GN.mk hq2', by rw [encC, List.length_map]; exact Nat.le_trans hmm (by decide), fun o ndo => ?_⟩
          have e1 : putK (encC mm) (keyN nn) (.int (((getC mm nn : Nat) : Int) + ((x.2 : Nat) : Int))) = encC (addC mm nn x.2) := by
            rw [← Int.natCast_add]
            exact put_add _ _ _ hrow.1
          have ndo' : ND GN P w (upd Hw lD o) lD (putK (encC mm) (keyN nn) (.int (((getC mm nn : Nat) : Int) + ((x.2 : Nat) : Int)))) := ndo
          rw [e1] at ndo'
          exact ⟨_, rfl, st3.trans (Stay.nd ndw), Same.put hlH sw _, ndo', by rw [upd_ne (ND.nT ndw (etD.trans k1))]; exact etD⟩
        · rintro σ Hw ⟨x11, rfl, st3, sw, ndw, etD⟩
          rw [List.take_of_length_le (by omega)] at ndw
          exact ⟨_, _, _, _, rfl, st2.trans st3, sw, ndw, tkz.stay st3 etD⟩
    · rintro σ Hy ⟨x7, x9, x10, x11, rfl, st, sy, ndl, tky⟩
      rw [List.take_of_length_le (by rw [List.length_map]; omega)] at ndl
      walk_at "nx"
      refine ⟨_, rfl, ?_⟩
      exact ⟨lD, _, _, _, _, _, rfl, sy, hlH, ndl, tky⟩
  · rintro σ Hx ⟨cD, x7, x8, x9, x10, x11, rfl, sx, hcH, hndx, tkx⟩
    have hok := cnts_ok (w := [y]) (s := s) ha hc n
    have ecn : (n : Int).toNat = n := rfl
    rw [ecn] at hndx
    have etl : iV (tl (cntsC [y] s a cc n)) = iV (tots y s a cc n) := by rw [tl_tots ha hc]
    rw [← etl] at k
    generalize cntsC [y] s a cc n = m at *
    walk_at "nx"
    refine ⟨by show 3 ≤ sizeLine; decide, fun D hD => ?_⟩
    have hDH := none_of sx hD
    have s1 : Same Hx (upd Hx D (.lst [.int 0, .int 0, .int 0])) := Same.new hD _
    have hD1 : upd Hx D (.lst [.int 0, .int 0, .int 0]) D = some (.lst (iV (tl (m.take 0)))) := upd_same
    have sx1 := sx.trans s1
    have ndx1 := hndx.same s1
    have nDc : cD ≠ D := ND.ne ndx1 hD1
    generalize upd Hx D (.lst [.int 0, .int 0, .int 0]) = Hb at *
    obtain ⟨kvs, n1, n2, n3⟩ := ndx1
    walk_at "nx"
    refine ⟨cD, NX P w cD kvs, n1, True.intro, fun od => ?_⟩
    refine ⟨_, rfl, cD, od, kvs, rfl, upd_same, ?_⟩
    have hkl : kvs.length = m.length := by
      have := congrArg List.length n3
      rwa [kvN, List.length_map, encC, List.length_map] at this
    refine for_it walk_itemsN (fun j σ Hw => ∃ (x7 x10 x13 : Option V), σ = [some (.str (tx s)), some (.ref b), some (.int (n : Nat)), some (.int (a : Nat)), some (.int (cc : Nat)), some (.ref tD), some (.ref cD), x7, x8, x9, x10, x11, some (.ref D), x13, none] ∧
      Hw D = some (.lst (iV (tl (m.take j)))) ∧ Hw cD = some (.frz od (NX P w cD kvs)) ∧ Same H Hw ∧ ∀ b xs, Hb b = some (.tup xs) → Hw b = some (.tup xs)) ?_ ?_ ?_ ?_
    · refine ⟨_, _, _, rfl, by rw [upd_ne nDc.symm]; exact hD1, upd_same, Same.put hcH sx1 _, fun b xs e => ?_⟩
      rw [upd_ne (fun q => by rw [q, n1] at e; exact nx_tup (Option.some.inj e))]
      exact e
    · rintro j σ Hw _ ⟨_, _, _, _, _, hf, _⟩
      exact hf
    · rintro j e σ Hw Hw2 hj ⟨x7, x10, x13, rfl, hDw, hf, sw, htw⟩ ⟨T, kk, bq, v, hkv, rfl, hT, rfl⟩
      obtain ⟨x, hx, ek, ev⟩ : ∃ x, m[j]? = some x ∧ kk = keyN x.1 ∧ v = .int ((x.2 : Nat) : Int) := by
        have e := congrArg (fun l : List (NestedKey × V) => l[j]?) n3
        simp only [kvN, encC, List.getElem?_map, hkv] at e
        obtain ⟨x, hx, e2⟩ := Option.map_eq_some_iff.mp e.symm
        have e2 : (keyN x.1, V.int ((x.2 : Nat) : Int)) = (kk, v) := e2
        cases e2
        exact ⟨x, hx, rfl, rfl⟩
      subst ek ev
      have hG := n2 _ (List.mem_of_getElem? hkv)
      obtain ⟨r, tt, hq1, hq2, hq3⟩ := GN.out hG
      have s2 : Same Hw (upd Hw T (.tup [.ref bq, .int ((x.2 : Nat) : Int)])) := Same.new hT _
      have hT2 : upd Hw T (.tup [.ref bq, .int ((x.2 : Nat) : Int)]) T = some (.tup [.ref bq, .int ((x.2 : Nat) : Int)]) := upd_same
      generalize upd Hw T (.tup [.ref bq, .int ((x.2 : Nat) : Int)]) = Hv at *
      have hok1 := (hok.2 x (List.mem_of_getElem? hx))
      obtain ⟨r0, er0⟩ : ∃ r0, x.1.1 = [r0] := by
        have h1 := hok1.1
        match e : x.1.1, h1 with
        | [r0], _ => exact ⟨r0, rfl⟩
      have hr3 : r0 < 3 := hok1.2.1 r0 (by rw [er0]; exact List.mem_singleton.mpr rfl)
      obtain ⟨v0, hv0, hset⟩ := tl_take hx er0 hr3
      refine ⟨T, _, rfl, SqT.of hT2, rfl, .ref bq, [.int ((x.2 : Nat) : Int)], rfl, bq, _, rfl, SqT.of (s2 _ _ (htw _ _ hq1)), rfl, .ref r, [.ref tt], rfl, .ref tt, [], rfl, rfl, .int ((x.2 : Nat) : Int), [], rfl, rfl, ?_⟩
      have hq2' := s2 _ _ (htw _ _ hq2)
      rw [er0] at hq2'
      have hDv := s2 _ _ hDw
      have h3 : ixN (iV (tl (m.take j))).length ((r0 : Nat) : Int) = some r0 := by
        have : (iV (tl (m.take j))).length = 3 := rfl
        rw [this]
        unfold ixN
        rw [if_pos (by omega), if_pos (by omega)]
        rfl
      refine ⟨_, rfl, _, rfl, r, _, _, _, rfl, rfl, SqT.of hq2', rfl, D, _, _, _, rfl, rfl, SqL.of hDv, atI_nat (iV_at hv0), _, rfl, _, _, rfl, rfl, D, _, _, r0, rfl, rfl, hDv, h3, ?_⟩
      refine ⟨_, _, _, rfl, ?_, by rw [upd_ne nDc]; exact s2 _ _ hf, Same.put hDH (sw.trans s2) _, fun b xs e => ?_⟩
      · rw [upd_same, hset]
        unfold iV
        rw [List.map_set]
        rfl
      · rw [upd_ne (fun q => by rw [q] at e; have := s2 _ _ (htw _ _ e); rw [hDv] at this; cases this)]
        exact s2 _ _ (htw _ _ e)
    · rintro σ Hw ⟨x7, x10, x13, rfl, hDw, hf, sw, htw⟩
      rw [hkl, List.take_length] at hDw
      refine ⟨hf, ?_⟩
      refine ⟨_, rfl, ?_⟩
      exact k D _ (Same.put hcH sw _) (by rw [upd_ne nDc.symm]; exact hDw)
def spCounted (c : Cs) : Sp := fun vs H Q _ => ∃ (v : V) (s : List Nat) (y : W) (n : Nat), vs = [.str (tx s), v, .int (n : Nat)] ∧ ObjAt c H v y ∧ y.called = none ∧ y.wf s ∧ y.size ≤ 10 ∧ s.length ≤ 100 ∧ n ≤ 1000 ∧
  ∀ (q : Addr) (H' : Hp), Same H H' → H' q = some (.tup (iV (tots y s 0 1 n))) → Q (.ref q) H'
abbrev s_counted : Stmt := top 65
theorem sc_counted : FnScope ["signs", "way", "n"] ["signs", "way", "n"] (defScope s_counted) := ⟨rfl, rfl, rfl, by decide +kernel, rfl, by decide +kernel, by decide +kernel⟩
theorem d_counted (h : Here K mg "counted" s_counted ["signs", "way", "n"]) (B : Bs mg) (Kk : Kb mg) (gh : ∃ t, mg "HITS" = some (.int 0 t)) (gf : ∃ t, mg "FITS" = some (.int 1 t)) (G_asked : DefOk P w K mg base 7 "asked" ["ways", "most"] (spAsked c C CB)) (G_count_results : DefOk P w K mg base 5 "count_results" ["signs", "backward", "length", "at_end", "elsewhere"] (spCount C CB)) : DefOk P w K mg base 8 "counted" ["signs", "way", "n"] (spCounted c) := by
  have B_tuple := B.tuple; have GC_HITS := gh; have GC_FITS := gf; have GC_MOST_PARTS := Kk.p
  refine h.ok sc_counted (fun vs H Q E h => by obtain ⟨_, _, _, _, rfl, _⟩ := h; rfl) (fun f cdv A' outer s' H vs Q E hr h => ?_)
  obtain ⟨v, s, y, n, rfl, hv, hcl, hwf, hsz, hsl, hn, k⟩ := h
  refine ⟨_, (pss_one (ps_ret (pe_callTy call_tuple_of rfl B_tuple (by decide +kernel) (pa_cons (pe_callD G_count_results (hr.mono (by first | decide | omega)) rfl (pa_cons (pv 0) (pa_cons (pe_callD G_asked (hr.mono (by first | decide | omega)) rfl (pa_cons (pe_lst (pa_cons (pv 1) pa_nil)) (pa_cons (pe_globI rfl GC_MOST_PARTS) pa_nil))) (pa_cons (pv 2) (pa_cons (pe_globI rfl GC_HITS) (pa_cons (pe_globI rfl GC_FITS) pa_nil)))))) pa_nil)))), ?_⟩
  refine ⟨_, rfl, _, rfl, by show 1 ≤ sizeLine; decide, fun l hl => ?_⟩
  have s1 : Same H (upd H l (.lst [v])) := Same.new hl _
  have hl1 : upd H l (.lst [v]) l = some (.lst [v]) := upd_same
  generalize upd H l (.lst [v]) = H1 at *
  have hsz2 : W.sizes [y] ≤ 10 := by simp only [W.sizes]; omega
  refine ⟨l, [v], [y], 10, rfl, hl1, ⟨v, [], rfl, ObjAt.keep (stillS s1) _ _ hv, rfl⟩, fun w hw => by rw [List.mem_singleton] at hw; rw [hw]; exact hcl, hsz2, by omega, fun b H2 s2 hB => ?_⟩
  have hfw : W.wfs s [y] := ⟨hwf, True.intro⟩
  refine ⟨_, rfl, b, s, y, n, 0, 1, rfl, by decide, by decide, hB, fine_wfs hfw, hsz, hsl, hn, fun q H3 s3 hq => ?_⟩
  exact ⟨q, _, rfl, .inl ⟨SqL.of hq, fun r hr' => k r _ (s1.trans (s2.trans (s3.trans (Same.new hr' _)))) upd_same⟩⟩
end
end Rk
namespace Rk
open PySem PySem.Spec PyProof.Rows L2 Wv Tk
/-! ### all texts over some signs -/
def tw (s : List Nat) : Nat → List (List Nat)
  | 0 => [[]]
  | n + 1 => (tw s n).flatMap fun z => s.map fun c => z ++ [c]
def tst (s : List Nat) : Nat → List (List Nat)
  | 0 => [[]]
  | m + 1 => tst s m ++ tw s (m + 1)
theorem sum_map_add {α : Type} (f g : α → Nat) : ∀ l : List α, (l.map fun x => f x + g x).sum = (l.map f).sum + (l.map g).sum
  | [] => rfl
  | x :: l => by
    simp only [List.map_cons, List.sum_cons]
    rw [sum_map_add f g l]
    omega
theorem sum_zero {α : Type} : ∀ l : List α, (l.map fun _ => 0).sum = 0
  | [] => rfl
  | x :: l => by rw [List.map_cons, List.sum_cons, sum_zero l]
theorem sum_swap {α β : Type} (h : α → β → Nat) (t : List β) : ∀ l : List α, (l.map fun a => (t.map fun b => h a b).sum).sum = (t.map fun b => (l.map fun a => h a b).sum).sum
  | [] => by simp only [List.map_nil, List.sum_nil]; exact (sum_zero t).symm
  | x :: l => by
    simp only [List.map_cons, List.sum_cons]
    rw [sum_swap h t l, ← sum_map_add]
theorem end_sum (s : List Nat) : ∀ (n : Nat) (f : List Nat → Nat), ((txs s n).map fun z => (s.map fun c => f (z ++ [c])).sum).sum = ((txs s n).map fun z => (s.map fun c => f (c :: z)).sum).sum
  | 0, f => rfl
  | n + 1, f => by
    have ih := end_sum s n fun z => (s.map fun d => f (d :: z)).sum
    rw [txs, sum_flat, sum_flat]
    simp only [List.map_map, Function.comp_def]
    rw [← ih]
    congr 1
    refine List.map_congr_left fun z _ => ?_
    exact sum_swap (fun d c => f (d :: (z ++ [c]))) s s
theorem tw_sum (s : List Nat) : ∀ (n : Nat) (f : List Nat → Nat), ((tw s n).map f).sum = ((txs s n).map f).sum
  | 0, f => rfl
  | n + 1, f => by
    rw [tw, txs, sum_flat, sum_flat]
    simp only [List.map_map, Function.comp_def]
    rw [tw_sum s n, end_sum]
theorem tw_count (s : List Nat) (n : Nat) (p : List Nat → Bool) : (tw s n).countP p = (txs s n).countP p := by rw [← sum_count, ← sum_count, tw_sum]
theorem tw_len {s : List Nat} : ∀ (n : Nat), ∀ z ∈ tw s n, z.length = n
  | 0, z, h => by rw [tw, List.mem_singleton] at h; rw [h]; rfl
  | n + 1, z, h => by
    rw [tw] at h
    obtain ⟨u, hu, hz⟩ := List.mem_flatMap.mp h
    obtain ⟨c, _, rfl⟩ := List.mem_map.mp hz
    rw [List.length_append, tw_len n u hu]
    rfl
theorem tst_len {s : List Nat} : ∀ (m : Nat), ∀ z ∈ tst s m, z.length ≤ m
  | 0, z, h => by rw [tst, List.mem_singleton] at h; rw [h]; exact Nat.le_refl _
  | m + 1, z, h => by
    rw [tst] at h
    rcases List.mem_append.mp h with h | h
    · have := tst_len m z h; omega
    · rw [tw_len _ z h]; exact Nat.le_refl _
theorem tst_pick {s : List Nat} {n : Nat} : ∀ m : Nat, (tst s m).filter (fun z => decide (z.length = n)) = if n ≤ m then tw s n else []
  | 0 => by
    rw [tst]
    by_cases h : n = 0
    · subst h; rfl
    · rw [if_neg (by omega), List.filter_cons_of_neg (by simp; omega), List.filter_nil]
  | m + 1 => by
    rw [tst, List.filter_append, tst_pick m]
    by_cases h : n ≤ m
    · rw [if_pos h, if_pos (by omega), List.filter_eq_nil_iff.mpr, List.append_nil]
      intro z hz q
      have := tw_len _ z hz
      have := of_decide_eq_true q
      omega
    · rw [if_neg h, List.nil_append]
      by_cases h2 : n = m + 1
      · subst h2
        rw [if_pos (Nat.le_refl _), List.filter_eq_self.mpr]
        intro z hz
        exact decide_eq_true (tw_len _ z hz)
      · rw [if_neg (by omega), List.filter_eq_nil_iff.mpr]
        intro z hz q
        have := tw_len _ z hz
        have := of_decide_eq_true q
        omega
theorem tw_size {s : List Nat} (h : s.length ≤ 3) : ∀ n : Nat, (tw s n).length ≤ 3 ^ n
  | 0 => Nat.le_refl _
  | n + 1 => by
    have ih := tw_size h n
    rw [tw, List.length_flatMap]
    simp only [List.length_map]
    have : ∀ l : List (List Nat), (l.map fun _ => s.length).sum = l.length * s.length := fun l => by
      induction l with
      | nil => simp
      | cons x l ih => rw [List.map_cons, List.sum_cons, ih, List.length_cons, Nat.succ_mul, Nat.add_comm]
    rw [this, Nat.pow_succ]
    exact Nat.mul_le_mul ih h
theorem tst_size {s : List Nat} (h : s.length ≤ 3) : ∀ m : Nat, (tst s m).length ≤ (m + 1) * 3 ^ m
  | 0 => Nat.le_refl _
  | m + 1 => by
    have ih := tst_size h m
    have h1 := tw_size h (m + 1)
    have h2 : (m + 1) * 3 ^ m ≤ (m + 1) * 3 ^ (m + 1) := Nat.mul_le_mul_left _ (Nat.pow_le_pow_right (by decide) (by omega))
    rw [tst, List.length_append, Nat.succ_mul (m + 1)]
    omega
theorem tst_small {s : List Nat} (h : s.length ≤ 3) {m : Nat} (hm : m ≤ 8) : (tst s m).length ≤ 59049 := by
  have h1 := tst_size h m
  have h2 : (m + 1) * 3 ^ m ≤ 9 * 3 ^ 8 := Nat.mul_le_mul (by omega) (Nat.pow_le_pow_right (by decide) hm)
  omega
theorem tw_small {s : List Nat} (h : s.length ≤ 3) {m : Nat} (hm : m ≤ 8) : (tw s m).length ≤ 6561 := Nat.le_trans (tw_size h m) (Nat.pow_le_pow_right (n := 3) (by decide) hm)
def stV (zs : List (List Nat)) : List V := zs.map fun z => V.str (tx z)
def mostL (n : Nat) : Nat := if n = 1 then 8 else if n = 2 then 5 else 4
def spTexts : Sp := fun vs H Q _ => ∃ (s : List Nat) (m : Nat), vs = [.str (tx s), .int (m : Nat)] ∧ s.length ≤ 3 ∧ m ≤ 8 ∧ ∀ (q : Addr) (H' : Hp), Same H H' → H' q = some (.lst (stV (tst s m))) → Q (.ref q) H'
def spMost : Sp := fun vs H Q _ => ∃ s : List Nat, vs = [.str (tx s)] ∧ 1 ≤ s.length ∧ s.length ≤ 3 ∧ ∀ H', Same H H' → Q (.int (mostL s.length : Nat)) H'
def longS (s : List Nat) (zs : List (List Nat)) : List (List Nat) := zs.flatMap fun z => s.map fun c => z ++ [c]
theorem longS_take {s : List Nat} {zs : List (List Nat)} {j : Nat} {z : List Nat} (h : zs[j]? = some z) : longS s (zs.take (j + 1)) = longS s (zs.take j) ++ s.map fun c => z ++ [c] := by
  rw [take_more' h]
  unfold longS
  rw [List.flatMap_append]
  simp
theorem longS_len (s : List Nat) : ∀ zs : List (List Nat), (longS s zs).length = zs.length * s.length
  | [] => by show 0 = 0 * s.length; omega
  | z :: zs => by
    unfold longS
    rw [List.flatMap_cons, List.length_append, List.length_map, List.length_cons, Nat.succ_mul]
    have := longS_len s zs
    unfold longS at this
    omega
section
variable {P : Program} {w : World} {K : PySem.W.Frag} {mg : Str → Option Value} {base : Heap}
end
end Rk
namespace Rk
open PySem PySem.Spec PyProof.Rows L2 Wv Tk
/-! ### counts that follow from others -/
def res (w : W) (z : List Nat) : Nat := due z 0 (woE 0 1 z) w
theorem res_lt (w : W) (z : List Nat) : res w z < 3 := by
  unfold res due woE
  split
  · split <;> decide
  · decide
def resO (z : List Nat) : Option Nat → Nat
  | some q => if q = z.length then 0 else 1
  | none => 2
theorem res_eq (w : W) (z : List Nat) : res w z = resO z (ew z w 0) := by
  unfold res due woE resO
  cases ew z w 0 <;> rfl
theorem three {α : Type} (f : α → Nat) (h : ∀ z, f z < 3) : ∀ l : List α, (l.countP fun z => decide (f z = 0)) + (l.countP fun z => decide (f z = 1)) + (l.countP fun z => decide (f z = 2)) = l.length
  | [] => rfl
  | x :: l => by
    have ih := three f h l
    have hx := h x
    rw [List.countP_cons, List.countP_cons, List.countP_cons, List.length_cons]
    have : f x = 0 ∨ f x = 1 ∨ f x = 2 := by omega
    rcases this with e | e | e <;> (rw [e]; simp only [decide_true, if_true]; simp; omega)
def cX (w : W) (s : List Nat) (n r : Nat) : Nat := (txs s n).countP fun z => decide (res w z = r)
theorem tots_cX (w : W) (s : List Nat) (n : Nat) : tots w s 0 1 n = [cX w s n 0, cX w s n 1, cX w s n 2] := rfl
theorem txs_len {s : List Nat} : ∀ (n : Nat), ∀ z ∈ txs s n, z.length = n
  | 0, z, h => by rw [txs, List.mem_singleton] at h; rw [h]; rfl
  | n + 1, z, h => by
    rw [txs] at h
    obtain ⟨u, hu, hz⟩ := List.mem_flatMap.mp h
    obtain ⟨c, _, rfl⟩ := List.mem_map.mp hz
    rw [List.length_cons, txs_len n u hu]
theorem sum_const {α : Type} (k : Nat) : ∀ l : List α, (l.map fun _ => k).sum = l.length * k
  | [] => by show 0 = 0 * k; omega
  | x :: l => by rw [List.map_cons, List.sum_cons, sum_const k l, List.length_cons, Nat.succ_mul]; omega
theorem txs_size (s : List Nat) : ∀ n : Nat, (txs s n).length = s.length ^ n
  | 0 => rfl
  | n + 1 => by
    rw [txs, List.length_flatMap]
    simp only [List.length_map]
    rw [sum_const, txs_size s n, Nat.pow_succ]
theorem cX_sum (w : W) (s : List Nat) (n : Nat) : cX w s n 0 + cX w s n 1 + cX w s n 2 = s.length ^ n := (three (res w) (res_lt w) _).trans (txs_size s n)
/-- by classes below four -/
theorem by_class {α : Type} (f : α → Nat) (h : Nat → Nat) : ∀ l : List α, (∀ z ∈ l, f z < 4) → (l.map fun z => h (f z)).sum = h 0 * (l.countP fun z => decide (f z = 0)) + h 1 * (l.countP fun z => decide (f z = 1)) + h 2 * (l.countP fun z => decide (f z = 2)) + h 3 * (l.countP fun z => decide (f z = 3))
  | [], _ => by simp
  | x :: l, hl => by
    have ih := by_class f h l fun z hz => hl z (List.mem_cons_of_mem _ hz)
    have hx := hl x List.mem_cons_self
    rw [List.map_cons, List.sum_cons, ih, List.countP_cons, List.countP_cons, List.countP_cons, List.countP_cons]
    have : f x = 0 ∨ f x = 1 ∨ f x = 2 ∨ f x = 3 := by omega
    rcases this with e | e | e | e <;> (rw [e]; simp [Nat.mul_add]; omega)
theorem cX_by {w w' : W} {s : List Nat} {n : Nat} (g : Nat → Nat) (h : ∀ z ∈ txs s n, res w' z = g (res w z)) (r : Nat) :
    cX w' s n r = (if g 0 = r then cX w s n 0 else 0) + (if g 1 = r then cX w s n 1 else 0) + (if g 2 = r then cX w s n 2 else 0) := by
  have e1 : cX w' s n r = ((txs s n).map fun z => (fun k => if g k = r then 1 else 0) (res w z)).sum := by
    unfold cX
    rw [← sum_count]
    congr 1
    refine List.map_congr_left fun z hz => ?_
    rw [h z hz]
    simp
  rw [e1, by_class (res w) (fun k => if g k = r then 1 else 0) _ fun z _ => Nat.lt_trans (res_lt w z) (by decide)]
  have e3 : ((txs s n).countP fun z => decide (res w z = 3)) = 0 := by
    rw [List.countP_eq_zero]
    intro z _ q
    have := res_lt w z
    have := of_decide_eq_true q
    omega
  rw [e3]
  unfold cX
  split <;> split <;> split <;> omega
theorem ag_shift {f g : Nat → Option Nat} (h : ∀ q, f (q + 1) = (g q).map (· + 1)) : ∀ k p : Nat, ag f k (p + 1) = ag g k p + 1
  | 0, p => rfl
  | k + 1, p => by
    unfold ag
    rw [h]
    cases g p with
    | none => rfl
    | some q =>
      show (if p + 1 < q + 1 then ag f k (q + 1) else p + 1) = (if p < q then ag g k q else p) + 1
      by_cases e : p < q
      · rw [if_pos e, if_pos (by omega), ag_shift h k q]
      · rw [if_neg e, if_neg (by omega)]
mutual
theorem ew_shift (c : Nat) (z : List Nat) : ∀ (w : W) (p : Nat), ew (c :: z) w (p + 1) = (ew z w p).map (· + 1)
  | .letter x, p => by
    unfold ew
    rw [List.getElem?_cons_succ]
    split <;> rfl
  | .one, p => by
    unfold ew
    rw [List.length_cons]
    by_cases e : p < z.length
    · rw [if_pos e, if_pos (by omega)]; rfl
    · rw [if_neg e, if_neg (by omega)]; rfl
  | .nothing, p => by unfold ew; rfl
  | .call x, p => by unfold ew; rfl
  | .row ws, p => by unfold ew; exact ewR_shift c z ws p
  | .choice ws, p => by unfold ew; exact ewC_shift c z ws p
  | .again w, p => by
    unfold ew
    rw [ag_shift (fun q => ew_shift c z w q), List.length_cons, show z.length + 1 + 1 - (p + 1) = z.length + 1 - p by omega]
    rfl
  | .maybe w, p => by
    unfold ew
    rw [ew_shift c z w p]
    cases ew z w p <;> rfl
  | .ahead w, p => by
    unfold ew
    rw [ew_shift c z w p]
    cases ew z w p <;> rfl
  | .unless w, p => by
    unfold ew
    rw [ew_shift c z w p]
    cases ew z w p <;> rfl
theorem ewR_shift (c : Nat) (z : List Nat) : ∀ (ws : List W) (p : Nat), ewR (c :: z) ws (p + 1) = (ewR z ws p).map (· + 1)
  | [], p => by unfold ewR; rfl
  | w :: ws, p => by
    unfold ewR
    rw [ew_shift c z w p]
    cases ew z w p with
    | none => rfl
    | some q => exact ewR_shift c z ws q
theorem ewC_shift (c : Nat) (z : List Nat) : ∀ (ws : List W) (p : Nat), ewC (c :: z) ws (p + 1) = (ewC z ws p).map (· + 1)
  | [], p => by unfold ewC; rfl
  | w :: ws, p => by
    unfold ewC
    rw [ew_shift c z w p]
    cases ew z w p with
    | none => exact ewC_shift c z ws p
    | some q => rfl
end
theorem row_two (z : List Nat) (a b : W) (p : Nat) : ew z (.row [a, b]) p = match ew z a p with | some q => ew z b q | none => none := by
  rw [ew, ewR]
  cases ew z a p with
  | none => rfl
  | some q =>
    dsimp only
    rw [ewR]
    cases ew z b q with
    | none => rfl
    | some r => dsimp only; rw [ewR]
/-- a letter ahead -/
theorem res_one (w : W) (c : Nat) (z : List Nat) : res (.row [.one, w]) (c :: z) = res w z := by
  rw [res_eq, res_eq, row_two]
  have e : ew (c :: z) .one 0 = some 1 := by rw [ew, if_pos (by rw [List.length_cons]; omega)]
  rw [e]
  show resO (c :: z) (ew (c :: z) w (0 + 1)) = _
  rw [ew_shift]
  cases ew z w 0 with
  | none => rfl
  | some q =>
    show (if q + 1 = z.length + 1 then 0 else 1) = if q = z.length then 0 else 1
    by_cases h : q = z.length
    · rw [if_pos h, if_pos (by omega)]
    · rw [if_neg h, if_neg (by omega)]
theorem cX_one (w : W) (s : List Nat) (n r : Nat) : cX (.row [.one, w]) s (n + 1) r = s.length * cX w s n r := by
  unfold cX
  rw [← sum_count, txs, sum_flat, ← sum_count]
  have : ∀ l : List (List Nat), (l.map fun z => ((s.map fun c => c :: z).map fun u => if decide (res (.row [.one, w]) u = r) = true then 1 else 0).sum).sum = s.length * (l.map fun z => if decide (res w z = r) = true then 1 else 0).sum := fun l => by
    induction l with
    | nil => simp
    | cons z l ih =>
      rw [List.map_cons, List.sum_cons, ih, List.map_cons, List.sum_cons, Nat.mul_add, List.map_map]
      congr 1
      have e : ((fun u => if decide (res (.row [.one, w]) u = r) = true then 1 else 0) ∘ fun c => c :: z) = fun _ => if decide (res w z = r) = true then 1 else 0 := funext fun c => by
        show (if decide (res (.row [.one, w]) (c :: z) = r) = true then 1 else 0) = _
        rw [res_one]
      rw [e, sum_const]
  exact this _
theorem ag_one (z : List Nat) : ∀ (k p : Nat), p ≤ z.length → z.length < k + p → ag (fun q => ew z .one q) k p = z.length
  | 0, p, h1, h2 => by omega
  | k + 1, p, h1, h2 => by
    unfold ag
    rw [ew]
    by_cases h : p < z.length
    · rw [if_pos h]
      dsimp only
      rw [if_pos (by omega)]
      exact ag_one z k (p + 1) h (by omega)
    · rw [if_neg h]
      dsimp only
      omega
def gAll : Nat → Nat
  | 2 => 2
  | _ => 0
theorem res_all (w : W) (z : List Nat) : res (.row [w, .again .one]) z = gAll (res w z) := by
  rw [res_eq, res_eq, row_two]
  cases e : ew z w 0 with
  | none => rfl
  | some q =>
    have hq := (ew_in z w 0 q (Nat.zero_le _) e).2
    show resO z (ew z (.again .one) q) = _
    rw [ew, ag_one z _ q hq (by omega)]
    show (if z.length = z.length then 0 else 1) = gAll (if q = z.length then 0 else 1)
    rw [if_pos rfl]
    split <;> rfl
def gUn (n : Nat) : Nat → Nat
  | 2 => if n = 0 then 0 else 1
  | _ => 2
theorem res_un (w : W) (z : List Nat) : res (.unless w) z = gUn z.length (res w z) := by
  rw [res_eq, res_eq, ew]
  cases ew z w 0 with
  | none =>
    show (if 0 = z.length then 0 else 1) = if z.length = 0 then 0 else 1
    by_cases h : z.length = 0
    · rw [if_pos h, if_pos h.symm]
    · rw [if_neg h, if_neg (fun q => h q.symm)]
  | some q =>
    show 2 = gUn z.length (if q = z.length then 0 else 1)
    split <;> rfl
def gMb (n : Nat) : Nat → Nat
  | 0 => 0
  | 1 => 1
  | _ => if n = 0 then 0 else 1
theorem res_mb (w : W) (z : List Nat) : res (.maybe w) z = gMb z.length (res w z) := by
  rw [res_eq, res_eq, ew]
  cases ew z w 0 with
  | none =>
    show (if 0 = z.length then 0 else 1) = if z.length = 0 then 0 else 1
    by_cases h : z.length = 0
    · rw [if_pos h, if_pos h.symm]
    · rw [if_neg h, if_neg (fun q => h q.symm)]
  | some q =>
    show (if q = z.length then 0 else 1) = gMb z.length (if q = z.length then 0 else 1)
    split <;> rfl
theorem res_ch (w : W) (z : List Nat) : res (.choice [w, .nothing]) z = gMb z.length (res w z) := by
  rw [← res_mb, res_eq, res_eq, ew, ew, ewC]
  cases ew z w 0 with
  | none =>
    dsimp only
    rw [ewC, ew]
    rfl
  | some q => rfl
end Rk
namespace Rk
open PySem PySem.Spec PyProof.Rows L2 Wv Tk
/-! ### the first place of a word of two letters -/
def stp (x y : Nat) : W := .row [.unless (.row [.letter x, .letter y]), .one]
def srch (x y : Nat) : W := .row [.again (stp x y), .letter x, .letter y]
def hit (x y : Nat) (z : List Nat) (p : Nat) : Prop := z[p]? = some x ∧ z[p + 1]? = some y
instance {x y : Nat} {z : List Nat} {p : Nat} : Decidable (hit x y z p) := by unfold hit; infer_instance
theorem two_letters (z : List Nat) (x y p : Nat) : ew z (.row [.letter x, .letter y]) p = if hit x y z p then some (p + 2) else none := by
  rw [row_two, ew]
  by_cases h : z[p]? = some x
  · rw [if_pos h]
    dsimp only
    rw [ew]
    by_cases h2 : z[p + 1]? = some y
    · rw [if_pos h2, if_pos ⟨h, h2⟩]
    · rw [if_neg h2, if_neg (fun q => h2 q.2)]
  · rw [if_neg h, if_neg (fun q => h q.1)]
theorem stp_at (z : List Nat) (x y p : Nat) : ew z (stp x y) p = if hit x y z p then none else if p < z.length then some (p + 1) else none := by
  unfold stp
  rw [row_two, ew, two_letters]
  by_cases h : hit x y z p
  · rw [if_pos h, if_pos h]; rfl
  · rw [if_neg h, if_neg h]
    show (match some p with | some q => ew z .one q | none => none) = _
    dsimp only
    rw [ew]
def fw (x y : Nat) (z : List Nat) : Option Nat := ew z (srch x y) 0
theorem fw_eq (x y : Nat) (z : List Nat) : fw x y z = if hit x y z (ag (fun q => ew z (stp x y) q) (z.length + 1) 0) then some (ag (fun q => ew z (stp x y) q) (z.length + 1) 0 + 2) else none := by
  unfold fw srch
  rw [ew, ewR, ew]
  show ewR z [.letter x, .letter y] (ag (fun q => ew z (stp x y) q) (z.length + 1 - 0) 0) = _
  rw [← two_letters, ew]
  rfl
theorem hit_cons (x y c : Nat) (z : List Nat) (p : Nat) : hit x y (c :: z) (p + 1) ↔ hit x y z p := by
  unfold hit
  rw [List.getElem?_cons_succ, List.getElem?_cons_succ]
theorem fw_nil (x y : Nat) : fw x y [] = none := by
  rw [fw_eq, if_neg]
  intro h
  have := h.1
  simp at this
theorem fw_cons (x y c : Nat) (z : List Nat) : fw x y (c :: z) = if c = x ∧ z[0]? = some y then some 2 else (fw x y z).map (· + 1) := by
  have h0 : hit x y (c :: z) 0 ↔ c = x ∧ z[0]? = some y := by
    unfold hit
    simp
  rw [fw_eq x y (c :: z), fw_eq x y z]
  by_cases h : hit x y (c :: z) 0
  · have e : ag (fun q => ew (c :: z) (stp x y) q) ((c :: z).length + 1) 0 = 0 := by
      unfold ag
      rw [stp_at, if_pos h]
    rw [e, if_pos h, if_pos (h0.mp h)]
  · have e : ag (fun q => ew (c :: z) (stp x y) q) ((c :: z).length + 1) 0 = ag (fun q => ew z (stp x y) q) (z.length + 1) 0 + 1 := by
      rw [List.length_cons]
      conv => lhs; unfold ag
      rw [stp_at, if_neg h, if_pos (by rw [List.length_cons]; omega)]
      show (if 0 < 0 + 1 then ag (fun q => ew (c :: z) (stp x y) q) (z.length + 1) (0 + 1) else 0) = _
      rw [if_pos (by decide)]
      exact ag_shift (fun q => ew_shift c z (stp x y) q) _ _
    rw [e, if_neg (fun q => h (h0.mpr q))]
    by_cases h2 : hit x y z (ag (fun q => ew z (stp x y) q) (z.length + 1) 0)
    · rw [if_pos h2, if_pos ((hit_cons x y c z _).mpr h2)]
      show some (_ + 1 + 2) = some (_ + 2 + 1)
      exact congrArg some (by omega)
    · rw [if_neg h2, if_neg (fun q => h2 ((hit_cons x y c z _).mp q))]
      rfl
theorem fw_snoc (x y c : Nat) : ∀ z : List Nat, fw x y (z ++ [c]) = match fw x y z with
    | some q => some q
    | none => if z.getLast? = some x ∧ c = y then some (z.length + 1) else none
  | [] => by
    rw [List.nil_append, fw_cons, fw_nil, if_neg (fun q => by have := q.2; simp at this)]
    show none = if ([] : List Nat).getLast? = some x ∧ c = y then some _ else none
    rw [if_neg (fun q => by have := q.1; simp at this)]
  | [a] => by
    show fw x y (a :: [c]) = _
    rw [fw_cons, fw_cons x y a [], fw_cons, fw_nil, if_neg (fun q : a = x ∧ ([] : List Nat)[0]? = some y => by have := q.2; simp at this), if_neg (fun q : c = x ∧ ([] : List Nat)[0]? = some y => by have := q.2; simp at this)]
    by_cases h : a = x ∧ c = y
    · rw [if_pos (⟨h.1, by rw [h.2]; rfl⟩ : a = x ∧ [c][0]? = some y)]
      show some 2 = if [a].getLast? = some x ∧ c = y then some 2 else none
      rw [if_pos ⟨by rw [h.1]; rfl, h.2⟩]
    · rw [if_neg (fun q : a = x ∧ [c][0]? = some y => h ⟨q.1, Option.some.inj q.2⟩)]
      show none = if [a].getLast? = some x ∧ c = y then some 2 else none
      rw [if_neg (fun q => h ⟨Option.some.inj q.1, q.2⟩)]
  | a :: b :: r => by
    have ih := fw_snoc x y c (b :: r)
    show fw x y (a :: ((b :: r) ++ [c])) = _
    rw [fw_cons, fw_cons x y a (b :: r), ih]
    have e1 : ((b :: r) ++ [c])[0]? = (b :: r)[0]? := rfl
    rw [e1]
    by_cases h : a = x ∧ (b :: r)[0]? = some y
    · rw [if_pos h, if_pos h]
    · rw [if_neg h, if_neg h, List.getLast?_cons_cons]
      cases fw x y (b :: r) with
      | some q => rfl
      | none =>
        show Option.map (· + 1) (if (b :: r).getLast? = some x ∧ c = y then some ((b :: r).length + 1) else none) = if (b :: r).getLast? = some x ∧ c = y then some ((a :: b :: r).length + 1) else none
        split <;> rfl
theorem fw_le {x y q : Nat} {z : List Nat} (h : fw x y z = some q) : q ≤ z.length := (ew_in z _ 0 q (Nat.zero_le _) h).2
def cls (x y : Nat) (z : List Nat) : Nat := match fw x y z with
  | some q => if q = z.length then 0 else 1
  | none => if z.getLast? = some x then 2 else 3
def nxs (x y k c : Nat) : Nat := if k < 2 then 1 else if k = 2 ∧ c = y then 0 else if c = x then 2 else 3
theorem cls_some {x y q : Nat} {z : List Nat} (h : fw x y z = some q) : cls x y z = if q = z.length then 0 else 1 := by unfold cls; rw [h]
theorem cls_none {x y : Nat} {z : List Nat} (h : fw x y z = none) : cls x y z = if z.getLast? = some x then 2 else 3 := by unfold cls; rw [h]
theorem nxs2 (x y c : Nat) : nxs x y 2 c = if c = y then 0 else if c = x then 2 else 3 := by
  unfold nxs
  rw [if_neg (by decide)]
  by_cases h : c = y
  · rw [if_pos ⟨rfl, h⟩, if_pos h]
  · rw [if_neg (fun q => h q.2), if_neg h]
theorem nxs3 (x y c : Nat) : nxs x y 3 c = if c = x then 2 else 3 := by
  unfold nxs
  rw [if_neg (by decide), if_neg (fun q => absurd q.1 (by decide))]
theorem cls_snoc (x y c : Nat) (z : List Nat) : cls x y (z ++ [c]) = nxs x y (cls x y z) c := by
  have el : (z ++ [c]).getLast? = some c := by simp
  have ll : (z ++ [c]).length = z.length + 1 := by rw [List.length_append]; rfl
  have last : (if (z ++ [c]).getLast? = some x then 2 else 3) = if c = x then 2 else 3 := by
    rw [el]
    by_cases h3 : c = x
    · rw [if_pos h3, if_pos (by rw [h3])]
    · rw [if_neg h3, if_neg (fun q => h3 (Option.some.inj q))]
  cases e : fw x y z with
  | some q =>
    have hq := fw_le e
    have e2 : fw x y (z ++ [c]) = some q := by rw [fw_snoc, e]
    rw [cls_some e, cls_some e2, ll, if_neg (by omega)]
    unfold nxs
    split <;> rfl
  | none =>
    rw [cls_none e]
    by_cases h : z.getLast? = some x
    · rw [if_pos h, nxs2]
      by_cases h2 : c = y
      · have e2 : fw x y (z ++ [c]) = some (z.length + 1) := by rw [fw_snoc, e]; exact if_pos ⟨h, h2⟩
        rw [cls_some e2, ll, if_pos rfl, if_pos h2]
      · have e2 : fw x y (z ++ [c]) = none := by rw [fw_snoc, e]; exact if_neg (fun q => h2 q.2)
        rw [cls_none e2, if_neg h2, last]
    · have e2 : fw x y (z ++ [c]) = none := by rw [fw_snoc, e]; exact if_neg (fun q => h q.1)
      rw [if_neg h, nxs3, cls_none e2, last]
theorem cls_lt (x y : Nat) (z : List Nat) : cls x y z < 4 := by
  unfold cls
  split <;> split <;> decide
def kk (x y : Nat) (s : List Nat) (n k : Nat) : Nat := (tw s n).countP fun z => decide (cls x y z = k)
theorem kk_step (x y : Nat) (s : List Nat) (n j : Nat) : kk x y s (n + 1) j = (s.countP fun c => decide (nxs x y 0 c = j)) * kk x y s n 0 + (s.countP fun c => decide (nxs x y 1 c = j)) * kk x y s n 1 + (s.countP fun c => decide (nxs x y 2 c = j)) * kk x y s n 2 + (s.countP fun c => decide (nxs x y 3 c = j)) * kk x y s n 3 := by
  have e : kk x y s (n + 1) j = ((tw s n).map fun z => (fun k => s.countP fun c => decide (nxs x y k c = j)) (cls x y z)).sum := by
    unfold kk
    rw [← sum_count, tw, sum_flat]
    congr 1
    refine List.map_congr_left fun z _ => ?_
    show _ = s.countP fun c => decide (nxs x y (cls x y z) c = j)
    rw [List.map_map, ← sum_count]
    congr 1
    refine List.map_congr_left fun c _ => ?_
    show (if decide (cls x y (z ++ [c]) = j) = true then 1 else 0) = _
    rw [cls_snoc]
  exact e.trans (by_class (cls x y) (fun k => s.countP fun c => decide (nxs x y k c = j)) (tw s n) fun z _ => cls_lt x y z)
theorem cnt_one {y : Nat} : ∀ {s : List Nat}, s.Nodup → y ∈ s → (s.countP fun c => decide (c = y)) = 1
  | [], _, h => by cases h
  | a :: s, nd, h => by
    rw [List.nodup_cons] at nd
    by_cases e : a = y
    · subst e
      rw [List.countP_cons_of_pos (by simp), List.countP_eq_zero.mpr]
      intro c hc q
      rw [of_decide_eq_true q] at hc
      exact nd.1 hc
    · rw [List.countP_cons_of_neg (by simpa using e)]
      exact cnt_one nd.2 (by rcases List.mem_cons.mp h with q | q; exact absurd q.symm e; exact q)
theorem cnt_none0 (s : List Nat) : (s.countP fun _ => false) = 0 := List.countP_eq_zero.mpr fun _ _ q => by cases q
theorem cp_congr {α : Type} {l : List α} {p q : α → Bool} (h : ∀ x ∈ l, p x = q x) : l.countP p = l.countP q := List.countP_congr fun x hx => by rw [h x hx]
section
variable {x y : Nat} {s : List Nat} (nd : s.Nodup) (hx : x ∈ s) (hy : y ∈ s)
include nd hx hy
/-- the next numbers -/
theorem kk_next (n : Nat) : kk x y s (n + 1) 0 = kk x y s n 2 ∧ kk x y s (n + 1) 2 = (if x = y then 0 else kk x y s n 2) + kk x y s n 3 ∧
    ((kk x y s (n + 1) 3 : Nat) : Int) = ((s.length : Nat) - 1 : Int) * ((kk x y s n 2 : Nat) + (kk x y s n 3 : Nat) : Int) - (if x = y then 0 else ((kk x y s n 2 : Nat) : Int)) := by
  have z0 : ∀ j, j ≠ 1 → (s.countP fun c => decide (nxs x y 0 c = j)) = 0 := fun j hj => List.countP_eq_zero.mpr fun c _ q => hj (by have := of_decide_eq_true q; exact this.symm)
  have z1 : ∀ j, j ≠ 1 → (s.countP fun c => decide (nxs x y 1 c = j)) = 0 := fun j hj => List.countP_eq_zero.mpr fun c _ q => hj (by have := of_decide_eq_true q; exact this.symm)
  have c1x := cnt_one nd hx
  have c1y := cnt_one nd hy
  have n2 := nxs2 x y
  have n3 := nxs3 x y
  have a20 : (s.countP fun c => decide (nxs x y 2 c = 0)) = 1 := by
    rw [← c1y]
    refine cp_congr fun c _ => ?_
    rw [n2]
    by_cases h : c = y
    · rw [if_pos h, decide_eq_true rfl, decide_eq_true h]
    · rw [if_neg h, decide_eq_false h]; split <;> rfl
  have a22 : (s.countP fun c => decide (nxs x y 2 c = 2)) = if x = y then 0 else 1 := by
    by_cases e : x = y
    · rw [if_pos e, List.countP_eq_zero]
      intro c _ q
      have q := of_decide_eq_true q
      rw [n2] at q
      split at q
      · cases q
      · rename_i h
        rw [if_neg (fun z => h (z.trans e))] at q
        cases q
    · rw [if_neg e, ← c1x]
      refine cp_congr fun c _ => ?_
      rw [n2]
      by_cases h : c = y
      · rw [if_pos h, decide_eq_false (show ¬ c = x from fun z => e (z.symm.trans h))]; rfl
      · rw [if_neg h]
        by_cases h2 : c = x
        · rw [if_pos h2, decide_eq_true h2]; rfl
        · rw [if_neg h2, decide_eq_false h2]; rfl
  have a30 : (s.countP fun c => decide (nxs x y 3 c = 0)) = 0 := List.countP_eq_zero.mpr fun c _ q => by
    have q := of_decide_eq_true q
    rw [n3] at q
    split at q <;> cases q
  have a32 : (s.countP fun c => decide (nxs x y 3 c = 2)) = 1 := by
    rw [← c1x]
    refine cp_congr fun c _ => ?_
    rw [n3]
    by_cases h : c = x
    · rw [if_pos h, decide_eq_true h]; rfl
    · rw [if_neg h, decide_eq_false h]; rfl
  have t3 := three (fun c => if c = x then 0 else 1) (fun c => by split <;> decide) s
  have t2 := three (fun c => if c = y then 0 else if c = x then 1 else 2) (fun c => by split; decide; split <;> decide) s
  have a33 : 1 + (s.countP fun c => decide (nxs x y 3 c = 3)) = s.length := by
    have e0 : (s.countP fun c => decide ((if c = x then 0 else 1) = 0)) = 1 := (cp_congr fun c _ => by
      by_cases h : c = x
      · rw [if_pos h, decide_eq_true h]; rfl
      · rw [if_neg h, decide_eq_false h]; rfl).trans c1x
    have e1 : (s.countP fun c => decide ((if c = x then 0 else 1) = 1)) = s.countP fun c => decide (nxs x y 3 c = 3) := cp_congr fun c _ => by
      rw [n3]
      by_cases h : c = x
      · rw [if_pos h, if_pos h]; rfl
      · rw [if_neg h, if_neg h]; rfl
    have e2 : (s.countP fun c => decide ((if c = x then 0 else 1) = 2)) = 0 := List.countP_eq_zero.mpr fun c _ q => by
      have q := of_decide_eq_true q
      split at q <;> cases q
    omega
  have a23 : 1 + (if x = y then 0 else 1) + (s.countP fun c => decide (nxs x y 2 c = 3)) = s.length := by
    have e0 : (s.countP fun c => decide ((if c = y then 0 else if c = x then 1 else 2) = 0)) = 1 := (cp_congr fun c _ => by
      rw [n2]
      by_cases h : c = y
      · rw [if_pos h, if_pos h]
      · rw [if_neg h, if_neg h]; split <;> rfl).trans a20
    have e1 : (s.countP fun c => decide ((if c = y then 0 else if c = x then 1 else 2) = 1)) = if x = y then 0 else 1 := (cp_congr fun c _ => by
      rw [n2]
      by_cases h : c = y
      · rw [if_pos h, if_pos h]; rfl
      · rw [if_neg h, if_neg h]; split <;> rfl).trans a22
    have e2 : (s.countP fun c => decide ((if c = y then 0 else if c = x then 1 else 2) = 2)) = s.countP fun c => decide (nxs x y 2 c = 3) := cp_congr fun c _ => by
      rw [n2]
      by_cases h : c = y
      · rw [if_pos h, if_pos h]; rfl
      · rw [if_neg h, if_neg h]; split <;> rfl
    omega
  refine ⟨?_, ?_, ?_⟩
  · rw [kk_step, z0 0 (by decide), z1 0 (by decide), a20, a30]; omega
  · rw [kk_step, z0 2 (by decide), z1 2 (by decide), a22, a32]
    split <;> omega
  · rw [kk_step, z0 3 (by decide), z1 3 (by decide)]
    generalize (s.countP fun c => decide (nxs x y 2 c = 3)) = p2 at *
    generalize (s.countP fun c => decide (nxs x y 3 c = 3)) = p3 at *
    generalize kk x y s n 2 = k2
    generalize kk x y s n 3 = k3
    have em : ((s.length : Nat) : Int) = 1 + (p3 : Int) := by omega
    rw [em]
    by_cases e : x = y
    · rw [if_pos e] at a23 ⊢
      have : p2 = p3 := by omega
      rw [this]
      simp only [Int.natCast_add, Int.natCast_mul, Nat.zero_mul, Int.sub_zero]
      rw [show (1 + (p3 : Int) - 1) = (p3 : Int) by omega, Int.mul_add]
      omega
    · rw [if_neg e] at a23 ⊢
      have : (p3 : Int) = 1 + p2 := by omega
      have h1 : p3 = 1 + p2 := by omega
      rw [h1]
      simp only [Int.natCast_add, Int.natCast_mul, Nat.zero_mul]
      rw [show (1 + (((1 : Nat) : Int) + (p2 : Int)) - 1) = 1 + (p2 : Int) by omega, Int.mul_add, Int.add_mul, Int.add_mul, Int.add_mul]
      omega
end
theorem kk_zero (x y : Nat) (s : List Nat) : kk x y s 0 0 = 0 ∧ kk x y s 0 2 = 0 ∧ kk x y s 0 3 = 1 := by
  have e : cls x y [] = 3 := by
    unfold cls
    rw [fw_nil]
    rfl
  unfold kk
  rw [tw]
  simp [e]
def gS : Nat → Nat
  | 0 => 0
  | 1 => 1
  | _ => 2
theorem res_srch (x y : Nat) (z : List Nat) : res (srch x y) z = gS (cls x y z) := by
  rw [res_eq]
  unfold cls
  show resO z (fw x y z) = _
  cases fw x y z with
  | none =>
    show 2 = gS (if z.getLast? = some x then 2 else 3)
    split <;> rfl
  | some q =>
    show (if q = z.length then 0 else 1) = gS (if q = z.length then 0 else 1)
    split <;> rfl
theorem cX_srch (x y : Nat) (s : List Nat) (n : Nat) : cX (srch x y) s n 0 = kk x y s n 0 ∧ cX (srch x y) s n 2 = kk x y s n 2 + kk x y s n 3 := by
  have key : ∀ r, cX (srch x y) s n r = (if gS 0 = r then 1 else 0) * kk x y s n 0 + (if gS 1 = r then 1 else 0) * kk x y s n 1 + (if gS 2 = r then 1 else 0) * kk x y s n 2 + (if gS 3 = r then 1 else 0) * kk x y s n 3 := fun r => by
    have e : cX (srch x y) s n r = ((tw s n).map fun z => (fun k => if gS k = r then 1 else 0) (cls x y z)).sum := by
      unfold cX
      rw [← tw_count, ← sum_count]
      congr 1
      refine List.map_congr_left fun z _ => ?_
      rw [res_srch]
      simp
    exact e.trans (by_class (cls x y) (fun k => if gS k = r then 1 else 0) (tw s n) fun z _ => cls_lt x y z)
  refine ⟨?_, ?_⟩
  · rw [key]; simp [gS]
  · rw [key]; simp [gS]
end Rk
namespace Rk
open PySem PySem.Spec PyProof.Rows L2 Wv Tk
/-! ### tuples of small numbers as they are shown -/
theorem dpAll_ints' {K : PySem.W.Frag} {H : Hp} : ∀ ns : List Int, DpAll K H (ns.map V.int) (ns.map PyData.int)
  | [] => .nil
  | n :: r => .cons (.int n) (dpAll_ints' r)
theorem log_le {i B : Nat} (h : i < 10 ^ 40) : i.log2 < 1920 := by
  by_cases h0 : i = 0
  · subst h0; decide
  · exact (Nat.log2_lt h0).mpr (Nat.lt_of_lt_of_le h (Nat.le_trans (show 10 ^ 40 ≤ 2 ^ 140 by decide) (Nat.pow_le_pow_right (by decide) (show 140 ≤ 1920 by decide))))
theorem showAll : ∀ ns : List Nat, (∀ n ∈ ns, n < 10 ^ 40) → PyData.showableAll ((ns.map fun n => ((n : Nat) : Int)).map PyData.int) = true
  | [], _ => by simp [PyData.showableAll]
  | n :: r, h => by
    simp only [List.map_cons, PyData.showableAll, PyData.showable, Bool.and_eq_true, decide_eq_true_eq]
    refine ⟨?_, showAll r fun m hm => h m (List.mem_cons_of_mem _ hm)⟩
    rw [Int.natAbs_natCast]
    exact log_le (B := 0) (h n List.mem_cons_self)
theorem noDicts : ∀ ns : List Int, PyData.hasDictAll (ns.map PyData.int) = false
  | [] => by simp [PyData.hasDictAll]
  | n :: r => by simp only [List.map_cons, PyData.hasDictAll, PyData.hasDict, noDicts r]; rfl
theorem depths : ∀ ns : List Int, PyData.depthAll (ns.map PyData.int) ≤ 1
  | [] => by simp [PyData.depthAll]
  | n :: r => by have := depths r; simp only [List.map_cons, PyData.depthAll, PyData.depth]; omega
theorem bulks : ∀ ns : List Int, PyData.bulkAll (ns.map PyData.int) ≤ 2 * ns.length
  | [] => by simp [PyData.bulkAll]
  | n :: r => by have := bulks r; simp only [List.map_cons, PyData.bulkAll, PyData.bulk, List.length_cons]; omega
theorem shorts : ∀ ns : List Nat, (∀ n ∈ ns, n < 10 ^ 40) → PyData.leavesShortAll 41 ((ns.map fun n => ((n : Nat) : Int)).map PyData.int) = true
  | [], _ => by simp [PyData.leavesShortAll]
  | n :: r, h => by
    simp only [List.map_cons, PyData.leavesShortAll, PyData.leavesShort, Bool.and_eq_true, decide_eq_true_eq]
    have := h n List.mem_cons_self
    exact ⟨by show (Str.ofString (toString ((n : Nat) : Int))).length ≤ 41; exact PyProof.Rows.toString_length_le (k := 41) (by omega) (by decide) (by omega), shorts r fun m hm => h m (List.mem_cons_of_mem _ hm)⟩
def dU (ns : List Nat) : PyData := .tuple ((ns.map fun n => ((n : Nat) : Int)).map PyData.int)
theorem flatU (ns : List Nat) : iV ns = (ns.map fun n => ((n : Nat) : Int)).map V.int := by unfold iV; rw [List.map_map]; rfl
theorem dp_dU {K : PySem.W.Frag} {H : Hp} {q : Addr} {ns : List Nat} (h : SqT K H q (iV ns)) : Dp K H (.ref q) (dU ns) := .tup (by rw [flatU] at h; exact h) (dpAll_ints' _)
theorem dU_ok (ns : List Nat) (hl : ns.length ≤ 10000) (hn : ∀ n ∈ ns, n < 10 ^ 40) : isDisplay (dU ns) = true ∧ (dU ns).showable = true ∧ (dU ns).hasDict = false ∧ (dU ns).depth ≤ 60 ∧ (dU ns).shown.length ≤ sizeLine :=
  ⟨rfl, by unfold dU; rw [PyData.showable]; exact showAll ns hn, by unfold dU; rw [PyData.hasDict]; exact noDicts _, by
    unfold dU; rw [PyData.depth]; have := depths (ns.map fun n => ((n : Nat) : Int)); omega,
    by
      have h := PyData.shown_le_bulk 41 (by decide) (dU ns) (by unfold dU; rw [PyData.leavesShort]; exact shorts ns hn)
      have h2 : (dU ns).bulk ≤ 100000 := by
        unfold dU
        rw [PyData.bulk]
        have := bulks (ns.map fun n => ((n : Nat) : Int))
        rw [List.length_map] at this
        omega
      exact Nat.le_trans (show _ ≤ 10000000 by omega) (by decide)⟩
end Rk
namespace Rk
open PySem PySem.Spec PyProof.Rows L2 Wv Tk
/-! ### the law's own tables -/
def spPower : Sp := fun vs H Q _ => ∃ m n : Nat, vs = [.int (m : Nat), .int (n : Nat)] ∧ m ≤ 100 ∧ n ≤ 1000 ∧ Q (.int ((m ^ n : Nat) : Int)) H
def spSearched : Sp := fun vs H Q _ => ∃ (x y : Nat) (s : List Nat) (n : Nat), vs = [.str (tx [x, y]), .int (s.length : Nat), .int (n : Nat)] ∧ s.Nodup ∧ x ∈ s ∧ y ∈ s ∧ s.length ≤ 100 ∧ n ≤ 1000 ∧ ∀ (q : Addr) (H' : Hp), Same H H' → H' q = some (.tup (iV (tots (srch x y) s 0 1 n))) → Q (.ref q) H'
section
variable {P : Program} {w : World} {K : PySem.W.Frag} {mg : Str → Option Value} {base : Heap} {c : Cs}
abbrev s_l_power : Stmt := top 76
theorem sc_l_power : FnScope ["_law_many", "_law_n", "_law_found", "_law_turn"] ["_law_many", "_law_n"] (defScope s_l_power) := ⟨rfl, rfl, rfl, by decide +kernel, rfl, by decide +kernel, by decide +kernel⟩
theorem d_l_power (h : Here K mg "_law_power" s_l_power ["_law_many", "_law_n"]) (B : Bs mg) : DefOk P w K mg base 1 "_law_power" ["_law_many", "_law_n"] spPower := by
  have B_range := B.range
  refine h.ok sc_l_power (fun vs H Q E h => by obtain ⟨_, _, rfl, _⟩ := h; rfl) (fun f cdv A' outer s' H vs Q E hr h => ?_)
  obtain ⟨m, n, rfl, hm, hn, k⟩ := h
  refine ⟨_, (pss_cons (ps_set (i := 2) sc_l_power.nd rfl (Or.inl rfl) pe_int)
  (pss_cons (ps_for PassesOwn.never rfl (pi_range1 rfl B_range (pa_cons (pv 1) pa_nil)) (pg_name (i := 3) sc_l_power.nd rfl (Or.inl rfl))
   (pss_one (ps_set (i := 2) sc_l_power.nd rfl (Or.inl rfl) (pe_op op_mul (pv 2) (pv 0)))))
  (pss_one (ps_ret (pv 2))))), ?_⟩
  walk_at "nx"
  refine ⟨_, rfl, n, rfl, by omega, by omega, ?_⟩
  refine for_range (lo := 0) (n := (n : Int).toNat) (fun i σ Hx => ∃ x3 : Option V, σ = [some (.int (m : Nat)), some (.int (n : Nat)), some (.int ((m ^ i : Nat) : Int)), x3] ∧ Hx = H) ?_ ?_ ?_
  · exact ⟨_, rfl, rfl⟩
  · rintro i σ Hx hi ⟨x3, rfl, rfl⟩
    refine gset ?_
    refine ⟨_, rfl, _, rfl, _, _, rfl, rfl, .inr ⟨by omega, by omega⟩, ?_⟩
    refine ⟨some (.int (0 + (i : Nat))), ?_, rfl⟩
    have e : ((m ^ i : Nat) : Int) * ((m : Nat) : Int) = ((m ^ (i + 1) : Nat) : Int) := by rw [Nat.pow_succ, Int.natCast_mul]
    show _ = [some (V.int (m : Nat)), some (V.int (n : Nat)), some (V.int ((m ^ (i + 1) : Nat) : Int)), some (V.int (0 + (i : Nat)))]
    rw [← e]
    rfl
  · rintro σ Hx ⟨x3, rfl, rfl⟩
    exact ⟨_, rfl, k⟩
abbrev s_l_searched : Stmt := top 77
theorem sc_l_searched : FnScope ["_law_word", "_law_many", "_law_n", "_law_ended", "_law_begun", "_law_plain", "_law_turn", "_law_both"] ["_law_word", "_law_many", "_law_n"] (defScope s_l_searched) := ⟨rfl, rfl, rfl, by decide +kernel, rfl, by decide +kernel, by decide +kernel⟩
theorem d_l_searched (h : Here K mg "_law_searched" s_l_searched ["_law_word", "_law_many", "_law_n"]) (B : Bs mg) (G_l_power : DefOk P w K mg base 1 "_law_power" ["_law_many", "_law_n"] spPower) : DefOk P w K mg base 2 "_law_searched" ["_law_word", "_law_many", "_law_n"] spSearched := by
  have B_range := B.range
  refine h.ok sc_l_searched (fun vs H Q E h => by obtain ⟨_, _, _, _, rfl, _⟩ := h; rfl) (fun f cdv A' outer s' H vs Q E hr h => ?_)
  obtain ⟨x, y, s, n, rfl, nd, hx, hy, hsl, hn, k⟩ := h
  obtain ⟨k0, k2, k3⟩ := kk_zero x y s
  refine ⟨_, (pss_cons (ps_asg (pe_tup (pa_cons pe_int (pa_cons pe_int (pa_cons pe_int pa_nil)))) (pg_tup rfl (pgs_cons (pg_name (i := 3) sc_l_searched.nd rfl (Or.inl rfl)) (pgs_cons (pg_name (i := 4) sc_l_searched.nd rfl (Or.inl rfl)) (pgs_cons (pg_name (i := 5) sc_l_searched.nd rfl (Or.inl rfl)) pgs_nil)))))
  (pss_cons (ps_for PassesOwn.never rfl (pi_range1 rfl B_range (pa_cons (pv 2) pa_nil)) (pg_name (i := 6) sc_l_searched.nd rfl (Or.inl rfl))
   (pss_cons (ps_par (i := 3) (j := 7) rfl sc_l_searched.nd rfl rfl (by decide) rfl rfl (pa_cons (pv 4) (pa_cons (pe_op op_add (pv 4) (pv 5)) pa_nil)) (by rfl))
  (pss_one (ps_if (pt_cmpR op_eq (pe_ix ix_str (pv 0) pe_int (fun _ _ => rfl)) (pe_ix ix_str (pv 0) pe_int (fun _ _ => rfl)) (nomark _)) (pss_one (ps_par (i := 4) (j := 5) rfl sc_l_searched.nd rfl rfl (by decide) rfl rfl (pa_cons (pv 5) (pa_cons (pe_op op_mul (pe_op op_sub (pv 1) pe_int) (pv 7)) pa_nil)) (by rfl))) (pss_one (ps_par (i := 4) (j := 5) rfl sc_l_searched.nd rfl rfl (by decide) rfl rfl (pa_cons (pv 7) (pa_cons (pe_op op_sub (pe_op op_mul (pe_op op_sub (pv 1) pe_int) (pv 7)) (pv 4)) pa_nil)) (by rfl)))))))
  (pss_one (ps_ret (pe_tup (pa_cons (pv 3) (pa_cons (pe_op op_sub (pe_op op_sub (pe_op op_sub (pe_callD G_l_power (hr.mono (by first | decide | omega)) rfl (pa_cons (pv 1) (pa_cons (pv 2) pa_nil))) (pv 4)) (pv 5)) (pv 3)) (pa_cons (pe_op op_add (pv 4) (pv 5)) pa_nil)))))))), ?_⟩
  refine ⟨by show 3 ≤ sizeLine; decide, fun q0 hq0 => ?_⟩
  have s1 : Same H (upd H q0 (.tup [.int 0, .int 0, .int 1])) := Same.new hq0 _
  have hq1 : upd H q0 (.tup [.int 0, .int 0, .int 1]) q0 = some (.tup [.int 0, .int 0, .int 1]) := upd_same
  generalize upd H q0 (.tup [.int 0, .int 0, .int 1]) = H1 at *
  refine ⟨q0, _, rfl, SqT.of hq1, rfl, .int 0, [.int 0, .int 1], rfl, .int 0, [.int 1], rfl, .int 1, [], rfl, rfl, ?_⟩
  walk_at "nx"
  refine ⟨_, rfl, n, rfl, by omega, by omega, ?_⟩
  refine for_range (lo := 0) (n := (n : Int).toNat) (fun i σ Hx => ∃ x6 x7 : Option V, σ = [some (.str (tx [x, y])), some (.int (s.length : Nat)), some (.int (n : Nat)), some (.int (kk x y s i 0 : Nat)), some (.int (kk x y s i 2 : Nat)), some (.int (kk x y s i 3 : Nat)), x6, x7] ∧ Hx = H1) ?_ ?_ ?_
  · rw [k0, k2, k3]
    exact ⟨_, _, rfl, rfl⟩
  · rintro i σ Hx hi ⟨x6, x7, rfl, rfl⟩
    obtain ⟨n0, n2, n3⟩ := kk_next nd hx hy i
    rw [n0, n2, n3]
    generalize kk x y s i 2 = b at *
    generalize kk x y s i 3 = d at *
    refine gset ?_
    refine ⟨_, rfl, _, rfl, _, rfl, _, _, rfl, rfl, ?_⟩
    refine ⟨_, _, rfl, ?_⟩
    refine ⟨_, rfl, tx [x, y], _, x, rfl, rfl, by show 2 ≤ sizeLine; decide, atI_nat (j := 0) rfl, _, rfl, tx [x, y], _, y, rfl, rfl, by show 2 ≤ sizeLine; decide, atI_nat (j := 1) rfl, rfl, _, rfl, ?_⟩
    have hcm : CMul (((s.length : Nat) : Int) - 1) (((b : Nat) : Int) + ((d : Nat) : Int)) := .inl ⟨by omega, by omega⟩
    by_cases e : x = y
    · subst e
      refine iteT' (decide_eq_true rfl) ?_
      refine ⟨_, rfl, _, rfl, _, _, rfl, rfl, _, rfl, _, _, rfl, rfl, hcm, ?_⟩
      refine ⟨_, _, rfl, ?_⟩
      rw [if_pos rfl, if_pos rfl, Nat.zero_add, Int.sub_zero]
      exact ⟨_, _, rfl, rfl⟩
    · refine iteN' (fun q => by
        have q := V.str.inj (of_decide_eq_true q)
        have h2 : (sg x).cps = (sg y).cps := congrArg Str.cps q
        have h3 : #[x] = #[y] := h2
        simp at h3
        exact e h3) ?_
      refine ⟨_, rfl, _, rfl, _, _, rfl, rfl, _, rfl, _, _, rfl, rfl, hcm, _, rfl, _, _, rfl, rfl, ?_⟩
      refine ⟨_, _, rfl, ?_⟩
      rw [if_neg e, if_neg e, Int.natCast_add]
      exact ⟨_, _, rfl, rfl⟩
  · rintro σ Hx ⟨x6, x7, rfl, rfl⟩
    have en : (n : Int).toNat = n := rfl
    rw [en]
    walk_at "nx"
    obtain ⟨c0, c2⟩ := cX_srch x y s n
    have hs := cX_sum (srch x y) s n
    rw [tots_cX, c0, c2] at k
    have e1 : ((((s.length ^ n : Nat) : Int) - ((kk x y s n 2 : Nat) : Int)) - ((kk x y s n 3 : Nat) : Int)) - ((kk x y s n 0 : Nat) : Int) = ((cX (srch x y) s n 1 : Nat) : Int) := by omega
    have e2 : ((kk x y s n 2 : Nat) : Int) + ((kk x y s n 3 : Nat) : Int) = ((kk x y s n 2 + kk x y s n 3 : Nat) : Int) := by omega
    refine ⟨_, rfl, _, rfl, _, rfl, s.length, n, rfl, hsl, hn, _, rfl, _, _, rfl, rfl, _, rfl, _, _, rfl, rfl, _, rfl, _, _, rfl, rfl, _, rfl, _, rfl, _, _, rfl, rfl, by show 3 ≤ sizeLine; decide, fun q hq => ?_⟩
    simp only [e1, e2]
    exact k q _ (s1.trans (Same.new hq _)) upd_same
end
end Rk
namespace Rk
open PySem PySem.Spec PyProof.Rows L2 Wv Tk
/-! ### ways that an expression makes -/
/-! objects made -/
section
variable {K : PySem.W.Frag} {c : Cs} {H : Hp} {Q : VK} {E : XK}
theorem oL {ch : Nat} (h : ∀ v H', Same H H' → ObjAt c H' v (.letter ch) → Q v H') :
    ∀ x dx, H x = none → H dx = none → dx ≠ x → spInitL c.lt (.ref x :: ([.str (sg ch)] ++ [])) (upd (upd H dx (.own x)) x (.ins c.lt dx [])) (fun v H2 => v = .non ∧ Q (.ref x) H2) E := makeL fun x dx H' s e => h _ _ s ⟨x, dx, rfl, e⟩
theorem oU {u : V} {w : W} (hu : ObjAt c H u w) (h : ∀ v H', Same H H' → ObjAt c H' v (.unless w) → Q v H') :
    ∀ x dx, H x = none → H dx = none → dx ≠ x → spInitP c c.un (.ref x :: ([u] ++ [])) (upd (upd H dx (.own x)) x (.ins c.un dx [])) (fun v H2 => v = .non ∧ Q (.ref x) H2) E := makeP hu fun x dx H' s e => h _ _ s ⟨x, dx, u, u, rfl, e, ObjAt.keep (stillS s) _ _ hu⟩
theorem oAh {u : V} {w : W} (hu : ObjAt c H u w) (h : ∀ v H', Same H H' → ObjAt c H' v (.ahead w) → Q v H') :
    ∀ x dx, H x = none → H dx = none → dx ≠ x → spInitP c c.ah (.ref x :: ([u] ++ [])) (upd (upd H dx (.own x)) x (.ins c.ah dx [])) (fun v H2 => v = .non ∧ Q (.ref x) H2) E := makeP hu fun x dx H' s e => h _ _ s ⟨x, dx, u, u, rfl, e, ObjAt.keep (stillS s) _ _ hu⟩
theorem oAg {u : V} {w : W} (hu : ObjAt c H u w) (h : ∀ v H', Same H H' → ObjAt c H' v (.again w) → Q v H') :
    ∀ x dx, H x = none → H dx = none → dx ≠ x → spInitA c c.ag (.ref x :: ([u] ++ [])) (upd (upd H dx (.own x)) x (.ins c.ag dx [])) (fun v H2 => v = .non ∧ Q (.ref x) H2) E := makeA hu fun x dx mk H' s e => h _ _ s ⟨x, dx, u, mk, rfl, e, ObjAt.keep (stillS s) _ _ hu⟩
theorem oR {q : Addr} {vs : List V} {ws : List W} (hq : H q = some (.lst vs) ∨ H q = some (.tup vs)) (hw : ObjsAt c H vs ws) (hl : ws.length ≤ 1000) (h : ∀ v H', Same H H' → ObjAt c H' v (.row ws) → Q v H') :
    ∀ x dx, H x = none → H dx = none → dx ≠ x → spInitT K c c.ro (.ref x :: ([.ref q] ++ [])) (upd (upd H dx (.own x)) x (.ins c.ro dx [])) (fun v H2 => v = .non ∧ Q (.ref x) H2) E := makeT hq hw (by omega) fun x dx t H' s ht e => h _ _ s ⟨x, dx, t, vs, rfl, e, ht, ObjsAt.keep (stillS s) _ _ hw⟩
theorem oC {q : Addr} {vs : List V} {ws : List W} (hq : H q = some (.lst vs) ∨ H q = some (.tup vs)) (hw : ObjsAt c H vs ws) (hl : ws.length ≤ 1000) (h : ∀ v H', Same H H' → ObjAt c H' v (.choice ws) → Q v H') :
    ∀ x dx, H x = none → H dx = none → dx ≠ x → spInitT K c c.ch (.ref x :: ([.ref q] ++ [])) (upd (upd H dx (.own x)) x (.ins c.ch dx [])) (fun v H2 => v = .non ∧ Q (.ref x) H2) E := makeT hq hw (by omega) fun x dx t H' s ht e => h _ _ s ⟨x, dx, t, vs, rfl, e, ht, ObjsAt.keep (stillS s) _ _ hw⟩
theorem oMb {u : V} {w : W} (hu : ObjAt c H u w) (h : ∀ v H', Same H H' → ObjAt c H' v (.maybe w) → Q v H') :
    ∀ x dx, H x = none → H dx = none → dx ≠ x → spInitP c c.ma (.ref x :: ([u] ++ [])) (upd (upd H dx (.own x)) x (.ins c.ma dx [])) (fun v H2 => v = .non ∧ Q (.ref x) H2) E := makeP hu fun x dx H' s e => h _ _ s ⟨x, dx, u, u, rfl, e, ObjAt.keep (stillS s) _ _ hu⟩
end
theorem ObjsAt.snoc1 {c : Cs} {H : Hp} {u : V} {x : W} (hu : ObjAt c H u x) : ∀ (ws : List W) (vs : List V), ObjsAt c H vs ws → ObjsAt c H (vs ++ [u]) (ws ++ [x])
  | [], vs, h => by rw [show vs = [] from h]; exact ⟨u, [], rfl, hu, rfl⟩
  | y :: ws, vs, ⟨a, us, e, h1, h2⟩ => ⟨a, us ++ [u], by rw [e]; rfl, h1, ObjsAt.snoc1 hu ws us h2⟩
def MkS (c : Cs) (E : TE) (σ : L2.St) (H : Hp) (w : W) : Prop := ∀ H1, Same H H1 → ∀ Q : VK, (∀ v H', Same H1 H' → ObjAt c H' v w → Q v H') → E σ H1 Q
section
variable {c : Cs} {K : PySem.W.Frag} {E E1 E2 E3 : TE} {σ : L2.St} {H : Hp} {w w1 w2 w3 : W}
theorem mk_var {i : Nat} {v : V} (e : σ[i]? = some (some v)) (hv : ObjAt c H v w) : MkS c (tVar i) σ H w := fun H1 s1 Q k => ⟨v, e, k v H1 (Same.refl _) (ObjAt.keep (stillS s1) _ _ hv)⟩
theorem mk_one : MkS c (tMake c.on (spInit0 c.on) [] E0 tNil) σ H .one := fun H1 s1 Q k => (fun x dx hx hd _ => ⟨x, dx, H1, rfl, at0 hx hd, fun H' e s => ⟨rfl, k _ H' s ⟨x, dx, rfl, e⟩⟩⟩)
theorem mk_un (h : MkS c E σ H w) : MkS c (tMake c.un (spInitP c c.un) [] E0 (tCons E tNil)) σ H (.unless w) := fun H1 s1 Q k => h H1 s1 _ fun v H2 s2 hv => oU hv fun v' H' s o => k v' H' (s2.trans s) o
theorem mk_ag (h : MkS c E σ H w) : MkS c (tMake c.ag (spInitA c c.ag) [] E0 (tCons E tNil)) σ H (.again w) := fun H1 s1 Q k => h H1 s1 _ fun v H2 s2 hv => oAg hv fun v' H' s o => k v' H' (s2.trans s) o
theorem mk_no : MkS c (tMake c.no (spInit0 c.no) [] E0 tNil) σ H .nothing := fun H1 s1 Q k => (fun x dx hx hd _ => ⟨x, dx, H1, rfl, at0 hx hd, fun H' e s => ⟨rfl, k _ H' s ⟨x, dx, rfl, e⟩⟩⟩)
theorem mk_mb (h : MkS c E σ H w) : MkS c (tMake c.ma (spInitP c c.ma) [] E0 (tCons E tNil)) σ H (.maybe w) := fun H1 s1 Q k => h H1 s1 _ fun v H2 s2 hv => oMb hv fun v' H' s o => k v' H' (s2.trans s) o
theorem mk_row (h1 : MkS c E1 σ H w1) (h2 : MkS c E2 σ H w2) : MkS c (tMake c.ro (spInitT K c c.ro) [] E0 (tCons (tLst (tCons E1 (tCons E2 tNil))) tNil)) σ H (.row [w1, w2]) := fun H1 s1 Q k => by
  refine h1 H1 s1 _ fun v1 H2 s2 o1 => ?_
  refine h2 H2 (s1.trans s2) _ fun v2 H3 s3 o2 => ?_
  refine ⟨by show 2 ≤ sizeLine; decide, fun q hq => ?_⟩
  have s4 := Same.new hq (.lst [v1, v2])
  exact oR (ws := [w1, w2]) (.inl upd_same) ⟨v1, [v2], rfl, ObjAt.keep (stillS (s3.trans s4)) _ _ o1, v2, [], rfl, ObjAt.keep (stillS s4) _ _ o2, rfl⟩ (by show 2 ≤ 1000; decide) fun v H' s o => k v H' (s2.trans (s3.trans (s4.trans s))) o
theorem mk_ch (h1 : MkS c E1 σ H w1) (h2 : MkS c E2 σ H w2) : MkS c (tMake c.ch (spInitT K c c.ch) [] E0 (tCons (tLst (tCons E1 (tCons E2 tNil))) tNil)) σ H (.choice [w1, w2]) := fun H1 s1 Q k => by
  refine h1 H1 s1 _ fun v1 H2 s2 o1 => ?_
  refine h2 H2 (s1.trans s2) _ fun v2 H3 s3 o2 => ?_
  refine ⟨by show 2 ≤ sizeLine; decide, fun q hq => ?_⟩
  have s4 := Same.new hq (.lst [v1, v2])
  exact oC (ws := [w1, w2]) (.inl upd_same) ⟨v1, [v2], rfl, ObjAt.keep (stillS (s3.trans s4)) _ _ o1, v2, [], rfl, ObjAt.keep (stillS s4) _ _ o2, rfl⟩ (by show 2 ≤ 1000; decide) fun v H' s o => k v H' (s2.trans (s3.trans (s4.trans s))) o
theorem mk_row3 (h1 : MkS c E1 σ H w1) (h2 : MkS c E2 σ H w2) (h3 : MkS c E3 σ H w3) : MkS c (tMake c.ro (spInitT K c c.ro) [] E0 (tCons (tLst (tCons E1 (tCons E2 (tCons E3 tNil)))) tNil)) σ H (.row [w1, w2, w3]) := fun H1 s1 Q k => by
  refine h1 H1 s1 _ fun v1 H2 s2 o1 => ?_
  refine h2 H2 (s1.trans s2) _ fun v2 H3 s3 o2 => ?_
  refine h3 H3 (s1.trans (s2.trans s3)) _ fun v3 H4 s4 o3 => ?_
  refine ⟨by show 3 ≤ sizeLine; decide, fun q hq => ?_⟩
  have s5 := Same.new hq (.lst [v1, v2, v3])
  exact oR (ws := [w1, w2, w3]) (.inl upd_same) ⟨v1, [v2, v3], rfl, ObjAt.keep (stillS (s3.trans (s4.trans s5))) _ _ o1, v2, [v3], rfl, ObjAt.keep (stillS (s4.trans s5)) _ _ o2, v3, [], rfl, ObjAt.keep (stillS s5) _ _ o3, rfl⟩ (by show 3 ≤ 1000; decide) fun v H' s o => k v H' (s2.trans (s3.trans (s4.trans (s5.trans s)))) o
theorem mk_rowv {i : Nat} {q : Addr} {vs : List V} {ws : List W} (e : σ[i]? = some (some (.ref q))) (hq : H q = some (.lst vs)) (hw : ObjsAt c H vs ws) (hl : ws.length ≤ 1000) : MkS c (tMake c.ro (spInitT K c c.ro) [] E0 (tCons (tVar i) tNil)) σ H (.row ws) := fun H1 s1 Q k => ⟨_, e, oR (.inl (s1 _ _ hq)) (ObjsAt.keep (stillS s1) _ _ hw) hl fun v H' s o => k v H' s o⟩
theorem mk_ix {i j : Nat} {q : Addr} {vs : List V} {v : V} (e : σ[i]? = some (some (.ref q))) (hq : H q = some (.lst vs)) (hj : vs[j]? = some v) (hv : ObjAt c H v w) : MkS c (tOp (rIxL K) (tVar i) (tC (.int ((j : Nat) : Int)))) σ H w := fun H1 s1 Q k => ⟨_, e, q, vs, _, v, rfl, rfl, SqL.of (s1 _ _ hq), atI_nat hj, k v H1 (Same.refl _) (ObjAt.keep (stillS s1) _ _ hv)⟩
theorem asg_mk {Y : TS} {D : Ends} {i : Nat} (h1 : MkS c E1 σ H w1) (k : ∀ v1 H', Same H H' → ObjAt c H' v1 w1 → Y D (σ.set i (some v1)) H') : tSeq (tAsg E1 (gName i)) Y D σ H := h1 H (Same.refl _) _ fun v1 H1 s1 o1 => k v1 H1 s1 o1
end
theorem if_call {E B : TE} {r : List V → Hp → VK → Prop} {o : R2} {T U : TS} {D : Ends} {σ : L2.St} {H : Hp} (h : E σ H fun x H1 => tIfS (tTest (tOp o (tCB r (tCons (tC x) tNil)) B)) T U D σ H1) : tIfS (tTest (tOp o (tCB r (tCons E tNil)) B)) T U D σ H := h
theorem op_call {E B : TE} {r : List V → Hp → VK → Prop} {o : R2} {σ : L2.St} {H : Hp} {Q : VK} (h : E σ H fun x H1 => tOp o (tCB r (tCons (tC x) tNil)) B σ H1 Q) : tOp o (tCB r (tCons E tNil)) B σ H Q := h
theorem call_mk2 {c : Cs} {E : TE} {sp : Sp} {X : XK} {t : TA} {σ : L2.St} {H : Hp} {Q : VK} {w : W} {i : Nat} {x : V} (e : σ[i]? = some (some x)) (hE : MkS c E σ H w) (k : ∀ v H', Same H H' → ObjAt c H' v w → tCall sp [] X (tCons (tC x) (tCons (tC v) t)) σ H' Q) : tCall sp [] X (tCons (tVar i) (tCons E t)) σ H Q := ⟨x, e, hE H (Same.refl _) _ fun v H' s o => k v H' s o⟩
theorem kit_tuple (K : PySem.W.Frag) : PySem.W.kitOne K (.type "tuple") (.type "tuple") = some true := by unfold PySem.W.kitOne; exact if_pos (by decide)
theorem isi_tB {K : PySem.W.Frag} {σ : L2.St} {i : Nat} {H : Hp} {x : V} {t : Value} {T : String} {b : Bool} {Q : Bool → Hp → Prop} (hv : σ[i]? = some (some x)) (ty : TyX K H x t) (e : PySem.W.kitOne K t (.type T) = some b) (k : Q b H) : tB (tCB (rIsi K) (tCons (tVar i) (tCons (tC (.ty T)) tNil))) σ H Q := ⟨x, hv, _, _, t, _, b, rfl, .ty T, ty, e, b, rfl, k⟩
theorem e_cutQ {E : TE} {σ : L2.St} {H : Hp} {Q : VK} (Cn : V → Hp → Prop) (h1 : ∀ Q' : VK, (∀ x H', Cn x H' → Q' x H') → E σ H Q') (h2 : ∀ x H', Cn x H' → Q x H') : E σ H Q := h1 Q h2
/-- repr of a tuple of numbers -/
theorem rr {K : PySem.W.Frag} {H : Hp} {q : Addr} {ns : List Nat} {F : PyData → Prop} (h : H q = some (.tup (iV ns))) (hl : ns.length ≤ 10000) (hn : ∀ n ∈ ns, n < 10 ^ 40) (k : F (dU ns)) :
    ∃ d : PyData, Dp K H (.ref q) d ∧ isDisplay d = true ∧ d.showable = true ∧ d.hasDict = false ∧ d.depth ≤ 60 ∧ d.shown.length ≤ sizeLine ∧ F d :=
  have d := dU_ok ns hl hn
  ⟨dU ns, dp_dU (SqT.of h), d.1, d.2.1, d.2.2.1, d.2.2.2.1, d.2.2.2.2, k⟩
theorem small3 {a b c : Nat} (h0 : a < 10 ^ 40) (h1 : b < 10 ^ 40) (h2 : c < 10 ^ 40) : ∀ n ∈ [a, b, c], n < 10 ^ 40 := fun m hm => by
  simp only [List.mem_cons, List.not_mem_nil, or_false] at hm
  rcases hm with h | h | h <;> (rw [h]; assumption)
end Rk
namespace Rk
open PySem PySem.Spec PyProof.Rows L2 Wv Tk
/-! ### what follows from the counts of a way -/
def spBy (c : Cs) : Sp := fun vs H Q _ => ∃ (v : V) (s : List Nat) (y : W) (n : Nat), vs = [.str (tx s), v, .int (n : Nat)] ∧ ObjAt c H v y ∧ y.wf s ∧ y.size ≤ 7 ∧ 1 ≤ s.length ∧ s.length ≤ 3 ∧ n ≤ 59 ∧ ∀ H', Same H H' → Q (.bl true) H'
theorem cX_small (w : W) {s : List Nat} (hs : s.length ≤ 3) {n : Nat} (hn : n ≤ 60) : cX w s n 0 + cX w s n 1 + cX w s n 2 ≤ 3 ^ 60 := by
  rw [cX_sum]
  exact Nat.le_trans (Nat.pow_le_pow_left hs n) (Nat.pow_le_pow_right (by decide) hn)
theorem tots_one (w : W) (s : List Nat) (n : Nat) : tots (.row [.one, w]) s 0 1 (n + 1) = [s.length * cX w s n 0, s.length * cX w s n 1, s.length * cX w s n 2] := by rw [tots_cX, cX_one, cX_one, cX_one]
theorem tots_all (w : W) (s : List Nat) (n : Nat) : tots (.row [w, .again .one]) s 0 1 n = [cX w s n 0 + cX w s n 1, 0, cX w s n 2] := by
  have k := cX_by (w := w) (w' := .row [w, .again .one]) (s := s) (n := n) gAll fun z _ => res_all w z
  rw [tots_cX, k 0, k 1, k 2]
  simp [gAll]
theorem tots_un (w : W) (s : List Nat) (n : Nat) : tots (.unless w) s 0 1 n = if n = 0 then [cX w s n 2, 0, cX w s n 0 + cX w s n 1] else [0, cX w s n 2, cX w s n 0 + cX w s n 1] := by
  have k := cX_by (w := w) (w' := .unless w) (s := s) (n := n) (gUn n) fun z hz => by rw [res_un, txs_len n z hz]
  rw [tots_cX, k 0, k 1, k 2]
  by_cases h : n = 0
  · rw [if_pos h]; simp [gUn, h]
  · rw [if_neg h]; simp [gUn, h]
theorem tots_gMb {w w' : W} {s : List Nat} {n : Nat} (h : ∀ z ∈ txs s n, res w' z = gMb n (res w z)) : tots w' s 0 1 n = if n = 0 then [cX w s n 0 + cX w s n 2, cX w s n 1, 0] else [cX w s n 0, cX w s n 1 + cX w s n 2, 0] := by
  have k := cX_by (w := w) (w' := w') (s := s) (n := n) (gMb n) h
  rw [tots_cX, k 0, k 1, k 2]
  by_cases h : n = 0
  · rw [if_pos h]; simp [gMb, h]
  · rw [if_neg h]; simp [gMb, h]
section
variable {P : Program} {w : World} {K : PySem.W.Frag} {mg : Str → Option Value} {base : Heap} {c : Cs}
abbrev s_l_by_counts : Stmt := top 78
theorem sc_l_by_counts : FnScope ["_law_signs_here", "_law_made_here", "_law_n", "_law_told", "_law_many", "_law_taken", "_law_more", "_law_none", "_law_due", "_law_away", "_law_left_out"] ["_law_signs_here", "_law_made_here", "_law_n"] (defScope s_l_by_counts) := ⟨rfl, rfl, rfl, by decide +kernel, rfl, by decide +kernel, by decide +kernel⟩
theorem d_l_by_counts (h : Here K mg "_law_by_counts" s_l_by_counts ["_law_signs_here", "_law_made_here", "_law_n"]) (B : Bs mg) (g : Gs P w K mg base c) (G_l_power : DefOk P w K mg base 1 "_law_power" ["_law_many", "_law_n"] spPower) (G_counted : DefOk P w K mg base 8 "counted" ["signs", "way", "n"] (spCounted c)) :
    Gd.DefG P w K mg base 10 "_law_by_counts" ["_law_signs_here", "_law_made_here", "_law_n"] (spBy c) := by
  have B_int := B.int; have B_isinstance := B.isinstance; have B_repr := B.repr; have B_tuple := B.tuple; have B_len := B.len
  have G_Row := g.ro; have G_Unless := g.un; have G_One := g.on; have G_Again := g.ag; have G_Maybe := g.ma; have G_Choice := g.ch; have G_Nothing := g.no
  refine Gd.Here.okG h sc_l_by_counts (fun vs H Q E h => by obtain ⟨_, _, _, _, rfl, _⟩ := h; rfl) (fun f cdv A outer s' H vs Q E hgd hr h => ?_)
  obtain ⟨v, s, y, n, rfl, hv, hwf, hsz, hs1, hs3, hn, k⟩ := h
  refine ⟨_, (pss_cons (ps_par (i := 3) (j := 4) rfl sc_l_by_counts.nd rfl rfl (by decide) rfl rfl (pa_cons (pe_callD G_counted (hr.mono (by first | decide | omega)) rfl (pa_cons (pv 0) (pa_cons (pv 1) (pa_cons (pv 2) pa_nil)))) (pa_cons (pe_callB call_len_str rfl B_len PySem.boot_len (pa_cons (pv 0) pa_nil)) pa_nil)) (by rfl))
  (pss_cons (ps_if (PW.pt (pw_or (pt_not (pt_val (pe_callB call_isi rfl B_isinstance (by decide +kernel) (pa_cons (pv 3) (pa_cons (pe_bltn (v := V.ty "tuple") rfl B_tuple (by decide +kernel) rfl) pa_nil))))) (pw_or1 (pt_cmpR op_ne (pe_callB call_len_seq rfl B_len PySem.boot_len (pa_cons (pv 3) pa_nil)) pe_int (nomark _))))) (pss_one (ps_ret pe_bl)) pss_nil)
  (pss_cons (ps_asg (pv 3) (pg_tup rfl (pgs_cons (pg_name (i := 5) sc_l_by_counts.nd rfl (Or.inl rfl)) (pgs_cons (pg_name (i := 6) sc_l_by_counts.nd rfl (Or.inl rfl)) (pgs_cons (pg_name (i := 7) sc_l_by_counts.nd rfl (Or.inl rfl)) pgs_nil)))))
  (pss_cons (ps_if (pt_cmpR op_ne (pe_callB (Gd.call_repr hgd hr) rfl B_repr (by decide +kernel) (pa_cons (pv 3) pa_nil)) (pe_callB (Gd.call_repr hgd hr) rfl B_repr (by decide +kernel) (pa_cons (pe_tup (pa_cons (pe_callTy call_int1 rfl B_int (by decide +kernel) (pa_cons (pv 5) pa_nil)) (pa_cons (pe_callTy call_int1 rfl B_int (by decide +kernel) (pa_cons (pv 6) pa_nil)) (pa_cons (pe_callTy call_int1 rfl B_int (by decide +kernel) (pa_cons (pv 7) pa_nil)) pa_nil)))) pa_nil)) (nomark _)) (pss_one (ps_ret pe_bl)) pss_nil)
  (pss_cons (ps_if (pt_cmpR op_ne (pe_op op_add (pe_op op_add (pv 5) (pv 6)) (pv 7)) (pe_callD G_l_power (hr.mono (by first | decide | omega)) rfl (pa_cons (pv 4) (pa_cons (pv 2) pa_nil))) (nomark _)) (pss_one (ps_ret pe_bl)) pss_nil)
  (pss_cons (ps_set (i := 8) sc_l_by_counts.nd rfl (Or.inl rfl) (pe_tup (pa_cons (pe_op op_mul (pv 4) (pv 5)) (pa_cons (pe_op op_mul (pv 4) (pv 6)) (pa_cons (pe_op op_mul (pv 4) (pv 7)) pa_nil)))))
  (pss_cons (ps_if (pt_cmpR op_ne (pe_callB (Gd.call_repr hgd hr) rfl B_repr (by decide +kernel) (pa_cons (pe_callD G_counted (hr.mono (by first | decide | omega)) rfl (pa_cons (pv 0) (pa_cons (pe_makeD G_Row (hr.mono (by first | decide | omega)) rfl (pa_cons (pe_lst (pa_cons (pe_makeD0 G_One (hr.mono (by first | decide | omega)) rfl) (pa_cons (pv 1) pa_nil))) pa_nil)) (pa_cons (pe_op op_add (pv 2) pe_int) pa_nil)))) pa_nil)) (pe_callB (Gd.call_repr hgd hr) rfl B_repr (by decide +kernel) (pa_cons (pv 8) pa_nil)) (nomark _)) (pss_one (ps_ret pe_bl)) pss_nil)
  (pss_cons (ps_set (i := 8) sc_l_by_counts.nd rfl (Or.inl rfl) (pe_tup (pa_cons (pe_op op_add (pv 5) (pv 6)) (pa_cons pe_int (pa_cons (pv 7) pa_nil)))))
  (pss_cons (ps_if (pt_cmpR op_ne (pe_callB (Gd.call_repr hgd hr) rfl B_repr (by decide +kernel) (pa_cons (pe_callD G_counted (hr.mono (by first | decide | omega)) rfl (pa_cons (pv 0) (pa_cons (pe_makeD G_Row (hr.mono (by first | decide | omega)) rfl (pa_cons (pe_lst (pa_cons (pv 1) (pa_cons (pe_makeD G_Again (hr.mono (by first | decide | omega)) rfl (pa_cons (pe_makeD0 G_One (hr.mono (by first | decide | omega)) rfl) pa_nil)) pa_nil))) pa_nil)) (pa_cons (pv 2) pa_nil)))) pa_nil)) (pe_callB (Gd.call_repr hgd hr) rfl B_repr (by decide +kernel) (pa_cons (pv 8) pa_nil)) (nomark _)) (pss_one (ps_ret pe_bl)) pss_nil)
  (pss_cons (ps_set (i := 9) sc_l_by_counts.nd rfl (Or.inl rfl) (pe_ifExp (pt_cmpR op_eq (pv 2) pe_int (nomark _)) (pe_tup (pa_cons (pv 7) (pa_cons pe_int (pa_cons (pe_op op_add (pv 5) (pv 6)) pa_nil)))) (pe_tup (pa_cons pe_int (pa_cons (pv 7) (pa_cons (pe_op op_add (pv 5) (pv 6)) pa_nil))))))
  (pss_cons (ps_if (pt_cmpR op_ne (pe_callB (Gd.call_repr hgd hr) rfl B_repr (by decide +kernel) (pa_cons (pe_callD G_counted (hr.mono (by first | decide | omega)) rfl (pa_cons (pv 0) (pa_cons (pe_makeD G_Unless (hr.mono (by first | decide | omega)) rfl (pa_cons (pv 1) pa_nil)) (pa_cons (pv 2) pa_nil)))) pa_nil)) (pe_callB (Gd.call_repr hgd hr) rfl B_repr (by decide +kernel) (pa_cons (pv 9) pa_nil)) (nomark _)) (pss_one (ps_ret pe_bl)) pss_nil)
  (pss_cons (ps_set (i := 10) sc_l_by_counts.nd rfl (Or.inl rfl) (pe_ifExp (pt_cmpR op_eq (pv 2) pe_int (nomark _)) (pe_tup (pa_cons (pe_op op_add (pv 5) (pv 7)) (pa_cons (pv 6) (pa_cons pe_int pa_nil)))) (pe_tup (pa_cons (pv 5) (pa_cons (pe_op op_add (pv 6) (pv 7)) (pa_cons pe_int pa_nil))))))
  (pss_cons (ps_if (pt_cmpR op_ne (pe_callB (Gd.call_repr hgd hr) rfl B_repr (by decide +kernel) (pa_cons (pe_callD G_counted (hr.mono (by first | decide | omega)) rfl (pa_cons (pv 0) (pa_cons (pe_makeD G_Maybe (hr.mono (by first | decide | omega)) rfl (pa_cons (pv 1) pa_nil)) (pa_cons (pv 2) pa_nil)))) pa_nil)) (pe_callB (Gd.call_repr hgd hr) rfl B_repr (by decide +kernel) (pa_cons (pv 10) pa_nil)) (nomark _)) (pss_one (ps_ret pe_bl)) pss_nil)
  (pss_one (ps_ret (pe_cmpR op_eq (pe_callB (Gd.call_repr hgd hr) rfl B_repr (by decide +kernel) (pa_cons (pe_callD G_counted (hr.mono (by first | decide | omega)) rfl (pa_cons (pv 0) (pa_cons (pe_makeD G_Choice (hr.mono (by first | decide | omega)) rfl (pa_cons (pe_lst (pa_cons (pv 1) (pa_cons (pe_makeD0 G_Nothing (hr.mono (by first | decide | omega)) rfl) pa_nil))) pa_nil)) (pa_cons (pv 2) pa_nil)))) pa_nil)) (pe_callB (Gd.call_repr hgd hr) rfl B_repr (by decide +kernel) (pa_cons (pv 10) pa_nil)) (nomark _))))))))))))))))), ?_⟩
  have hcal := called_W y hwf
  refine ⟨_, rfl, _, rfl, _, rfl, v, s, y, n, rfl, hv, hcal, hwf, by omega, by omega, by omega, fun q0 H0 s0 hq0 => ?_⟩
  refine ⟨_, rfl, tx s, rfl, by rw [Wv.tx_len]; exact Nat.le_trans hs3 (by decide), ?_⟩
  have em : (((tx s).length : Nat) : Int) = ((s.length : Nat) : Int) := by rw [Wv.tx_len]
  rw [em]
  refine ⟨_, _, rfl, ?_⟩
  rw [tots_cX] at hq0
  have hc := cX_small y hs3 (show n ≤ 60 by omega)
  have hsum := cX_sum y s n
  have t1 := tots_one y s n
  have t2 := tots_all y s n
  have t3 := tots_un y s n
  have t4 := tots_gMb (w := y) (w' := .maybe y) (s := s) (n := n) fun z hz => by rw [res_mb, txs_len n z hz]
  have t5 := tots_gMb (w := y) (w' := .choice [y, .nothing]) (s := s) (n := n) fun z hz => by rw [res_ch, txs_len n z hz]
  generalize cX y s n 0 = c0 at *
  generalize cX y s n 1 = c1 at *
  generalize cX y s n 2 = c2 at *
  walk_at "nx"
  show tB _ _ _ _
  refine isi_tB rfl (.base (.tup hq0)) (kit_tuple K) ?_
  refine iteF ?_
  refine ⟨_, rfl, q0, _, rfl, .inr (SqT.of hq0), rfl, _, rfl, ?_⟩
  refine iteN' (show ¬ (!decide (V.int ((3 : Nat) : Int) = V.int 3)) = true by decide) ?_
  walk_at "nx"
  refine ⟨_, rfl, q0, _, rfl, SqT.of hq0, rfl, .int (c0 : Nat), [.int (c1 : Nat), .int (c2 : Nat)], rfl, .int (c1 : Nat), [.int (c2 : Nat)], rfl, .int (c2 : Nat), [], rfl, rfl, ?_⟩
  walk_at "nx"
  have h60 : 3 ^ 60 < 10 ^ 39 := by decide
  have b0 : c0 < 10 ^ 39 := by omega
  have b1 : c1 < 10 ^ 39 := by omega
  have b2 : c2 < 10 ^ 39 := by omega
  have BL : ∀ {a b c : Nat}, [a, b, c].length ≤ 10000 := fun {a b c} => by show 3 ≤ 10000; decide
  refine ⟨_, rfl, _, rfl, .inl (rr hq0 BL (small3 (by omega) (by omega) (by omega)) ?_)⟩
  refine ⟨_, rfl, .inl ⟨_, rfl, _, rfl, .inl ⟨_, rfl, _, rfl, .inl ⟨_, rfl, by show 3 ≤ sizeLine; decide, fun q1 hq1 => ?_⟩⟩⟩⟩
  have sn1 : Same H0 (upd H0 q1 (.tup [.int (c0 : Nat), .int (c1 : Nat), .int (c2 : Nat)])) := Same.new hq1 _
  have hq11 : upd H0 q1 (.tup [.int (c0 : Nat), .int (c1 : Nat), .int (c2 : Nat)]) q1 = some (.tup (iV [c0, c1, c2])) := upd_same
  generalize upd H0 q1 (.tup [.int (c0 : Nat), .int (c1 : Nat), .int (c2 : Nat)]) = H1 at *
  refine ⟨_, rfl, .inl (rr hq11 BL (small3 (by omega) (by omega) (by omega)) ⟨rfl, _, rfl, ?_⟩)⟩
  rw [decide_eq_true rfl]
  refine iteF ?_
  walk_at "nx"
  refine ⟨_, rfl, _, rfl, _, _, rfl, rfl, _, rfl, _, _, rfl, rfl, _, rfl, _, rfl, s.length, n, rfl, by omega, by omega, rfl, _, rfl, ?_⟩
  rw [decide_eq_true (congrArg V.int (show ((c0 : Nat) : Int) + ((c1 : Nat) : Int) + ((c2 : Nat) : Int) = ((s.length ^ n : Nat) : Int) by omega))]
  refine iteF ?_
  have sdA := s0.trans sn1
  have hvA := ObjAt.keep (stillS sdA) _ _ hv
  walk_at "nx"
  refine ⟨_, rfl, _, rfl, _, _, rfl, rfl, .inl ⟨by omega, by omega⟩, _, rfl, _, rfl, _, _, rfl, rfl, .inl ⟨by omega, by omega⟩, _, rfl, _, rfl, _, _, rfl, rfl, .inl ⟨by omega, by omega⟩, by show 3 ≤ sizeLine; decide, fun q2 hq2 => ?_⟩
  have sn2 : Same H1 (upd H1 q2 (.tup [.int ((s.length : Nat) * (c0 : Nat) : Int), .int ((s.length : Nat) * (c1 : Nat) : Int), .int ((s.length : Nat) * (c2 : Nat) : Int)])) := Same.new hq2 _
  have hdue : upd H1 q2 (.tup [.int ((s.length : Nat) * (c0 : Nat) : Int), .int ((s.length : Nat) * (c1 : Nat) : Int), .int ((s.length : Nat) * (c2 : Nat) : Int)]) q2 = some (.tup (iV [s.length * c0, s.length * c1, s.length * c2])) := upd_same
  generalize upd H1 q2 (.tup [.int ((s.length : Nat) * (c0 : Nat) : Int), .int ((s.length : Nat) * (c1 : Nat) : Int), .int ((s.length : Nat) * (c2 : Nat) : Int)]) = H2 at *
  have sdB := sdA.trans sn2
  have hvB := ObjAt.keep (stillS sn2) _ _ hvA
  have hs3q : s.length = 1 ∨ s.length = 2 ∨ s.length = 3 := by omega
  have hm0 : s.length * c0 < 10 ^ 40 := by rcases hs3q with e | e | e <;> (rw [e]; omega)
  have hm1 : s.length * c1 < 10 ^ 40 := by rcases hs3q with e | e | e <;> (rw [e]; omega)
  have hm2 : s.length * c2 < 10 ^ 40 := by rcases hs3q with e | e | e <;> (rw [e]; omega)
  walk_at "nx"
  have wf1 : W.wf s (.row [.one, y]) := ⟨by simp, True.intro, hwf, True.intro⟩
  refine if_call ?_
  refine call_mk2 (c := c) rfl (mk_row (K := K) mk_one (mk_var rfl hvB)) fun va1 Ha1 sa1 oa1 => ?_
  refine ⟨_, rfl, _, _, rfl, rfl, va1, s, .row [.one, y], n + 1, rfl, oa1, called_W _ wf1, wf1, by simp only [W.size, W.sizes]; omega, by omega, by omega, fun qb1 Hb1 sb1 hqb1 => ?_⟩
  rw [t1] at hqb1
  refine ⟨_, rfl, .inl (rr hqb1 BL (small3 hm0 hm1 hm2) ?_)⟩
  refine ⟨_, rfl, _, rfl, .inl (rr (sb1 _ _ (sa1 _ _ hdue)) BL (small3 hm0 hm1 hm2) ⟨rfl, _, rfl, ?_⟩)⟩
  rw [decide_eq_true rfl]
  refine iteF ?_
  have sd1 := sdB.trans (sa1.trans sb1)
  have hv1 := ObjAt.keep (stillS (sa1.trans sb1)) _ _ hvB
  walk_at "nx"
  refine ⟨_, rfl, _, rfl, _, _, rfl, rfl, _, rfl, by show 3 ≤ sizeLine; decide, fun q3 hq3 => ?_⟩
  have sn3 : Same Hb1 (upd Hb1 q3 (.tup [.int ((c0 : Nat) + (c1 : Nat) : Int), .int 0, .int (c2 : Nat)])) := Same.new hq3 _
  have hdue3 : upd Hb1 q3 (.tup [.int ((c0 : Nat) + (c1 : Nat) : Int), .int 0, .int (c2 : Nat)]) q3 = some (.tup (iV [c0 + c1, 0, c2])) := upd_same
  generalize upd Hb1 q3 (.tup [.int ((c0 : Nat) + (c1 : Nat) : Int), .int 0, .int (c2 : Nat)]) = H3 at *
  have sdC := sd1.trans sn3
  have hvC := ObjAt.keep (stillS sn3) _ _ hv1
  walk_at "nx"
  have wf2 : W.wf s (.row [y, .again .one]) := ⟨by simp, hwf, True.intro, True.intro⟩
  refine if_call ?_
  refine call_mk2 (c := c) rfl (mk_row (K := K) (mk_var rfl hvC) (mk_ag mk_one)) fun va2 Ha2 sa2 oa2 => ?_
  refine ⟨_, rfl, va2, s, .row [y, .again .one], n, rfl, oa2, called_W _ wf2, wf2, by simp only [W.size, W.sizes]; omega, by omega, by omega, fun qb2 Hb2 sb2 hqb2 => ?_⟩
  rw [t2] at hqb2
  refine ⟨_, rfl, .inl (rr hqb2 BL (small3 (by omega) (by decide) (by omega)) ?_)⟩
  refine ⟨_, rfl, _, rfl, .inl (rr (sb2 _ _ (sa2 _ _ hdue3)) BL (small3 (by omega) (by decide) (by omega)) ⟨rfl, _, rfl, ?_⟩)⟩
  rw [decide_eq_true rfl]
  refine iteF ?_
  have sd2 := sdC.trans (sa2.trans sb2)
  have hv2 := ObjAt.keep (stillS (sa2.trans sb2)) _ _ hvC
  walk_at "nx"
  refine e_cutQ (fun x H' => ∃ q : Addr, x = .ref q ∧ Same Hb2 H' ∧ H' q = some (.tup (iV (if n = 0 then [c2, 0, c0 + c1] else [0, c2, c0 + c1])))) ?_ ?_
  · intro nx' hnx
    refine ⟨_, rfl, rfl, _, rfl, ?_⟩
    by_cases h0 : n = 0
    · refine iteT' (decide_eq_true (congrArg V.int (by omega))) ?_
      refine ⟨_, rfl, _, rfl, _, rfl, _, _, rfl, rfl, by show 3 ≤ sizeLine; decide, fun q hq => ?_⟩
      rw [if_pos h0] at hnx
      exact hnx _ _ ⟨q, rfl, Same.new hq _, upd_same⟩
    · refine iteN' (fun q => by have := V.int.inj (of_decide_eq_true q); omega) ?_
      refine ⟨_, rfl, _, rfl, _, rfl, _, _, rfl, rfl, by show 3 ≤ sizeLine; decide, fun q hq => ?_⟩
      rw [if_neg h0] at hnx
      exact hnx _ _ ⟨q, rfl, Same.new hq _, upd_same⟩
  rintro x4 H4 ⟨q4, rfl, sn4, hdue4⟩
  walk_at "nx"
  have sdD := sd2.trans sn4
  have hvD := ObjAt.keep (stillS sn4) _ _ hv2
  have BU : (if n = 0 then [c2, 0, c0 + c1] else [0, c2, c0 + c1]).length ≤ 10000 := by split <;> exact BL
  have BUs : ∀ m ∈ (if n = 0 then [c2, 0, c0 + c1] else [0, c2, c0 + c1]), m < 10 ^ 40 := by
    split
    · exact small3 (by omega) (by decide) (by omega)
    · exact small3 (by decide) (by omega) (by omega)
  have wf3 : W.wf s (.unless y) := hwf
  refine if_call ?_
  refine call_mk2 (c := c) rfl (mk_un (mk_var rfl hvD)) fun va3 Ha3 sa3 oa3 => ?_
  refine ⟨_, rfl, va3, s, .unless y, n, rfl, oa3, called_W _ wf3, wf3, by simp only [W.size, W.sizes]; omega, by omega, by omega, fun qb3 Hb3 sb3 hqb3 => ?_⟩
  rw [t3] at hqb3
  refine ⟨_, rfl, .inl (rr hqb3 BU BUs ?_)⟩
  refine ⟨_, rfl, _, rfl, .inl (rr (sb3 _ _ (sa3 _ _ hdue4)) BU BUs ⟨rfl, _, rfl, ?_⟩)⟩
  rw [decide_eq_true rfl]
  refine iteF ?_
  have sd3 := sdD.trans (sa3.trans sb3)
  have hv3 := ObjAt.keep (stillS (sa3.trans sb3)) _ _ hvD
  walk_at "nx"
  refine e_cutQ (fun x H' => ∃ q : Addr, x = .ref q ∧ Same Hb3 H' ∧ H' q = some (.tup (iV (if n = 0 then [c0 + c2, c1, 0] else [c0, c1 + c2, 0])))) ?_ ?_
  · intro nx' hnx
    refine ⟨_, rfl, rfl, _, rfl, ?_⟩
    by_cases h0 : n = 0
    · refine iteT' (decide_eq_true (congrArg V.int (by omega))) ?_
      refine ⟨_, rfl, _, rfl, _, _, rfl, rfl, _, rfl, by show 3 ≤ sizeLine; decide, fun q hq => ?_⟩
      rw [if_pos h0] at hnx
      exact hnx _ _ ⟨q, rfl, Same.new hq _, upd_same⟩
    · refine iteN' (fun q => by have := V.int.inj (of_decide_eq_true q); omega) ?_
      refine ⟨_, rfl, _, rfl, _, rfl, _, _, rfl, rfl, by show 3 ≤ sizeLine; decide, fun q hq => ?_⟩
      rw [if_neg h0] at hnx
      exact hnx _ _ ⟨q, rfl, Same.new hq _, upd_same⟩
  rintro x5 H5 ⟨q5, rfl, sn5, hdue5⟩
  walk_at "nx"
  have sdE := sd3.trans sn5
  have hvE := ObjAt.keep (stillS sn5) _ _ hv3
  have BV : (if n = 0 then [c0 + c2, c1, 0] else [c0, c1 + c2, 0]).length ≤ 10000 := by split <;> exact BL
  have BVs : ∀ m ∈ (if n = 0 then [c0 + c2, c1, 0] else [c0, c1 + c2, 0]), m < 10 ^ 40 := by
    split
    · exact small3 (by omega) (by omega) (by decide)
    · exact small3 (by omega) (by omega) (by decide)
  have wf4 : W.wf s (.maybe y) := hwf
  refine if_call ?_
  refine call_mk2 (c := c) rfl (mk_mb (mk_var rfl hvE)) fun va4 Ha4 sa4 oa4 => ?_
  refine ⟨_, rfl, va4, s, .maybe y, n, rfl, oa4, called_W _ wf4, wf4, by simp only [W.size, W.sizes]; omega, by omega, by omega, fun qb4 Hb4 sb4 hqb4 => ?_⟩
  rw [t4] at hqb4
  refine ⟨_, rfl, .inl (rr hqb4 BV BVs ?_)⟩
  refine ⟨_, rfl, _, rfl, .inl (rr (sb4 _ _ (sa4 _ _ hdue5)) BV BVs ⟨rfl, _, rfl, ?_⟩)⟩
  rw [decide_eq_true rfl]
  refine iteF ?_
  have sd4 := sdE.trans (sa4.trans sb4)
  have hv4 := ObjAt.keep (stillS (sa4.trans sb4)) _ _ hvE
  walk_at "nx"
  have wf5 : W.wf s (.choice [y, .nothing]) := ⟨by simp, hwf, True.intro, True.intro⟩
  refine op_call ?_
  refine call_mk2 (c := c) rfl (mk_ch (K := K) (mk_var rfl hv4) mk_no) fun va5 Ha5 sa5 oa5 => ?_
  refine ⟨_, rfl, va5, s, .choice [y, .nothing], n, rfl, oa5, called_W _ wf5, wf5, by simp only [W.size, W.sizes]; omega, by omega, by omega, fun qb5 Hb5 sb5 hqb5 => ?_⟩
  rw [t5] at hqb5
  refine ⟨_, rfl, .inl (rr hqb5 BV BVs ?_)⟩
  refine ⟨_, rfl, _, rfl, .inl (rr (sb5 _ _ (sa5 _ _ (sb4 _ _ (sa4 _ _ hdue5)))) BV BVs ⟨rfl, ?_⟩)⟩
  rw [decide_eq_true rfl]
  exact k _ (sd4.trans (sa5.trans sb5))
end
end Rk
namespace Rk
open PySem PySem.Spec PyProof.Rows L2 Wv Tk
/-! ### the law -/
theorem tots_small (w : W) {s : List Nat} (hs : s.length ≤ 3) {n : Nat} (hn : n ≤ 60) : ∀ m ∈ tots w s 0 1 n, m < 10 ^ 40 := by
  have h := cX_small w hs hn
  have h60 : 3 ^ 60 < 10 ^ 39 := by decide
  rw [tots_cX]
  exact small3 (by omega) (by omega) (by omega)
section
variable {P : Program} {w : World} {K : PySem.W.Frag} {mg : Str → Option Value} {base : Heap} {c : Cs}
def spLaw (K : PySem.W.Frag) : Sp := fun vs H Q _ => ∃ (a : Addr) (ns : List Int), vs = [.ref a] ∧ SqL K H a (ns.map V.int) ∧ ns.length ≤ 63 ∧ ∀ H', Q (.bl true) H'
abbrev s_law : Stmt := top 79
theorem sc_law : FnScope ["_law_script", "_law_pen_here", "_law_turn", "_law_signs_here", "_law_word", "_law_n", "_law_letters", "_law_step", "_law_search", "_law_due", "_law_made_here", "_law_sign"] ["_law_script"] (defScope s_law) := ⟨rfl, rfl, rfl, by decide +kernel, rfl, by decide +kernel, by decide +kernel⟩
theorem ok_law {f : Addr} {fd : FuncData} (F : Fun K "law" "law" s_law f fd) (B : Bs mg) (g : Gs P w K mg base c) (G_l_pen : DefOk P w K mg base 1 "_law_pen" ["_law_script"] (spPen K)) (G_l_draw : DefOk P w K mg base 1 "_law_draw" ["_law_pen_here", "_law_many"] (spDraw K)) (G_l_pick : DefOk P w K mg base 2 "_law_pick" ["_law_pen_here", "_law_items"] (spPick K))
    (G_l_signs : DefOk P w K mg base 2 "_law_signs" ["_law_pen_here", "_law_many"] (spSigns K)) (G_l_way : DefOk P w K mg base 34 "_law_way" ["_law_pen_here", "_law_signs_here", "_law_most"] (spWay K)) (G_l_made : DefOk P w K mg base 33 "_law_made" ["_law_way_here"] (spMade c 30))
    (G_l_searched : DefOk P w K mg base 2 "_law_searched" ["_law_word", "_law_many", "_law_n"] spSearched) (G_l_by_counts : Gd.DefG P w K mg base 10 "_law_by_counts" ["_law_signs_here", "_law_made_here", "_law_n"] (spBy c)) (G_counted : DefOk P w K mg base 8 "counted" ["signs", "way", "n"] (spCounted c)) :
    Gd.FnG P w K mg base 41 f fd ["_law_script"] (spLaw K) := by
  have B_len := B.len; have B_range := B.range; have B_min := B.min; have B_repr := B.repr
  have G_Row := g.ro; have G_Unless := g.un; have G_One := g.on; have G_Again := g.ag; have G_Letter := g.lt
  refine Gd.fnG_of F sc_law (fun vs H Q E h => by obtain ⟨p, v, rfl, _⟩ := h; rfl) (fun cdv A outer s' H vs Q E hgd hr h => ?_)
  obtain ⟨a, ns, rfl, hns, hnl, k⟩ := h
  refine ⟨_, (pss_cons (ps_set (i := 1) sc_law.nd rfl (Or.inl rfl) (pe_callD G_l_pen (hr.mono (by first | decide | omega)) rfl (pa_cons (pv 0) pa_nil)))
  (pss_cons (ps_for PassesOwn.never rfl (pi_range1 rfl B_range (pa_cons (pe_op op_add pe_int (pe_callB (call_min2 rfl) rfl B_min (by decide +kernel) (pa_cons pe_int (pa_cons (pe_callB call_len_seq rfl B_len PySem.boot_len (pa_cons (pv 0) pa_nil)) pa_nil)))) pa_nil)) (pg_name (i := 2) sc_law.nd rfl (Or.inl rfl))
   (pss_cons (ps_set (i := 3) sc_law.nd rfl (Or.inl rfl) (pe_callD G_l_signs (hr.mono (by first | decide | omega)) rfl (pa_cons (pv 1) (pa_cons (pe_op op_add pe_int (pe_callD G_l_draw (hr.mono (by first | decide | omega)) rfl (pa_cons (pv 1) (pa_cons pe_int pa_nil)))) pa_nil))))
  (pss_cons (ps_par (i := 4) (j := 5) rfl sc_law.nd rfl rfl (by decide) rfl rfl (pa_cons (pe_op op_add_str (pe_callD G_l_pick (hr.mono (by first | decide | omega)) rfl (pa_cons (pv 1) (pa_cons (pv 3) pa_nil))) (pe_callD G_l_pick (hr.mono (by first | decide | omega)) rfl (pa_cons (pv 1) (pa_cons (pv 3) pa_nil)))) (pa_cons (pe_callD G_l_draw (hr.mono (by first | decide | omega)) rfl (pa_cons (pv 1) (pa_cons pe_int pa_nil))) pa_nil)) (by rfl))
  (pss_cons (ps_setLc (i := 6) (own := [("_law_sign", 11)]) (g := (gName 11)) (tt := tYes) rfl sc_law.nd rfl rfl (sw_true rfl rfl rfl (by decide +kernel)) (pi_str (pv 4)) (blkOk_by (own := [("_law_sign", 11)]) (N := ["_law_script", "_law_pen_here", "_law_turn", "_law_signs_here", "_law_word", "_law_n", "_law_letters", "_law_step", "_law_search", "_law_due", "_law_made_here", "_law_sign"]) (sc := defScope s_law) (by decide +kernel)) (fun _ _ _ _ _ => pg_name (i := 11) sc_law.nd rfl (Or.inl rfl)) (fun _ _ _ _ _ => pts_nil) (fun _ _ _ _ _ => (pe_makeD G_Letter (hr.mono (by first | decide | omega)) rfl (pa_cons (pv 11) pa_nil))))
  (pss_cons (ps_set (i := 7) sc_law.nd rfl (Or.inl rfl) (pe_makeD G_Row (hr.mono (by first | decide | omega)) rfl (pa_cons (pe_lst (pa_cons (pe_makeD G_Unless (hr.mono (by first | decide | omega)) rfl (pa_cons (pe_makeD G_Row (hr.mono (by first | decide | omega)) rfl (pa_cons (pv 6) pa_nil)) pa_nil)) (pa_cons (pe_makeD0 G_One (hr.mono (by first | decide | omega)) rfl) pa_nil))) pa_nil)))
  (pss_cons (ps_set (i := 8) sc_law.nd rfl (Or.inl rfl) (pe_makeD G_Row (hr.mono (by first | decide | omega)) rfl (pa_cons (pe_lst (pa_cons (pe_makeD G_Again (hr.mono (by first | decide | omega)) rfl (pa_cons (pv 7) pa_nil)) (pa_cons (pe_ix ix_list (pv 6) pe_int (fun _ _ => rfl)) (pa_cons (pe_ix ix_list (pv 6) pe_int (fun _ _ => rfl)) pa_nil)))) pa_nil)))
  (pss_cons (ps_set (i := 9) sc_law.nd rfl (Or.inl rfl) (pe_callD G_l_searched (hr.mono (by first | decide | omega)) rfl (pa_cons (pv 4) (pa_cons (pe_callB call_len_str rfl B_len PySem.boot_len (pa_cons (pv 3) pa_nil)) (pa_cons (pv 5) pa_nil)))))
  (pss_cons (ps_if (pt_cmpR op_ne (pe_callB (Gd.call_repr hgd hr) rfl B_repr (by decide +kernel) (pa_cons (pe_callD G_counted (hr.mono (by first | decide | omega)) rfl (pa_cons (pv 3) (pa_cons (pv 8) (pa_cons (pv 5) pa_nil)))) pa_nil)) (pe_callB (Gd.call_repr hgd hr) rfl B_repr (by decide +kernel) (pa_cons (pv 9) pa_nil)) (nomark _)) (pss_one (ps_ret pe_bl)) pss_nil)
  (pss_cons (ps_set (i := 10) sc_law.nd rfl (Or.inl rfl) (pe_callD G_l_made (hr.mono (by first | decide | omega)) rfl (pa_cons (pe_callD G_l_way (hr.mono (by first | decide | omega)) rfl (pa_cons (pv 1) (pa_cons (pv 3) (pa_cons pe_int pa_nil)))) pa_nil)))
  (pss_one (ps_if (pt_not (pt_val (Gd.pe_callG G_l_by_counts hgd (hr.mono (by first | decide | omega)) rfl (pa_cons (pv 3) (pa_cons (pv 10) (pa_cons (pe_callD G_l_draw (hr.mono (by first | decide | omega)) rfl (pa_cons (pv 1) (pa_cons pe_int pa_nil))) pa_nil)))))) (pss_one (ps_ret pe_bl)) pss_nil)))))))))))
  (pss_one (ps_ret pe_bl)))), ?_⟩
  refine ⟨_, rfl, a, ns, rfl, hns, hnl, fun p H0 s0 hP0 => ?_⟩
  walk_at "nx"
  have hm : ∃ n : Nat, n ≤ 2 ∧ 1 + (if (((ns.map V.int).length : Nat) : Int) < 1 then (((ns.map V.int).length : Nat) : Int) else 1) = (n : Int) := by
    by_cases h8 : (((ns.map V.int).length : Nat) : Int) < 1
    · rw [if_pos h8]; exact ⟨(ns.map V.int).length + 1, by omega, by omega⟩
    · rw [if_neg h8]; exact ⟨2, by omega, by omega⟩
  obtain ⟨n, hn, en'⟩ := hm
  refine ⟨_, rfl, a, _, rfl, .inl (s0.seq hns), _, _, rfl, _, _, rfl, rfl, (n : Int), ?_, by omega, by omega, ?_⟩
  · exact congrArg (fun z => [V.int z]) en'
  refine for_range (lo := 0) (n := (n : Int).toNat) (fun i σ H' => ∃ x2 x3 x4 x5 x6 x7 x8 x9 x10 : Option V, σ = [some (.ref a), some (.ref p.d), x2, x3, x4, x5, x6, x7, x8, x9, x10, none] ∧ PenAt K H' p (600 * i)) ?_ ?_ ?_
  · exact ⟨_, _, _, _, _, _, _, _, _, rfl, hP0⟩
  · rintro i σ H1 hi ⟨x2, x3, x4, x5, x6, x7, x8, x9, x10, rfl, hP1⟩
    have hi' : i < 2 := by omega
    walk_at "nx"
    refine ⟨_, rfl, _, rfl, p, 3, _, rfl, hP1, by unfold LIM; omega, by decide, by decide, fun d H2 d0 d1 k2 hP2 => ?_⟩
    have e1 : (1 + d) = ((d.toNat + 1 : Nat) : Int) := by omega
    refine ⟨_, _, rfl, rfl, p, d.toNat + 1, _, by rw [← e1]; rfl, hP2, by unfold LIM; omega, by omega, fun z H3 hzl hzn hza k3 hP3 => ?_⟩
    walk_at "nx"
    refine ⟨_, rfl, _, rfl, p, _, _, rfl, hP3, by unfold LIM; omega, .inr ⟨z, rfl, by omega, by omega, fun x H4 hxz k4 hP4 => ?_⟩⟩
    refine ⟨_, rfl, _, rfl, p, _, _, rfl, hP4, by unfold LIM; omega, .inr ⟨z, rfl, by omega, by omega, fun y H5 hyz k5 hP5 => ?_⟩⟩
    refine ⟨sg x, sg y, rfl, rfl, by show 2 ≤ sizeLine; decide, ?_⟩
    have exy : sg x ++ sg y = tx [x, y] := tx_app [x] [y]
    rw [exy]
    refine ⟨_, rfl, p, 61, _, rfl, hP5, by unfold LIM; omega, by decide, by decide, fun dn H6 n0 n1 k6 hP6 => ?_⟩
    obtain ⟨nn, rfl⟩ : ∃ nn : Nat, dn = (nn : Int) := ⟨dn.toNat, by omega⟩
    refine ⟨_, _, rfl, ?_⟩
    walk_at "nx"
    refine ⟨_, rfl, tx [x, y], rfl, fun D hD => ?_⟩
    have hsz2 : (tx [x, y]).cps.size = 2 := rfl
    refine lc_it (walk_str (z := tx [x, y])) (fun j Hx => ∃ us : List V, Hx D = some (.lst us) ∧ ObjsAt c Hx us (([x, y].take j).map W.letter) ∧ Same H6 Hx) ?_ ?_ ?_ ?_
    · exact ⟨[], upd_same, rfl, Same.new hD _⟩
    · intro j Hx _ _
      exact True.intro
    · rintro j e Hx Hy hj ⟨us, hus, hob, sx⟩ ⟨rfl, ch, hcc, rfl⟩
      have hlen := ObjsAt.len _ _ hob
      have hc' : [x, y][j]? = some ch := by
        have : (tx [x, y]).cps[j]? = [x, y][j]? := by simp [tx]
        rw [← this]; exact hcc
      have hst : (V.str ⟨#[ch]⟩ : V) = .str (sg ch) := rfl
      rw [hst]
      have key : ∀ (v : V) (H' : Hp), Same Hy H' → ObjAt c H' v (.letter ch) → ∃ acc, H' D = some (.lst acc) ∧ acc.length < sizeLine ∧ ∃ us, upd H' D (.lst (acc ++ [v])) D = some (.lst us) ∧ ObjsAt c (upd H' D (.lst (acc ++ [v]))) us (([x, y].take (j + 1)).map W.letter) ∧ Same H6 (upd H' D (.lst (acc ++ [v]))) := fun v H' s hv => by
        refine ⟨_, s _ _ hus, small' (by rw [hlen, List.length_map, List.length_take]; omega), us ++ [v], upd_same, ?_, Same.put hD (sx.trans s) _⟩
        have st : Still H' (upd H' D (.lst (us ++ [v]))) := Still.put (s _ _ hus)
        rw [take_more' hc', List.map_append]
        exact ObjsAt.snoc1 (ObjAt.keep st _ _ hv) _ _ (ObjsAt.keep ((stillS s).trans st) _ _ hob)
      exact ⟨rfl, _, rfl, oL fun v H' s hv => key v H' s hv⟩
    · rintro H7 ⟨us, hus, hob, s7⟩
      obtain ⟨v0, vs0, e0, ho0, v1, vs1, ev1, ho1, ev2⟩ : ∃ v0 vs0, us = v0 :: vs0 ∧ ObjAt c H7 v0 (.letter x) ∧ ∃ v1 vs1, vs0 = v1 :: vs1 ∧ ObjAt c H7 v1 (.letter y) ∧ vs1 = [] := hob
      subst e0 ev1 ev2
      have hP7 := hP6.same s7
      walk_at "nx"
      refine asg_mk (c := c) (mk_row (K := K) (mk_un (mk_rowv (K := K) rfl hus (ws := [.letter x, .letter y]) ⟨v0, [v1], rfl, ho0, v1, [], rfl, ho1, rfl⟩ (by show 2 ≤ 1000; decide))) mk_one) fun vs H8 s8 os => ?_
      refine asg_mk (c := c) (mk_row3 (K := K) (mk_ag (mk_var rfl os)) (mk_ix (K := K) (j := 0) rfl (s8 _ _ hus) rfl (ObjAt.keep (stillS s8) _ _ ho0)) (mk_ix (K := K) (j := 1) rfl (s8 _ _ hus) rfl (ObjAt.keep (stillS s8) _ _ ho1))) fun vq H9 s9 oq => ?_
      have hz3 : z.length ≤ 3 := by omega
      refine ⟨_, rfl, _, rfl, tx z, rfl, by rw [Wv.tx_len]; exact Nat.le_trans hz3 (by decide), _, rfl, x, y, z, nn, by rw [Wv.tx_len]; rfl, hzn, hxz, hyz, by omega, by omega, fun q9 H10 s10 hq9 => ?_⟩
      walk_at "nx"
      have wfs : W.wf z (srch x y) := ⟨by show 2 ≤ 3; decide, ⟨⟨by show 2 ≤ 2; decide, ⟨by show 2 ≤ 2; decide, hxz, hyz, True.intro⟩, True.intro, True.intro⟩, hxz, hyz, True.intro⟩⟩
      have bS := tots_small (srch x y) hz3 (show nn ≤ 60 by omega)
      have bL : (tots (srch x y) z 0 1 nn).length ≤ 10000 := by show 3 ≤ 10000; decide
      refine ⟨_, rfl, _, rfl, _, rfl, vq, z, srch x y, nn, rfl, ObjAt.keep (stillS s10) _ _ oq, called_W _ wfs, wfs, by show 10 ≤ 10; decide, by omega, by omega, fun qb Hb sb hqb => ?_⟩
      refine ⟨_, rfl, .inl (rr hqb bL bS ?_)⟩
      refine ⟨_, rfl, _, rfl, .inl (rr (sb _ _ hq9) bL bS ⟨rfl, _, rfl, ?_⟩)⟩
      rw [decide_eq_true rfl]
      refine iteF ?_
      have sall := s8.trans (s9.trans (s10.trans sb))
      have hPb := hP7.same sall
      walk_at "nx"
      refine ⟨_, rfl, _, rfl, p, z, 7, _, rfl, hPb, by unfold LIM; omega, by omega, by omega, hza, by decide, by decide, fun v w H11 hwsz hwf hv k11 hP11 => ?_⟩
      refine ⟨v, w, rfl, WayAt.keep newer_le _ _ hv, by omega, by omega, fun o H12 s12 ho => ?_⟩
      have hP12 := hP11.same s12
      walk_at "nx"
      refine ⟨_, rfl, _, rfl, _, rfl, p, 60, _, rfl, hP12, by unfold LIM; omega, by decide, by decide, fun dm H13 m0 m1 k13 hP13 => ?_⟩
      obtain ⟨mm, rfl⟩ : ∃ mm : Nat, dm = (mm : Int) := ⟨dm.toNat, by omega⟩
      refine ⟨o, z, w, mm, rfl, ObjAt.keep k13.still _ _ ho, hwf, by omega, by omega, hz3, by omega, fun H14 s14 => ?_⟩
      refine ⟨_, rfl, ?_⟩
      refine iteF ?_
      exact ⟨_, _, _, _, _, _, _, _, _, rfl, (hP13.same s14).mono (by omega)⟩
  · rintro σ H1 ⟨_, _, _, _, _, _, _, _, _, rfl, _⟩
    exact k H1
end
end Rk
namespace Wv
open PySem PySem.Spec PyProof.Rows L2
/-! ### what the program's top leaves -/
section
variable {P : Program} {w : World} {K : PySem.W.Frag} {mg : Str → Option Value} {h : Heap}
theorem here_mk {x : Str} {st : Stmt} {ps : List Str} (X : K.In h) (G : h.Ns mainGlobals mg) {f : Addr} {oc kV dc pm cd ct : Value} {od an : Option Addr} {sl : Array (Option Value)} (a : PySem.W.nsIn K mainGlobals x = some (some (.ref f)))
    (l : K.lookup f = some ⟨oc, od, .func (PySem.W.fnOf x x (defArgs st) (defBody st) (defScope st) .none kV dc pm an cd ct), sl⟩) (c : PySem.W.codeIn K cd x = true) (k : PySem.W.keepIn K (.ref f) = true)
    (b : ∀ (kV doc pm : Value) (an : Option Addr) (cdv ct : Value) (us : List Value), us.length = ps.length → bindArgs (PySem.W.fnOf x x (defArgs st) (defBody st) (defScope st) .none kV doc pm an cdv ct) ⟨us, []⟩ = pure (ps.zip us)) : Here K mg x st ps :=
  ⟨f, _, fun_mk l c k, PySem.W.mg_of X G a, (fun_mk l c k).binds b⟩
/-- a def within a class -/
structure In1 (K : PySem.W.Frag) (m q : Str) (st : Stmt) (ps : List Str) (f : Addr) : Prop where
  fn : PySem.W.isFn K (.ref f) = true
  ex : ∃ fd : FuncData, Fun K m q st f fd ∧ Binds K fd ps []
theorem in_mk {m q : Str} {st : Stmt} {ps : List Str} {f : Addr} {oc kV dc pm cd ct : Value} {od an : Option Addr} {sl : Array (Option Value)} (i : PySem.W.isFn K (.ref f) = true)
    (l : K.lookup f = some ⟨oc, od, .func (PySem.W.fnOf m q (defArgs st) (defBody st) (defScope st) .none kV dc pm an cd ct), sl⟩) (c : PySem.W.codeIn K cd q = true) (k : PySem.W.keepIn K (.ref f) = true)
    (b : ∀ (kV doc pm : Value) (an : Option Addr) (cdv ct : Value) (us : List Value), us.length = ps.length → bindArgs (PySem.W.fnOf m q (defArgs st) (defBody st) (defScope st) .none kV doc pm an cdv ct) ⟨us, []⟩ = pure (ps.zip us)) : In1 K m q st ps f :=
  ⟨i, _, fun_mk l c k, (fun_mk l c k).binds b⟩
/-- a class of ways -/
structure ClT (K : PySem.W.Frag) (mg : Str → Option Value) (x : Str) (C wy at_ eq_ len_ : Addr) : Prop where
  m : mg x = some (.ref C)
  f : ClsF K C
  mks : PySem.W.makesIn K C = true
  kc : PySem.W.keepIn K (.ref C) = true
  ty : PySem.W.typeIn K (.ref C) = some (.type "type")
  cls : ∃ cd, PySem.W.clsIn K C = some cd ∧ cd.mro = [.ref C, .ref wy, .type "object"]
  mat : PySem.W.findIn K (.ref C) "at" = some (some (.ref at_))
  meq : PySem.W.findIn K (.ref C) "__eq__" = some (some (.ref eq_))
  mln : PySem.W.findIn K (.ref C) "__len__" = some (some (.ref len_))
theorem clt_mk {x : Str} {C wy at_ eq_ len_ : Addr} {cd : ClassData} (X : K.In h) (G : h.Ns mainGlobals mg) (a : PySem.W.nsIn K mainGlobals x = some (some (.ref C))) (pg : PySem.W.plainGet K C Str.empty = true) (hd : PySem.W.hasDictIn K C = true) (po : PySem.W.plainOver K C = true)
    (sa : PySem.W.findIn K (.ref C) "__setattr__" = some (some (.builtin "object.__setattr__"))) (nl : PySem.W.findIn K (.ref C) "letter" = some none) (nn : PySem.W.findIn K (.ref C) "name" = some none) (nw : PySem.W.findIn K (.ref C) "ways" = some none) (np : PySem.W.findIn K (.ref C) "part" = some none) (nc : PySem.W.findIn K (.ref C) "called" = some none) (nr : PySem.W.findIn K (.ref C) "rounds" = some none) (nm : PySem.W.findIn K (.ref C) "mark" = some none)
    (ha : PySem.W.findIn K (.ref C) "__class__" = some (some (.builtin "object.__class__"))) (hm : PySem.W.mroIn K C (.type "object") = some true) (mk : PySem.W.makesIn K C = true) (kc : PySem.W.keepIn K (.ref C) = true) (ty : PySem.W.typeIn K (.ref C) = some (.type "type"))
    (cl : PySem.W.clsIn K C = some cd) (cm : cd.mro = [.ref C, .ref wy, .type "object"]) (mat : PySem.W.findIn K (.ref C) "at" = some (some (.ref at_))) (meq : PySem.W.findIn K (.ref C) "__eq__" = some (some (.ref eq_))) (mln : PySem.W.findIn K (.ref C) "__len__" = some (some (.ref len_))) : ClT K mg x C wy at_ eq_ len_ :=
  ⟨PySem.W.mg_of X G a, ⟨⟨pg, hd, po, sa⟩, nl, nn, nw, np, nc, nr, nm, ha, hm⟩, mk, kc, ty, ⟨cd, cl, cm⟩, mat, meq, mln⟩
theorem ClT.kit {x y : Str} {C D wy a1 a2 a3 b1 b2 b3 : Addr} (c : ClT K mg x C wy a1 a2 a3) (d : ClT K mg y D wy b1 b2 b3) (hw : D ≠ wy) : PySem.W.kitOne K (.ref C) (.ref D) = some (decide (C = D)) := by
  obtain ⟨cd, e1, e2⟩ := c.cls
  obtain ⟨dd, g1, _⟩ := d.cls
  by_cases h : C = D
  · subst h
    rw [decide_eq_true rfl]
    unfold PySem.W.kitOne
    rw [if_pos (beq_self_eq_true _)]
  · rw [decide_eq_false h]
    unfold PySem.W.kitOne
    rw [if_neg (by simpa using h)]
    show (if ((PySem.W.clsIn K D).isSome && PySem.W.typeIn K (.ref D) == some (.type "type")) = true then PySem.W.subIn K (.ref C) (.ref D) else none) = _
    rw [g1, d.ty, if_pos (by simp)]
    show PySem.W.mroIn K C (.ref D) = _
    unfold PySem.W.mroIn
    rw [e1, Option.bind_some, e2]
    have h' : D ≠ C := fun e => h e.symm
    simp [h', hw]
theorem ClT.kitWay {x : Str} {C wy a1 a2 a3 : Addr} (c : ClT K mg x C wy a1 a2 a3) (hc : PySem.W.isClsIn K wy = true) (ht : PySem.W.typeIn K (.ref wy) = some (.type "type")) : PySem.W.kitOne K (.ref C) (.ref wy) = some true := by
  obtain ⟨cd, e1, e2⟩ := c.cls
  by_cases h : C = wy
  · subst h
    unfold PySem.W.kitOne
    rw [if_pos (beq_self_eq_true _)]
  · unfold PySem.W.kitOne
    rw [if_neg (by simpa using h)]
    show (if ((PySem.W.clsIn K wy).isSome && PySem.W.typeIn K (.ref wy) == some (.type "type")) = true then PySem.W.subIn K (.ref C) (.ref wy) else none) = _
    rw [show (PySem.W.clsIn K wy).isSome = true from hc, ht, if_pos (by simp)]
    show PySem.W.mroIn K C (.ref wy) = _
    unfold PySem.W.mroIn
    rw [e1, Option.bind_some, e2]
    simp
/-- the classes -/
structure Tops (K : PySem.W.Frag) (mg : Str → Option Value) (c : Cs) (wy at_ eq_ len_ : Addr) : Prop where
  lt : ClT K mg "Letter" c.lt wy at_ eq_ len_
  on : ClT K mg "One" c.on wy at_ eq_ len_
  no : ClT K mg "Nothing" c.no wy at_ eq_ len_
  ro : ClT K mg "Row" c.ro wy at_ eq_ len_
  ch : ClT K mg "Choice" c.ch wy at_ eq_ len_
  ag : ClT K mg "Again" c.ag wy at_ eq_ len_
  ma : ClT K mg "Maybe" c.ma wy at_ eq_ len_
  ah : ClT K mg "Ahead" c.ah wy at_ eq_ len_
  un : ClT K mg "Unless" c.un wy at_ eq_ len_
  ca : ClT K mg "Call" c.ca wy at_ eq_ len_
  nd : [c.lt, c.on, c.no, c.ro, c.ch, c.ag, c.ma, c.ah, c.un, c.ca, wy].Nodup
def W.name : W → Str
  | .letter _ => "Letter" | .one => "One" | .nothing => "Nothing" | .row _ => "Row" | .choice _ => "Choice" | .again _ => "Again" | .maybe _ => "Maybe" | .ahead _ => "Ahead" | .unless _ => "Unless" | .call _ => "Call"
theorem Tops.of {c : Cs} {wy a1 a2 a3 : Addr} (t : Tops K mg c wy a1 a2 a3) : ∀ x : W, ClT K mg x.name (c.of x) wy a1 a2 a3
  | .letter _ => t.lt | .one => t.on | .nothing => t.no | .row _ => t.ro | .choice _ => t.ch | .again _ => t.ag | .maybe _ => t.ma | .ahead _ => t.ah | .unless _ => t.un | .call _ => t.ca
theorem get_inj {α : Type} {l : List α} (n : l.Nodup) {i j : Nat} {x y : α} (h1 : l[i]? = some x) (h2 : l[j]? = some y) : x = y ↔ i = j := by
  obtain ⟨a, e1⟩ := List.getElem?_eq_some_iff.mp h1
  obtain ⟨b, e2⟩ := List.getElem?_eq_some_iff.mp h2
  subst e1 e2
  first
    | exact List.Nodup.getElem_inj_iff n
    | exact List.getElem_inj n
    | exact List.nodup_getElem_inj n
    | (constructor
       · intro e
         rcases Nat.lt_trichotomy i j with q | q | q
         · exact absurd e (List.pairwise_iff_getElem.mp n i j a b q)
         · exact q
         · exact absurd e.symm (List.pairwise_iff_getElem.mp n j i b a q)
       · intro e; subst e; rfl)
theorem W.tag_get (x : W) : [Str.ofString "letter", Str.ofString "one", Str.ofString "nothing", Str.ofString "row", Str.ofString "choice", Str.ofString "again", Str.ofString "maybe", Str.ofString "ahead", Str.ofString "unless", Str.ofString "call"][x.kind]? = some x.tag := by
  cases x <;> rfl
theorem W.tag_kind (x y : W) : x.tag = y.tag ↔ x.kind = y.kind := get_inj (by decide +kernel) x.tag_get y.tag_get
theorem Cs.of_get (c : Cs) (wy : Addr) (x : W) : [c.lt, c.on, c.no, c.ro, c.ch, c.ag, c.ma, c.ah, c.un, c.ca, wy][x.kind]? = some (c.of x) := by
  cases x <;> rfl
theorem Tops.ne {c : Cs} {wy a1 a2 a3 : Addr} (t : Tops K mg c wy a1 a2 a3) (x : W) : c.of x ≠ wy := fun e => by
  have h := (get_inj t.nd (c.of_get wy x) (show _ = some wy from (rfl : [c.lt, c.on, c.no, c.ro, c.ch, c.ag, c.ma, c.ah, c.un, c.ca, wy][10]? = some wy))).mp e
  cases x <;> cases h
theorem Tops.same {c : Cs} {wy a1 a2 a3 : Addr} (t : Tops K mg c wy a1 a2 a3) (x y : W) : decide (c.of x = c.of y) = decide (x.tag = y.tag) := by
  have h := get_inj t.nd (c.of_get wy x) (c.of_get wy y)
  rw [decide_eq_decide, h, W.tag_kind]
theorem Tops.all {c : Cs} {wy a1 a2 a3 : Addr} (t : Tops K mg c wy a1 a2 a3) (hn : PySem.W.specialIn K (.builtin "object.__class__") "__get__" = some (some (.builtin "getset_descriptor.__get__"))) (ht : PySem.W.takesIn K (.builtin "object.__class__") = some true) : AllF K mg c :=
  ⟨fun x => (t.of x).f, hn, ht, fun x y => by rw [← t.same x y]; exact (t.of x).kit (t.of y) (t.ne y), t.lt.m, t.on.m, t.no.m, t.ro.m, t.ch.m, t.ag.m, t.ma.m, t.ah.m, t.un.m, t.ca.m⟩
theorem bs_mk (X : K.In h) (G : h.Ns mainGlobals mg) (z1 : PySem.W.nsIn K mainGlobals "len" = some none) (z2 : PySem.W.nsIn K mainGlobals "int" = some none) (z3 : PySem.W.nsIn K mainGlobals "list" = some none) (z4 : PySem.W.nsIn K mainGlobals "range" = some none)
    (z5 : PySem.W.nsIn K mainGlobals "min" = some none) (z6 : PySem.W.nsIn K mainGlobals "tuple" = some none) (z7 : PySem.W.nsIn K mainGlobals "isinstance" = some none) (z8 : PySem.W.nsIn K mainGlobals "zip" = some none) (z9 : PySem.W.nsIn K mainGlobals "sum" = some none)
    (z10 : PySem.W.nsIn K mainGlobals "max" = some none) (z11 : PySem.W.nsIn K mainGlobals "reversed" = some none) (z12 : PySem.W.nsIn K mainGlobals "enumerate" = some none) (z13 : PySem.W.nsIn K mainGlobals "repr" = some none) : Bs mg :=
  have n := fun {x : Str} (z : PySem.W.nsIn K mainGlobals x = some none) => PySem.W.mg_none_of X G z
  ⟨n z1, n z2, n z3, n z4, n z5, n z6, n z7, n z8, n z9, n z10, n z11, n z12, n z13⟩
theorem kc_mk (X : K.In h) (G : h.Ns mainGlobals mg) {t0 t1 t2 t3 t4 t5 t6 t7 t8 t9 : Tok} (z0 : PySem.W.nsIn K mainGlobals "LETTER" = some (some (.int 0 t0))) (z1 : PySem.W.nsIn K mainGlobals "ONE" = some (some (.int 1 t1))) (z2 : PySem.W.nsIn K mainGlobals "NOTHING" = some (some (.int 2 t2)))
    (z3 : PySem.W.nsIn K mainGlobals "ROW" = some (some (.int 3 t3))) (z4 : PySem.W.nsIn K mainGlobals "CHOICE" = some (some (.int 4 t4))) (z5 : PySem.W.nsIn K mainGlobals "AGAIN" = some (some (.int 5 t5))) (z6 : PySem.W.nsIn K mainGlobals "MAYBE" = some (some (.int 6 t6)))
    (z7 : PySem.W.nsIn K mainGlobals "AHEAD" = some (some (.int 7 t7))) (z8 : PySem.W.nsIn K mainGlobals "UNLESS" = some (some (.int 8 t8))) (z9 : PySem.W.nsIn K mainGlobals "CALL" = some (some (.int 9 t9))) : Kc mg :=
  have n := fun {x : Str} {v : Value} (z : PySem.W.nsIn K mainGlobals x = some (some v)) => PySem.W.mg_of X G z
  ⟨⟨_, n z0⟩, ⟨_, n z1⟩, ⟨_, n z2⟩, ⟨_, n z3⟩, ⟨_, n z4⟩, ⟨_, n z5⟩, ⟨_, n z6⟩, ⟨_, n z7⟩, ⟨_, n z8⟩, ⟨_, n z9⟩⟩
theorem mk0_mk {C : Addr} {x : Str} (X : K.In h) (G : h.Ns mainGlobals mg) (a : PySem.W.nsIn K mainGlobals x = some (some (.ref C))) (mk : PySem.W.makesIn K C = true) (f : PySem.W.findIn K (.ref C) "__init__" = some (some (.builtin "object.__init__"))) (kc : PySem.W.keepIn K (.ref C) = true) : Mk0 K mg x C :=
  ⟨PySem.W.mg_of X G a, mk, f, kc⟩
theorem cls_ok {k : Nat} {x q : Str} {st : Stmt} {C wy a1 a2 a3 f : Addr} {ps : List Str} {sp : Sp} {base : Heap} (t : ClT K mg x C wy a1 a2 a3) (i : PySem.W.findIn K (.ref C) "__init__" = some (some (.ref f))) (j : In1 K "__init__" q st ps f)
    (o : ∀ fd : FuncData, Fun K "__init__" q st f fd → FnOk P w K mg base CX0 k f fd ps sp) : ClsOk P w K mg base k x C ps sp := by
  obtain ⟨fd, F, b⟩ := j.ex
  exact ⟨f, fd, t.m, ⟨t.mks, i, j.fn, t.kc⟩, b, o fd F⟩
end
end Wv
namespace Rk
open PySem PySem.Spec PyProof.Rows L2 Wv Tk
section
variable {P : Program} {w : World} {K : PySem.W.Frag} {mg : Str → Option Value} {h : Heap} {base : Heap}
/-- a class that is no way -/
structure CT (K : PySem.W.Frag) (mg : Str → Option Value) (x : Str) (C : Addr) : Prop where
  m : mg x = some (.ref C)
  cl : Cls K C
  mks : PySem.W.makesIn K C = true
  kc : PySem.W.keepIn K (.ref C) = true
theorem ct_mk {x : Str} {C : Addr} (X : K.In h) (G : h.Ns mainGlobals mg) (a : PySem.W.nsIn K mainGlobals x = some (some (.ref C))) (pg : PySem.W.plainGet K C Str.empty = true) (hd : PySem.W.hasDictIn K C = true) (po : PySem.W.plainOver K C = true)
    (sa : PySem.W.findIn K (.ref C) "__setattr__" = some (some (.builtin "object.__setattr__"))) (mk : PySem.W.makesIn K C = true) (kc : PySem.W.keepIn K (.ref C) = true) : CT K mg x C := ⟨PySem.W.mg_of X G a, ⟨pg, hd, po, sa⟩, mk, kc⟩
structure CM (K : PySem.W.Frag) (C : Addr) (m q : Str) (st : Stmt) (ps : List Str) : Prop where
  ex : ∃ f : Addr, PySem.W.findIn K (.ref C) m = some (some (.ref f)) ∧ In1 K m q st ps f
theorem CM.ok {x : Str} {C : Addr} {m q : Str} {st : Stmt} {ps : List Str} {n : Nat} {sp : Sp} (j : CM K C m q st ps) (T : CT K mg x C) (o : ∀ (f : Addr) (fd : FuncData), Fun K m q st f fd → FnOk P w K mg base CX0 n f fd ps sp) : ScOk P w K mg base C n m ps sp := by
  obtain ⟨f, a, i⟩ := j.ex
  obtain ⟨fd, F, b⟩ := i.ex
  exact ⟨T.cl, f, fd, o f fd F, ⟨a, i.fn, F.kp⟩, b⟩
theorem CM.make {x : Str} {C : Addr} {q : Str} {st : Stmt} {ps : List Str} {n : Nat} {sp : Sp} (j : CM K C "__init__" q st ps) (T : CT K mg x C) (o : ∀ (f : Addr) (fd : FuncData), Fun K "__init__" q st f fd → FnOk P w K mg base CX0 n f fd ps sp) : ClsOk P w K mg base n x C ps sp := by
  obtain ⟨f, a, i⟩ := j.ex
  obtain ⟨fd, F, b⟩ := i.ex
  exact ⟨f, fd, T.m, ⟨T.mks, a, i.fn, T.kc⟩, b, o f fd F⟩
theorem cm_mk {C : Addr} {m q : Str} {st : Stmt} {ps : List Str} {f : Addr} (a : PySem.W.findIn K (.ref C) m = some (some (.ref f))) (i : In1 K m q st ps f) : CM K C m q st ps := ⟨f, a, i⟩
theorem pf_mk {C : Addr} (T : CT K mg "Parts" C) (n1 : PySem.W.findIn K (.ref C) "kinds" = some none) (n2 : PySem.W.findIn K (.ref C) "words" = some none) (n3 : PySem.W.findIn K (.ref C) "inner" = some none)
    (n4 : PySem.W.findIn K (.ref C) "above" = some none) (n5 : PySem.W.findIn K (.ref C) "later" = some none) (n6 : PySem.W.findIn K (.ref C) "wholes" = some none) : PtF K C := ⟨T.cl, n1, n2, n3, n4, n5, n6⟩
theorem bf_mk {C : Addr} (T : CT K mg "Backward" C) (n1 : PySem.W.findIn K (.ref C) "parts" = some none) (n2 : PySem.W.findIn K (.ref C) "around" = some none) (n3 : PySem.W.findIn K (.ref C) "leaves" = some none)
    (n4 : PySem.W.findIn K (.ref C) "slots" = some none) : BaF K C := ⟨T.cl, n1, n2, n3, n4⟩
theorem kb_mk (X : K.In h) (G : h.Ns mainGlobals mg) {t1 t2 t3 t5 : Tok} (c : Kc mg) (z1 : PySem.W.nsIn K mainGlobals "FAILS" = some (some (.int (-2) t1))) (z2 : PySem.W.nsIn K mainGlobals "ENDS" = some (some (.int (-1) t2))) (z3 : PySem.W.nsIn K mainGlobals "MISSES" = some (some (.int 2 t3)))
    (z5 : PySem.W.nsIn K mainGlobals "MOST_PARTS" = some (some (.int 10 t5))) : Kb mg :=
  ⟨c, ⟨_, PySem.W.mg_of X G z1⟩, ⟨_, PySem.W.mg_of X G z2⟩, ⟨_, PySem.W.mg_of X G z3⟩, ⟨_, PySem.W.mg_of X G z5⟩⟩
theorem int_mk (X : K.In h) (G : h.Ns mainGlobals mg) {x : Str} {i : Int} {t : Tok} (z : PySem.W.nsIn K mainGlobals x = some (some (.int i t))) : ∃ t, mg x = some (.int i t) := ⟨_, PySem.W.mg_of X G z⟩
theorem fin {fa wy aat aeq aln i1 i2 i3 i4 i5 i6 i7 i8 i9 i10 mkC pt bk : Addr} {lt on no ro ch ag ma ah un ca : Addr} (X : K.In h) (G : h.Ns mainGlobals mg) (hfa : mg "law" = some (.ref fa))
    (tLt : ClT K mg "Letter" lt wy aat aeq aln) (tOn : ClT K mg "One" on wy aat aeq aln) (tNo : ClT K mg "Nothing" no wy aat aeq aln) (tRo : ClT K mg "Row" ro wy aat aeq aln) (tCh : ClT K mg "Choice" ch wy aat aeq aln)
    (tAg : ClT K mg "Again" ag wy aat aeq aln) (tMa : ClT K mg "Maybe" ma wy aat aeq aln) (tAh : ClT K mg "Ahead" ah wy aat aeq aln) (tUn : ClT K mg "Unless" un wy aat aeq aln) (tCa : ClT K mg "Call" ca wy aat aeq aln)
    (nd : [lt, on, no, ro, ch, ag, ma, ah, un, ca, wy].Nodup) (hn : PySem.W.specialIn K (.builtin "object.__class__") "__get__" = some (some (.builtin "getset_descriptor.__get__"))) (ht : PySem.W.takesIn K (.builtin "object.__class__") = some true)
    (f1 : PySem.W.findIn K (.ref lt) "__init__" = some (some (.ref i1))) (j1 : In1 K "__init__" "Letter.__init__" s_Letter_init ["self", "letter"] i1)
    (f2 : PySem.W.findIn K (.ref ca) "__init__" = some (some (.ref i2))) (j2 : In1 K "__init__" "Call.__init__" s_Call_init ["self", "name"] i2)
    (f3 : PySem.W.findIn K (.ref ro) "__init__" = some (some (.ref i3))) (j3 : In1 K "__init__" "Row.__init__" s_Row_init ["self", "ways"] i3)
    (f4 : PySem.W.findIn K (.ref ch) "__init__" = some (some (.ref i4))) (j4 : In1 K "__init__" "Choice.__init__" s_Choice_init ["self", "ways"] i4)
    (f5 : PySem.W.findIn K (.ref ag) "__init__" = some (some (.ref i5))) (j5 : In1 K "__init__" "Again.__init__" s_Again_init ["self", "part"] i5)
    (f6 : PySem.W.findIn K (.ref ma) "__init__" = some (some (.ref i6))) (j6 : In1 K "__init__" "Maybe.__init__" s_Maybe_init ["self", "part"] i6)
    (f7 : PySem.W.findIn K (.ref ah) "__init__" = some (some (.ref i7))) (j7 : In1 K "__init__" "Ahead.__init__" s_Ahead_init ["self", "part"] i7)
    (f8 : PySem.W.findIn K (.ref un) "__init__" = some (some (.ref i8))) (j8 : In1 K "__init__" "Unless.__init__" s_Unless_init ["self", "part"] i8)
    (f9 : PySem.W.findIn K (.ref on) "__init__" = some (some (.ref i9))) (j9 : In1 K "__init__" "One.__init__" s_One_init ["self"] i9)
    (f10 : PySem.W.findIn K (.ref no) "__init__" = some (some (.ref i10))) (j10 : In1 K "__init__" "Nothing.__init__" s_Nothing_init ["self"] i10)
    (fM : Mk0 K mg "Mark" mkC) (k1 : Here K mg "first_call" s_first_call ["ways"]) (k2 : Here K mg "most_rounds" s_most_rounds ["ways"]) (iln : In1 K "__len__" "Way.__len__" s_Way_len ["self"] aln)
    (B : Bs mg) (C : Kb mg) (h1 : Here K mg "kind_of" s_kind_of ["way"]) (h2 : Here K mg "word_of" s_word_of ["way"]) (h3 : Here K mg "made_of" s_made_of ["way"]) (h4 : Here K mg "parts_of" s_parts_of ["way"])
    (TP : CT K mg "Parts" pt) (TB : CT K mg "Backward" bk)
    (p1 : PySem.W.findIn K (.ref pt) "kinds" = some none) (p2 : PySem.W.findIn K (.ref pt) "words" = some none) (p3 : PySem.W.findIn K (.ref pt) "inner" = some none) (p4 : PySem.W.findIn K (.ref pt) "above" = some none) (p5 : PySem.W.findIn K (.ref pt) "later" = some none) (p6 : PySem.W.findIn K (.ref pt) "wholes" = some none)
    (b1 : PySem.W.findIn K (.ref bk) "parts" = some none) (b2 : PySem.W.findIn K (.ref bk) "around" = some none) (b3 : PySem.W.findIn K (.ref bk) "leaves" = some none) (b4 : PySem.W.findIn K (.ref bk) "slots" = some none)
    (m0 : CM K pt "__init__" "Parts.__init__" s_Parts_init ["self", "ways"]) (m1 : CM K pt "lay_out" "Parts.lay_out" s_Parts_lay_out ["self", "whole"]) (m2 : CM K pt "put_inside" "Parts.put_inside" s_Parts_put_inside ["self", "number", "above"]) (n0 : CM K bk "__init__" "Backward.__init__" s_Backward_init ["self", "ways"]) (n1 : CM K bk "is_fit" "Backward.is_fit" s_Backward_is_fit ["self", "part", "state", "steps"]) (n2 : CM K bk "step_of" "Backward.step_of" s_Backward_step_of ["self", "part", "letter", "state", "steps"]) (n3 : CM K bk "steps_at" "Backward.steps_at" s_Backward_steps_at ["self", "letter", "state"]) (n4 : CM K bk "go_on" "Backward.go_on" s_Backward_go_on ["self", "leaf", "steps"]) (n5 : CM K bk "state_at" "Backward.state_at" s_Backward_state_at ["self", "steps", "state", "worth"]) (n6 : CM K bk "results_at" "Backward.results_at" s_Backward_results_at ["self", "steps", "state", "worth"]) (n7 : CM K bk "turned" "Backward.turned" s_Backward_turned ["self", "letter", "state", "worth"])
    (h5 : Here K mg "refuse_calls" s_refuse_calls ["ways"]) (h6 : Here K mg "refuse_parts" s_refuse_parts ["ways", "most"]) (h7 : Here K mg "are_tried" s_are_tried ["parts"]) (h8 : Here K mg "counts_around" s_counts_around ["parts"]) (h9 : Here K mg "first_step" s_first_step ["numbers", "steps"]) (h10 : Here K mg "asked" s_asked ["ways", "most"]) (h11 : Here K mg "count_results" s_count_results ["signs", "backward", "length", "at_end", "elsewhere"]) (h12 : Here K mg "counted" s_counted ["signs", "way", "n"]) (gh : ∃ t, mg "HITS" = some (.int 0 t)) (gf : ∃ t, mg "FITS" = some (.int 1 t))
    (g1 : Here K mg "_law_pen" s_l_pen ["_law_script"]) (g2 : Here K mg "_law_draw" s_l_draw ["_law_pen_here", "_law_many"]) (g3 : Here K mg "_law_pick" s_l_pick ["_law_pen_here", "_law_items"]) (g4 : Here K mg "_law_signs" s_l_signs ["_law_pen_here", "_law_many"]) (g5 : Here K mg "_law_leaf" s_l_leaf ["_law_pen_here", "_law_signs_here"]) (g6 : Here K mg "_law_way" s_l_way ["_law_pen_here", "_law_signs_here", "_law_most"]) (g7 : Here K mg "_law_way_of" s_l_way_of ["_law_pen_here", "_law_signs_here", "_law_size"]) (g8 : Here K mg "_law_inner" s_l_inner ["_law_way_here"]) (g9 : Here K mg "_law_made" s_l_made ["_law_way_here"]) (g12 : Here K mg "_law_power" s_l_power ["_law_many", "_law_n"]) (g13 : Here K mg "_law_searched" s_l_searched ["_law_word", "_law_many", "_law_n"]) (g14 : Here K mg "_law_by_counts" s_l_by_counts ["_law_signs_here", "_law_made_here", "_law_n"]) (g11 : Here K mg "law" s_law ["_law_script"]) :
    ∃ fd : FuncData, (∀ (s : Shared) (v : Value), BindsTo s fd ⟨[v], []⟩ [("_law_script", v)]) ∧ ∀ base : Heap, K.In base → base.Ns mainGlobals mg → Gd.FnG P w K mg base 41 fa fd ["_law_script"] (spLaw K) := by
  obtain ⟨f, fd, F, m, b⟩ := g11.ex
  have e := hfa.symm.trans m
  cases e
  have bt : ∀ (s : Shared) (v : Value), BindsTo s fd ⟨[v], []⟩ [("_law_script", v)] := by
    obtain ⟨oc, od, kV, doc, pm, an, cdv, ct, osl, rfl, _, _⟩ := F.ex
    exact fun s v => .of_eq rfl
  refine ⟨fd, bt, fun base _ _ => ?_⟩
  have t : Tops K mg ⟨lt, on, no, ro, ch, ag, ma, ah, un, ca⟩ wy aat aeq aln := ⟨tLt, tOn, tNo, tRo, tCh, tAg, tMa, tAh, tUn, tCa, nd⟩
  have A := t.all hn ht
  have U1 := d_first_call (P := P) (w := w) (base := base) k1 A.f
  have U2 := d_most_rounds (P := P) (w := w) (base := base) k2 B A.f
  have g : Gs P w K mg base ⟨lt, on, no, ro, ch, ag, ma, ah, un, ca⟩ :=
    ⟨cls_ok tLt f1 j1 fun _ F => ok_Letter F tLt.f, cls_ok tCa f2 j2 fun _ F => ok_Call F tCa.f, cls_ok tRo f3 j3 fun _ F => ok_Row F tRo.f B U1 U2, cls_ok tCh f4 j4 fun _ F => ok_Choice F tCh.f B U1 U2, cls_ok tAg f5 j5 fun _ F => ok_Again F tAg.f A.f fM,
      cls_ok tMa f6 j6 fun _ F => ok_Maybe F tMa.f A.f, cls_ok tAh f7 j7 fun _ F => ok_Ahead F tAh.f A.f, cls_ok tUn f8 j8 fun _ F => ok_Unless F tUn.f A.f, cls_ok tOn f9 j9 fun _ F => ok_One F tOn.f, cls_ok tNo f10 j10 fun _ F => ok_Nothing F tNo.f⟩
  have P1 := d_l_pen (P := P) (w := w) (base := base) g1 B
  have P2 := d_l_draw (P := P) (w := w) (base := base) g2 B
  have P3 := d_l_pick g3 B P2
  have P4 := d_l_signs g4 B P2
  have P5 := d_l_leaf g5 B P2 P3
  have P7 := d_l_way_of g7 B P2 P3 P5 30
  have P6 := d_l_way g6 P2 P7
  have P8 := d_l_inner (P := P) (w := w) (base := base) g8
  have P9 := d_l_made _ g9 g P8 30
  have P12 := d_l_power (P := P) (w := w) (base := base) g12 B
  have P13 := d_l_searched g13 B P12
  have Q1 := d_kind_of (P := P) (w := w) (base := base) h1 A B C.c
  have Q2 := d_word_of (P := P) (w := w) (base := base) h2 A B
  have Q3 := d_made_of (P := P) (w := w) (base := base) h3 A B
  have Q4 := d_parts_of h4 Q3
  have R3 : LenOk P w K mg base ⟨lt, on, no, ro, ch, ag, ma, ah, un, ca⟩ 3 (spLenW ⟨lt, on, no, ro, ch, ag, ma, ah, un, ca⟩) := by
    obtain ⟨fd, F, b⟩ := iln.ex
    exact ⟨aln, fd, _, ok_Way_len F B Q4, fun u => (t.of u).mln, iln.fn, b⟩
  have FP := pf_mk TP p1 p2 p3 p4 p5 p6
  have FB := bf_mk TB b1 b2 b3 b4
  have M2 := m2.ok (P := P) (w := w) (base := base) TP fun _ _ F => ok_put F FP C.c
  have M1 := m1.ok TP fun _ _ F => ok_lay F FP B Q1 Q2 Q3 M2
  have M0 := m0.make TP fun _ _ F => ok_parts F FP B M1
  have A1 := d_are_tried (P := P) (w := w) (base := base) h7 FP B C.c
  have A2 := d_counts_around h8 FP A1
  have N0 := n0.make TB fun _ _ F => ok_back F FB FP B C.c M0 A2
  have N1 := n1.ok (P := P) (w := w) (base := base) TB fun _ _ F => ok_fit (C := pt) F FB C
  have A3 := d_first_step (P := P) (w := w) (base := base) h9 C
  have N2 := n2.ok TB fun _ _ F => ok_step F FB FP C N1 A3
  have N3 := n3.ok TB fun _ _ F => ok_steps F FB FP B C N2
  have N4 := n4.ok TB fun _ _ F => ok_go F FB FP C A3
  have N5 := n5.ok TB fun _ _ F => ok_state F FB FP B C N4
  have N6 := n6.ok (P := P) (w := w) (base := base) TB fun _ _ F => ok_results (C := pt) F FB FP B C
  have N7 := n7.ok TB fun _ _ F => ok_turned F FB B N3 N6 N5
  have E1 := d_refuse_calls (P := P) (w := w) (base := base) h5 A.f
  have E2 := d_refuse_parts h6 B R3
  have E3 := d_asked h10 E1 E2 N0
  have E4 := d_count_results (P := P) (w := w) (base := base) h11 B B.list N7
  have E5 := d_counted h12 B C gh gf E3 E4
  have P14 := d_l_by_counts g14 B g P12 E5
  exact ok_law F B g P1 P2 P3 P4 P6 P9 P13 P14 E5
end
theorem walk {l : PySem.W.OpenLaw} {q : Program} {loose : List Str} {XP : (Str → Option Value) → Heap → Prop} {YP : World → Heap → Prop} {d : DefRec} {K : Params → PySem.W.Frag} (hn : l.most = some 63) (hdf : d.params.defaults = [])
    (hY : ∀ (w : World) (h : Heap), YP w h → (K w.params).In h)
    (F : ∀ (w : World) (mg : Str → Option Value) (fa : Addr) (h : Heap), (K w.params).In h → h.Ns mainGlobals mg → mg d.name = some (.ref fa) →
      ∃ fd : FuncData, (∀ (s : Shared) (u : Value), BindsTo s fd ⟨[u], []⟩ [("_law_script", u)]) ∧ ∀ base : Heap, (K w.params).In base → base.Ns mainGlobals mg → Gd.FnG l.prog w (K w.params) mg base 41 fa fd ["_law_script"] (spLaw (K w.params))) :
    PySem.W.WalkO q loose XP YP l.row.toRowW d [] (fun f vs => PySem.call f vs) :=
  Gd.walkG (n := 63) (k := 41) (x := "_law_script") (sp := spLaw) hn (by decide) hdf ⟨rfl, by decide, by decide⟩ hY F (fun K H a ns hl hS => ⟨a, ns, rfl, hS, hl, fun _ => rfl⟩)
end Rk
open PySem PySem.W PyProof.Rows
set_option maxHeartbeats 0
def PySem.W.Fast.tw13209613717703980178 : Nat := 0
def PySem.W.Fast.tw7509227932087631458 : Nat := 0
def PySem.W.Fast.tw12574203639920124107 : Nat := 0
def PySem.W.Fast.tw861502493610598483 : Nat := 0
def PySem.W.Fast.tw12699963426965287919 : Nat := 0
def PySem.W.Fast.tw3365107070216802633 : Nat := 0
def PySem.W.Fast.tw15853837366616553680 : Nat := 0
def PySem.W.Fast.tw5760117238175538160 : Nat := 0
def PySem.W.Fast.tw9196854541321204718 : Nat := 0
open_top hd for PySem.Challenge.rw_waystaken_k25_whole_counted_long_texts
theorem PySem.Challenge.cw_waystaken_k25_whole_counted_long_texts_holds : PySem.Challenge.rw_waystaken_k25_whole_counted_long_texts.Holds :=
  hd (by
  k_fill
  refine Rk.walk (l := PySem.Challenge.rw_waystaken_k25_whole_counted_long_texts) rfl rfl (fun _ _ Y => PySem.W.kIn_of Y) ?F
  case F =>
    intro w mg fa h KX G hmg
    refine' Rk.fin KX G hmg ?tLt ?tOn ?tNo ?tRo ?tCh ?tAg ?tMa ?tAh ?tUn ?tCa ?nd ?hn ?ht ?f1 ?j1 ?f2 ?j2 ?f3 ?j3 ?f4 ?j4 ?f5 ?j5 ?f6 ?j6 ?f7 ?j7 ?f8 ?j8 ?f9 ?j9 ?f10 ?j10 ?fM ?k1 ?k2 ?iln ?B ?C ?h1 ?h2 ?h3 ?h4 ?TP ?TB ?p1 ?p2 ?p3 ?p4 ?p5 ?p6 ?b1 ?b2 ?b3 ?b4 ?m0 ?m1 ?m2 ?n0 ?n1 ?n2 ?n3 ?n4 ?n5 ?n6 ?n7 ?h5 ?h6 ?h7 ?h8 ?h9 ?h10 ?h11 ?h12 ?gh ?gf ?g1 ?g2 ?g3 ?g4 ?g5 ?g6 ?g7 ?g8 ?g9 ?g12 ?g13 ?g14 ?g11
    (case tLt => (refine' Wv.clt_mk KX G ?a ?pg ?hd ?po ?sa ?nl ?nn ?nw ?np ?nc ?nr ?nm ?ha ?hm ?mk ?kc ?ty ?cl ?cm ?mat ?meq ?mln; (case a => k_is); (case pg => k_is); (case hd => k_is); (case po => k_is); (case sa => k_is); (case nl => k_is); (case nn => k_is); (case nw => k_is); (case np => k_is); (case nc => k_is); (case nr => k_is); (case nm => k_is); (case ha => k_is); (case hm => k_is); (case mk => k_is); (case kc => k_is); (case ty => k_is); (case cl => k_is); (case cm => exact rfl); (case mat => k_is); (case meq => k_is); (case mln => k_is)))
    (case tOn => (refine' Wv.clt_mk KX G ?a ?pg ?hd ?po ?sa ?nl ?nn ?nw ?np ?nc ?nr ?nm ?ha ?hm ?mk ?kc ?ty ?cl ?cm ?mat ?meq ?mln; (case a => k_is); (case pg => k_is); (case hd => k_is); (case po => k_is); (case sa => k_is); (case nl => k_is); (case nn => k_is); (case nw => k_is); (case np => k_is); (case nc => k_is); (case nr => k_is); (case nm => k_is); (case ha => k_is); (case hm => k_is); (case mk => k_is); (case kc => k_is); (case ty => k_is); (case cl => k_is); (case cm => exact rfl); (case mat => k_is); (case meq => k_is); (case mln => k_is)))
    (case tNo => (refine' Wv.clt_mk KX G ?a ?pg ?hd ?po ?sa ?nl ?nn ?nw ?np ?nc ?nr ?nm ?ha ?hm ?mk ?kc ?ty ?cl ?cm ?mat ?meq ?mln; (case a => k_is); (case pg => k_is); (case hd => k_is); (case po => k_is); (case sa => k_is); (case nl => k_is); (case nn => k_is); (case nw => k_is); (case np => k_is); (case nc => k_is); (case nr => k_is); (case nm => k_is); (case ha => k_is); (case hm => k_is); (case mk => k_is); (case kc => k_is); (case ty => k_is); (case cl => k_is); (case cm => exact rfl); (case mat => k_is); (case meq => k_is); (case mln => k_is)))
    (case tRo => (refine' Wv.clt_mk KX G ?a ?pg ?hd ?po ?sa ?nl ?nn ?nw ?np ?nc ?nr ?nm ?ha ?hm ?mk ?kc ?ty ?cl ?cm ?mat ?meq ?mln; (case a => k_is); (case pg => k_is); (case hd => k_is); (case po => k_is); (case sa => k_is); (case nl => k_is); (case nn => k_is); (case nw => k_is); (case np => k_is); (case nc => k_is); (case nr => k_is); (case nm => k_is); (case ha => k_is); (case hm => k_is); (case mk => k_is); (case kc => k_is); (case ty => k_is); (case cl => k_is); (case cm => exact rfl); (case mat => k_is); (case meq => k_is); (case mln => k_is)))
    (case tCh => (refine' Wv.clt_mk KX G ?a ?pg ?hd ?po ?sa ?nl ?nn ?nw ?np ?nc ?nr ?nm ?ha ?hm ?mk ?kc ?ty ?cl ?cm ?mat ?meq ?mln; (case a => k_is); (case pg => k_is); (case hd => k_is); (case po => k_is); (case sa => k_is); (case nl => k_is); (case nn => k_is); (case nw => k_is); (case np => k_is); (case nc => k_is); (case nr => k_is); (case nm => k_is); (case ha => k_is); (case hm => k_is); (case mk => k_is); (case kc => k_is); (case ty => k_is); (case cl => k_is); (case cm => exact rfl); (case mat => k_is); (case meq => k_is); (case mln => k_is)))
    (case tAg => (refine' Wv.clt_mk KX G ?a ?pg ?hd ?po ?sa ?nl ?nn ?nw ?np ?nc ?nr ?nm ?ha ?hm ?mk ?kc ?ty ?cl ?cm ?mat ?meq ?mln; (case a => k_is); (case pg => k_is); (case hd => k_is); (case po => k_is); (case sa => k_is); (case nl => k_is); (case nn => k_is); (case nw => k_is); (case np => k_is); (case nc => k_is); (case nr => k_is); (case nm => k_is); (case ha => k_is); (case hm => k_is); (case mk => k_is); (case kc => k_is); (case ty => k_is); (case cl => k_is); (case cm => exact rfl); (case mat => k_is); (case meq => k_is); (case mln => k_is)))
    (case tMa => (refine' Wv.clt_mk KX G ?a ?pg ?hd ?po ?sa ?nl ?nn ?nw ?np ?nc ?nr ?nm ?ha ?hm ?mk ?kc ?ty ?cl ?cm ?mat ?meq ?mln; (case a => k_is); (case pg => k_is); (case hd => k_is); (case po => k_is); (case sa => k_is); (case nl => k_is); (case nn => k_is); (case nw => k_is); (case np => k_is); (case nc => k_is); (case nr => k_is); (case nm => k_is); (case ha => k_is); (case hm => k_is); (case mk => k_is); (case kc => k_is); (case ty => k_is); (case cl => k_is); (case cm => exact rfl); (case mat => k_is); (case meq => k_is); (case mln => k_is)))
    (case tAh => (refine' Wv.clt_mk KX G ?a ?pg ?hd ?po ?sa ?nl ?nn ?nw ?np ?nc ?nr ?nm ?ha ?hm ?mk ?kc ?ty ?cl ?cm ?mat ?meq ?mln; (case a => k_is); (case pg => k_is); (case hd => k_is); (case po => k_is); (case sa => k_is); (case nl => k_is); (case nn => k_is); (case nw => k_is); (case np => k_is); (case nc => k_is); (case nr => k_is); (case nm => k_is); (case ha => k_is); (case hm => k_is); (case mk => k_is); (case kc => k_is); (case ty => k_is); (case cl => k_is); (case cm => exact rfl); (case mat => k_is); (case meq => k_is); (case mln => k_is)))
    (case tUn => (refine' Wv.clt_mk KX G ?a ?pg ?hd ?po ?sa ?nl ?nn ?nw ?np ?nc ?nr ?nm ?ha ?hm ?mk ?kc ?ty ?cl ?cm ?mat ?meq ?mln; (case a => k_is); (case pg => k_is); (case hd => k_is); (case po => k_is); (case sa => k_is); (case nl => k_is); (case nn => k_is); (case nw => k_is); (case np => k_is); (case nc => k_is); (case nr => k_is); (case nm => k_is); (case ha => k_is); (case hm => k_is); (case mk => k_is); (case kc => k_is); (case ty => k_is); (case cl => k_is); (case cm => exact rfl); (case mat => k_is); (case meq => k_is); (case mln => k_is)))
    (case tCa => (refine' Wv.clt_mk KX G ?a ?pg ?hd ?po ?sa ?nl ?nn ?nw ?np ?nc ?nr ?nm ?ha ?hm ?mk ?kc ?ty ?cl ?cm ?mat ?meq ?mln; (case a => k_is); (case pg => k_is); (case hd => k_is); (case po => k_is); (case sa => k_is); (case nl => k_is); (case nn => k_is); (case nw => k_is); (case np => k_is); (case nc => k_is); (case nr => k_is); (case nm => k_is); (case ha => k_is); (case hm => k_is); (case mk => k_is); (case kc => k_is); (case ty => k_is); (case cl => k_is); (case cm => exact rfl); (case mat => k_is); (case meq => k_is); (case mln => k_is)))
    (case hn => k_is)
    (case ht => k_is)
    (case nd => decide)
    (case f1 => k_is)
    (case j1 => (refine' Wv.in_mk ?i ?l ?c ?k ?b; (case i => k_is); (case l => k_is); (case c => k_is); (case k => k_is); (case b => exact fun _ _ _ _ _ _ us hl => match us, hl with | [_, _], _ => rfl)))
    (case f2 => k_is)
    (case j2 => (refine' Wv.in_mk ?i ?l ?c ?k ?b; (case i => k_is); (case l => k_is); (case c => k_is); (case k => k_is); (case b => exact fun _ _ _ _ _ _ us hl => match us, hl with | [_, _], _ => rfl)))
    (case f3 => k_is)
    (case j3 => (refine' Wv.in_mk ?i ?l ?c ?k ?b; (case i => k_is); (case l => k_is); (case c => k_is); (case k => k_is); (case b => exact fun _ _ _ _ _ _ us hl => match us, hl with | [_, _], _ => rfl)))
    (case f4 => k_is)
    (case j4 => (refine' Wv.in_mk ?i ?l ?c ?k ?b; (case i => k_is); (case l => k_is); (case c => k_is); (case k => k_is); (case b => exact fun _ _ _ _ _ _ us hl => match us, hl with | [_, _], _ => rfl)))
    (case f5 => k_is)
    (case j5 => (refine' Wv.in_mk ?i ?l ?c ?k ?b; (case i => k_is); (case l => k_is); (case c => k_is); (case k => k_is); (case b => exact fun _ _ _ _ _ _ us hl => match us, hl with | [_, _], _ => rfl)))
    (case f6 => k_is)
    (case j6 => (refine' Wv.in_mk ?i ?l ?c ?k ?b; (case i => k_is); (case l => k_is); (case c => k_is); (case k => k_is); (case b => exact fun _ _ _ _ _ _ us hl => match us, hl with | [_, _], _ => rfl)))
    (case f7 => k_is)
    (case j7 => (refine' Wv.in_mk ?i ?l ?c ?k ?b; (case i => k_is); (case l => k_is); (case c => k_is); (case k => k_is); (case b => exact fun _ _ _ _ _ _ us hl => match us, hl with | [_, _], _ => rfl)))
    (case f8 => k_is)
    (case j8 => (refine' Wv.in_mk ?i ?l ?c ?k ?b; (case i => k_is); (case l => k_is); (case c => k_is); (case k => k_is); (case b => exact fun _ _ _ _ _ _ us hl => match us, hl with | [_, _], _ => rfl)))
    (case f9 => k_is)
    (case j9 => (refine' Wv.in_mk ?i ?l ?c ?k ?b; (case i => k_is); (case l => k_is); (case c => k_is); (case k => k_is); (case b => exact fun _ _ _ _ _ _ us hl => match us, hl with | [_], _ => rfl)))
    (case f10 => k_is)
    (case j10 => (refine' Wv.in_mk ?i ?l ?c ?k ?b; (case i => k_is); (case l => k_is); (case c => k_is); (case k => k_is); (case b => exact fun _ _ _ _ _ _ us hl => match us, hl with | [_], _ => rfl)))
    (case fM => (refine' Wv.mk0_mk KX G ?a ?mk ?f ?kc; (case a => k_is); (case mk => k_is); (case f => k_is); (case kc => k_is)))
    (case k1 => (refine' Wv.here_mk KX G ?a ?l ?c ?k ?b; (case a => k_is); (case l => k_is); (case c => k_is); (case k => k_is); (case b => exact fun _ _ _ _ _ _ us hl => match us, hl with | [_], _ => rfl)))
    (case k2 => (refine' Wv.here_mk KX G ?a ?l ?c ?k ?b; (case a => k_is); (case l => k_is); (case c => k_is); (case k => k_is); (case b => exact fun _ _ _ _ _ _ us hl => match us, hl with | [_], _ => rfl)))
    (case iln => (refine' Wv.in_mk ?i ?l ?c ?k ?b; (case i => k_is); (case l => k_is); (case c => k_is); (case k => k_is); (case b => exact fun _ _ _ _ _ _ us hl => match us, hl with | [_], _ => rfl)))
    (case B => (refine' Wv.bs_mk KX G ?z1 ?z2 ?z3 ?z4 ?z5 ?z6 ?z7 ?z8 ?z9 ?z10 ?z11 ?z12 ?z13; (case z1 => k_is); (case z2 => k_is); (case z3 => k_is); (case z4 => k_is); (case z5 => k_is); (case z6 => k_is); (case z7 => k_is); (case z8 => k_is); (case z9 => k_is); (case z10 => k_is); (case z11 => k_is); (case z12 => k_is); (case z13 => k_is)))
    (case C => (refine' Rk.kb_mk KX G (Wv.kc_mk KX G ?z0 ?z1 ?z2 ?z3 ?z4 ?z5 ?z6 ?z7 ?z8 ?z9) ?y1 ?y2 ?y3 ?y4; (case z0 => k_is); (case z1 => k_is); (case z2 => k_is); (case z3 => k_is); (case z4 => k_is); (case z5 => k_is); (case z6 => k_is); (case z7 => k_is); (case z8 => k_is); (case z9 => k_is); (case y1 => k_is); (case y2 => k_is); (case y3 => k_is); (case y4 => k_is)))
    (case TP => (refine' Rk.ct_mk KX G ?a ?pg ?hd ?po ?sa ?mk ?kc; (case a => k_is); (case pg => k_is); (case hd => k_is); (case po => k_is); (case sa => k_is); (case mk => k_is); (case kc => k_is)))
    (case TB => (refine' Rk.ct_mk KX G ?a ?pg ?hd ?po ?sa ?mk ?kc; (case a => k_is); (case pg => k_is); (case hd => k_is); (case po => k_is); (case sa => k_is); (case mk => k_is); (case kc => k_is)))
    (case p1 => k_is)
    (case p2 => k_is)
    (case p3 => k_is)
    (case p4 => k_is)
    (case p5 => k_is)
    (case p6 => k_is)
    (case b1 => k_is)
    (case b2 => k_is)
    (case b3 => k_is)
    (case b4 => k_is)
    (case gh => (refine' Rk.int_mk KX G ?z; (case z => k_is)))
    (case gf => (refine' Rk.int_mk KX G ?z; (case z => k_is)))
    (case m0 => (refine' Rk.cm_mk ?a (Wv.in_mk ?i ?l ?c ?k ?b); (case a => k_is); (case i => k_is); (case l => k_is); (case c => k_is); (case k => k_is); (case b => exact fun _ _ _ _ _ _ us hl => match us, hl with | [_, _], _ => rfl)))
    (case m1 => (refine' Rk.cm_mk ?a (Wv.in_mk ?i ?l ?c ?k ?b); (case a => k_is); (case i => k_is); (case l => k_is); (case c => k_is); (case k => k_is); (case b => exact fun _ _ _ _ _ _ us hl => match us, hl with | [_, _], _ => rfl)))
    (case m2 => (refine' Rk.cm_mk ?a (Wv.in_mk ?i ?l ?c ?k ?b); (case a => k_is); (case i => k_is); (case l => k_is); (case c => k_is); (case k => k_is); (case b => exact fun _ _ _ _ _ _ us hl => match us, hl with | [_, _, _], _ => rfl)))
    (case n0 => (refine' Rk.cm_mk ?a (Wv.in_mk ?i ?l ?c ?k ?b); (case a => k_is); (case i => k_is); (case l => k_is); (case c => k_is); (case k => k_is); (case b => exact fun _ _ _ _ _ _ us hl => match us, hl with | [_, _], _ => rfl)))
    (case n1 => (refine' Rk.cm_mk ?a (Wv.in_mk ?i ?l ?c ?k ?b); (case a => k_is); (case i => k_is); (case l => k_is); (case c => k_is); (case k => k_is); (case b => exact fun _ _ _ _ _ _ us hl => match us, hl with | [_, _, _, _], _ => rfl)))
    (case n2 => (refine' Rk.cm_mk ?a (Wv.in_mk ?i ?l ?c ?k ?b); (case a => k_is); (case i => k_is); (case l => k_is); (case c => k_is); (case k => k_is); (case b => exact fun _ _ _ _ _ _ us hl => match us, hl with | [_, _, _, _, _], _ => rfl)))
    (case n3 => (refine' Rk.cm_mk ?a (Wv.in_mk ?i ?l ?c ?k ?b); (case a => k_is); (case i => k_is); (case l => k_is); (case c => k_is); (case k => k_is); (case b => exact fun _ _ _ _ _ _ us hl => match us, hl with | [_, _, _], _ => rfl)))
    (case n4 => (refine' Rk.cm_mk ?a (Wv.in_mk ?i ?l ?c ?k ?b); (case a => k_is); (case i => k_is); (case l => k_is); (case c => k_is); (case k => k_is); (case b => exact fun _ _ _ _ _ _ us hl => match us, hl with | [_, _, _], _ => rfl)))
    (case n5 => (refine' Rk.cm_mk ?a (Wv.in_mk ?i ?l ?c ?k ?b); (case a => k_is); (case i => k_is); (case l => k_is); (case c => k_is); (case k => k_is); (case b => exact fun _ _ _ _ _ _ us hl => match us, hl with | [_, _, _, _], _ => rfl)))
    (case n6 => (refine' Rk.cm_mk ?a (Wv.in_mk ?i ?l ?c ?k ?b); (case a => k_is); (case i => k_is); (case l => k_is); (case c => k_is); (case k => k_is); (case b => exact fun _ _ _ _ _ _ us hl => match us, hl with | [_, _, _, _], _ => rfl)))
    (case n7 => (refine' Rk.cm_mk ?a (Wv.in_mk ?i ?l ?c ?k ?b); (case a => k_is); (case i => k_is); (case l => k_is); (case c => k_is); (case k => k_is); (case b => exact fun _ _ _ _ _ _ us hl => match us, hl with | [_, _, _, _], _ => rfl)))
    (case h1 => (refine' Wv.here_mk KX G ?a ?l ?c ?k ?b; (case a => k_is); (case l => k_is); (case c => k_is); (case k => k_is); (case b => exact fun _ _ _ _ _ _ us hl => match us, hl with | [_], _ => rfl)))
    (case h2 => (refine' Wv.here_mk KX G ?a ?l ?c ?k ?b; (case a => k_is); (case l => k_is); (case c => k_is); (case k => k_is); (case b => exact fun _ _ _ _ _ _ us hl => match us, hl with | [_], _ => rfl)))
    (case h3 => (refine' Wv.here_mk KX G ?a ?l ?c ?k ?b; (case a => k_is); (case l => k_is); (case c => k_is); (case k => k_is); (case b => exact fun _ _ _ _ _ _ us hl => match us, hl with | [_], _ => rfl)))
    (case h4 => (refine' Wv.here_mk KX G ?a ?l ?c ?k ?b; (case a => k_is); (case l => k_is); (case c => k_is); (case k => k_is); (case b => exact fun _ _ _ _ _ _ us hl => match us, hl with | [_], _ => rfl)))
    (case h5 => (refine' Wv.here_mk KX G ?a ?l ?c ?k ?b; (case a => k_is); (case l => k_is); (case c => k_is); (case k => k_is); (case b => exact fun _ _ _ _ _ _ us hl => match us, hl with | [_], _ => rfl)))
    (case h6 => (refine' Wv.here_mk KX G ?a ?l ?c ?k ?b; (case a => k_is); (case l => k_is); (case c => k_is); (case k => k_is); (case b => exact fun _ _ _ _ _ _ us hl => match us, hl with | [_, _], _ => rfl)))
    (case h7 => (refine' Wv.here_mk KX G ?a ?l ?c ?k ?b; (case a => k_is); (case l => k_is); (case c => k_is); (case k => k_is); (case b => exact fun _ _ _ _ _ _ us hl => match us, hl with | [_], _ => rfl)))
    (case h8 => (refine' Wv.here_mk KX G ?a ?l ?c ?k ?b; (case a => k_is); (case l => k_is); (case c => k_is); (case k => k_is); (case b => exact fun _ _ _ _ _ _ us hl => match us, hl with | [_], _ => rfl)))
    (case h9 => (refine' Wv.here_mk KX G ?a ?l ?c ?k ?b; (case a => k_is); (case l => k_is); (case c => k_is); (case k => k_is); (case b => exact fun _ _ _ _ _ _ us hl => match us, hl with | [_, _], _ => rfl)))
    (case h10 => (refine' Wv.here_mk KX G ?a ?l ?c ?k ?b; (case a => k_is); (case l => k_is); (case c => k_is); (case k => k_is); (case b => exact fun _ _ _ _ _ _ us hl => match us, hl with | [_, _], _ => rfl)))
    (case h11 => (refine' Wv.here_mk KX G ?a ?l ?c ?k ?b; (case a => k_is); (case l => k_is); (case c => k_is); (case k => k_is); (case b => exact fun _ _ _ _ _ _ us hl => match us, hl with | [_, _, _, _, _], _ => rfl)))
    (case h12 => (refine' Wv.here_mk KX G ?a ?l ?c ?k ?b; (case a => k_is); (case l => k_is); (case c => k_is); (case k => k_is); (case b => exact fun _ _ _ _ _ _ us hl => match us, hl with | [_, _, _], _ => rfl)))
    (case g1 => (refine' Wv.here_mk KX G ?a ?l ?c ?k ?b; (case a => k_is); (case l => k_is); (case c => k_is); (case k => k_is); (case b => exact fun _ _ _ _ _ _ us hl => match us, hl with | [_], _ => rfl)))
    (case g2 => (refine' Wv.here_mk KX G ?a ?l ?c ?k ?b; (case a => k_is); (case l => k_is); (case c => k_is); (case k => k_is); (case b => exact fun _ _ _ _ _ _ us hl => match us, hl with | [_, _], _ => rfl)))
    (case g3 => (refine' Wv.here_mk KX G ?a ?l ?c ?k ?b; (case a => k_is); (case l => k_is); (case c => k_is); (case k => k_is); (case b => exact fun _ _ _ _ _ _ us hl => match us, hl with | [_, _], _ => rfl)))
    (case g4 => (refine' Wv.here_mk KX G ?a ?l ?c ?k ?b; (case a => k_is); (case l => k_is); (case c => k_is); (case k => k_is); (case b => exact fun _ _ _ _ _ _ us hl => match us, hl with | [_, _], _ => rfl)))
    (case g5 => (refine' Wv.here_mk KX G ?a ?l ?c ?k ?b; (case a => k_is); (case l => k_is); (case c => k_is); (case k => k_is); (case b => exact fun _ _ _ _ _ _ us hl => match us, hl with | [_, _], _ => rfl)))
    (case g6 => (refine' Wv.here_mk KX G ?a ?l ?c ?k ?b; (case a => k_is); (case l => k_is); (case c => k_is); (case k => k_is); (case b => exact fun _ _ _ _ _ _ us hl => match us, hl with | [_, _, _], _ => rfl)))
    (case g7 => (refine' Wv.here_mk KX G ?a ?l ?c ?k ?b; (case a => k_is); (case l => k_is); (case c => k_is); (case k => k_is); (case b => exact fun _ _ _ _ _ _ us hl => match us, hl with | [_, _, _], _ => rfl)))
    (case g8 => (refine' Wv.here_mk KX G ?a ?l ?c ?k ?b; (case a => k_is); (case l => k_is); (case c => k_is); (case k => k_is); (case b => exact fun _ _ _ _ _ _ us hl => match us, hl with | [_], _ => rfl)))
    (case g9 => (refine' Wv.here_mk KX G ?a ?l ?c ?k ?b; (case a => k_is); (case l => k_is); (case c => k_is); (case k => k_is); (case b => exact fun _ _ _ _ _ _ us hl => match us, hl with | [_], _ => rfl)))
    (case g12 => (refine' Wv.here_mk KX G ?a ?l ?c ?k ?b; (case a => k_is); (case l => k_is); (case c => k_is); (case k => k_is); (case b => exact fun _ _ _ _ _ _ us hl => match us, hl with | [_, _], _ => rfl)))
    (case g13 => (refine' Wv.here_mk KX G ?a ?l ?c ?k ?b; (case a => k_is); (case l => k_is); (case c => k_is); (case k => k_is); (case b => exact fun _ _ _ _ _ _ us hl => match us, hl with | [_, _, _], _ => rfl)))
    (case g14 => (refine' Wv.here_mk KX G ?a ?l ?c ?k ?b; (case a => k_is); (case l => k_is); (case c => k_is); (case k => k_is); (case b => exact fun _ _ _ _ _ _ us hl => match us, hl with | [_, _, _], _ => rfl)))
    (case g11 => (refine' Wv.here_mk KX G ?a ?l ?c ?k ?b; (case a => k_is); (case l => k_is); (case c => k_is); (case k => k_is); (case b => exact fun _ _ _ _ _ _ us hl => match us, hl with | [_], _ => rfl))))
