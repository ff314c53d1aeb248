import PyProof.Rows.All
import Wide.All
import OpenK.AllK
import Wide.FinOn
import HandS.ForMost
import HandS.IsInst
import HandS.Style
import HandS.RevRange
import HandS.OwnEq
import HandS.SortKw
import KE.DataMinMax
import HandS.Deep
import HandS.Zip
import HandS.ListItems
import KE.KDictZip
import HandS.Ends
import HandS.RaiseMore
import PyProof.ReprRoads
import HandS.Star
import HandS.ClsMeth
import HandS.Defaults
import PyProof.StrOps2
import HandS.WideBits
import PySem.Challenge.RW_waystaken_k16_sums_going_back
set_option Elab.async false
set_option linter.all false
set_option maxRecDepth 100000
set_option maxHeartbeats 4000000
namespace Wv
open PySem PySem.Spec PyProof.Rows L2
/-! ### a def of the module, called by its name -/
section
variable {P : Program} {w : World} {K : PySem.W.Frag} {mg : Str → Option Value} {base : Heap}
structure DefOk (P : Program) (w : World) (K : PySem.W.Frag) (mg : Str → Option Value) (base : Heap) (k : Nat) (x : Str) (ps : List Str) (sp : Sp) : Prop where
  ex : ∃ (f : Addr) (fd : FuncData), mg x = some (.ref f) ∧ PySem.W.keepIn K (.ref f) = true ∧ Binds K fd ps [] ∧ FnOk P w K mg base CX0 k f fd ps sp
theorem DefOk.mono {j k : Nat} {x : Str} {ps : List Str} {sp : Sp} (h : DefOk P w K mg base j x ps sp) (q : j ≤ k) : DefOk P w K mg base k x ps sp := by
  obtain ⟨f, fd, a, b, c, d⟩ := h.ex
  exact ⟨f, fd, a, b, c, d.mono q⟩
/-- the def as the top left it -/
structure Here (K : PySem.W.Frag) (mg : Str → Option Value) (x : Str) (st : Stmt) (ps : List Str) : Prop where
  ex : ∃ (f : Addr) (fd : FuncData), Fun K x x st f fd ∧ mg x = some (.ref f) ∧ Binds K fd ps []
theorem Here.ok {x : Str} {st : Stmt} {N ps : List Str} {k : Nat} {sp : Sp} (h : Here K mg x st ps) (S : FnScope N ps (defScope st)) (len : ∀ vs H Q E, sp vs H Q E → vs.length = ps.length)
    (hbody : ∀ (f : Addr) (cdv : Value) (A : Around) (outer : List Env) (s : Shared) (H : Hp) (vs : List V) (Q : VK) (E : XK), Room k (A.deeper (envOfC x (defScope st) s.heap.objs.size f cdv)) → sp vs H Q E →
      ∃ t, PSs (cxOf CX0 P w K mg base N x (defScope st) f cdv A outer s H E).nox (defBody st) t ∧ t { nx := fun _ H' => Q .non H', rt := Q } (start N vs) H) : DefOk P w K mg base (k + 1) x ps sp := by
  obtain ⟨f, fd, F, m, b⟩ := h.ex
  exact ⟨f, fd, m, F.kp, b, F.ok S len fun cdv A outer s H vs Q E hr q => hbody f cdv A outer s H vs Q E hr q⟩
end
section
variable {X : Cx} {k : Nat} {x : Str} {ps : List Str} {sp : Sp} {e : Expr} {es : List Expr} {t : TA} {p pos : Pos}
theorem pe_callD (G : DefOk X.prog X.w X.K X.mg X.base k x ps sp) (hr : Room k X.A) (hg : Gl X x) (ha : PA X (e :: es) t) (hdb : (x == ("__debug__" : Str)) = false := by decide)
    (he : starEach (e :: es) X.env = (false, eval e X.env) :: starEach es X.env := by rfl) (hpl : (backTo pos (starEach es X.env)).any (·.1) = false := by rfl) :
    PE X (.Call (.Name x p) (e :: es) [] pos) (tCall sp [] E0 t) := by
  obtain ⟨f, fd, m, kp, b, F⟩ := G.ex
  exact pe_call F hr hg m kp b .nil pass0 ha hdb he hpl
theorem pe_callD0 (G : DefOk X.prog X.w X.K X.mg X.base k x ps sp) (hr : Room k X.A) (hg : Gl X x) (hdb : (x == ("__debug__" : Str)) = false := by decide) :
    PE X (.Call (.Name x p) [] [] pos) (tCall sp [] E0 tNil) := by
  obtain ⟨f, fd, m, kp, b, F⟩ := G.ex
  exact pe_call0 F hr hg m kp b .nil pass0 hdb
end
/-! ### a class of the module, made by its name -/
structure ClsOk (P : Program) (w : World) (K : PySem.W.Frag) (mg : Str → Option Value) (base : Heap) (k : Nat) (x : Str) (C : Addr) (ps : List Str) (sp : Sp) : Prop where
  ex : ∃ (f : Addr) (fd : FuncData), mg x = some (.ref C) ∧ Mk K C f ∧ Binds K fd ps [] ∧ FnOk P w K mg base CX0 k f fd ps sp
section
variable {X : Cx} {k : Nat} {x : Str} {C : Addr} {ps : List Str} {sp : Sp} {e : Expr} {es : List Expr} {t : TA} {p pos : Pos}
theorem pe_makeD (G : ClsOk X.prog X.w X.K X.mg X.base k x C ps sp) (hr : Room (k + 1) X.A) (hg : Gl X x) (ha : PA X (e :: es) t) (hdb : (x == ("__debug__" : Str)) = false := by decide)
    (he : starEach (e :: es) X.env = (false, eval e X.env) :: starEach es X.env := by rfl) (hpl : (backTo pos (starEach es X.env)).any (·.1) = false := by rfl) :
    PE X (.Call (.Name x p) (e :: es) [] pos) (tMake C sp [] E0 t) := by
  obtain ⟨f, fd, m, M, b, F⟩ := G.ex
  exact pe_make M F hr hg m b .nil pass0 ha hdb he hpl
theorem pe_makeD0 (G : ClsOk X.prog X.w X.K X.mg X.base k x C ps sp) (hr : Room (k + 1) X.A) (hg : Gl X x) (hdb : (x == ("__debug__" : Str)) = false := by decide) :
    PE X (.Call (.Name x p) [] [] pos) (tMake C sp [] E0 tNil) := by
  obtain ⟨f, fd, m, M, b, F⟩ := G.ex
  exact pe_make0 M F hr hg m b .nil pass0 hdb
end
/-! ### a class of the module without an __init__ of its own -/
structure Mk0 (K : PySem.W.Frag) (mg : Str → Option Value) (x : Str) (C : Addr) : Prop where
  m : mg x = some (.ref C)
  makes : PySem.W.makesIn K C = true
  init : PySem.W.findIn K (.ref C) "__init__" = some (some (.builtin "object.__init__"))
  kp : PySem.W.keepIn K (.ref C) = true
def tMake0 (C : Addr) : TE := fun _ H Q => ∀ x dx, H x = none → H dx = none → dx ≠ x → Q (.ref x) (upd (upd H dx (.own x)) x (.ins C dx []))
section
open PySem.W
variable {X : Cx} {C : Addr} {x : Str} {p pos : Pos}
theorem make0_raw {prog : Program} {w : World} {A : Around} {K : Frag} {C : Addr} {s : Shared} {R : Result → Shared → Prop} (X : K.In s.heap) (hm : makesIn K C = true) (hi : findIn K (.ref C) "__init__" = some (some (.builtin "object.__init__")))
    (z : R (.ok (.ret (.ref (s.heap.objs.size + 1)))) { s with heap := (s.heap.push emptyDict).push (instObj C s.heap.objs.size) }) :
    codeAny (model prog w) A (.call (.ref C) ⟨[], []⟩) R s := by
  obtain ⟨hh, g, d, t, os⟩ := s
  have Y := makes_of (M := model prog w) X hm
  have hx : ((hh.push emptyDict).push (instObj C hh.objs.size)).get? (hh.objs.size + 1) = some (instObj C hh.objs.size) := by heap_get
  refine make_core Y (looks_findIn X hi) (fun self => Looks.of_pure (oi_bind self)) (.inr ⟨rfl, rfl⟩) ?_
  have t1 : Looks (model prog w) ((hh.push emptyDict).push (instObj C hh.objs.size)) (typeOf (.ref (hh.objs.size + 1))) (.ref C) := (Looks.ld hx).andThen .now
  have t2 : Looks (model prog w) ((hh.push emptyDict).push (instObj C hh.objs.size)) (isInstance (.ref (hh.objs.size + 1)) (.type "object")) true := t1.andThen (Y.top.keeps fun b o e => Heap.get?_push_of_some _ (Heap.get?_push_of_some _ e))
  refine codeAny_call_builtin oi_plain entry_oi (@check_slot (model prog w) _ _ _ "object.__init__" "object" "__init__" (.ref (hh.objs.size + 1)) [] [] _ oi_kind oi_split t2 (oi_args (.ref (hh.objs.size + 1))) ?_)
  rw [oi_run]
  exact wpAny_pure (And.intro rfl z)
theorem pe_make00 (M : Mk0 X.K X.mg x C) (hg : Gl X x) (hdb : (x == ("__debug__" : Str)) = false := by decide) : PE X (.Call (.Name x p) [] [] pos) (tMake0 C) := by
  refine ⟨fun pins s σ H Q I h => ?_⟩
  refine wpAny_Call_Name_kw (ld_glob I hg M.m ?_ hdb)
  refine PySem.W.callWith_K0 I.kIn M.kp ?_
  have hq := h (s.heap.objs.size + 1) s.heap.objs.size (I.hok.fresh (Nat.le_succ _)) (I.hok.fresh (Nat.le_refl _)) (Nat.ne_of_lt (Nat.lt_succ_self _))
  have I2 := Inv.made (C := C) I
  exact wpAny_call (make0_raw I.kIn M.makes M.init ⟨.ref _, _, I2, rfl, hq⟩)
end
/-- the built-ins' names that the text leaves as they are -/
structure Bs (mg : Str → Option Value) : Prop where
  len : mg "len" = none
  int : mg "int" = none
  list : mg "list" = none
  range : mg "range" = none
  min : mg "min" = none
  tuple : mg "tuple" = none
  isinstance : mg "isinstance" = none
  zip : mg "zip" = none
  sum : mg "sum" = none
  max : mg "max" = none
  reversed : mg "reversed" = none
  enumerate : mg "enumerate" = none
  repr : mg "repr" = none
/-! ### a part of a reading by itself: what it gives, whatever follows -/
theorem withQ {E : TE} {σ : L2.St} {H : Hp} {Q : VK} (C : V → Hp → Prop) (h : ∀ Q' : VK, (∀ x H', C x H' → Q' x H') → E σ H Q') (g : ∀ x H', C x H' → Q x H') : E σ H Q := h Q g
theorem withB {E : TT} {σ : L2.St} {H : Hp} {Q : Bool → Hp → Prop} (C : Bool → Hp → Prop) (h : ∀ Q' : Bool → Hp → Prop, (∀ x H', C x H' → Q' x H') → E σ H Q') (g : ∀ x H', C x H' → Q x H') : E σ H Q := h Q g
theorem gset {i : Nat} {x : V} {σ : L2.St} {H : Hp} {Q : L2.St → Hp → Prop} (h : Q (σ.set i (some x)) H) : gName i x σ H Q := h
theorem st_seq {t u : TS} {D : Ends} {σ : L2.St} {H : Hp} (h : t { D with nx := u D } σ H) : tSeq t u D σ H := h
theorem st_asg {te : TE} {g : TG} {D : Ends} {σ : L2.St} {H : Hp} (h : te σ H fun x H1 => g x σ H1 D.nx) : tAsg te g D σ H := h
theorem st_next {D : Ends} {σ : L2.St} {H : Hp} (h : D.nx σ H) : tNext D σ H := h
theorem st_drop {te : TE} {D : Ends} {σ : L2.St} {H : Hp} (h : te σ H fun _ H1 => D.nx σ H1) : tDrop te D σ H := h
theorem st_ret {te : TE} {D : Ends} {σ : L2.St} {H : Hp} (h : te σ H D.rt) : tRet te D σ H := h
/-! ### heaps: all but the dicts stay -/
/-- the dict of a pen -/
def Penny (kvs : List (Key × V)) : Prop := ∃ v r, kvs = (.inr (Str.ofString "cells"), v) :: r
/-- one dict of a pen instead of another -/
def Moves (o : HO) (u : Option HO) : Prop := ∃ kvs kvs', (o = .dK kvs ∧ u = some (.dK kvs')) ∧ Penny kvs ∧ Penny kvs'
def Keep (H H' : Hp) : Prop := ∀ b o, H b = some o → H' b = some o ∨ Moves o (H' b)
theorem Keep.refl (H : Hp) : Keep H H := fun _ _ h => .inl h
theorem Keep.trans {H H1 H2 : Hp} (a : Keep H H1) (b : Keep H1 H2) : Keep H H2 := fun c o h => by
  rcases a c o h with h1 | ⟨k1, k2, ⟨e, h1⟩, p1, p2⟩
  · exact b c o h1
  · rcases b c _ h1 with h2 | ⟨k3, k4, ⟨e2, h2⟩, _, p4⟩
    · exact .inr ⟨k1, k2, ⟨e, h2⟩, p1, p2⟩
    · exact .inr ⟨k1, k4, ⟨e, h2⟩, p1, p4⟩
theorem Keep.of {H H' : Hp} (s : Same H H') : Keep H H' := fun b o h => .inl (s b o h)
theorem Keep.at_ {H H' : Hp} {a : Addr} {o : HO} (k : Keep H H') (h : H a = some o) (n : ∀ kvs, o ≠ .dK kvs) : H' a = some o := by
  rcases k a o h with q | ⟨k1, _, ⟨e, _⟩, _⟩
  · exact q
  · exact absurd e (n k1)
theorem Keep.dict {H H' : Hp} {a : Addr} {kvs : List (Key × V)} (k : Keep H H') (h : H a = some (.dK kvs)) (n : ¬ Penny kvs) : H' a = some (.dK kvs) := by
  rcases k a _ h with q | ⟨k1, _, ⟨e, _⟩, p, _⟩
  · exact q
  · cases e
    exact absurd p n
theorem Keep.free {H H' : Hp} {a : Addr} (k : Keep H H') (h : H' a = none) : H a = none := by
  cases e : H a with
  | none => rfl
  | some o =>
    rcases k a o e with q | ⟨_, _, ⟨_, q⟩, _⟩
    · rw [h] at q; cases q
    · rw [h] at q; cases q
theorem Keep.lst {H H' : Hp} {a : Addr} {xs : List V} (k : Keep H H') (h : H a = some (.lst xs)) : H' a = some (.lst xs) := k.at_ h (fun _ z => by cases z)
theorem Keep.tup {H H' : Hp} {a : Addr} {xs : List V} (k : Keep H H') (h : H a = some (.tup xs)) : H' a = some (.tup xs) := k.at_ h (fun _ z => by cases z)
theorem Keep.ins {H H' : Hp} {a C d : Addr} {fs : List (Str × V)} (k : Keep H H') (h : H a = some (.ins C d fs)) : H' a = some (.ins C d fs) := k.at_ h (fun _ z => by cases z)
theorem Keep.seq {K : PySem.W.Frag} {H H' : Hp} {a : Addr} {xs : List V} (k : Keep H H') (h : SqL K H a xs) : SqL K H' a xs := by
  rcases h with (h | ⟨o, h⟩) | h
  · exact .inl (.inl (k.lst h))
  · exact .inl (.inr ⟨o, k.at_ h (fun _ z => by cases z)⟩)
  · exact .inr h
theorem Keep.seqT {K : PySem.W.Frag} {H H' : Hp} {a : Addr} {xs : List V} (k : Keep H H') (h : SqT K H a xs) : SqT K H' a xs := by
  rcases h with (h | ⟨o, h⟩) | h
  · exact .inl (.inl (k.tup h))
  · exact .inl (.inr ⟨o, k.at_ h (fun _ z => by cases z)⟩)
  · exact .inr h
theorem Same.new {H : Hp} {p : Addr} (h : H p = none) (o : HO) : Same H (upd H p o) := fun b u q => by rw [upd_ne (ne_of_none q h)]; exact q
theorem Same.put {H H' : Hp} {p : Addr} (h : H p = none) (s : Same H H') (o : HO) : Same H (upd H' p o) := fun b u q => by rw [upd_ne (ne_of_none q h)]; exact s b u q
theorem Keep.new {H : Hp} {p : Addr} (h : H p = none) (o : HO) : Keep H (upd H p o) := .of (Same.new h o)
theorem Keep.put {H H' : Hp} {p : Addr} (h : H p = none) (s : Keep H H') (o : HO) : Keep H (upd H' p o) := fun b u q => by rw [upd_ne (ne_of_none q h)]; exact s b u q
/-! ### what is new in a heap -/
def newer (H H' : Hp) : Hp := fun a => if (H a).isSome = true then none else H' a
theorem newer_at {H H' : Hp} {a : Addr} (h : H a = none) : newer H H' a = H' a := by unfold newer; rw [h]; exact if_neg (by decide)
theorem newer_old {H H' : Hp} {a : Addr} {o : HO} (h : H a = some o) : newer H H' a = none := by unfold newer; rw [h]; exact if_pos rfl
theorem newer_of {H H' : Hp} {a : Addr} {o : HO} (h : newer H H' a = some o) : H a = none ∧ H' a = some o := by
  cases e : H a with
  | none => rw [newer_at e] at h; exact ⟨rfl, h⟩
  | some u => rw [newer_old e] at h; cases h
theorem newer_le {H H' : Hp} : Keep (newer H H') H' := fun _ _ h => .inl (newer_of h).2
theorem newer_up {H H' H'' : Hp} (k : Keep H' H'') : Keep (newer H H') (newer H H'') := fun a o h => by
  obtain ⟨h1, h2⟩ := newer_of h
  rw [newer_at h1]
  exact k a o h2
theorem newer_down {H H0 H' : Hp} (k : Keep H H0) : Keep (newer H0 H') (newer H H') := fun a o h => by
  obtain ⟨h1, h2⟩ := newer_of h
  rw [newer_at (k.free h1)]
  exact .inl h2
def Sub (H H' : Hp) : Prop := ∀ a, H' a = none → H a = none
theorem Keep.sub {H H' : Hp} (k : Keep H H') : Sub H H' := fun _ h => k.free h
theorem Sub.trans {H H1 H2 : Hp} (a : Sub H H1) (b : Sub H1 H2) : Sub H H2 := fun c h => a c (b c h)
theorem Sub.put {H H' : Hp} (s : Sub H H') (p : Addr) (o : HO) : Sub H (upd H' p o) := fun a h => by
  by_cases e : a = p
  · rw [e, upd_same] at h; cases h
  · rw [upd_ne e] at h; exact s a h
theorem newer_sub {H H0 H' : Hp} (k : Sub H H0) : Keep (newer H0 H') (newer H H') := fun a o h => by
  obtain ⟨h1, h2⟩ := newer_of h
  rw [newer_at (k a h1)]
  exact .inl h2
theorem newer_put {H H' : Hp} {p : Addr} {o u : HO} (h : H p = some u) : newer H (upd H' p o) = newer H H' := by
  funext a
  unfold newer
  by_cases e : a = p
  · rw [e, h]; rfl
  · rw [upd_ne e]
/-! ### arithmetic -/
theorem fmod_in (x : Int) {m : Int} (h : 0 < m) : 0 ≤ x.fmod m ∧ x.fmod m < m := ⟨Int.fmod_nonneg_of_pos x h, Int.fmod_lt_of_pos x h⟩
theorem small' {n : Nat} (h : n ≤ 1000000) : n < sizeLine := Nat.lt_of_le_of_lt h (by decide)
theorem atI_of {xs : List V} {i : Int} (h0 : 0 ≤ i) (h1 : i < (xs.length : Int)) : ∃ v, xs[i.toNat]? = some v ∧ atI xs i = some v := by
  have hk : i.toNat < xs.length := by omega
  have ek : i = ((i.toNat : Nat) : Int) := by omega
  refine ⟨xs[i.toNat], List.getElem?_eq_getElem hk, ?_⟩
  have q : atI xs ((i.toNat : Nat) : Int) = some xs[i.toNat] := atI_nat (List.getElem?_eq_getElem hk)
  rw [← ek] at q
  exact q
/-- a text of one sign -/
abbrev sg (c : Nat) : Str := ⟨#[c]⟩
/-- a text by its codes -/
def tx (l : List Nat) : Str := ⟨l.toArray⟩
end Wv
local macro_rules | `(tactic| walk_at "rd") => `(tactic| (repeat (first | refine ⟨_, rfl, ?_⟩ | refine ⟨_, _, rfl, rfl, ?_⟩ | refine ⟨rfl, ?_⟩ | refine Or.inl ⟨_, rfl, ?_⟩)))
local macro_rules | `(tactic| walk_at "nx") => `(tactic| (repeat (first | (with_reducible refine Wv.gset ?_) | (with_reducible refine Wv.st_seq ?_) | (with_reducible refine Wv.st_asg ?_) | (with_reducible refine Wv.st_next ?_) | (with_reducible refine Wv.st_drop ?_) | (with_reducible refine Wv.st_ret ?_))))
/-! max([..], default=d) of integers -/
namespace Wv
open PySem PySem.Spec PyProof.Rows L2
/-- the greatest one, d if there is none -/
def mx (d : Int) : List Int → Int
  | [] => d
  | n :: r => r.foldl max n
def rMaxDef (K : PySem.W.Frag) : List V → List V → Hp → VK → Prop := fun xs zs H Q => ∃ (a : Addr) (ns : List Int) (d : Int), xs = [.ref a] ∧ zs = [.int d] ∧ SqL K H a (ns.map V.int) ∧
  Q (.int (mx d ns)) H
theorem ints_alike (ns : List Int) : PySem.W.AlikeAll (ns.map PyData.int) := by
  refine ⟨fun x hx y hy => ?_, fun x hx => ?_⟩
  · obtain ⟨n, _, rfl⟩ := List.mem_map.mp hx
    obtain ⟨m, _, rfl⟩ := List.mem_map.mp hy
    rfl
  · obtain ⟨n, _, rfl⟩ := List.mem_map.mp hx
    intro e; cases e
theorem depth_ints0 : ∀ ns : List Int, PyData.depthAll (ns.map PyData.int) = 0
  | [] => rfl
  | n :: r => by
    rw [List.map_cons, PyData.depthAll, depth_ints0 r]; rfl
theorem cr_maxDef {X : Cx} (hc : X.calm = true) (hu : X.A.units + 1 < cLine) : CallRK X (.builtin "max") [Str.ofString "default"] (rMaxDef X.K) := by
  intro pins s σ H vs zs us ws Q I r1 r2 h
  obtain ⟨a, ns, d, rfl, rfl, hs, q⟩ := h
  obtain ⟨its, rv, hl, _⟩ := I.list hs
  rw [Vals.ref1 r1]
  obtain ⟨u, rfl, ru⟩ := r2.one
  obtain ⟨t, rfl⟩ := ru
  have hi := rv.ints
  obtain ⟨as, hr⟩ : ∃ as, ReadsAll s.heap its (ns.map PyData.int) as := ⟨_, hi.reads s.heap⟩
  show wpAny _ X.A (call (.builtin "max") [.ref a] [(Str.ofString "default", .int d t)]) _ _ s
  refine PySem.W.max_list_default (xs := ns.map PyData.int) (I.ok.hd hc) hl.isList (by simpa using hr) (ints_alike ns) (by rw [depth_ints0]; exact hu) (fun e h' tk hk => ?_) (fun y ys i v h' tk bs e hv hr' hk => ?_)
  · have : ns = [] := by simpa using e
    subst this
    exact ⟨.int d, H, I.kept hk, ⟨_, rfl⟩, q⟩
  · cases ns with
    | nil => cases e
    | cons n r =>
      rw [List.map_cons] at e
      obtain ⟨rfl, rfl⟩ := List.cons.inj e
      rw [PySem.W.maxD_ints] at hr'
      cases hr'
      exact ⟨.int _, H, I.kept hk, ⟨_, rfl⟩, q⟩
/-- an attribute, where K is told by itself -/
theorem pe_fldK {X : Cx} {K : PySem.W.Frag} {e : Expr} {f : Str} {pos : Pos} {ta : TE} (q : X.K = K) (he : PE X e ta) (hb : attributeBase e f X.env (eval e X.env) = eval e X.env) : PE X (.Attribute e f pos) (tFld K ta f) := q ▸ pe_fld he hb
end Wv
namespace Wv
open PySem PySem.Spec PyProof.Rows L2
/-! ### ways as data -/
inductive W where
  | nothing | one | letter (c : Nat) | call (x : Str)
  | row (ws : List W) | choice (ws : List W)
  | again (w : W) | maybe (w : W) | ahead (w : W) | unless (w : W)
mutual
def W.size : W → Nat
  | .nothing => 1 | .one => 1 | .letter _ => 1 | .call _ => 1
  | .row ws => 1 + W.sizes ws | .choice ws => 1 + W.sizes ws
  | .again w => 1 + W.size w | .maybe w => 1 + W.size w | .ahead w => 1 + W.size w | .unless w => 1 + W.size w
def W.sizes : List W → Nat
  | [] => 0
  | w :: ws => W.size w + W.sizes ws
end
theorem W.size_pos (w : W) : 0 < w.size := by cases w <;> simp only [W.size] <;> omega
theorem W.sizes_app : ∀ (a b : List W), W.sizes (a ++ b) = W.sizes a + W.sizes b
  | [], b => by simp [W.sizes]
  | x :: a, b => by simp only [List.cons_append, W.sizes, W.sizes_app a b]; omega
theorem W.sizes_len : ∀ ws : List W, ws.length ≤ W.sizes ws
  | [] => Nat.le_refl _
  | w :: ws => by
    have h := W.sizes_len ws
    have h2 := w.size_pos
    simp only [List.length_cons, W.sizes]
    omega
-- letters among these codes, rows and choices of two or more, no calls
mutual
def W.wf (z : List Nat) : W → Prop
  | .nothing => True | .one => True | .letter c => c ∈ z | .call _ => False
  | .row ws => 2 ≤ ws.length ∧ W.wfs z ws | .choice ws => 2 ≤ ws.length ∧ W.wfs z ws
  | .again w => W.wf z w | .maybe w => W.wf z w | .ahead w => W.wf z w | .unless w => W.wf z w
def W.wfs (z : List Nat) : List W → Prop
  | [] => True
  | w :: ws => W.wf z w ∧ W.wfs z ws
end
theorem W.wfs_app (z : List Nat) : ∀ (a b : List W), W.wfs z (a ++ b) ↔ W.wfs z a ∧ W.wfs z b
  | [], b => by simp [W.wfs]
  | x :: a, b => by simp only [List.cons_append, W.wfs, W.wfs_app z a b, and_assoc]
mutual

def W.data : W → PyData
  | .nothing => .tuple [.str (Str.ofString "nothing")]
  | .one => .tuple [.str (Str.ofString "one")]
  | .letter c => .tuple [.str (Str.ofString "letter"), .str (sg c)]
  | .call x => .tuple [.str (Str.ofString "call"), .str x]
  | .row ws => .tuple [.str (Str.ofString "row"), .list (W.datas ws)]
  | .choice ws => .tuple [.str (Str.ofString "choice"), .list (W.datas ws)]
  | .again w => .tuple [.str (Str.ofString "again"), W.data w]
  | .maybe w => .tuple [.str (Str.ofString "maybe"), W.data w]
  | .ahead w => .tuple [.str (Str.ofString "ahead"), W.data w]
  | .unless w => .tuple [.str (Str.ofString "unless"), W.data w]
def W.datas : List W → List PyData
  | [] => []
  | w :: ws => W.data w :: W.datas ws
end
mutual
theorem W.depth_data : ∀ w : W, (W.data w).depth ≤ 2 * w.size
  | .nothing => by simp only [W.data, W.size, PyData.depth, PyData.depthAll]; omega
  | .one => by simp only [W.data, W.size, PyData.depth, PyData.depthAll]; omega
  | .letter c => by simp only [W.data, W.size, PyData.depth, PyData.depthAll]; omega
  | .call x => by simp only [W.data, W.size, PyData.depth, PyData.depthAll]; omega
  | .row ws => by
    have h := W.depth_datas ws
    simp only [W.data, W.size, PyData.depth, PyData.depthAll]; omega
  | .choice ws => by
    have h := W.depth_datas ws
    simp only [W.data, W.size, PyData.depth, PyData.depthAll]; omega
  | .again w => by
    have h := W.depth_data w
    simp only [W.data, W.size, PyData.depth, PyData.depthAll]; omega
  | .maybe w => by
    have h := W.depth_data w
    simp only [W.data, W.size, PyData.depth, PyData.depthAll]; omega
  | .ahead w => by
    have h := W.depth_data w
    simp only [W.data, W.size, PyData.depth, PyData.depthAll]; omega
  | .unless w => by
    have h := W.depth_data w
    simp only [W.data, W.size, PyData.depth, PyData.depthAll]; omega
theorem W.depth_datas : ∀ ws : List W, PyData.depthAll (W.datas ws) ≤ 2 * W.sizes ws
  | [] => by simp [W.datas, PyData.depthAll]
  | w :: ws => by
    have h := W.depth_data w
    have h2 := W.depth_datas ws
    simp only [W.datas, W.sizes, PyData.depthAll]; omega
end
def W.tag : W → Str
  | .nothing => Str.ofString "nothing"
  | .one => Str.ofString "one"
  | .again _ => Str.ofString "again"
  | .maybe _ => Str.ofString "maybe"
  | .ahead _ => Str.ofString "ahead"
  | .unless _ => Str.ofString "unless"
  | .letter _ => Str.ofString "letter"
  | .call _ => Str.ofString "call"
  | .row _ => Str.ofString "row"
  | .choice _ => Str.ofString "choice"
mutual
def WayAt (H : Hp) : V → W → Prop
  | v, .nothing => ∃ a, v = .ref a ∧ H a = some (.tup [.str (Str.ofString "nothing")])
  | v, .one => ∃ a, v = .ref a ∧ H a = some (.tup [.str (Str.ofString "one")])
  | v, .letter c => ∃ a, v = .ref a ∧ H a = some (.tup [.str (Str.ofString "letter"), .str (sg c)])
  | v, .call x => ∃ a, v = .ref a ∧ H a = some (.tup [.str (Str.ofString "call"), .str x])
  | v, .row ws => ∃ a l vs, v = .ref a ∧ H a = some (.tup [.str (Str.ofString "row"), .ref l]) ∧ H l = some (.lst vs) ∧ WaysAt H vs ws
  | v, .choice ws => ∃ a l vs, v = .ref a ∧ H a = some (.tup [.str (Str.ofString "choice"), .ref l]) ∧ H l = some (.lst vs) ∧ WaysAt H vs ws
  | v, .again w => ∃ a u, v = .ref a ∧ H a = some (.tup [.str (Str.ofString "again"), u]) ∧ WayAt H u w
  | v, .maybe w => ∃ a u, v = .ref a ∧ H a = some (.tup [.str (Str.ofString "maybe"), u]) ∧ WayAt H u w
  | v, .ahead w => ∃ a u, v = .ref a ∧ H a = some (.tup [.str (Str.ofString "ahead"), u]) ∧ WayAt H u w
  | v, .unless w => ∃ a u, v = .ref a ∧ H a = some (.tup [.str (Str.ofString "unless"), u]) ∧ WayAt H u w
def WaysAt (H : Hp) : List V → List W → Prop
  | vs, [] => vs = []
  | vs, w :: ws => ∃ u us, vs = u :: us ∧ WayAt H u w ∧ WaysAt H us ws
end
theorem WaysAt.len {H : Hp} : ∀ (ws : List W) (vs : List V), WaysAt H vs ws → vs.length = ws.length
  | [], vs, h => by rw [show vs = [] from h]; rfl
  | w :: ws, vs, ⟨u, us, e, _, h⟩ => by rw [e, List.length_cons, List.length_cons, WaysAt.len ws us h]
theorem WaysAt.app {H : Hp} : ∀ (ws : List W) (vs : List V) {us : List V} {xs : List W}, WaysAt H vs ws → WaysAt H us xs → WaysAt H (vs ++ us) (ws ++ xs)
  | [], vs, us, xs, h, h2 => by rw [show vs = [] from h]; exact h2
  | w :: ws, vs, us, xs, ⟨u, r, e, hu, h⟩, h2 => by rw [e]; exact ⟨u, r ++ us, rfl, hu, WaysAt.app ws r h h2⟩
theorem WaysAt.at_ {H : Hp} : ∀ (ws : List W) (vs : List V) (i : Nat) (w : W), WaysAt H vs ws → ws[i]? = some w → ∃ v, vs[i]? = some v ∧ WayAt H v w
  | [], vs, i, w, h, e => by simp at e
  | x :: ws, vs, 0, w, ⟨u, us, ev, hu, h⟩, e => by
    have q : x = w := by simpa using e
    subst q
    exact ⟨u, by rw [ev]; rfl, hu⟩
  | x :: ws, vs, i + 1, w, ⟨u, us, ev, hu, h⟩, e => by
    obtain ⟨v, h1, h2⟩ := WaysAt.at_ ws us i w h (by simpa using e)
    exact ⟨v, by rw [ev]; simpa using h1, h2⟩
mutual
theorem WayAt.keep {H H' : Hp} (k : Keep H H') : ∀ (w : W) (v : V), WayAt H v w → WayAt H' v w
  | .nothing, v, ⟨a, e, h⟩ => ⟨a, e, k.tup h⟩
  | .one, v, ⟨a, e, h⟩ => ⟨a, e, k.tup h⟩
  | .letter _, v, ⟨a, e, h⟩ => ⟨a, e, k.tup h⟩
  | .call _, v, ⟨a, e, h⟩ => ⟨a, e, k.tup h⟩
  | .row ws, v, ⟨a, l, vs, e, h, h2, h3⟩ => ⟨a, l, vs, e, k.tup h, k.lst h2, WaysAt.keep k ws vs h3⟩
  | .choice ws, v, ⟨a, l, vs, e, h, h2, h3⟩ => ⟨a, l, vs, e, k.tup h, k.lst h2, WaysAt.keep k ws vs h3⟩
  | .again w, v, ⟨a, u, e, h, h2⟩ => ⟨a, u, e, k.tup h, WayAt.keep k w u h2⟩
  | .maybe w, v, ⟨a, u, e, h, h2⟩ => ⟨a, u, e, k.tup h, WayAt.keep k w u h2⟩
  | .ahead w, v, ⟨a, u, e, h, h2⟩ => ⟨a, u, e, k.tup h, WayAt.keep k w u h2⟩
  | .unless w, v, ⟨a, u, e, h, h2⟩ => ⟨a, u, e, k.tup h, WayAt.keep k w u h2⟩
theorem WaysAt.keep {H H' : Hp} (k : Keep H H') : ∀ (ws : List W) (vs : List V), WaysAt H vs ws → WaysAt H' vs ws
  | [], _, h => h
  | w :: ws, vs, ⟨u, us, e, h, h2⟩ => ⟨u, us, e, WayAt.keep k w u h, WaysAt.keep k ws us h2⟩
end
mutual
theorem WayAt.dp {K : PySem.W.Frag} {H : Hp} : ∀ (w : W) (v : V), WayAt H v w → Dp K H v (W.data w)
  | .nothing, v, ⟨a, e, h⟩ => by rw [e]; exact .tup (SqT.of h) (.cons (.str _) .nil)
  | .one, v, ⟨a, e, h⟩ => by rw [e]; exact .tup (SqT.of h) (.cons (.str _) .nil)
  | .letter _, v, ⟨a, e, h⟩ => by rw [e]; exact .tup (SqT.of h) (.cons (.str _) (.cons (.str _) .nil))
  | .call _, v, ⟨a, e, h⟩ => by rw [e]; exact .tup (SqT.of h) (.cons (.str _) (.cons (.str _) .nil))
  | .row ws, v, ⟨a, l, vs, e, h, h2, h3⟩ => by rw [e]; exact .tup (SqT.of h) (.cons (.str _) (.cons (.lst (SqL.of h2) (WaysAt.dp ws vs h3)) .nil))
  | .choice ws, v, ⟨a, l, vs, e, h, h2, h3⟩ => by rw [e]; exact .tup (SqT.of h) (.cons (.str _) (.cons (.lst (SqL.of h2) (WaysAt.dp ws vs h3)) .nil))
  | .again w, v, ⟨a, u, e, h, h2⟩ => by rw [e]; exact .tup (SqT.of h) (.cons (.str _) (.cons (WayAt.dp w u h2) .nil))
  | .maybe w, v, ⟨a, u, e, h, h2⟩ => by rw [e]; exact .tup (SqT.of h) (.cons (.str _) (.cons (WayAt.dp w u h2) .nil))
  | .ahead w, v, ⟨a, u, e, h, h2⟩ => by rw [e]; exact .tup (SqT.of h) (.cons (.str _) (.cons (WayAt.dp w u h2) .nil))
  | .unless w, v, ⟨a, u, e, h, h2⟩ => by rw [e]; exact .tup (SqT.of h) (.cons (.str _) (.cons (WayAt.dp w u h2) .nil))
theorem WaysAt.dp {K : PySem.W.Frag} {H : Hp} : ∀ (ws : List W) (vs : List V), WaysAt H vs ws → DpAll K H vs (W.datas ws)
  | [], vs, h => by rw [show vs = [] from h]; exact .nil
  | w :: ws, vs, ⟨u, us, e, h, h2⟩ => by rw [e]; exact .cons (WayAt.dp w u h) (WaysAt.dp ws us h2)
end
-- letters that are letters
abbrev Az (z : List Nat) : Prop := ∀ c ∈ z, 97 ≤ c ∧ c ≤ 122
theorem strOk_sg {c : Nat} (h : c ≤ 122) : PyData.strOk (sg c) = true := by
  show (#[c] : Array Nat).all (fun x => decide (x < 0x110000)) = true
  simp
  omega
mutual
theorem W.lay {z : List Nat} (hz : Az z) : ∀ w : W, w.wf z → (W.data w).canLay0 = true
  | .nothing, _ => by decide +kernel
  | .one, _ => by decide +kernel
  | .letter c, h => by
    have q := strOk_sg (hz c h).2
    simp only [W.data, PyData.canLay0, PyData.canLayAll0, q, Bool.and_true, Bool.and_eq_true, and_true]
    decide +kernel
  | .call x, h => by cases h
  | .row ws, h => by
    have q := W.lays hz ws h.2
    simp only [W.data, PyData.canLay0, PyData.canLayAll0, q, Bool.and_true, Bool.and_eq_true, and_true]
    decide +kernel
  | .choice ws, h => by
    have q := W.lays hz ws h.2
    simp only [W.data, PyData.canLay0, PyData.canLayAll0, q, Bool.and_true, Bool.and_eq_true, and_true]
    decide +kernel
  | .again w, h => by
    have q := W.lay hz w h
    simp only [W.data, PyData.canLay0, PyData.canLayAll0, q, Bool.and_true, Bool.and_eq_true, and_true]
    decide +kernel
  | .maybe w, h => by
    have q := W.lay hz w h
    simp only [W.data, PyData.canLay0, PyData.canLayAll0, q, Bool.and_true, Bool.and_eq_true, and_true]
    decide +kernel
  | .ahead w, h => by
    have q := W.lay hz w h
    simp only [W.data, PyData.canLay0, PyData.canLayAll0, q, Bool.and_true, Bool.and_eq_true, and_true]
    decide +kernel
  | .unless w, h => by
    have q := W.lay hz w h
    simp only [W.data, PyData.canLay0, PyData.canLayAll0, q, Bool.and_true, Bool.and_eq_true, and_true]
    decide +kernel
theorem W.lays {z : List Nat} (hz : Az z) : ∀ ws : List W, W.wfs z ws → PyData.canLayAll0 (W.datas ws) = true
  | [], _ => rfl
  | w :: ws, h => by
    simp only [W.datas, PyData.canLayAll0, W.lay hz w h.1, W.lays hz ws h.2, Bool.and_self]
end
theorem W.shaped_list {z : List Nat} (hz : Az z) {ws : List W} (h : W.wfs z ws) (hs : W.sizes ws ≤ 31) : SeqAt.shaped (.list (W.datas ws)) = true := by
  unfold SeqAt.shaped
  have d := W.depth_datas ws
  rw [Bool.and_eq_true]
  refine ⟨W.lays hz ws h, decide_eq_true ?_⟩
  simp only [PyData.depth]
  omega
theorem datas_empty (ws : List W) : (W.datas ws).isEmpty = ws.isEmpty := by cases ws <;> rfl
end Wv
namespace Wv
open PySem PySem.Spec PyProof.Rows L2
def top (i : Nat) : Stmt := PySem.Challenge.pw_waystaken_k16_sums_going_back.main.body.getD i (.Pass ⟨0, 0, 0, 0⟩)
/-! ### the source of draws: what holds of it, whatever it draws -/
abbrev kC : Key := .inr (Str.ofString "cells")
abbrev kA : Key := .inr (Str.ofString "at")
abbrev kL : Key := .inr (Str.ofString "left")
def penF (l : Addr) (a b : Int) : List (Key × V) := [(kC, .ref l), (kA, .int a), (kL, .int b)]
theorem k12 : ¬ (kC = kA) := by decide
theorem k13 : ¬ (kC = kL) := by decide
theorem k23 : ¬ (kA = kL) := by decide
theorem k32 : ¬ (kL = kA) := by decide
theorem pen_cells (l : Addr) (a b : Int) : valV (penF l a b) kC = some (.ref l) := by
  unfold penF; rw [valV_pos rfl]
theorem pen_at (l : Addr) (a b : Int) : valV (penF l a b) kA = some (.int a) := by
  unfold penF; rw [valV_neg k12, valV_pos rfl]
theorem pen_left (l : Addr) (a b : Int) : valV (penF l a b) kL = some (.int b) := by
  unfold penF; rw [valV_neg k13, valV_neg k23, valV_pos rfl]
theorem put_at (l : Addr) (a b c : Int) : putK (penF l a b) kA (.int c) = penF l c b := by
  unfold putK
  rw [valV_any, pen_at, if_pos (show (some (V.int a)).isSome = true from rfl)]
  have h1 := k12; have h2 := k32
  unfold penF
  rw [List.map_cons, List.map_cons, List.map_cons, List.map_nil, if_neg h1, if_pos rfl, if_neg h2]
theorem put_left (l : Addr) (a b c : Int) : putK (penF l a b) kL (.int c) = penF l a c := by
  unfold putK
  rw [valV_any, pen_left, if_pos (show (some (V.int b)).isSome = true from rfl)]
  have h1 := k13; have h2 := k23
  unfold penF
  rw [List.map_cons, List.map_cons, List.map_cons, List.map_nil, if_neg h1, if_neg h2, if_pos rfl]
theorem get_cells {H : Hp} {p l : Addr} {a b : Int} (h : H p = some (.dK (penF l a b))) : DGet H p (.str "cells") (some (.ref l)) := by
  rw [← pen_cells l a b]; exact DGet.k (k := kC) h
theorem get_at {H : Hp} {p l : Addr} {a b : Int} (h : H p = some (.dK (penF l a b))) : DGet H p (.str "at") (some (.int a)) := by
  rw [← pen_at l a b]; exact DGet.k (k := kA) h
theorem get_left {H : Hp} {p l : Addr} {a b : Int} (h : H p = some (.dK (penF l a b))) : DGet H p (.str "left") (some (.int b)) := by
  rw [← pen_left l a b]; exact DGet.k (k := kL) h
theorem dput_at {H : Hp} {p l : Addr} {a b : Int} (c : Int) (h : H p = some (.dK (penF l a b))) : DPut H p (.str "at") (.int c) (upd H p (.dK (penF l c b))) := by
  rw [← put_at l a b c]; exact DPut.k (k := kA) h (by show 3 < sizeLine; decide)
theorem dput_left {H : Hp} {p l : Addr} {a b : Int} (c : Int) (h : H p = some (.dK (penF l a b))) : DPut H p (.str "left") (.int c) (upd H p (.dK (penF l a c))) := by
  rw [← put_left l a b c]; exact DPut.k (k := kL) h (by show 3 < sizeLine; decide)
/-- a pen: its dict, the list of its cells -/
structure Pen where
  d : Addr
  l : Addr
/-- the pen p, of which at most n draws have been made -/
structure PenAt (K : PySem.W.Frag) (H : Hp) (p : Pen) (n : Nat) : Prop where
  ex : ∃ (a b : Int) (cs : List Int), H p.d = some (.dK (penF p.l a b)) ∧ SqL K H p.l (cs.map V.int) ∧ cs.length ≤ 63 ∧ 0 ≤ a ∧ a ≤ (n : Int)
theorem PenAt.same {K : PySem.W.Frag} {H H' : Hp} {p : Pen} {n : Nat} (h : PenAt K H p n) (s : Same H H') : PenAt K H' p n := by
  obtain ⟨a, b, cs, h1, h2, h3, h4⟩ := h.ex
  exact ⟨a, b, cs, s _ _ h1, s.seq h2, h3, h4⟩
theorem PenAt.mono {K : PySem.W.Frag} {H : Hp} {p : Pen} {n m : Nat} (h : PenAt K H p n) (q : n ≤ m) : PenAt K H p m := by
  obtain ⟨a, b, cs, h1, h2, h3, h4, h5⟩ := h.ex
  exact ⟨a, b, cs, h1, h2, h3, h4, by omega⟩
theorem Keep.pen {H : Hp} {p l : Addr} {a b a' b' : Int} (h : H p = some (.dK (penF l a b))) : Keep H (upd H p (.dK (penF l a' b'))) := fun c o e => by
  by_cases z : c = p
  · rw [z, h] at e
    exact .inr ⟨_, _, ⟨(Option.some.inj e).symm, by rw [z]; exact upd_same⟩, ⟨_, _, rfl⟩, ⟨_, _, rfl⟩⟩
  · rw [upd_ne z]; exact .inl e
theorem PenAt.mk' {K : PySem.W.Frag} {H : Hp} {p : Pen} {a b a' b' : Int} {cs : List Int} {n : Nat} (h : H p.d = some (.dK (penF p.l a b))) (hs : SqL K H p.l (cs.map V.int)) (hl : cs.length ≤ 63) (h0 : 0 ≤ a') (h1 : a' ≤ (n : Int)) :
    PenAt K (upd H p.d (.dK (penF p.l a' b'))) p n := ⟨a', b', cs, upd_same, (Keep.pen h).seq hs, hl, h0, h1⟩
/-- a list that was new is written -/
theorem PenAt.put {K : PySem.W.Frag} {H H' : Hp} {p : Pen} {n m : Nat} {q : Addr} {xs ys : List V} (h0 : PenAt K H p m) (hq : H q = none) (h : PenAt K H' p n) (k : Keep H H') (e : H' q = some (.lst xs)) : PenAt K (upd H' q (.lst ys)) p n := by
  obtain ⟨_, _, cs, _, h2, h3, _⟩ := h0.ex
  obtain ⟨a, b, _, h1, _, _, h4, h5⟩ := h.ex
  have hpq : p.d ≠ q := ne_of h1 e (by intro z; cases z)
  exact ⟨a, b, cs, by rw [upd_ne hpq]; exact h1, (Keep.put hq k _).seq h2, h3, h4, h5⟩
/-! ### their promises -/
def LIM : Nat := 1000000000000
def spPen (K : PySem.W.Frag) : Sp := fun vs H Q _ => ∃ (a : Addr) (ns : List Int), vs = [.ref a] ∧ SqL K H a (ns.map V.int) ∧ ns.length ≤ 63 ∧ ∀ (p : Pen) (H' : Hp), Same H H' → PenAt K H' p 0 → Q (.ref p.d) H'
def spDraw (K : PySem.W.Frag) : Sp := fun vs H Q _ => ∃ (p : Pen) (m : Int) (n : Nat), vs = [.ref p.d, .int m] ∧ PenAt K H p n ∧ n < LIM ∧ 0 < m ∧ m < 1073741824 ∧
  ∀ (d : Int) (H' : Hp), 0 ≤ d → d < m → Keep H H' → PenAt K H' p (n + 1) → Q (.int d) H'
def spPick (K : PySem.W.Frag) : Sp := fun vs H Q _ => ∃ (p : Pen) (y : V) (n : Nat), vs = [.ref p.d, y] ∧ PenAt K H p n ∧ n < LIM ∧
  ((∃ (q : Addr) (xs : List V), y = .ref q ∧ SqL K H q xs ∧ 0 < xs.length ∧ xs.length ≤ 1000 ∧ ∀ (v : V) (H' : Hp), v ∈ xs → Keep H H' → PenAt K H' p (n + 1) → Q v H') ∨
   (∃ (z : List Nat), y = .str (tx z) ∧ 0 < z.length ∧ z.length ≤ 1000 ∧ ∀ (c : Nat) (H' : Hp), c ∈ z → Keep H H' → PenAt K H' p (n + 1) → Q (.str (sg c)) H'))
section
variable {P : Program} {w : World} {K : PySem.W.Frag} {mg : Str → Option Value} {base : Heap}
theorem dpAll_ints {H : Hp} : ∀ ns : List Int, DpAll K H (ns.map V.int) (ns.map PyData.int)
  | [] => .nil
  | n :: r => .cons (.int n) (dpAll_ints r)
theorem canLay_ints : ∀ ns : List Int, PyData.canLayAll0 (ns.map PyData.int) = true
  | [] => rfl
  | n :: r => by
    show (PyData.canLay0 (.int n) && PyData.canLayAll0 (r.map PyData.int)) = true
    rw [canLay_ints r]; rfl
theorem depth_ints : ∀ ns : List Int, PyData.depthAll (ns.map PyData.int) ≤ 1
  | [] => by decide
  | n :: r => by
    have h := depth_ints r
    simp only [List.map_cons, PyData.depthAll, PyData.depth]
    omega
theorem shaped_ints (ns : List Int) : SeqAt.shaped (.list (ns.map PyData.int)) = true := by
  unfold SeqAt.shaped
  have h := depth_ints ns
  rw [Bool.and_eq_true]
  refine ⟨?_, decide_eq_true ?_⟩
  · show PyData.canLayAll0 (ns.map PyData.int) = true
    exact canLay_ints ns
  · simp only [PyData.depth]
    omega
theorem eqv_nil (ds : List PyData) : PyData.eqv (.list ds) (.list []) = ds.isEmpty := by
  cases ds <;> simp [PyData.eqv, PyData.eqvAll]
theorem ints_get {ns : List Int} {i : Nat} {v : V} (h : (ns.map V.int)[i]? = some v) : ∃ z, v = .int z := by
  rw [List.getElem?_map] at h
  cases e : ns[i]? with
  | none => rw [e] at h; cases h
  | some z => rw [e] at h; exact ⟨z, (Option.some.inj h).symm⟩
theorem cmul_fmod (x : Int) {m : Int} (h0 : 0 < m) (h1 : m < 18446744073709551616) (j : Int) : CMul (x.fmod m) j := by
  have h := fmod_in x h0
  exact .inl ⟨by omega, by omega⟩
abbrev s_l_pen : Stmt := top 58
theorem sc_l_pen : FnScope ["_law_script"] ["_law_script"] (defScope s_l_pen) := ⟨rfl, rfl, rfl, by decide +kernel, rfl, by decide +kernel, by decide +kernel⟩
theorem cutV_len (xs : List V) (lo hi : Option Int) : (cutV xs lo hi).length ≤ xs.length := by
  unfold cutV
  rw [List.length_take, List.length_drop]
  omega
theorem cutV_ints (ns : List Int) (lo hi : Option Int) : ∃ cs : List Int, cutV (ns.map V.int) lo hi = cs.map V.int ∧ cs.length ≤ ns.length := by
  unfold cutV
  refine ⟨(ns.drop (HT.sIx (ns.map V.int).length 0 lo)).take (HT.sIx (ns.map V.int).length (ns.map V.int).length hi - HT.sIx (ns.map V.int).length 0 lo), by rw [List.map_take, List.map_drop], ?_⟩
  rw [List.length_take, List.length_drop]
  omega
theorem mergePen (l : Addr) : mergeK [] (penF l 0 0) = penF l 0 0 := by
  have e1 : putK ([] : List (Key × V)) kC (.ref l) = [(kC, V.ref l)] := putK_new _ rfl
  have e2 : putK ([(kC, V.ref l)] : List (Key × V)) kA (.int 0) = [(kC, V.ref l), (kA, V.int 0)] := putK_new _ (by rw [valV_neg k12]; rfl)
  have e3 : putK ([(kC, V.ref l), (kA, V.int 0)] : List (Key × V)) kL (.int 0) = penF l 0 0 := putK_new _ (by rw [valV_neg k13, valV_neg k23]; rfl)
  show putK (putK (putK ([] : List (Key × V)) kC (.ref l)) kA (.int 0)) kL (.int 0) = _
  rw [e1, e2, e3]
theorem d_l_pen (h : Here K mg "_law_pen" s_l_pen ["_law_script"]) (B : Bs mg) : DefOk P w K mg base 1 "_law_pen" ["_law_script"] (spPen K) := by
  have B_list := B.list
  refine h.ok sc_l_pen (fun vs H Q E h => by obtain ⟨a, ns, rfl, _⟩ := h; rfl) (fun f cdv A outer s H vs Q E hr h => ?_)
  obtain ⟨a, ns, rfl, hS, hl, k⟩ := h
  refine ⟨_, (pss_one (ps_ret (pe_disp (pps_cons pe_str (pe_callTy call_list_of rfl B_list (by decide +kernel) (pa_cons (pe_slice sl_list (pv 0) po_none (po_some pe_int)) pa_nil)) (pps_cons pe_str pe_int (pps_cons pe_str pe_int pps_nil))) (by rfl) (by rfl) (fun z => by cases z) (by decide)))), ?_⟩
  intro p hp
  have s0 : Same H (upd H p (.dK [])) := Same.new hp _
  refine ⟨_, rfl, _, rfl, a, _, rfl, s0.seq hS, fun q hq => ?_⟩
  obtain ⟨cs, ec, hc⟩ := cutV_ints ns none (some 63)
  have npq : p ≠ q := ne_of_none upd_same hq
  refine ⟨q, _, rfl, .inl (SqL.of upd_same), fun l hl' => ?_⟩
  have npl : p ≠ l := ne_of_none (by rw [upd_ne npq]; exact upd_same) hl'
  refine ⟨by rw [upd_ne npl, upd_ne npq, upd_same], penF l 0 0, rfl, by show 3 ≤ 15; decide, ?_⟩
  rw [mergePen]
  refine k ⟨p, l⟩ _ ?_ ⟨0, 0, cs, upd_same, ?_, by omega, by omega, by omega⟩
  · exact Same.put hp ((s0.trans (Same.new hq _)).trans (Same.new hl' _)) _
  · refine SqL.of ?_
    rw [upd_ne (Ne.symm npl), upd_same, ec]
abbrev s_l_draw : Stmt := top 59
theorem sc_l_draw : FnScope ["_law_pen_here", "_law_many", "_law_digit", "_law_at", "_law_cell", "_law_mixed"] ["_law_pen_here", "_law_many"] (defScope s_l_draw) := ⟨rfl, rfl, rfl, by decide +kernel, rfl, by decide +kernel, by decide +kernel⟩
theorem d_l_draw (h : Here K mg "_law_draw" s_l_draw ["_law_pen_here", "_law_many"]) (B : Bs mg) : DefOk P w K mg base 1 "_law_draw" ["_law_pen_here", "_law_many"] (spDraw K) := by
  have B_int := B.int
  have B_len := B.len
  refine h.ok sc_l_draw (fun vs H Q E h => by obtain ⟨a, ns, n, rfl, _⟩ := h; rfl) (fun f cdv A outer s H vs Q E hr h => ?_)
  obtain ⟨p, m, n, rfl, hP, hn, hm0, hm1, k⟩ := h
  obtain ⟨a, b, cs, hp, hS, hc, ha0, ha1⟩ := hP.ex
  have hu := hu_of hr
  have hnl : (n : Int) < 1000000000000 := by unfold LIM at hn; omega
  have hmn : m ≠ 0 := by omega
  have hdiv : CDivN b m := ⟨hmn, by omega⟩
  refine ⟨_, (pss_cons (ps_if (pt_cmpR op_ge (pe_dget hu (pv 0) pe_str (fun _ _ => rfl)) (pv 1) (nomark _)) (pss_cons (ps_set (i := 2) sc_l_draw.nd rfl (Or.inl rfl) (pe_op op_modN (pe_callTy call_int1 rfl B_int (by decide +kernel) (pa_cons (pe_dget hu (pv 0) pe_str (fun _ _ => rfl)) pa_nil)) (pv 1)))
  (pss_cons (ps_dput hu (pv 0) pe_str (pe_op op_fdivN (pe_dget hu (pv 0) pe_str (fun _ _ => rfl)) (pv 1)) rfl)
  (pss_one (ps_ret (pv 2))))) pss_nil)
  (pss_cons (ps_set (i := 3) sc_l_draw.nd rfl (Or.inl rfl) (pe_dget hu (pv 0) pe_str (fun _ _ => rfl)))
  (pss_cons (ps_dput hu (pv 0) pe_str (pe_op op_add (pv 3) pe_int) rfl)
  (pss_cons (ps_set (i := 4) sc_l_draw.nd rfl (Or.inl rfl) (pe_op op_add (pe_op op_mul pe_int (pv 3)) pe_int))
  (pss_cons (ps_if (pt_cmpR (op_neD hr.units) (pe_dget hu (pv 0) pe_str (fun _ _ => rfl)) (pe_lst pa_nil) (nomark _)) (pss_one (ps_set (i := 4) sc_l_draw.nd rfl (Or.inl rfl) (pe_ix ix_list (pe_dget hu (pv 0) pe_str (fun _ _ => rfl)) (pe_op op_modN (pe_callTy call_int1 rfl B_int (by decide +kernel) (pa_cons (pv 3) pa_nil)) (pe_callB call_len_seq rfl B_len PySem.boot_len (pa_cons (pe_dget hu (pv 0) pe_str (fun _ _ => rfl)) pa_nil))) (fun _ _ => rfl)))) pss_nil)
  (pss_cons (ps_if (PW.pt (pw_and (pt_cmpR op_lt (pv 3) (pe_callB call_len_seq rfl B_len PySem.boot_len (pa_cons (pe_dget hu (pv 0) pe_str (fun _ _ => rfl)) pa_nil)) (nomark _)) (pw_and1 (pt_cmpR op_ge (pv 4) (pe_op op_pow pe_int pe_int) (nomark _))))) (pss_cons (ps_dput hu (pv 0) pe_str (pe_op op_fdivN (pe_op op_sub (pv 4) (pe_op op_pow pe_int pe_int)) (pv 1)) rfl)
  (pss_one (ps_ret (pe_op op_modN (pe_callTy call_int1 rfl B_int (by decide +kernel) (pa_cons (pe_op op_sub (pv 4) (pe_op op_pow pe_int pe_int)) pa_nil)) (pv 1))))) pss_nil)
  (pss_cons (ps_set (i := 5) sc_l_draw.nd rfl (Or.inl rfl) (pe_op op_add (pe_op op_add (pe_op op_add (pe_op op_mul (pe_op op_modN (pe_callTy call_int1 rfl B_int (by decide +kernel) (pa_cons (pv 4) pa_nil)) pe_int) pe_int) (pe_op op_mul (pe_op op_mul pe_int (pv 3)) (pv 3))) (pe_op op_mul pe_int (pv 3))) pe_int))
  (pss_cons (ps_set (i := 5) sc_l_draw.nd rfl (Or.inl rfl) (pe_op op_modN (pe_callTy call_int1 rfl B_int (by decide +kernel) (pa_cons (pv 5) pa_nil)) pe_int))
  (pss_cons (ps_set (i := 5) sc_l_draw.nd rfl (Or.inl rfl) (pe_op op_modN (pe_callTy call_int1 rfl B_int (by decide +kernel) (pa_cons (pe_op op_mul (pv 5) (pe_op op_add (pv 5) pe_int)) pa_nil)) pe_int))
  (pss_one (ps_ret (pe_op op_modN (pe_callTy call_int1 rfl B_int (by decide +kernel) (pa_cons (pe_op op_fdivN (pe_op op_modN (pe_callTy call_int1 rfl B_int (by decide +kernel) (pa_cons (pe_op op_mul (pv 5) (pv 5)) pa_nil)) pe_int) pe_int) pa_nil)) (pv 1))))))))))))), ?_⟩
  -- if pen["left"] >= many
  refine ⟨_, rfl, p.d, _, rfl, get_left hp, _, rfl, _, _, rfl, rfl, _, rfl, ?_⟩
  refine ite2 (fun _ => ?_) (fun _ => ?_)
  · refine ⟨_, rfl, p.d, _, rfl, get_left hp, .inl ⟨_, rfl, _, rfl, _, _, rfl, rfl, hmn, ?_⟩⟩
    refine ⟨_, rfl, p.d, _, rfl, get_left hp, _, rfl, _, _, rfl, rfl, ⟨hmn, by omega⟩, _, rfl, p.d, _, rfl, dput_left _ hp, _, rfl, ?_⟩
    exact k _ _ (fmod_in _ hm0).1 (fmod_in _ hm0).2 (Keep.pen hp) (.mk' hp hS hc ha0 (by omega))
  · refine ⟨_, rfl, p.d, _, rfl, get_at hp, ?_⟩
    refine ⟨_, rfl, _, _, rfl, rfl, _, rfl, p.d, _, rfl, dput_at _ hp, ?_⟩
    have hp1 : upd H p.d (.dK (penF p.l (a + 1) b)) p.d = some (.dK (penF p.l (a + 1) b)) := upd_same
    have hS1 := (Keep.pen (a' := a + 1) (b' := b) hp).seq hS
    refine ⟨_, rfl, _, _, rfl, rfl, .inl ⟨by decide, by decide⟩, _, _, rfl, rfl, ?_⟩
    refine ⟨_, rfl, p.d, _, rfl, get_cells hp1, ?_⟩
    refine ⟨by show 0 ≤ sizeLine; decide, fun q hq => ?_⟩
    have s1 := Same.new hq (.lst [])
    have npq : p.d ≠ q := ne_of_none hp1 hq
    have hp2 := s1 _ _ hp1
    have hS2 := s1.seq hS1
    refine ⟨.list (cs.map PyData.int), .list [], .lst hS2 (dpAll_ints cs), .lst (SqL.of upd_same) .nil, shaped_ints cs, by decide, _, rfl, ?_⟩
    rw [eqv_nil]
    have hk : Keep H (upd (upd H p.d (.dK (penF p.l (a + 1) b))) q (.lst [])) := (Keep.pen hp).trans (.of s1)
    have hP2 : PenAt K (upd (upd H p.d (.dK (penF p.l (a + 1) b))) q (.lst [])) p (n + 1) := ⟨a + 1, b, cs, hp2, hS2, hc, by omega, by omega⟩
    have hlen : ((cs.map V.int).length : Int) ≤ 63 := by rw [List.length_map]; omega
    refine ite2 (fun e => ?_) (fun _ => ?_)
    · have hpos : 0 < ((cs.map V.int).length : Int) := by
        cases cs with
        | nil => simp at e
        | cons c r => rw [List.length_map, List.length_cons]; omega
      have hb := fmod_in a hpos
      obtain ⟨v, hv1, hv2⟩ := atI_of (xs := cs.map V.int) hb.1 hb.2
      obtain ⟨z, rfl⟩ := ints_get hv1
      refine ⟨_, rfl, p.d, _, rfl, get_cells hp2, ?_⟩
      walk_at "rd"
      refine ⟨p.d, _, rfl, get_cells hp2, _, _, rfl, .inl hS2, ?_⟩
      walk_at "rd"
      refine ⟨by omega, _, _, _, _, rfl, rfl, hS2, hv2, ?_⟩
      walk_at "rd"
      refine ⟨p.d, _, rfl, get_cells hp2, _, _, rfl, .inl hS2, ?_⟩
      walk_at "rd"
      refine ite2 (fun _ => ?_) (fun _ => ?_)
      · walk_at "rd"
        refine ⟨⟨by decide, by decide, by decide⟩, ?_⟩
        walk_at "rd"
        refine ite2 (fun _ => ?_) (fun _ => ?_)
        · walk_at "rd"
          refine ⟨⟨by decide, by decide, by decide⟩, ?_⟩
          walk_at "rd"
          refine ⟨⟨hmn, by omega⟩, ?_⟩
          walk_at "rd"
          refine ⟨p.d, _, rfl, dput_left _ hp2, ?_⟩
          walk_at "rd"
          refine ⟨⟨by decide, by decide, by decide⟩, ?_⟩
          walk_at "rd"
          refine ⟨hmn, ?_⟩
          exact k _ _ (fmod_in _ hm0).1 (fmod_in _ hm0).2 (hk.trans (Keep.pen hp2)) (.mk' hp2 hS2 hc (by omega) (by omega))
        · walk_at "rd"
          refine ⟨show (2147483587 : Int) ≠ 0 by decide, ?_⟩
          walk_at "rd"
          refine ⟨.inr ⟨by decide, by decide⟩, ?_⟩
          walk_at "rd"
          refine ⟨.inl ⟨by decide, by decide⟩, ?_⟩
          walk_at "rd"
          refine ⟨.inr ⟨by omega, by omega⟩, ?_⟩
          walk_at "rd"
          refine ⟨.inl ⟨by decide, by decide⟩, ?_⟩
          walk_at "rd"
          refine ⟨show (2147483629 : Int) ≠ 0 by decide, ?_⟩
          walk_at "rd"
          refine ⟨cmul_fmod _ (by decide) (by decide) _, ?_⟩
          walk_at "rd"
          refine ⟨show (2147483549 : Int) ≠ 0 by decide, ?_⟩
          walk_at "rd"
          refine ⟨cmul_fmod _ (by decide) (by decide) _, ?_⟩
          walk_at "rd"
          refine ⟨show (2147483579 : Int) ≠ 0 by decide, ?_⟩
          walk_at "rd"
          refine ⟨⟨by decide, by decide⟩, ?_⟩
          walk_at "rd"
          refine ⟨hmn, ?_⟩
          exact k _ _ (fmod_in _ hm0).1 (fmod_in _ hm0).2 hk hP2
      · walk_at "rd"
        refine ⟨show (2147483587 : Int) ≠ 0 by decide, ?_⟩
        walk_at "rd"
        refine ⟨.inr ⟨by decide, by decide⟩, ?_⟩
        walk_at "rd"
        refine ⟨.inl ⟨by decide, by decide⟩, ?_⟩
        walk_at "rd"
        refine ⟨.inr ⟨by omega, by omega⟩, ?_⟩
        walk_at "rd"
        refine ⟨.inl ⟨by decide, by decide⟩, ?_⟩
        walk_at "rd"
        refine ⟨show (2147483629 : Int) ≠ 0 by decide, ?_⟩
        walk_at "rd"
        refine ⟨cmul_fmod _ (by decide) (by decide) _, ?_⟩
        walk_at "rd"
        refine ⟨show (2147483549 : Int) ≠ 0 by decide, ?_⟩
        walk_at "rd"
        refine ⟨cmul_fmod _ (by decide) (by decide) _, ?_⟩
        walk_at "rd"
        refine ⟨show (2147483579 : Int) ≠ 0 by decide, ?_⟩
        walk_at "rd"
        refine ⟨⟨by decide, by decide⟩, ?_⟩
        walk_at "rd"
        refine ⟨hmn, ?_⟩
        exact k _ _ (fmod_in _ hm0).1 (fmod_in _ hm0).2 hk hP2
    · walk_at "rd"
      refine ⟨p.d, _, rfl, get_cells hp2, _, _, rfl, .inl hS2, ?_⟩
      walk_at "rd"
      refine ite2 (fun _ => ?_) (fun _ => ?_)
      · walk_at "rd"
        refine ⟨⟨by decide, by decide, by decide⟩, ?_⟩
        walk_at "rd"
        refine ite2 (fun _ => ?_) (fun _ => ?_)
        · walk_at "rd"
          refine ⟨⟨by decide, by decide, by decide⟩, ?_⟩
          walk_at "rd"
          refine ⟨⟨hmn, by omega⟩, ?_⟩
          walk_at "rd"
          refine ⟨p.d, _, rfl, dput_left _ hp2, ?_⟩
          walk_at "rd"
          refine ⟨⟨by decide, by decide, by decide⟩, ?_⟩
          walk_at "rd"
          refine ⟨hmn, ?_⟩
          exact k _ _ (fmod_in _ hm0).1 (fmod_in _ hm0).2 (hk.trans (Keep.pen hp2)) (.mk' hp2 hS2 hc (by omega) (by omega))
        · walk_at "rd"
          refine ⟨show (2147483587 : Int) ≠ 0 by decide, ?_⟩
          walk_at "rd"
          refine ⟨.inr ⟨by decide, by decide⟩, ?_⟩
          walk_at "rd"
          refine ⟨.inl ⟨by decide, by decide⟩, ?_⟩
          walk_at "rd"
          refine ⟨.inr ⟨by omega, by omega⟩, ?_⟩
          walk_at "rd"
          refine ⟨.inl ⟨by decide, by decide⟩, ?_⟩
          walk_at "rd"
          refine ⟨show (2147483629 : Int) ≠ 0 by decide, ?_⟩
          walk_at "rd"
          refine ⟨cmul_fmod _ (by decide) (by decide) _, ?_⟩
          walk_at "rd"
          refine ⟨show (2147483549 : Int) ≠ 0 by decide, ?_⟩
          walk_at "rd"
          refine ⟨cmul_fmod _ (by decide) (by decide) _, ?_⟩
          walk_at "rd"
          refine ⟨show (2147483579 : Int) ≠ 0 by decide, ?_⟩
          walk_at "rd"
          refine ⟨⟨by decide, by decide⟩, ?_⟩
          walk_at "rd"
          refine ⟨hmn, ?_⟩
          exact k _ _ (fmod_in _ hm0).1 (fmod_in _ hm0).2 hk hP2
      · walk_at "rd"
        refine ⟨show (2147483587 : Int) ≠ 0 by decide, ?_⟩
        walk_at "rd"
        refine ⟨.inr ⟨by decide, by decide⟩, ?_⟩
        walk_at "rd"
        refine ⟨.inl ⟨by decide, by decide⟩, ?_⟩
        walk_at "rd"
        refine ⟨.inr ⟨by omega, by omega⟩, ?_⟩
        walk_at "rd"
        refine ⟨.inl ⟨by decide, by decide⟩, ?_⟩
        walk_at "rd"
        refine ⟨show (2147483629 : Int) ≠ 0 by decide, ?_⟩
        walk_at "rd"
        refine ⟨cmul_fmod _ (by decide) (by decide) _, ?_⟩
        walk_at "rd"
        refine ⟨show (2147483549 : Int) ≠ 0 by decide, ?_⟩
        walk_at "rd"
        refine ⟨cmul_fmod _ (by decide) (by decide) _, ?_⟩
        walk_at "rd"
        refine ⟨show (2147483579 : Int) ≠ 0 by decide, ?_⟩
        walk_at "rd"
        refine ⟨⟨by decide, by decide⟩, ?_⟩
        walk_at "rd"
        refine ⟨hmn, ?_⟩
        exact k _ _ (fmod_in _ hm0).1 (fmod_in _ hm0).2 hk hP2
end
end Wv
namespace Wv
open PySem PySem.Spec PyProof.Rows L2
/-! ### texts as codes -/
theorem tx_len (l : List Nat) : (tx l).length = l.length := by simp [tx, Str.length]
theorem tx_app (a b : List Nat) : tx a ++ tx b = tx (a ++ b) := by
  show Str.mk (a.toArray ++ b.toArray) = Str.mk (a ++ b).toArray
  simp
theorem tx_list (l : List Nat) : (tx l).cps.toList = l := rfl
theorem tx_take (l : List Nat) (k : Nat) : cutS (tx l) none (some (k : Int)) = tx (l.take k) := by
  unfold cutS
  rw [tx_len, tx_list, HT.sIx_none, HT.sIx_nat, List.drop_zero, Nat.sub_zero]
  unfold tx
  congr 2
  rw [List.take_eq_take_iff]
  omega
theorem tx_drop (l : List Nat) (k : Nat) : cutS (tx l) (some (k : Int)) none = tx (l.drop k) := by
  unfold cutS
  rw [tx_len, tx_list, HT.sIx_none, HT.sIx_nat]
  unfold tx
  congr 2
  by_cases h : k ≤ l.length
  · rw [Nat.min_eq_left h, List.take_of_length_le (by rw [List.length_drop]; omega)]
  · rw [Nat.min_eq_right (by omega), Nat.sub_self, List.take_zero, List.drop_eq_nil_of_le (by omega)]
abbrev alpha : List Nat := [97, 98, 99, 100, 101, 102, 103, 104, 105, 106, 107, 108, 109, 110, 111, 112, 113, 114, 115, 116, 117, 118, 119, 120, 121, 122]
theorem alpha_tx : Str.ofString "abcdefghijklmnopqrstuvwxyz" = tx alpha := by decide +kernel
theorem empty_tx : Str.ofString "" = tx [] := by decide +kernel
theorem alpha_az : Az alpha := by decide
theorem alpha_nd : alpha.Nodup := by decide
theorem perm_move {l fd : List Nat} {k : Nat} (h : k < l.length) (q : (fd ++ l).Perm alpha) : ((fd ++ [l[k]]) ++ (l.take k ++ l.drop (k + 1))).Perm alpha := by
  refine List.Perm.trans ?_ q
  rw [List.append_assoc]
  refine List.Perm.append_left fd ?_
  have e : l = l.take k ++ (l[k] :: l.drop (k + 1)) := by rw [← List.drop_eq_getElem_cons h, List.take_append_drop]
  refine List.Perm.trans ?_ (List.Perm.of_eq e.symm)
  exact (List.perm_middle (a := l[k]) (l₁ := l.take k) (l₂ := l.drop (k + 1))).symm
def spSigns (K : PySem.W.Frag) : Sp := fun vs H Q _ => ∃ (p : Pen) (m n : Nat), vs = [.ref p.d, .int (m : Int)] ∧ PenAt K H p n ∧ n + 30 < LIM ∧ m ≤ 20 ∧
  ∀ (z : List Nat) (H' : Hp), z.length = m → z.Nodup → Az z → Keep H H' → PenAt K H' p (n + m) → Q (.str (tx z)) H'
/-- leaves: the draws that they may make are counted -/
def spLeaf (K : PySem.W.Frag) : Sp := fun vs H Q _ => ∃ (p : Pen) (z : List Nat) (n : Nat), vs = [.ref p.d, .str (tx z)] ∧ PenAt K H p n ∧ n + 30 < LIM ∧ 0 < z.length ∧ z.length ≤ 100 ∧
  ∀ (v : V) (w : W) (H' : Hp), w.size = 1 → w.wf z → WayAt (newer H H') v w → Keep H H' → PenAt K H' p (n + 2) → Q v H'
def spWayOf (K : PySem.W.Frag) (s : Nat) : Sp := fun vs H Q _ => ∃ (p : Pen) (z : List Nat) (m n : Nat), vs = [.ref p.d, .str (tx z), .int (m : Int)] ∧ PenAt K H p n ∧ n + 4 * m + 30 < LIM ∧ 0 < z.length ∧ z.length ≤ 100 ∧ Az z ∧ 0 < m ∧ m ≤ s ∧ m ≤ 30 ∧
  ∀ (v : V) (w : W) (H' : Hp), w.size = m → w.wf z → WayAt (newer H H') v w → Keep H H' → PenAt K H' p (n + (4 * m - 2)) → Q v H'
def spWay (K : PySem.W.Frag) : Sp := fun vs H Q _ => ∃ (p : Pen) (z : List Nat) (m n : Nat), vs = [.ref p.d, .str (tx z), .int (m : Int)] ∧ PenAt K H p n ∧ n + 300 < LIM ∧ 0 < z.length ∧ z.length ≤ 100 ∧ Az z ∧ 0 < m ∧ m ≤ 30 ∧
  ∀ (v : V) (w : W) (H' : Hp), w.size ≤ m → w.wf z → WayAt (newer H H') v w → Keep H H' → PenAt K H' p (n + 200) → Q v H'
section
variable {P : Program} {w : World} {K : PySem.W.Frag} {mg : Str → Option Value} {base : Heap}
abbrev s_l_signs : Stmt := top 60
theorem sc_l_signs : FnScope ["_law_pen_here", "_law_many", "_law_left", "_law_found", "_law_turn", "_law_at"] ["_law_pen_here", "_law_many"] (defScope s_l_signs) := ⟨rfl, rfl, rfl, by decide +kernel, rfl, by decide +kernel, by decide +kernel⟩
theorem d_l_signs (h : Here K mg "_law_signs" s_l_signs ["_law_pen_here", "_law_many"]) (B : Bs mg) (G_l_draw : DefOk P w K mg base 1 "_law_draw" ["_law_pen_here", "_law_many"] (spDraw K)) : DefOk P w K mg base 2 "_law_signs" ["_law_pen_here", "_law_many"] (spSigns K) := by
  have B_len := B.len
  have B_range := B.range
  refine h.ok sc_l_signs (fun vs H Q E h => by obtain ⟨a, q, n, rfl, _⟩ := h; rfl) (fun f cdv A outer s H vs Q E hr h => ?_)
  obtain ⟨p, m, n, rfl, hP, hn, hm, k⟩ := h
  refine ⟨_, (pss_cons (ps_asg (pe_tup (pa_cons pe_str (pa_cons pe_str pa_nil))) (pg_tup rfl (pgs_cons (pg_name (i := 2) sc_l_signs.nd rfl (Or.inl rfl)) (pgs_cons (pg_name (i := 3) sc_l_signs.nd rfl (Or.inl rfl)) pgs_nil))))
  (pss_cons (ps_for PassesOwn.never rfl (pi_range1 rfl B_range (pa_cons (pv 1) pa_nil)) (pg_name (i := 4) sc_l_signs.nd rfl (Or.inl rfl))
   (pss_cons (ps_set (i := 5) sc_l_signs.nd rfl (Or.inl rfl) (pe_callD G_l_draw (hr.mono (by first | decide | omega)) rfl (pa_cons (pv 0) (pa_cons (pe_callB call_len_str rfl B_len PySem.boot_len (pa_cons (pv 2) pa_nil)) pa_nil))))
  (pss_one (ps_par (i := 3) (j := 2) rfl sc_l_signs.nd rfl rfl (by decide) rfl rfl (pa_cons (pe_op op_add_str (pv 3) (pe_ix ix_str (pv 2) (pv 5) (fun _ _ => rfl))) (pa_cons (pe_op op_add_str (pe_slice sl_str (pv 2) po_none (po_some (pv 5))) (pe_slice sl_str (pv 2) (po_some (pe_op op_add (pv 5) pe_int)) po_none)) pa_nil)) (by rfl)))))
  (pss_one (ps_ret (pv 3))))), ?_⟩
  refine ⟨by show 2 ≤ sizeLine; decide, fun t ht => ?_⟩
  have st := Same.new ht (.tup [.str (Str.ofString "abcdefghijklmnopqrstuvwxyz"), .str (Str.ofString "")])
  refine ⟨t, _, rfl, SqT.of upd_same, rfl, ?_⟩
  refine ⟨_, _, rfl, _, _, rfl, rfl, _, rfl, (m : Int), rfl, by omega, by omega, ?_⟩
  refine for_range (lo := 0) (n := (m : Int).toNat) (fun i σ H' => ∃ (lf fd : List Nat) (v4 v5 : Option V), σ = [some (.ref p.d), some (.int m), some (.str (tx lf)), some (.str (tx fd)), v4, v5] ∧ fd.length = i ∧ (fd ++ lf).Perm alpha ∧ Keep H H' ∧ PenAt K H' p (n + i)) ?_ ?_ ?_
  · exact ⟨alpha, [], none, none, by rw [← alpha_tx, ← empty_tx]; rfl, rfl, .refl _, .of st, hP.same st⟩
  · rintro i σ H1 hi ⟨lf, fd, v4, v5, rfl, hl, hp, hk, hP1⟩
    have e26 : fd.length + lf.length = 26 := by rw [← List.length_append, hp.length_eq]; rfl
    have hsz : (tx lf).length = lf.length := tx_len lf
    refine ⟨_, rfl, _, rfl, _, rfl, by rw [hsz]; exact Nat.le_of_lt (small' (by omega)), p, _, _, rfl, hP1, by omega, by rw [hsz]; omega, by rw [hsz]; omega, fun d H2 d0 d1 k2 hP2 => ?_⟩
    rw [hsz] at d1
    obtain ⟨j, rfl⟩ : ∃ j : Nat, d = (j : Int) := ⟨d.toNat, by omega⟩
    have hj : j < lf.length := by omega
    have g1 : (tx fd).length + (sg lf[j]).length ≤ sizeLine := by rw [tx_len]; exact Nat.le_of_lt (small' (by show fd.length + 1 ≤ _; omega))
    walk_at "rd"
    have hz : (tx lf).length ≤ sizeLine := by rw [tx_len]; exact Nat.le_of_lt (small' (by omega))
    refine ⟨tx lf, _, lf[j], rfl, rfl, hz, atI_nat (by rw [tx_list]; exact List.getElem?_eq_getElem hj), ?_⟩
    walk_at "rd"
    refine ⟨g1, ?_⟩
    walk_at "rd"
    refine ⟨hz, ?_⟩
    walk_at "rd"
    refine ⟨hz, ?_⟩
    walk_at "rd"
    have ej : ((j : Int) + 1) = ((j + 1 : Nat) : Int) := by omega
    have g2 : (cutS (tx lf) none (some (j : Int))).length + (cutS (tx lf) (some ((j : Int) + 1)) none).length ≤ sizeLine := by
      rw [ej, tx_take, tx_drop, tx_len, tx_len, List.length_take, List.length_drop]
      exact Nat.le_of_lt (small' (by omega))
    refine ⟨g2, ?_⟩
    walk_at "rd"
    refine ⟨_, _, rfl, lf.take j ++ lf.drop (j + 1), fd ++ [lf[j]], some (.int (0 + i)), some (.int j), ?_, by rw [List.length_append, hl]; rfl, perm_move hj hp, hk.trans k2, hP2⟩
    show [some (V.ref p.d), some (V.int m), some (V.str (cutS (tx lf) none (some (j : Int)) ++ cutS (tx lf) (some ((j : Int) + 1)) none)), some (V.str (tx fd ++ sg lf[j])), some (V.int (0 + i)), some (V.int j)] = _
    rw [ej, tx_take, tx_drop, tx_app, show sg lf[j] = tx [lf[j]] from rfl, tx_app]
  · rintro σ H1 ⟨lf, fd, v4, v5, rfl, hl, hp, hk, hP1⟩
    refine ⟨_, rfl, ?_⟩
    have nd : (fd ++ lf).Nodup := hp.nodup_iff.mpr alpha_nd
    exact k fd H1 (by omega) (List.nodup_append.mp nd).1 (fun c hc => alpha_az c (hp.mem_iff.mp (List.mem_append_left _ hc))) hk (by rw [Int.toNat_natCast] at hP1; exact hP1)
end
end Wv
namespace Wv
open PySem PySem.Spec PyProof.Rows L2
/-! ### ways as objects of the program -/
structure Cs where
  lt : Addr
  on : Addr
  no : Addr
  ro : Addr
  ch : Addr
  ag : Addr
  ma : Addr
  ah : Addr
  un : Addr
  ca : Addr
/-- the class of a way -/
def Cs.of (c : Cs) : W → Addr
  | .one => c.on
  | .nothing => c.no
  | .letter _ => c.lt
  | .call _ => c.ca
  | .row _ => c.ro
  | .choice _ => c.ch
  | .again _ => c.ag
  | .maybe _ => c.ma
  | .ahead _ => c.ah
  | .unless _ => c.un
/-- what a way notes of itself: the name of its first call, how many Agains stand within one another -/
def fV : Option Str → V
  | none => .non
  | some x => .str x
mutual
def W.called : W → Option Str
  | .call x => some x
  | .row ws => W.calleds ws | .choice ws => W.calleds ws
  | .again w => w.called | .maybe w => w.called | .ahead w => w.called | .unless w => w.called
  | _ => none
def W.calleds : List W → Option Str
  | [] => none
  | w :: ws => match w.called with
    | some x => some x
    | none => W.calleds ws
end
mutual
def W.rounds : W → Nat
  | .row ws => W.roundss ws | .choice ws => W.roundss ws
  | .again w => w.rounds + 1 | .maybe w => w.rounds | .ahead w => w.rounds | .unless w => w.rounds
  | _ => 0
def W.roundss : List W → Nat
  | [] => 0
  | w :: ws => max w.rounds (W.roundss ws)
end
def nts (o : Option Str) (n : Nat) (r : List (Str × V)) : List (Str × V) := (Str.ofString "called", fV o) :: (Str.ofString "rounds", .int (n : Nat)) :: r
mutual
def ObjAt (c : Cs) (H : Hp) : V → W → Prop
  | v, .one => ∃ a d, v = .ref a ∧ H a = some (.ins c.on d (nts none 0 []))
  | v, .nothing => ∃ a d, v = .ref a ∧ H a = some (.ins c.no d (nts none 0 []))
  | v, .letter x => ∃ a d, v = .ref a ∧ H a = some (.ins c.lt d ((Str.ofString "letter", .str (sg x)) :: nts none 0 []))
  | v, .call x => ∃ a d, v = .ref a ∧ H a = some (.ins c.ca d ((Str.ofString "name", .str x) :: nts (some x) 0 []))
  | v, .row ws => ∃ a d t vs, v = .ref a ∧ H a = some (.ins c.ro d ((Str.ofString "ways", .ref t) :: nts (W.calleds ws) (W.roundss ws) [])) ∧ H t = some (.tup vs) ∧ ObjsAt c H vs ws
  | v, .choice ws => ∃ a d t vs, v = .ref a ∧ H a = some (.ins c.ch d ((Str.ofString "ways", .ref t) :: nts (W.calleds ws) (W.roundss ws) [])) ∧ H t = some (.tup vs) ∧ ObjsAt c H vs ws
  | v, .again w => ∃ a d u mk, v = .ref a ∧ H a = some (.ins c.ag d ((Str.ofString "part", u) :: nts w.called (w.rounds + 1) [(Str.ofString "mark", mk)])) ∧ ObjAt c H u w
  | v, .maybe w => ∃ a d u, ∃ _ : V, v = .ref a ∧ H a = some (.ins c.ma d ((Str.ofString "part", u) :: nts w.called w.rounds [])) ∧ ObjAt c H u w
  | v, .ahead w => ∃ a d u, ∃ _ : V, v = .ref a ∧ H a = some (.ins c.ah d ((Str.ofString "part", u) :: nts w.called w.rounds [])) ∧ ObjAt c H u w
  | v, .unless w => ∃ a d u, ∃ _ : V, v = .ref a ∧ H a = some (.ins c.un d ((Str.ofString "part", u) :: nts w.called w.rounds [])) ∧ ObjAt c H u w
def ObjsAt (c : Cs) (H : Hp) : List V → List W → Prop
  | vs, [] => vs = []
  | vs, w :: ws => ∃ u us, vs = u :: us ∧ ObjAt c H u w ∧ ObjsAt c H us ws
end
theorem ObjsAt.len {c : Cs} {H : Hp} : ∀ (ws : List W) (vs : List V), ObjsAt c H vs ws → vs.length = ws.length
  | [], vs, h => by rw [show vs = [] from h]; rfl
  | w :: ws, vs, ⟨u, us, e, _, h⟩ => by rw [e, List.length_cons, List.length_cons, ObjsAt.len ws us h]
theorem ObjsAt.app {c : Cs} {H : Hp} : ∀ (ws : List W) (vs : List V) {us : List V} {xs : List W}, ObjsAt c H vs ws → ObjsAt c H us xs → ObjsAt c H (vs ++ us) (ws ++ xs)
  | [], vs, us, xs, h, h2 => by rw [show vs = [] from h]; exact h2
  | w :: ws, vs, us, xs, ⟨u, r, e, hu, h⟩, h2 => by rw [e]; exact ⟨u, r ++ us, rfl, hu, ObjsAt.app ws r h h2⟩
theorem ObjsAt.at_ {c : Cs} {H : Hp} : ∀ (ws : List W) (vs : List V) (i : Nat) (w : W), ObjsAt c H vs ws → ws[i]? = some w → ∃ v, vs[i]? = some v ∧ ObjAt c H v w
  | [], vs, i, w, h, e => by simp at e
  | x :: ws, vs, 0, w, ⟨u, us, ev, hu, h⟩, e => by
    have q : x = w := by simpa using e
    subst q
    exact ⟨u, by rw [ev]; rfl, hu⟩
  | x :: ws, vs, i + 1, w, ⟨u, us, ev, hu, h⟩, e => by
    obtain ⟨v, h1, h2⟩ := ObjsAt.at_ ws us i w h (by simpa using e)
    exact ⟨v, by rw [ev]; simpa using h1, h2⟩
theorem ObjsAt.rev {c : Cs} {H : Hp} : ∀ (ws : List W) (vs : List V), ObjsAt c H vs ws → ObjsAt c H vs.reverse ws.reverse
  | [], vs, h => by rw [show vs = [] from h]; rfl
  | w :: ws, vs, ⟨u, us, e, hu, h⟩ => by
    rw [e, List.reverse_cons, List.reverse_cons]
    exact ObjsAt.app _ _ (ObjsAt.rev ws us h) ⟨u, [], rfl, hu, rfl⟩
/-- tuples and instances stay -/
structure Still (H H' : Hp) : Prop where
  tup : ∀ {a : Addr} {xs : List V}, H a = some (.tup xs) → H' a = some (.tup xs)
  ins : ∀ {a C d : Addr} {fs : List (Str × V)}, H a = some (.ins C d fs) → H' a = some (.ins C d fs)
theorem Still.refl (H : Hp) : Still H H := ⟨fun h => h, fun h => h⟩
theorem Still.trans {H H1 H2 : Hp} (a : Still H H1) (b : Still H1 H2) : Still H H2 := ⟨fun h => b.tup (a.tup h), fun h => b.ins (a.ins h)⟩
theorem Keep.still {H H' : Hp} (k : Keep H H') : Still H H' := ⟨fun h => k.tup h, fun h => k.ins h⟩
theorem stillS {H H' : Hp} (k : Same H H') : Still H H' := (Keep.of k).still
theorem Still.put {H : Hp} {q : Addr} {xs ys : List V} (h : H q = some (.lst xs)) : Still H (upd H q (.lst ys)) :=
  ⟨fun {a} _ e => by rw [upd_ne (ne_of e h (by intro z; cases z))]; exact e, fun {a} _ _ _ e => by rw [upd_ne (ne_of e h (by intro z; cases z))]; exact e⟩
mutual
theorem ObjAt.keep {c : Cs} {H H' : Hp} (k : Still H H') : ∀ (w : W) (v : V), ObjAt c H v w → ObjAt c H' v w
  | .one, v, ⟨a, d, e, h⟩ => ⟨a, d, e, k.ins h⟩
  | .nothing, v, ⟨a, d, e, h⟩ => ⟨a, d, e, k.ins h⟩
  | .letter _, v, ⟨a, d, e, h⟩ => ⟨a, d, e, k.ins h⟩
  | .call _, v, ⟨a, d, e, h⟩ => ⟨a, d, e, k.ins h⟩
  | .row ws, v, ⟨a, d, t, vs, e, h, h2, h3⟩ => ⟨a, d, t, vs, e, k.ins h, k.tup h2, ObjsAt.keep k ws vs h3⟩
  | .choice ws, v, ⟨a, d, t, vs, e, h, h2, h3⟩ => ⟨a, d, t, vs, e, k.ins h, k.tup h2, ObjsAt.keep k ws vs h3⟩
  | .again w, v, ⟨a, d, u, m, e, h, h2⟩ => ⟨a, d, u, m, e, k.ins h, ObjAt.keep k w u h2⟩
  | .maybe w, v, ⟨a, d, u, m, e, h, h2⟩ => ⟨a, d, u, m, e, k.ins h, ObjAt.keep k w u h2⟩
  | .ahead w, v, ⟨a, d, u, m, e, h, h2⟩ => ⟨a, d, u, m, e, k.ins h, ObjAt.keep k w u h2⟩
  | .unless w, v, ⟨a, d, u, m, e, h, h2⟩ => ⟨a, d, u, m, e, k.ins h, ObjAt.keep k w u h2⟩
theorem ObjsAt.keep {c : Cs} {H H' : Hp} (k : Still H H') : ∀ (ws : List W) (vs : List V), ObjsAt c H vs ws → ObjsAt c H' vs ws
  | [], _, h => h
  | w :: ws, vs, ⟨u, us, e, h, h2⟩ => ⟨u, us, e, ObjAt.keep k w u h, ObjsAt.keep k ws us h2⟩
end
/-- the ways of which a way is made -/
def W.inner : W → List W
  | .row ws => ws
  | .choice ws => ws
  | .again w => [w]
  | .maybe w => [w]
  | .ahead w => [w]
  | .unless w => [w]
  | _ => []
theorem W.size_inner (w : W) : w.size = 1 + W.sizes w.inner := by
  cases w <;> simp [W.size, W.inner, W.sizes]
theorem W.size_mem : ∀ {ws : List W} {i : Nat} {w : W}, ws[i]? = some w → w.size ≤ W.sizes ws
  | [], i, w, h => by simp at h
  | x :: ws, 0, w, h => by
    have q : x = w := by simpa using h
    subst q
    simp only [W.sizes]; omega
  | x :: ws, i + 1, w, h => by
    have q := W.size_mem (ws := ws) (i := i) (w := w) (by simpa using h)
    simp only [W.sizes]; omega
theorem take_more' {α : Type} : ∀ {l : List α} {i : Nat} {x : α}, l[i]? = some x → l.take (i + 1) = l.take i ++ [x]
  | [], i, x, h => by simp at h
  | a :: l, 0, x, h => by
    have e : a = x := Option.some.inj h
    subst e
    rfl
  | a :: l, i + 1, x, h => by
    have ih := take_more' (l := l) (i := i) (x := x) h
    show a :: l.take (i + 1) = a :: l.take i ++ [x]
    rw [ih]
    rfl
/-! ### tests by the tag -/
def W.is_lc : W → Bool
  | .letter _ => true
  | .call _ => true
  | _ => false
theorem in_lc (w : W) : inV (.str w.tag) [.str (Str.ofString "letter"), .str (Str.ofString "call")] = w.is_lc := by cases w <;> (simp only [W.tag, W.is_lc]; decide +kernel)
def W.is_on : W → Bool
  | .one => true
  | .nothing => true
  | _ => false
theorem in_on (w : W) : inV (.str w.tag) [.str (Str.ofString "one"), .str (Str.ofString "nothing")] = w.is_on := by cases w <;> (simp only [W.tag, W.is_on]; decide +kernel)
def W.is_rc : W → Bool
  | .row _ => true
  | .choice _ => true
  | _ => false
theorem in_rc (w : W) : inV (.str w.tag) [.str (Str.ofString "row"), .str (Str.ofString "choice")] = w.is_rc := by cases w <;> (simp only [W.tag, W.is_rc]; decide +kernel)
def W.is_am : W → Bool
  | .again _ => true
  | .maybe _ => true
  | _ => false
theorem in_am (w : W) : inV (.str w.tag) [.str (Str.ofString "again"), .str (Str.ofString "maybe")] = w.is_am := by cases w <;> (simp only [W.tag, W.is_am]; decide +kernel)
def W.is_un : W → Bool
  | .again _ => true
  | .maybe _ => true
  | .ahead _ => true
  | .unless _ => true
  | _ => false
theorem in_un (w : W) : inV (.str w.tag) [.str (Str.ofString "again"), .str (Str.ofString "maybe"), .str (Str.ofString "ahead"), .str (Str.ofString "unless")] = w.is_un := by cases w <;> (simp only [W.tag, W.is_un]; decide +kernel)
def W.is_nothing' : W → Bool
  | .nothing => true
  | _ => false
theorem eq_nothing (w : W) : decide (V.str w.tag = V.str (Str.ofString "nothing")) = w.is_nothing' := by
  cases w <;> first
    | exact decide_eq_true rfl
    | exact decide_eq_false (fun h => absurd (V.str.inj h) (by simp only [W.tag]; decide +kernel))
def W.is_one' : W → Bool
  | .one => true
  | _ => false
theorem eq_one (w : W) : decide (V.str w.tag = V.str (Str.ofString "one")) = w.is_one' := by
  cases w <;> first
    | exact decide_eq_true rfl
    | exact decide_eq_false (fun h => absurd (V.str.inj h) (by simp only [W.tag]; decide +kernel))
def W.is_letter' : W → Bool
  | .letter _ => true
  | _ => false
theorem eq_letter (w : W) : decide (V.str w.tag = V.str (Str.ofString "letter")) = w.is_letter' := by
  cases w <;> first
    | exact decide_eq_true rfl
    | exact decide_eq_false (fun h => absurd (V.str.inj h) (by simp only [W.tag]; decide +kernel))
def W.is_call' : W → Bool
  | .call _ => true
  | _ => false
theorem eq_call (w : W) : decide (V.str w.tag = V.str (Str.ofString "call")) = w.is_call' := by
  cases w <;> first
    | exact decide_eq_true rfl
    | exact decide_eq_false (fun h => absurd (V.str.inj h) (by simp only [W.tag]; decide +kernel))
def W.is_row' : W → Bool
  | .row _ => true
  | _ => false
theorem eq_row (w : W) : decide (V.str w.tag = V.str (Str.ofString "row")) = w.is_row' := by
  cases w <;> first
    | exact decide_eq_true rfl
    | exact decide_eq_false (fun h => absurd (V.str.inj h) (by simp only [W.tag]; decide +kernel))
def W.is_choice' : W → Bool
  | .choice _ => true
  | _ => false
theorem eq_choice (w : W) : decide (V.str w.tag = V.str (Str.ofString "choice")) = w.is_choice' := by
  cases w <;> first
    | exact decide_eq_true rfl
    | exact decide_eq_false (fun h => absurd (V.str.inj h) (by simp only [W.tag]; decide +kernel))
def W.is_again' : W → Bool
  | .again _ => true
  | _ => false
theorem eq_again (w : W) : decide (V.str w.tag = V.str (Str.ofString "again")) = w.is_again' := by
  cases w <;> first
    | exact decide_eq_true rfl
    | exact decide_eq_false (fun h => absurd (V.str.inj h) (by simp only [W.tag]; decide +kernel))
def W.is_maybe' : W → Bool
  | .maybe _ => true
  | _ => false
theorem eq_maybe (w : W) : decide (V.str w.tag = V.str (Str.ofString "maybe")) = w.is_maybe' := by
  cases w <;> first
    | exact decide_eq_true rfl
    | exact decide_eq_false (fun h => absurd (V.str.inj h) (by simp only [W.tag]; decide +kernel))
def W.is_ahead' : W → Bool
  | .ahead _ => true
  | _ => false
theorem eq_ahead (w : W) : decide (V.str w.tag = V.str (Str.ofString "ahead")) = w.is_ahead' := by
  cases w <;> first
    | exact decide_eq_true rfl
    | exact decide_eq_false (fun h => absurd (V.str.inj h) (by simp only [W.tag]; decide +kernel))
def W.is_unless' : W → Bool
  | .unless _ => true
  | _ => false
theorem eq_unless (w : W) : decide (V.str w.tag = V.str (Str.ofString "unless")) = w.is_unless' := by
  cases w <;> first
    | exact decide_eq_true rfl
    | exact decide_eq_false (fun h => absurd (V.str.inj h) (by simp only [W.tag]; decide +kernel))
theorem WayAt.head {H : Hp} {v : V} {w : W} (h : WayAt H v w) : ∃ a rest, v = .ref a ∧ H a = some (.tup (.str w.tag :: rest)) := by
  cases w <;> first
    | (obtain ⟨a, e, h⟩ := h; exact ⟨a, _, e, h⟩)
    | (obtain ⟨a, u, e, h, _⟩ := h; exact ⟨a, _, e, h⟩)
    | (obtain ⟨a, l, vs, e, h, _⟩ := h; exact ⟨a, _, e, h⟩)
theorem atI0 {x : V} {r : List V} : atI (x :: r) 0 = some x := atI_nat (j := 0) rfl
theorem atI1 {x y : V} {r : List V} : atI (x :: y :: r) 1 = some y := atI_nat (j := 1) rfl
/-! ### what the written part says of a class of ways -/
structure ClsF (K : PySem.W.Frag) (C : Addr) : Prop where
  cl : Cls K C
  nl : NoAttr K C "letter"
  nn : NoAttr K C "name"
  nw : NoAttr K C "ways"
  np : NoAttr K C "part"
  nc : NoAttr K C "called"
  nr : NoAttr K C "rounds"
  nm : NoAttr K C "mark"
  ha : PySem.W.findIn K (.ref C) "__class__" = some (some (.builtin "object.__class__"))
  hm : PySem.W.mroIn K C (.type "object") = some true
/-- what kind_of asks of the classes -/
structure AllF (K : PySem.W.Frag) (mg : Str → Option Value) (c : Cs) : Prop where
  f : ∀ w : W, ClsF K (c.of w)
  hn : PySem.W.specialIn K (.builtin "object.__class__") "__get__" = some (some (.builtin "getset_descriptor.__get__"))
  ht : PySem.W.takesIn K (.builtin "object.__class__") = some true
  kit : ∀ w u : W, PySem.W.kitOne K (.ref (c.of w)) (.ref (c.of u)) = some (decide (w.tag = u.tag))
  mLt : mg "Letter" = some (.ref c.lt)
  mOn : mg "One" = some (.ref c.on)
  mNo : mg "Nothing" = some (.ref c.no)
  mRo : mg "Row" = some (.ref c.ro)
  mCh : mg "Choice" = some (.ref c.ch)
  mAg : mg "Again" = some (.ref c.ag)
  mMa : mg "Maybe" = some (.ref c.ma)
  mAh : mg "Ahead" = some (.ref c.ah)
  mUn : mg "Unless" = some (.ref c.un)
  mCa : mg "Call" = some (.ref c.ca)
theorem ObjAt.head {c : Cs} {H : Hp} {v : V} {w : W} (h : ObjAt c H v w) : ∃ a d fs, v = .ref a ∧ H a = some (.ins (c.of w) d fs) := by
  cases w <;> first
    | (obtain ⟨a, d, e, h⟩ := h; exact ⟨a, d, _, e, h⟩)
    | (obtain ⟨a, d, u, m, e, h, _⟩ := h; exact ⟨a, d, _, e, h⟩)
/-- no attribute of a way has another name -/
def Names7 (m : Str) : Prop := m ≠ Str.ofString "letter" ∧ m ≠ Str.ofString "name" ∧ m ≠ Str.ofString "ways" ∧ m ≠ Str.ofString "part" ∧ m ≠ Str.ofString "called" ∧ m ≠ Str.ofString "rounds" ∧ m ≠ Str.ofString "mark"
theorem look_cons {f m : Str} {v : V} {r : List (Str × V)} (h : m ≠ f) : List.lookup m ((f, v) :: r) = List.lookup m r := by
  have q : (m == f) = false := by simpa using h
  simp [List.lookup, q]
theorem look_nts {o : Option Str} {n : Nat} {r : List (Str × V)} {m : Str} (h1 : m ≠ Str.ofString "called") (h2 : m ≠ Str.ofString "rounds") : List.lookup m (nts o n r) = List.lookup m r := by
  unfold nts
  rw [look_cons h1, look_cons h2]
theorem ObjAt.head' {c : Cs} {H : Hp} {v : V} {w : W} (h : ObjAt c H v w) : ∃ a d fs, v = .ref a ∧ H a = some (.ins (c.of w) d fs) ∧ ∀ m : Str, Names7 m → fs.lookup m = none := by
  cases w <;> first
    | (obtain ⟨a, d, e, h⟩ := h; exact ⟨a, d, _, e, h, fun m ⟨h1, h2, h3, h4, h5, h6, h7⟩ => by first | (rw [look_nts h5 h6]; rfl) | (rw [look_cons h1, look_nts h5 h6]; rfl) | (rw [look_cons h2, look_nts h5 h6]; rfl)⟩)
    | (obtain ⟨a, d, t, vs, e, h, _⟩ := h; exact ⟨a, d, _, e, h, fun m ⟨h1, h2, h3, h4, h5, h6, h7⟩ => by first | (rw [look_cons h3, look_nts h5 h6]; rfl) | (rw [look_cons h4, look_nts h5 h6]; rfl) | (rw [look_cons h4, look_nts h5 h6, look_cons h7]; rfl)⟩)
/-- what a way notes of itself, whatever its kind -/
theorem ObjAt.notes {c : Cs} {H : Hp} {v : V} {w : W} (h : ObjAt c H v w) : ∃ a d fs, v = .ref a ∧ H a = some (.ins (c.of w) d fs) ∧ fs.lookup (Str.ofString "called") = some (fV w.called) ∧ fs.lookup (Str.ofString "rounds") = some (.int (w.rounds : Nat)) := by
  cases w <;> first
    | (obtain ⟨a, d, e, h⟩ := h; exact ⟨a, d, _, e, h, rfl, rfl⟩)
    | (obtain ⟨a, d, t, vs, e, h, _⟩ := h; exact ⟨a, d, _, e, h, rfl, rfl⟩)
end Wv
namespace Wv
open PySem PySem.Spec PyProof.Rows L2
/-! ### the classes' __init__ -/
/-- what an __init__ leaves: the fields of the object at p; what was there ahead of the object stays -/
def Left (C p dx : Addr) (H0 : Hp) (fs : List (Str × V)) (Q : VK) : Prop := ∀ H' : Hp, H' p = some (.ins C dx fs) → Same H0 H' → Q .non H'
def At0 (C p dx : Addr) (H0 H : Hp) : Prop := H p = some (.ins C dx []) ∧ H0 p = none ∧ Same H0 H
def spInit0 (C : Addr) : Sp := fun vs H Q _ => ∃ (p dx : Addr) (H0 : Hp), vs = [.ref p] ∧ At0 C p dx H0 H ∧ Left C p dx H0 (nts none 0 []) Q
def spInitL (C : Addr) : Sp := fun vs H Q _ => ∃ (p dx : Addr) (v : V) (H0 : Hp), vs = [.ref p, v] ∧ At0 C p dx H0 H ∧ Left C p dx H0 ((Str.ofString "letter", v) :: nts none 0 []) Q
def spInitC (C : Addr) : Sp := fun vs H Q _ => ∃ (p dx : Addr) (v : V) (H0 : Hp), vs = [.ref p, v] ∧ At0 C p dx H0 H ∧ Left C p dx H0 ((Str.ofString "name", v) :: (Str.ofString "called", v) :: (Str.ofString "rounds", .int 0) :: []) Q
def spInitP (c : Cs) (C : Addr) : Sp := fun vs H Q _ => ∃ (p dx : Addr) (u : V) (w : W) (H0 : Hp), vs = [.ref p, u] ∧ At0 C p dx H0 H ∧ ObjAt c H0 u w ∧ Left C p dx H0 ((Str.ofString "part", u) :: nts w.called w.rounds []) Q
def spInitA (c : Cs) (C : Addr) : Sp := fun vs H Q _ => ∃ (p dx : Addr) (u : V) (w : W) (H0 : Hp), vs = [.ref p, u] ∧ At0 C p dx H0 H ∧ ObjAt c H0 u w ∧ ∀ mk : V, Left C p dx H0 ((Str.ofString "part", u) :: nts w.called (w.rounds + 1) [(Str.ofString "mark", mk)]) Q
def spInitT (K : PySem.W.Frag) (c : Cs) (C : Addr) : Sp := fun vs H Q _ => ∃ (p dx q : Addr) (xs : List V) (ws : List W) (H0 : Hp), vs = [.ref p, .ref q] ∧ At0 C p dx H0 H ∧ (H0 q = some (.lst xs) ∨ H0 q = some (.tup xs)) ∧ ObjsAt c H0 xs ws ∧ ws.length ≤ 1000000 ∧
  ∀ (t : Addr) (H' : Hp), H' t = some (.tup xs) → H' p = some (.ins C dx ((Str.ofString "ways", .ref t) :: nts (W.calleds ws) (W.roundss ws) [])) → Same H0 H' → Q .non H'
theorem at0 {H : Hp} {x dx C : Addr} (hx : H x = none) (hd : H dx = none) : At0 C x dx H (upd (upd H dx (.own x)) x (.ins C dx [])) :=
  ⟨upd_same, hx, fun b o e => by rw [upd_ne (ne_of_none e hx), upd_ne (ne_of_none e hd)]; exact e⟩
section
variable {c : Cs} {K : PySem.W.Frag} {C : Addr} {H : Hp} {Q : VK} {E : XK}
theorem make0 (h : ∀ x dx H', Same H H' → H' x = some (.ins C dx (nts none 0 [])) → Q (.ref x) H') :
    ∀ x dx, H x = none → H dx = none → dx ≠ x → spInit0 C (.ref x :: []) (upd (upd H dx (.own x)) x (.ins C dx [])) (fun v H2 => v = .non ∧ Q (.ref x) H2) E := fun x dx hx hd _ =>
  ⟨x, dx, H, rfl, at0 hx hd, fun H' e s => ⟨rfl, h x dx H' s e⟩⟩
theorem makeL {v : V} (h : ∀ x dx H', Same H H' → H' x = some (.ins C dx ((Str.ofString "letter", v) :: nts none 0 [])) → Q (.ref x) H') :
    ∀ x dx, H x = none → H dx = none → dx ≠ x → spInitL C (.ref x :: ([v] ++ [])) (upd (upd H dx (.own x)) x (.ins C dx [])) (fun v H2 => v = .non ∧ Q (.ref x) H2) E := fun x dx hx hd _ =>
  ⟨x, dx, v, H, rfl, at0 hx hd, fun H' e s => ⟨rfl, h x dx H' s e⟩⟩
theorem makeC {y : Str} (h : ∀ x dx H', Same H H' → H' x = some (.ins C dx ((Str.ofString "name", .str y) :: nts (some y) 0 [])) → Q (.ref x) H') :
    ∀ x dx, H x = none → H dx = none → dx ≠ x → spInitC C (.ref x :: ([.str y] ++ [])) (upd (upd H dx (.own x)) x (.ins C dx [])) (fun v H2 => v = .non ∧ Q (.ref x) H2) E := fun x dx hx hd _ =>
  ⟨x, dx, .str y, H, rfl, at0 hx hd, fun H' e s => ⟨rfl, h x dx H' s e⟩⟩
theorem makeP {u : V} {w : W} (hu : ObjAt c H u w) (h : ∀ x dx H', Same H H' → H' x = some (.ins C dx ((Str.ofString "part", u) :: nts w.called w.rounds [])) → Q (.ref x) H') :
    ∀ x dx, H x = none → H dx = none → dx ≠ x → spInitP c C (.ref x :: ([u] ++ [])) (upd (upd H dx (.own x)) x (.ins C dx [])) (fun v H2 => v = .non ∧ Q (.ref x) H2) E := fun x dx hx hd _ =>
  ⟨x, dx, u, w, H, rfl, at0 hx hd, hu, fun H' e s => ⟨rfl, h x dx H' s e⟩⟩
theorem makeA {u : V} {w : W} (hu : ObjAt c H u w) (h : ∀ x dx mk H', Same H H' → H' x = some (.ins C dx ((Str.ofString "part", u) :: nts w.called (w.rounds + 1) [(Str.ofString "mark", mk)])) → Q (.ref x) H') :
    ∀ x dx, H x = none → H dx = none → dx ≠ x → spInitA c C (.ref x :: ([u] ++ [])) (upd (upd H dx (.own x)) x (.ins C dx [])) (fun v H2 => v = .non ∧ Q (.ref x) H2) E := fun x dx hx hd _ =>
  ⟨x, dx, u, w, H, rfl, at0 hx hd, hu, fun mk H' e s => ⟨rfl, h x dx mk H' s e⟩⟩
theorem makeT {q : Addr} {xs : List V} {ws : List W} (hq : H q = some (.lst xs) ∨ H q = some (.tup xs)) (hw : ObjsAt c H xs ws) (hl : ws.length ≤ 1000000) (h : ∀ x dx t H', Same H H' → H' t = some (.tup xs) → H' x = some (.ins C dx ((Str.ofString "ways", .ref t) :: nts (W.calleds ws) (W.roundss ws) [])) → Q (.ref x) H') :
    ∀ x dx, H x = none → H dx = none → dx ≠ x → spInitT K c C (.ref x :: ([.ref q] ++ [])) (upd (upd H dx (.own x)) x (.ins C dx [])) (fun v H2 => v = .non ∧ Q (.ref x) H2) E := fun x dx hx hd _ =>
  ⟨x, dx, q, xs, ws, H, rfl, at0 hx hd, hq, hw, hl, fun t H' ht e s => ⟨rfl, h x dx t H' s ht e⟩⟩
end
def spFirst (c : Cs) : Sp := fun vs H Q _ => ∃ (t : Addr) (xs : List V) (ws : List W), vs = [.ref t] ∧ H t = some (.tup xs) ∧ ObjsAt c H xs ws ∧ ws.length ≤ 1000000 ∧ ∀ H', Same H H' → Q (fV (W.calleds ws)) H'
def spMost (c : Cs) : Sp := fun vs H Q _ => ∃ (t : Addr) (xs : List V) (ws : List W), vs = [.ref t] ∧ H t = some (.tup xs) ∧ ObjsAt c H xs ws ∧ ws.length ≤ 1000000 ∧ ∀ H', Same H H' → Q (.int (W.roundss ws : Nat)) H'
section
variable {P : Program} {w : World} {K : PySem.W.Frag} {mg : Str → Option Value} {base : Heap}
theorem calleds_map : ∀ ws : List W, W.calleds ws = (ws.filterMap W.called).head?
  | [] => rfl
  | w :: ws => by
    rw [W.calleds, List.filterMap_cons]
    cases h : w.called with
    | none => exact calleds_map ws
    | some x => rfl
theorem rounds_max : ∀ (ws : List W) (n : Nat), (ws.map fun w => ((w.rounds : Nat) : Int)).foldl max ((n : Nat) : Int) = ((max n (W.roundss ws) : Nat) : Int)
  | [], n => by rw [W.roundss, Nat.max_zero]; rfl
  | w :: ws, n => by
    rw [List.map_cons, List.foldl_cons, W.roundss]
    have e : max ((n : Nat) : Int) ((w.rounds : Nat) : Int) = ((max n w.rounds : Nat) : Int) := by omega
    rw [e, rounds_max ws, Nat.max_assoc]
theorem rounds_fold (ws : List W) : mx 0 (ws.map fun w => ((w.rounds : Nat) : Int)) = ((W.roundss ws : Nat) : Int) := by
  cases ws with
  | nil => rfl
  | cons w ws => exact rounds_max ws w.rounds
abbrev s_first_call : Stmt := top 32
theorem sc_first_call : FnScope ["ways", "calls", "way"] ["ways"] (defScope s_first_call) := ⟨rfl, rfl, rfl, by decide +kernel, rfl, by decide +kernel, by decide +kernel⟩
theorem d_first_call (h : Here K mg "first_call" s_first_call ["ways"]) {c : Cs} (hf : ∀ w : W, ClsF K (c.of w)) : DefOk P w K mg base 1 "first_call" ["ways"] (spFirst c) := by
  refine h.ok sc_first_call (fun vs H Q E h => by obtain ⟨_, _, _, rfl, _⟩ := h; rfl) (fun f cdv A outer s H vs Q E hr h => ?_)
  obtain ⟨t, xs, ws, rfl, ht, hw, hl, k⟩ := h
  refine ⟨_, (pss_cons (ps_setLc (i := 1) (own := [("way", 2)]) (g := (gName 2)) rfl sc_first_call.nd rfl rfl (sw_true rfl rfl rfl (by decide +kernel)) (pi_tup (pv 0)) (blkOk_by (own := [("way", 2)]) (N := ["ways", "calls", "way"]) (sc := defScope s_first_call) (by decide +kernel)) (fun _ _ _ _ _ => pg_name (i := 2) sc_first_call.nd rfl (Or.inl rfl)) (fun _ _ _ _ _ => pts_one (pt_cmpR op_notN (pe_fldK (K := K) rfl (pv 2) rfl) pe_non (nomark _))) (fun _ _ _ _ _ => (pe_fldK (K := K) rfl (pv 2) rfl)))
  (pss_one (ps_ret (pe_ifExp (pt_truth (pv 1) (by intro _; rfl)) (pe_ix ix_list (pv 1) pe_int (fun _ _ => rfl)) pe_non)))), ?_⟩
  have elen := ObjsAt.len _ _ hw
  refine ⟨_, rfl, t, rfl, ⟨xs, SqT.of ht⟩, fun D hD => ?_⟩
  refine lc_tup (K := K) (a := t) (xs := xs) (fun i H' => H' D = some (.lst (((ws.take i).filterMap W.called).map V.str)) ∧ Same H H') ?_ ?_ ?_ ?_
  · exact ⟨upd_same, Same.new hD _⟩
  · rintro i H' _ ⟨_, s1⟩
    exact SqT.of (s1 _ _ ht)
  · rintro i x H' hx ⟨hD', s1⟩
    have hi : i < xs.length := (List.getElem?_eq_some_iff.mp hx).1
    obtain ⟨wi, hwi⟩ : ∃ wi, ws[i]? = some wi := ⟨ws[i]'(by omega), List.getElem?_eq_getElem (by omega)⟩
    obtain ⟨x', hx', hxw⟩ := ObjsAt.at_ _ _ _ _ hw hwi
    have ex : x = x' := Option.some.inj (hx.symm.trans hx')
    subst ex
    obtain ⟨a, d, fs, ea, ha, l1, l2⟩ := (ObjAt.keep (stillS s1) _ _ hxw).notes
    refine ⟨rfl, _, rfl, a, _, d, fs, _, ea, ha, (hf wi).cl, (hf wi).nc, l1, rfl, _, rfl, ?_⟩
    rw [take_more' hwi, List.filterMap_append, List.map_append]
    cases hc : wi.called with
    | none =>
      rw [hc] at l1
      have e9 : (!decide (fV none = V.non)) = false := rfl
      rw [e9]
      refine iteF ⟨?_, s1⟩
      rw [List.filterMap_cons, hc, List.filterMap_nil, List.map_nil, List.append_nil]
      exact hD'
    | some y =>
      rw [hc] at l1
      have e9 : (!decide (fV (some y) = V.non)) = true := rfl
      rw [e9]
      have hlen := List.length_filterMap_le W.called (ws.take i)
      have hlen2 : (ws.take i).length ≤ ws.length := by rw [List.length_take]; omega
      refine iteT ⟨_, rfl, a, _, d, fs, _, ea, ha, (hf wi).cl, (hf wi).nc, l1, _, hD', small' (by rw [List.length_map]; omega), ?_, Same.put hD s1 _⟩
      rw [upd_same, List.filterMap_cons, hc, List.filterMap_nil]
      rfl
  · rintro H1 ⟨hD1, s1⟩
    rw [elen, List.take_length] at hD1
    walk_at "nx"
    refine ⟨_, rfl, _, .inl ⟨_, SqL.of hD1, rfl⟩, ?_⟩
    have e := calleds_map ws
    cases hl : ws.filterMap W.called with
    | nil =>
      rw [hl] at e hD1
      refine iteF ?_
      have k' := k H1 s1
      rw [e] at k'
      exact k'
    | cons y ys =>
      rw [hl] at e hD1
      refine iteT ⟨_, rfl, D, _, _, _, rfl, rfl, SqL.of hD1, atI0, ?_⟩
      have k' := k H1 s1
      rw [e] at k'
      exact k'
abbrev s_most_rounds : Stmt := top 33
theorem sc_most_rounds : FnScope ["ways", "way"] ["ways"] (defScope s_most_rounds) := ⟨rfl, rfl, rfl, by decide +kernel, rfl, by decide +kernel, by decide +kernel⟩
theorem d_most_rounds (h : Here K mg "most_rounds" s_most_rounds ["ways"]) (B : Bs mg) {c : Cs} (hf : ∀ w : W, ClsF K (c.of w)) : DefOk P w K mg base 1 "most_rounds" ["ways"] (spMost c) := by
  have B_max := B.max
  refine h.ok sc_most_rounds (fun vs H Q E h => by obtain ⟨_, _, _, rfl, _⟩ := h; rfl) (fun f cdv A outer s H vs Q E hr h => ?_)
  obtain ⟨t, xs, ws, rfl, ht, hw, hl, k⟩ := h
  refine ⟨_, (pss_one (ps_ret (pe_callBK (cr_maxDef rfl (Nat.lt_of_le_of_lt (Nat.add_le_add_left (by decide) _) hr.units)) rfl B_max (by decide +kernel) (pa_cons (pe_lc (own := [("way", 1)]) (g := (gName 1)) (tt := tYes) rfl sc_most_rounds.nd (pi_tup (pv 0)) (blkOk_by (own := [("way", 1)]) (N := ["ways", "way"]) (sc := defScope s_most_rounds) (by decide +kernel)) (fun _ _ _ _ _ => pg_name (i := 1) sc_most_rounds.nd rfl (Or.inl rfl)) (fun _ _ _ _ _ => pts_nil) (fun _ _ _ _ _ => (pe_fldK (K := K) rfl (pv 1) rfl))) pa_nil) (pk_cons pe_int pk_nil)))), ?_⟩
  have elen := ObjsAt.len _ _ hw
  refine ⟨_, rfl, t, rfl, ⟨xs, SqT.of ht⟩, fun D hD => ?_⟩
  refine lc_tup (K := K) (a := t) (xs := xs) (fun i H' => H' D = some (.lst ((ws.take i).map fun w => V.int ((w.rounds : Nat) : Int))) ∧ Same H H') ?_ ?_ ?_ ?_
  · exact ⟨upd_same, Same.new hD _⟩
  · rintro i H' _ ⟨_, s1⟩
    exact SqT.of (s1 _ _ ht)
  · rintro i x H' hx ⟨hD', s1⟩
    have hi : i < xs.length := (List.getElem?_eq_some_iff.mp hx).1
    obtain ⟨wi, hwi⟩ : ∃ wi, ws[i]? = some wi := ⟨ws[i]'(by omega), List.getElem?_eq_getElem (by omega)⟩
    obtain ⟨x', hx', hxw⟩ := ObjsAt.at_ _ _ _ _ hw hwi
    have ex : x = x' := Option.some.inj (hx.symm.trans hx')
    subst ex
    obtain ⟨a, d, fs, ea, ha, l1, l2⟩ := (ObjAt.keep (stillS s1) _ _ hxw).notes
    refine ⟨rfl, _, rfl, a, _, d, fs, _, ea, ha, (hf wi).cl, (hf wi).nr, l2, _, hD', small' (by rw [List.length_map, List.length_take]; omega), ?_, Same.put hD s1 _⟩
    rw [upd_same, take_more' hwi, List.map_append]
    rfl
  · rintro H1 ⟨hD1, s1⟩
    rw [elen, List.take_length] at hD1
    refine ⟨D, ws.map fun w => ((w.rounds : Nat) : Int), 0, rfl, rfl, SqL.of (by rw [List.map_map]; exact hD1), ?_⟩
    rw [rounds_fold]
    exact k H1 s1
abbrev s_One_init : Stmt := inClass (top 23) 0
theorem sc_One_init : FnScope ["self"] ["self"] (defScope s_One_init) := ⟨rfl, rfl, rfl, by decide +kernel, rfl, by decide +kernel, by decide +kernel⟩
theorem ok_One {f C : Addr} {fd : FuncData} (F : Fun K "__init__" "One.__init__" s_One_init f fd) (T : ClsF K C) : FnOk P w K mg base CX0 1 f fd ["self"] (spInit0 C) := by
  refine F.ok sc_One_init (fun vs H Q E h => by obtain ⟨_, _, _, rfl, _⟩ := h; rfl) (fun cdv A outer s H vs Q E hr h => ?_)
  obtain ⟨p, dx, H0, rfl, ⟨hp, h0, s0⟩, k⟩ := h
  refine ⟨_, (pss_cons (ps_fld (pv 0) pe_non rfl)
  (pss_one (ps_fld (pv 0) pe_int rfl))), ?_⟩
  refine ⟨_, rfl, p, C, dx, [], rfl, hp, T.cl, T.nc, (by show 0 < 1000; decide), ?_⟩
  refine ⟨_, rfl, p, C, dx, _, rfl, upd_same, T.cl, T.nr, (by show 1 < 1000; decide), ?_⟩
  exact k _ upd_same (Same.put h0 (Same.put h0 s0 _) _)
abbrev s_Nothing_init : Stmt := inClass (top 24) 0
theorem sc_Nothing_init : FnScope ["self"] ["self"] (defScope s_Nothing_init) := ⟨rfl, rfl, rfl, by decide +kernel, rfl, by decide +kernel, by decide +kernel⟩
theorem ok_Nothing {f C : Addr} {fd : FuncData} (F : Fun K "__init__" "Nothing.__init__" s_Nothing_init f fd) (T : ClsF K C) : FnOk P w K mg base CX0 1 f fd ["self"] (spInit0 C) := by
  refine F.ok sc_Nothing_init (fun vs H Q E h => by obtain ⟨_, _, _, rfl, _⟩ := h; rfl) (fun cdv A outer s H vs Q E hr h => ?_)
  obtain ⟨p, dx, H0, rfl, ⟨hp, h0, s0⟩, k⟩ := h
  refine ⟨_, (pss_cons (ps_fld (pv 0) pe_non rfl)
  (pss_one (ps_fld (pv 0) pe_int rfl))), ?_⟩
  refine ⟨_, rfl, p, C, dx, [], rfl, hp, T.cl, T.nc, (by show 0 < 1000; decide), ?_⟩
  refine ⟨_, rfl, p, C, dx, _, rfl, upd_same, T.cl, T.nr, (by show 1 < 1000; decide), ?_⟩
  exact k _ upd_same (Same.put h0 (Same.put h0 s0 _) _)
abbrev s_Letter_init : Stmt := inClass (top 22) 0
theorem sc_Letter_init : FnScope ["self", "letter"] ["self", "letter"] (defScope s_Letter_init) := ⟨rfl, rfl, rfl, by decide +kernel, rfl, by decide +kernel, by decide +kernel⟩
theorem ok_Letter {f C : Addr} {fd : FuncData} (F : Fun K "__init__" "Letter.__init__" s_Letter_init f fd) (T : ClsF K C) : FnOk P w K mg base CX0 1 f fd ["self", "letter"] (spInitL C) := by
  refine F.ok sc_Letter_init (fun vs H Q E h => by obtain ⟨_, _, _, _, rfl, _⟩ := h; rfl) (fun cdv A outer s H vs Q E hr h => ?_)
  obtain ⟨p, dx, v, H0, rfl, ⟨hp, h0, s0⟩, k⟩ := h
  refine ⟨_, (pss_cons (ps_fld (pv 0) (pv 1) rfl)
  (pss_cons (ps_fld (pv 0) pe_non rfl)
  (pss_one (ps_fld (pv 0) pe_int rfl)))), ?_⟩
  refine ⟨_, rfl, _, rfl, p, C, dx, [], rfl, hp, T.cl, T.nl, (by show 0 < 1000; decide), ?_⟩
  refine ⟨_, rfl, p, C, dx, _, rfl, upd_same, T.cl, T.nc, (by show 1 < 1000; decide), ?_⟩
  refine ⟨_, rfl, p, C, dx, _, rfl, upd_same, T.cl, T.nr, (by show 2 < 1000; decide), ?_⟩
  exact k _ upd_same (Same.put h0 (Same.put h0 (Same.put h0 s0 _) _) _)
abbrev s_Call_init : Stmt := inClass (top 31) 0
theorem sc_Call_init : FnScope ["self", "name"] ["self", "name"] (defScope s_Call_init) := ⟨rfl, rfl, rfl, by decide +kernel, rfl, by decide +kernel, by decide +kernel⟩
theorem ok_Call {f C : Addr} {fd : FuncData} (F : Fun K "__init__" "Call.__init__" s_Call_init f fd) (T : ClsF K C) : FnOk P w K mg base CX0 1 f fd ["self", "name"] (spInitC C) := by
  refine F.ok sc_Call_init (fun vs H Q E h => by obtain ⟨_, _, _, _, rfl, _⟩ := h; rfl) (fun cdv A outer s H vs Q E hr h => ?_)
  obtain ⟨p, dx, v, H0, rfl, ⟨hp, h0, s0⟩, k⟩ := h
  refine ⟨_, (pss_cons (ps_fld (pv 0) (pv 1) rfl)
  (pss_cons (ps_fld (pv 0) (pv 1) rfl)
  (pss_one (ps_fld (pv 0) pe_int rfl)))), ?_⟩
  refine ⟨_, rfl, _, rfl, p, C, dx, [], rfl, hp, T.cl, T.nn, (by show 0 < 1000; decide), ?_⟩
  refine ⟨_, rfl, _, rfl, p, C, dx, _, rfl, upd_same, T.cl, T.nc, (by show 1 < 1000; decide), ?_⟩
  refine ⟨_, rfl, p, C, dx, _, rfl, upd_same, T.cl, T.nr, (by show 2 < 1000; decide), ?_⟩
  exact k _ upd_same (Same.put h0 (Same.put h0 (Same.put h0 s0 _) _) _)
abbrev s_Maybe_init : Stmt := inClass (top 28) 0
theorem sc_Maybe_init : FnScope ["self", "part"] ["self", "part"] (defScope s_Maybe_init) := ⟨rfl, rfl, rfl, by decide +kernel, rfl, by decide +kernel, by decide +kernel⟩
theorem ok_Maybe {f C : Addr} {fd : FuncData} {c : Cs} (F : Fun K "__init__" "Maybe.__init__" s_Maybe_init f fd) (T : ClsF K C) (hf : ∀ w : W, ClsF K (c.of w)) : FnOk P w K mg base CX0 1 f fd ["self", "part"] (spInitP c C) := by
  refine F.ok sc_Maybe_init (fun vs H Q E h => by obtain ⟨_, _, _, _, _, rfl, _⟩ := h; rfl) (fun cdv A outer s H vs Q E hr h => ?_)
  obtain ⟨p, dx, u, w, H0, rfl, ⟨hp, h0, s0⟩, hu, k⟩ := h
  refine ⟨_, (pss_cons (ps_fld (pv 0) (pv 1) rfl)
  (pss_cons (ps_fld (pv 0) (pe_fld (pv 1) rfl) rfl)
  (pss_one (ps_fld (pv 0) (pe_fld (pv 1) rfl) rfl)))), ?_⟩
  refine ⟨_, rfl, _, rfl, p, C, dx, [], rfl, hp, T.cl, T.np, (by show 0 < 1000; decide), ?_⟩
  have s1 := Same.put h0 s0 (HO.ins C dx (putF (Str.ofString "part") u []))
  have g1 : upd H p (HO.ins C dx (putF (Str.ofString "part") u [])) p = some (HO.ins C dx (putF (Str.ofString "part") u [])) := upd_same
  generalize upd H p (HO.ins C dx (putF (Str.ofString "part") u [])) = H1 at *
  obtain ⟨a, d, fs, ea, ha, l1, l2⟩ := (ObjAt.keep (stillS s1) _ _ hu).notes
  refine ⟨_, rfl, a, _, d, fs, _, ea, ha, (hf w).cl, (hf w).nc, l1, _, rfl, p, C, dx, _, rfl, g1, T.cl, T.nc, (by show 1 < 1000; decide), ?_⟩
  have s2 := Same.put h0 s1 (HO.ins C dx (putF (Str.ofString "called") (fV w.called) (putF (Str.ofString "part") u [])))
  have g2 : upd H1 p (HO.ins C dx (putF (Str.ofString "called") (fV w.called) (putF (Str.ofString "part") u []))) p = some _ := upd_same
  generalize upd H1 p (HO.ins C dx (putF (Str.ofString "called") (fV w.called) (putF (Str.ofString "part") u []))) = H2 at *
  obtain ⟨a, d, fs, ea, ha, l1, l2⟩ := (ObjAt.keep (stillS s2) _ _ hu).notes
  refine ⟨_, rfl, a, _, d, fs, _, ea, ha, (hf w).cl, (hf w).nr, l2, _, rfl, p, C, dx, _, rfl, g2, T.cl, T.nr, (by show 2 < 1000; decide), ?_⟩
  exact k _ upd_same (Same.put h0 s2 _)
abbrev s_Ahead_init : Stmt := inClass (top 29) 0
theorem sc_Ahead_init : FnScope ["self", "part"] ["self", "part"] (defScope s_Ahead_init) := ⟨rfl, rfl, rfl, by decide +kernel, rfl, by decide +kernel, by decide +kernel⟩
theorem ok_Ahead {f C : Addr} {fd : FuncData} {c : Cs} (F : Fun K "__init__" "Ahead.__init__" s_Ahead_init f fd) (T : ClsF K C) (hf : ∀ w : W, ClsF K (c.of w)) : FnOk P w K mg base CX0 1 f fd ["self", "part"] (spInitP c C) := by
  refine F.ok sc_Ahead_init (fun vs H Q E h => by obtain ⟨_, _, _, _, _, rfl, _⟩ := h; rfl) (fun cdv A outer s H vs Q E hr h => ?_)
  obtain ⟨p, dx, u, w, H0, rfl, ⟨hp, h0, s0⟩, hu, k⟩ := h
  refine ⟨_, (pss_cons (ps_fld (pv 0) (pv 1) rfl)
  (pss_cons (ps_fld (pv 0) (pe_fld (pv 1) rfl) rfl)
  (pss_one (ps_fld (pv 0) (pe_fld (pv 1) rfl) rfl)))), ?_⟩
  refine ⟨_, rfl, _, rfl, p, C, dx, [], rfl, hp, T.cl, T.np, (by show 0 < 1000; decide), ?_⟩
  have s1 := Same.put h0 s0 (HO.ins C dx (putF (Str.ofString "part") u []))
  have g1 : upd H p (HO.ins C dx (putF (Str.ofString "part") u [])) p = some (HO.ins C dx (putF (Str.ofString "part") u [])) := upd_same
  generalize upd H p (HO.ins C dx (putF (Str.ofString "part") u [])) = H1 at *
  obtain ⟨a, d, fs, ea, ha, l1, l2⟩ := (ObjAt.keep (stillS s1) _ _ hu).notes
  refine ⟨_, rfl, a, _, d, fs, _, ea, ha, (hf w).cl, (hf w).nc, l1, _, rfl, p, C, dx, _, rfl, g1, T.cl, T.nc, (by show 1 < 1000; decide), ?_⟩
  have s2 := Same.put h0 s1 (HO.ins C dx (putF (Str.ofString "called") (fV w.called) (putF (Str.ofString "part") u [])))
  have g2 : upd H1 p (HO.ins C dx (putF (Str.ofString "called") (fV w.called) (putF (Str.ofString "part") u []))) p = some _ := upd_same
  generalize upd H1 p (HO.ins C dx (putF (Str.ofString "called") (fV w.called) (putF (Str.ofString "part") u []))) = H2 at *
  obtain ⟨a, d, fs, ea, ha, l1, l2⟩ := (ObjAt.keep (stillS s2) _ _ hu).notes
  refine ⟨_, rfl, a, _, d, fs, _, ea, ha, (hf w).cl, (hf w).nr, l2, _, rfl, p, C, dx, _, rfl, g2, T.cl, T.nr, (by show 2 < 1000; decide), ?_⟩
  exact k _ upd_same (Same.put h0 s2 _)
abbrev s_Unless_init : Stmt := inClass (top 30) 0
theorem sc_Unless_init : FnScope ["self", "part"] ["self", "part"] (defScope s_Unless_init) := ⟨rfl, rfl, rfl, by decide +kernel, rfl, by decide +kernel, by decide +kernel⟩
theorem ok_Unless {f C : Addr} {fd : FuncData} {c : Cs} (F : Fun K "__init__" "Unless.__init__" s_Unless_init f fd) (T : ClsF K C) (hf : ∀ w : W, ClsF K (c.of w)) : FnOk P w K mg base CX0 1 f fd ["self", "part"] (spInitP c C) := by
  refine F.ok sc_Unless_init (fun vs H Q E h => by obtain ⟨_, _, _, _, _, rfl, _⟩ := h; rfl) (fun cdv A outer s H vs Q E hr h => ?_)
  obtain ⟨p, dx, u, w, H0, rfl, ⟨hp, h0, s0⟩, hu, k⟩ := h
  refine ⟨_, (pss_cons (ps_fld (pv 0) (pv 1) rfl)
  (pss_cons (ps_fld (pv 0) (pe_fld (pv 1) rfl) rfl)
  (pss_one (ps_fld (pv 0) (pe_fld (pv 1) rfl) rfl)))), ?_⟩
  refine ⟨_, rfl, _, rfl, p, C, dx, [], rfl, hp, T.cl, T.np, (by show 0 < 1000; decide), ?_⟩
  have s1 := Same.put h0 s0 (HO.ins C dx (putF (Str.ofString "part") u []))
  have g1 : upd H p (HO.ins C dx (putF (Str.ofString "part") u [])) p = some (HO.ins C dx (putF (Str.ofString "part") u [])) := upd_same
  generalize upd H p (HO.ins C dx (putF (Str.ofString "part") u [])) = H1 at *
  obtain ⟨a, d, fs, ea, ha, l1, l2⟩ := (ObjAt.keep (stillS s1) _ _ hu).notes
  refine ⟨_, rfl, a, _, d, fs, _, ea, ha, (hf w).cl, (hf w).nc, l1, _, rfl, p, C, dx, _, rfl, g1, T.cl, T.nc, (by show 1 < 1000; decide), ?_⟩
  have s2 := Same.put h0 s1 (HO.ins C dx (putF (Str.ofString "called") (fV w.called) (putF (Str.ofString "part") u [])))
  have g2 : upd H1 p (HO.ins C dx (putF (Str.ofString "called") (fV w.called) (putF (Str.ofString "part") u []))) p = some _ := upd_same
  generalize upd H1 p (HO.ins C dx (putF (Str.ofString "called") (fV w.called) (putF (Str.ofString "part") u []))) = H2 at *
  obtain ⟨a, d, fs, ea, ha, l1, l2⟩ := (ObjAt.keep (stillS s2) _ _ hu).notes
  refine ⟨_, rfl, a, _, d, fs, _, ea, ha, (hf w).cl, (hf w).nr, l2, _, rfl, p, C, dx, _, rfl, g2, T.cl, T.nr, (by show 2 < 1000; decide), ?_⟩
  exact k _ upd_same (Same.put h0 s2 _)
abbrev s_Again_init : Stmt := inClass (top 27) 0
theorem sc_Again_init : FnScope ["self", "part"] ["self", "part"] (defScope s_Again_init) := ⟨rfl, rfl, rfl, by decide +kernel, rfl, by decide +kernel, by decide +kernel⟩
theorem ok_Again {f C : Addr} {fd : FuncData} {c : Cs} {mkC : Addr} (F : Fun K "__init__" "Again.__init__" s_Again_init f fd) (T : ClsF K C) (hf : ∀ w : W, ClsF K (c.of w)) (G_Mark : Mk0 K mg "Mark" mkC) : FnOk P w K mg base CX0 1 f fd ["self", "part"] (spInitA c C) := by
  refine F.ok sc_Again_init (fun vs H Q E h => by obtain ⟨_, _, _, _, _, rfl, _⟩ := h; rfl) (fun cdv A outer s H vs Q E hr h => ?_)
  obtain ⟨p, dx, u, w, H0, rfl, ⟨hp, h0, s0⟩, hu, k⟩ := h
  refine ⟨_, (pss_cons (ps_fld (pv 0) (pv 1) rfl)
  (pss_cons (ps_fld (pv 0) (pe_fld (pv 1) rfl) rfl)
  (pss_cons (ps_fld (pv 0) (pe_op op_add (pe_fld (pv 1) rfl) pe_int) rfl)
  (pss_one (ps_fld (pv 0) (pe_make00 G_Mark rfl) rfl))))), ?_⟩
  refine ⟨_, rfl, _, rfl, p, C, dx, [], rfl, hp, T.cl, T.np, (by show 0 < 1000; decide), ?_⟩
  have s1 := Same.put h0 s0 (HO.ins C dx (putF (Str.ofString "part") u []))
  have g1 : upd H p (HO.ins C dx (putF (Str.ofString "part") u [])) p = some (HO.ins C dx (putF (Str.ofString "part") u [])) := upd_same
  generalize upd H p (HO.ins C dx (putF (Str.ofString "part") u [])) = H1 at *
  obtain ⟨a, d, fs, ea, ha, l1, l2⟩ := (ObjAt.keep (stillS s1) _ _ hu).notes
  refine ⟨_, rfl, a, _, d, fs, _, ea, ha, (hf w).cl, (hf w).nc, l1, _, rfl, p, C, dx, _, rfl, g1, T.cl, T.nc, (by show 1 < 1000; decide), ?_⟩
  have s2 := Same.put h0 s1 (HO.ins C dx (putF (Str.ofString "called") (fV w.called) (putF (Str.ofString "part") u [])))
  have g2 : upd H1 p (HO.ins C dx (putF (Str.ofString "called") (fV w.called) (putF (Str.ofString "part") u []))) p = some _ := upd_same
  generalize upd H1 p (HO.ins C dx (putF (Str.ofString "called") (fV w.called) (putF (Str.ofString "part") u []))) = H2 at *
  obtain ⟨a, d, fs, ea, ha, l1, l2⟩ := (ObjAt.keep (stillS s2) _ _ hu).notes
  refine ⟨_, rfl, a, _, d, fs, _, ea, ha, (hf w).cl, (hf w).nr, l2, _, _, rfl, rfl, _, rfl, p, C, dx, _, rfl, g2, T.cl, T.nr, (by show 2 < 1000; decide), ?_⟩
  generalize e3 : putF (Str.ofString "rounds") (V.int ((w.rounds : Nat) + 1)) (putF (Str.ofString "called") (fV w.called) (putF (Str.ofString "part") u [])) = f3
  have s3 := Same.put h0 s2 (HO.ins C dx f3)
  have g3 : upd H2 p (HO.ins C dx f3) p = some (HO.ins C dx f3) := upd_same
  generalize upd H2 p (HO.ins C dx f3) = H3 at *
  intro m dm hm hdm hne
  have s4 := (at0 (C := mkC) hm hdm).2.2
  refine ⟨_, rfl, p, C, dx, _, rfl, s4 _ _ g3, T.cl, T.nm, (by rw [← e3]; show 3 < 1000; decide), ?_⟩
  refine k (.ref m) _ ?_ (Same.put h0 (s3.trans s4) _)
  rw [upd_same, ← e3]
  rfl
abbrev s_Row_init : Stmt := inClass (top 25) 0
theorem sc_Row_init : FnScope ["self", "ways"] ["self", "ways"] (defScope s_Row_init) := ⟨rfl, rfl, rfl, by decide +kernel, rfl, by decide +kernel, by decide +kernel⟩
theorem ok_Row {f C : Addr} {fd : FuncData} {c : Cs} (F : Fun K "__init__" "Row.__init__" s_Row_init f fd) (T : ClsF K C) (B : Bs mg) (G_first_call : DefOk P w K mg base 1 "first_call" ["ways"] (spFirst c)) (G_most_rounds : DefOk P w K mg base 1 "most_rounds" ["ways"] (spMost c)) : FnOk P w K mg base CX0 2 f fd ["self", "ways"] (spInitT K c C) := by
  have B_tuple := B.tuple
  refine F.ok sc_Row_init (fun vs H Q E h => by obtain ⟨_, _, _, _, _, _, rfl, _⟩ := h; rfl) (fun cdv A outer s H vs Q E hr h => ?_)
  obtain ⟨p, dx, q, xs, ws, H0, rfl, ⟨hp, h0, s0⟩, hq, hw, hl, k⟩ := h
  refine ⟨_, (pss_cons (ps_fld (pv 0) (pe_callTy call_tuple_of rfl B_tuple (by decide +kernel) (pa_cons (pv 1) pa_nil)) rfl)
  (pss_cons (ps_fld (pv 0) (pe_callD G_first_call (hr.mono (by first | decide | omega)) rfl (pa_cons (pe_fld (pv 0) rfl) pa_nil)) rfl)
  (pss_one (ps_fld (pv 0) (pe_callD G_most_rounds (hr.mono (by first | decide | omega)) rfl (pa_cons (pe_fld (pv 0) rfl) pa_nil)) rfl)))), ?_⟩
  have elen := ObjsAt.len _ _ hw
  have hq' := hq.imp (s0 _ _) (s0 _ _)
  refine ⟨_, rfl, q, xs, rfl, ?_⟩
  rcases hq' with hq' | hq'
  · refine .inl ⟨SqL.of hq', fun t ht0 => ?_⟩
    have npt : p ≠ t := ne_of_none hp ht0
    have s1 := s0.trans (Same.new ht0 (.tup xs))
    have ht : upd H t (.tup xs) t = some (.tup xs) := upd_same
    have hp1 : upd H t (.tup xs) p = some (.ins C dx []) := by rw [upd_ne npt]; exact hp
    generalize upd H t (.tup xs) = H1 at *
    refine ⟨_, rfl, p, C, dx, [], rfl, hp1, T.cl, T.nw, (by show 0 < 1000; decide), ?_⟩
    have s2 := Same.put h0 s1 (HO.ins C dx (putF (Str.ofString "ways") (.ref t) []))
    have g2 : upd H1 p (HO.ins C dx (putF (Str.ofString "ways") (.ref t) [])) p = some (HO.ins C dx (putF (Str.ofString "ways") (.ref t) [])) := upd_same
    have t2 : upd H1 p (HO.ins C dx (putF (Str.ofString "ways") (.ref t) [])) t = some (.tup xs) := by rw [upd_ne npt.symm]; exact ht
    generalize upd H1 p (HO.ins C dx (putF (Str.ofString "ways") (.ref t) [])) = H2 at *
    refine ⟨_, rfl, p, C, dx, _, _, rfl, g2, T.cl, T.nw, rfl, t, xs, ws, rfl, t2, ObjsAt.keep (stillS s2) _ _ hw, hl, fun H3 s3 => ?_⟩
    refine ⟨_, rfl, p, C, dx, _, rfl, s3 _ _ g2, T.cl, T.nc, (by show 1 < 1000; decide), ?_⟩
    generalize e4 : putF (Str.ofString "called") (fV (W.calleds ws)) (putF (Str.ofString "ways") (.ref t) []) = f4
    have s4 := Same.put h0 (s2.trans s3) (HO.ins C dx f4)
    have g4 : upd H3 p (HO.ins C dx f4) p = some (HO.ins C dx f4) := upd_same
    have t4 : upd H3 p (HO.ins C dx f4) t = some (.tup xs) := by rw [upd_ne npt.symm]; exact s3 _ _ t2
    generalize upd H3 p (HO.ins C dx f4) = H4 at *
    refine ⟨_, rfl, p, C, dx, _, _, rfl, g4, T.cl, T.nw, (by rw [← e4]; rfl), t, xs, ws, rfl, t4, ObjsAt.keep (stillS s4) _ _ hw, hl, fun H5 s5 => ?_⟩
    refine ⟨_, rfl, p, C, dx, _, rfl, s5 _ _ g4, T.cl, T.nr, (by rw [← e4]; show 2 < 1000; decide), ?_⟩
    refine k t _ (by rw [upd_ne npt.symm]; exact s5 _ _ t4) ?_ (Same.put h0 (s4.trans s5) _)
    rw [upd_same, ← e4]
    rfl
  · refine .inr ⟨SqT.of hq', ?_⟩
    have npt : p ≠ q := (ne_of hq' hp (by intro z; cases z)).symm
    have s1 := s0
    have ht := hq'
    have hp1 := hp
    refine ⟨_, rfl, p, C, dx, [], rfl, hp1, T.cl, T.nw, (by show 0 < 1000; decide), ?_⟩
    have s2 := Same.put h0 s1 (HO.ins C dx (putF (Str.ofString "ways") (.ref q) []))
    have g2 : upd H p (HO.ins C dx (putF (Str.ofString "ways") (.ref q) [])) p = some (HO.ins C dx (putF (Str.ofString "ways") (.ref q) [])) := upd_same
    have t2 : upd H p (HO.ins C dx (putF (Str.ofString "ways") (.ref q) [])) q = some (.tup xs) := by rw [upd_ne npt.symm]; exact ht
    generalize upd H p (HO.ins C dx (putF (Str.ofString "ways") (.ref q) [])) = H2 at *
    refine ⟨_, rfl, p, C, dx, _, _, rfl, g2, T.cl, T.nw, rfl, q, xs, ws, rfl, t2, ObjsAt.keep (stillS s2) _ _ hw, hl, fun H3 s3 => ?_⟩
    refine ⟨_, rfl, p, C, dx, _, rfl, s3 _ _ g2, T.cl, T.nc, (by show 1 < 1000; decide), ?_⟩
    generalize e4 : putF (Str.ofString "called") (fV (W.calleds ws)) (putF (Str.ofString "ways") (.ref q) []) = f4
    have s4 := Same.put h0 (s2.trans s3) (HO.ins C dx f4)
    have g4 : upd H3 p (HO.ins C dx f4) p = some (HO.ins C dx f4) := upd_same
    have t4 : upd H3 p (HO.ins C dx f4) q = some (.tup xs) := by rw [upd_ne npt.symm]; exact s3 _ _ t2
    generalize upd H3 p (HO.ins C dx f4) = H4 at *
    refine ⟨_, rfl, p, C, dx, _, _, rfl, g4, T.cl, T.nw, (by rw [← e4]; rfl), q, xs, ws, rfl, t4, ObjsAt.keep (stillS s4) _ _ hw, hl, fun H5 s5 => ?_⟩
    refine ⟨_, rfl, p, C, dx, _, rfl, s5 _ _ g4, T.cl, T.nr, (by rw [← e4]; show 2 < 1000; decide), ?_⟩
    refine k q _ (by rw [upd_ne npt.symm]; exact s5 _ _ t4) ?_ (Same.put h0 (s4.trans s5) _)
    rw [upd_same, ← e4]
    rfl
abbrev s_Choice_init : Stmt := inClass (top 26) 0
theorem sc_Choice_init : FnScope ["self", "ways"] ["self", "ways"] (defScope s_Choice_init) := ⟨rfl, rfl, rfl, by decide +kernel, rfl, by decide +kernel, by decide +kernel⟩
theorem ok_Choice {f C : Addr} {fd : FuncData} {c : Cs} (F : Fun K "__init__" "Choice.__init__" s_Choice_init f fd) (T : ClsF K C) (B : Bs mg) (G_first_call : DefOk P w K mg base 1 "first_call" ["ways"] (spFirst c)) (G_most_rounds : DefOk P w K mg base 1 "most_rounds" ["ways"] (spMost c)) : FnOk P w K mg base CX0 2 f fd ["self", "ways"] (spInitT K c C) := by
  have B_tuple := B.tuple
  refine F.ok sc_Choice_init (fun vs H Q E h => by obtain ⟨_, _, _, _, _, _, rfl, _⟩ := h; rfl) (fun cdv A outer s H vs Q E hr h => ?_)
  obtain ⟨p, dx, q, xs, ws, H0, rfl, ⟨hp, h0, s0⟩, hq, hw, hl, k⟩ := h
  refine ⟨_, (pss_cons (ps_fld (pv 0) (pe_callTy call_tuple_of rfl B_tuple (by decide +kernel) (pa_cons (pv 1) pa_nil)) rfl)
  (pss_cons (ps_fld (pv 0) (pe_callD G_first_call (hr.mono (by first | decide | omega)) rfl (pa_cons (pe_fld (pv 0) rfl) pa_nil)) rfl)
  (pss_one (ps_fld (pv 0) (pe_callD G_most_rounds (hr.mono (by first | decide | omega)) rfl (pa_cons (pe_fld (pv 0) rfl) pa_nil)) rfl)))), ?_⟩
  have elen := ObjsAt.len _ _ hw
  have hq' := hq.imp (s0 _ _) (s0 _ _)
  refine ⟨_, rfl, q, xs, rfl, ?_⟩
  rcases hq' with hq' | hq'
  · refine .inl ⟨SqL.of hq', fun t ht0 => ?_⟩
    have npt : p ≠ t := ne_of_none hp ht0
    have s1 := s0.trans (Same.new ht0 (.tup xs))
    have ht : upd H t (.tup xs) t = some (.tup xs) := upd_same
    have hp1 : upd H t (.tup xs) p = some (.ins C dx []) := by rw [upd_ne npt]; exact hp
    generalize upd H t (.tup xs) = H1 at *
    refine ⟨_, rfl, p, C, dx, [], rfl, hp1, T.cl, T.nw, (by show 0 < 1000; decide), ?_⟩
    have s2 := Same.put h0 s1 (HO.ins C dx (putF (Str.ofString "ways") (.ref t) []))
    have g2 : upd H1 p (HO.ins C dx (putF (Str.ofString "ways") (.ref t) [])) p = some (HO.ins C dx (putF (Str.ofString "ways") (.ref t) [])) := upd_same
    have t2 : upd H1 p (HO.ins C dx (putF (Str.ofString "ways") (.ref t) [])) t = some (.tup xs) := by rw [upd_ne npt.symm]; exact ht
    generalize upd H1 p (HO.ins C dx (putF (Str.ofString "ways") (.ref t) [])) = H2 at *
    refine ⟨_, rfl, p, C, dx, _, _, rfl, g2, T.cl, T.nw, rfl, t, xs, ws, rfl, t2, ObjsAt.keep (stillS s2) _ _ hw, hl, fun H3 s3 => ?_⟩
    refine ⟨_, rfl, p, C, dx, _, rfl, s3 _ _ g2, T.cl, T.nc, (by show 1 < 1000; decide), ?_⟩
    generalize e4 : putF (Str.ofString "called") (fV (W.calleds ws)) (putF (Str.ofString "ways") (.ref t) []) = f4
    have s4 := Same.put h0 (s2.trans s3) (HO.ins C dx f4)
    have g4 : upd H3 p (HO.ins C dx f4) p = some (HO.ins C dx f4) := upd_same
    have t4 : upd H3 p (HO.ins C dx f4) t = some (.tup xs) := by rw [upd_ne npt.symm]; exact s3 _ _ t2
    generalize upd H3 p (HO.ins C dx f4) = H4 at *
    refine ⟨_, rfl, p, C, dx, _, _, rfl, g4, T.cl, T.nw, (by rw [← e4]; rfl), t, xs, ws, rfl, t4, ObjsAt.keep (stillS s4) _ _ hw, hl, fun H5 s5 => ?_⟩
    refine ⟨_, rfl, p, C, dx, _, rfl, s5 _ _ g4, T.cl, T.nr, (by rw [← e4]; show 2 < 1000; decide), ?_⟩
    refine k t _ (by rw [upd_ne npt.symm]; exact s5 _ _ t4) ?_ (Same.put h0 (s4.trans s5) _)
    rw [upd_same, ← e4]
    rfl
  · refine .inr ⟨SqT.of hq', ?_⟩
    have npt : p ≠ q := (ne_of hq' hp (by intro z; cases z)).symm
    have s1 := s0
    have ht := hq'
    have hp1 := hp
    refine ⟨_, rfl, p, C, dx, [], rfl, hp1, T.cl, T.nw, (by show 0 < 1000; decide), ?_⟩
    have s2 := Same.put h0 s1 (HO.ins C dx (putF (Str.ofString "ways") (.ref q) []))
    have g2 : upd H p (HO.ins C dx (putF (Str.ofString "ways") (.ref q) [])) p = some (HO.ins C dx (putF (Str.ofString "ways") (.ref q) [])) := upd_same
    have t2 : upd H p (HO.ins C dx (putF (Str.ofString "ways") (.ref q) [])) q = some (.tup xs) := by rw [upd_ne npt.symm]; exact ht
    generalize upd H p (HO.ins C dx (putF (Str.ofString "ways") (.ref q) [])) = H2 at *
    refine ⟨_, rfl, p, C, dx, _, _, rfl, g2, T.cl, T.nw, rfl, q, xs, ws, rfl, t2, ObjsAt.keep (stillS s2) _ _ hw, hl, fun H3 s3 => ?_⟩
    refine ⟨_, rfl, p, C, dx, _, rfl, s3 _ _ g2, T.cl, T.nc, (by show 1 < 1000; decide), ?_⟩
    generalize e4 : putF (Str.ofString "called") (fV (W.calleds ws)) (putF (Str.ofString "ways") (.ref q) []) = f4
    have s4 := Same.put h0 (s2.trans s3) (HO.ins C dx f4)
    have g4 : upd H3 p (HO.ins C dx f4) p = some (HO.ins C dx f4) := upd_same
    have t4 : upd H3 p (HO.ins C dx f4) q = some (.tup xs) := by rw [upd_ne npt.symm]; exact s3 _ _ t2
    generalize upd H3 p (HO.ins C dx f4) = H4 at *
    refine ⟨_, rfl, p, C, dx, _, _, rfl, g4, T.cl, T.nw, (by rw [← e4]; rfl), q, xs, ws, rfl, t4, ObjsAt.keep (stillS s4) _ _ hw, hl, fun H5 s5 => ?_⟩
    refine ⟨_, rfl, p, C, dx, _, rfl, s5 _ _ g4, T.cl, T.nr, (by rw [← e4]; show 2 < 1000; decide), ?_⟩
    refine k q _ (by rw [upd_ne npt.symm]; exact s5 _ _ t4) ?_ (Same.put h0 (s4.trans s5) _)
    rw [upd_same, ← e4]
    rfl
end
end Wv
namespace Wv
open PySem PySem.Spec PyProof.Rows L2
/-! ### the law's inner, made, way -/
def spInner : Sp := fun vs H Q _ => ∃ (v : V) (w : W), vs = [v] ∧ WayAt H v w ∧ ∀ (q : Addr) (us : List V) (H' : Hp), Same H H' → H' q = some (.lst us) → WaysAt H' us w.inner → Q (.ref q) H'
def spMade (c : Cs) (s : Nat) : Sp := fun vs H Q _ => ∃ (v : V) (w : W), vs = [v] ∧ WayAt H v w ∧ w.size ≤ s ∧ w.size ≤ 1000 ∧ ∀ (u : V) (H' : Hp), Same H H' → ObjAt c H' u w → Q u H'
section
variable {P : Program} {w : World} {K : PySem.W.Frag} {mg : Str → Option Value} {base : Heap}
/-- the classes as they are made -/
structure Gs (P : Program) (w : World) (K : PySem.W.Frag) (mg : Str → Option Value) (base : Heap) (c : Cs) : Prop where
  lt : ClsOk P w K mg base 1 "Letter" c.lt ["self", "letter"] (spInitL c.lt)
  ca : ClsOk P w K mg base 1 "Call" c.ca ["self", "name"] (spInitC c.ca)
  ro : ClsOk P w K mg base 2 "Row" c.ro ["self", "ways"] (spInitT K c c.ro)
  ch : ClsOk P w K mg base 2 "Choice" c.ch ["self", "ways"] (spInitT K c c.ch)
  ag : ClsOk P w K mg base 1 "Again" c.ag ["self", "part"] (spInitA c c.ag)
  ma : ClsOk P w K mg base 1 "Maybe" c.ma ["self", "part"] (spInitP c c.ma)
  ah : ClsOk P w K mg base 1 "Ahead" c.ah ["self", "part"] (spInitP c c.ah)
  un : ClsOk P w K mg base 1 "Unless" c.un ["self", "part"] (spInitP c c.un)
  on : ClsOk P w K mg base 1 "One" c.on ["self"] (spInit0 c.on)
  no : ClsOk P w K mg base 1 "Nothing" c.no ["self"] (spInit0 c.no)
end
end Wv
/-! Rules of my own: t[::-1] of a tuple, xs.extend(t) of a tuple, constants of the module. -/
namespace Wv
open PySem PySem.Spec PyProof.Rows L2 HT
section
variable {prog : Program} {w : World} {A : Around} {E : Value → Shared → Prop} {s : Shared}
theorem adj_back (n : Nat) : Builtin.Slice.sliceAdjust none none (-1) (n : Int) = ((n : Int) - 1, -1) := by
  unfold Builtin.Slice.sliceAdjust
  simp
theorem places_back (n : Nat) : Builtin.Slice.slicePlaces ((n : Int) - 1) (-1) (-1) = n := by
  unfold Builtin.Slice.slicePlaces
  simp
  omega
theorem applied_back {sl : Addr} {n : Nat} {t : Tok} {Q : Int × Int × Nat → Shared → Prop} (hs : s.heap.IsSliceOf sl .none .none (.int (-1) t)) (h : Q ((n : Int) - 1, -1, n) s) :
    wpAny (model prog w) A (Builtin.Slice.sliceApplied (.ref sl) (pure (n : Int))) Q E s := by
  obtain ⟨os, hos, hcs, hds⟩ := id hs
  unfold Builtin.Slice.sliceApplied Builtin.Slice.sliceFields
  refine wpAny_bind (wpAny_bind (wpAny_field hos hds (x := Value.none) rfl (wpAny_bind (wpAny_field hos hds (x := Value.none) rfl (wpAny_bind (wpAny_field hos hds (x := Value.int (-1) t) rfl (wpAny_pure ?_)))))))
  refine wpAny_bind (slicePart_int ?_)
  show wpAny _ _ (if ((-1 : Int) == 0) = true then _ else _) _ _ s
  rw [if_neg (by decide)]
  refine wpAny_bind (slicePart_none (wpAny_bind (slicePart_none (wpAny_bind (wpAny_pure ?_)))))
  show wpAny _ _ (match Builtin.Slice.sliceAdjust none none (-1) (n : Int) with | (lo, hi) => pure (lo, (-1 : Int), Builtin.Slice.slicePlaces lo hi (-1))) _ _ s
  rw [adj_back n]
  show wpAny _ _ (pure ((n : Int) - 1, (-1 : Int), Builtin.Slice.slicePlaces ((n : Int) - 1) (-1) (-1))) _ _ s
  rw [places_back]
  exact wpAny_pure h
theorem pick_back (xs : Array Value) : ((List.range xs.size).filterMap fun (m : Nat) => xs[(((xs.size : Int) - 1) + (m : Int) * (-1)).toNat]?).toArray = xs.toList.reverse.toArray := by
  have e : (fun (m : Nat) => xs[(((xs.size : Int) - 1) + (m : Int) * (-1)).toNat]?) = (fun i => xs[i]?) ∘ fun m => xs.size - 1 - m := by
    funext m
    have : (((xs.size : Int) - 1) + (m : Int) * (-1)).toNat = xs.size - 1 - m := by omega
    rw [this]
    rfl
  rw [e, ← List.filterMap_map, PySem.W.krv_range, List.filterMap_reverse, PySem.W.krv_all]
theorem getItem_tuple_back {t sl : Addr} {items : Array Value} {tk : Tok} {Q : Value → Shared → Prop} (ht : IsTup s.heap t items) (hs : s.heap.IsSliceOf sl .none .none (.int (-1) tk))
    (h : Q (.ref s.heap.objs.size) { s with heap := s.heap.push { cls := .type "tuple", data := .seq items.toList.reverse.toArray } }) (hsz : items.size ≤ sizeLine) : wpAny (model prog w) A (getItem (.ref t) (.ref sl)) Q E s := by
  have htake : sizeOk (.seq items.toList.reverse.toArray) := by
    show items.toList.reverse.toArray.size ≤ sizeLine
    rw [List.size_toArray, List.length_reverse, Array.length_toList]
    exact hsz
  obtain ⟨os, hos, hcs, _⟩ := id hs
  have isSl : s.TypeIs (.ref sl) "slice" := ⟨os, hos, hcs⟩
  unfold getItem
  try with_reducible refine wpAny_holding ?_
  first | refine wpAny_bind (wpAny_pure ?_) | skip
  refine wpAny_bind (wpAny_sequenceKey ht.typeIs (by decide) ?_)
  refine wpAny_bind (wpAny_callSpecial?_slot (name := Str.ofString "__getitem__") ht.typeIs slot_tuple_getitem (wpAny_call_entry slot_tuple_getitem ht.typeIs entry_tuple_getitem ?_ (args_tuple_getitem _ _)))
  show wpAny _ _ (Builtin.Tuple.tupleItemsOf (.ref t) >>= _) _ _ s
  refine wpAny_bind (tupleItemsOf_ ht (wpAny_bind (wpAny_typeOf isSl ?_)))
  rw [if_pos (by decide)]
  refine wpAny_bind (applied_back hs ?_)
  show wpAny _ _ (if (((items.size : Int) - 1) == 0 && (-1 : Int) == 1 && items.size == items.size) = true then _ else _) _ _ s
  rw [if_neg (by simp), pick_back]
  first
    | exact wpAny_bind (m := Builtin.Tuple.tupleExact _) (wpAny_newObj_type (wpAny_pure ⟨_, rfl, wpAny_pure h⟩) htake)
    | exact wpAny_bind (wpAny_bind (m := Builtin.Tuple.tupleExact _) (wpAny_newObj_type (wpAny_pure (wpAny_pure ⟨_, rfl, wpAny_pure h⟩)) htake))
    | exact wpAny_bind (wpAny_bind (m := Builtin.Tuple.tupleExact _) (wpAny_newObj_type (wpAny_pure ⟨_, rfl, wpAny_pure h⟩) htake))
    | exact wpAny_bind (m := Builtin.Tuple.tupleExact _) (wpAny_newObj_type (wpAny_bind (wpAny_pure (wpAny_pure ⟨_, rfl, wpAny_pure h⟩))) htake)
end
/-! ### t[::-1] -/
def tRevT (K : PySem.W.Frag) (te : TE) : TE := fun σ H Q => te σ H fun x H1 => ∃ a xs, x = .ref a ∧ SqT K H1 a xs ∧ ∀ p, H1 p = none → Q (.ref p) (upd H1 p (.tup xs.reverse))
section
variable {X : Cx}
theorem pe_revT {e : Expr} {te : TE} {k : Nat} {p1 p2 p3 pos : Pos} (he : PE X e te) : PE X (.Subscript e (.Slice none none (some (.UnaryOp .USub (.Constant (.int 1) k p1) p2)) p3) pos) (tRevT X.K te) := by
  refine ⟨fun pins s σ H Q I h => ?_⟩
  refine Subscript_ (thn (he.run pins s σ H _ I h) fun v s1 ⟨x, H1, I1, r1, q1⟩ => ?_)
  obtain ⟨a, xs, ex, hx, q⟩ := q1
  subst ex
  cases r1
  have hst : PO X (some (.UnaryOp .USub (.Constant (.int 1) k p1) p2)) (tPart (tUn (rU fun i => .int (-i)) (tC (.int 1)))) := po_some (pe_un un_neg pe_int)
  refine wpAny_Slice (thn (po_none.run pins s1 σ H1 (fun o H2 => o = none ∧ H2 = H1) I1 ⟨rfl, rfl⟩) fun vl s2 ⟨l, H2, I2, pl, el, e2⟩ => ?_)
  subst el e2
  refine thn (po_none.run pins s2 σ H2 (fun o H3 => o = none ∧ H3 = H2) I2 ⟨rfl, rfl⟩) fun vu s3 ⟨u, H3, I3, pu, eu, e3⟩ => ?_
  subst eu e3
  refine thn (hst.run pins s3 σ H3 (fun o H4 => o = some (-1) ∧ H4 = H3) I3 ⟨1, rfl, -1, rfl, rfl, rfl⟩) fun vs s4 ⟨o, H4, I4, ps, eo, e4⟩ => ?_
  subst eo e4
  cases pl
  cases pu
  generalize hv : (-1 : Int) = mi at ps
  cases ps with
  | int i tk =>
    subst hv
    have I5 : Inv X pins σ H4 { s4 with heap := s4.heap.push { cls := .type "slice", data := .fields #[.none, .none, .int (-1) tk] } } := I4.kept (t' := s4.toks) fun b ob q => Heap.get?_push_of_some _ q
    obtain ⟨its, r, ht, hz⟩ := I5.tuple hx
    have hlen := r.length
    show wpAny (model X.prog X.w) X.A (subscriptTail e (.Slice none none (some (.UnaryOp .USub (.Constant (.int 1) k p1) p2)) p3) (.ref a) (.ref s4.heap.objs.size)) (EP X pins σ Q) X.xe { s4 with heap := s4.heap.push { cls := .type "slice", data := .fields #[.none, .none, .int (-1) tk] } }
    refine tail_any (ops := [.ref a, .ref s4.heap.objs.size]) ht.typeIs (PyProof.Rows.slot_tuple_getitem.lookup) ?_ (by with_unfolding_all rfl)
    refine getItem_tuple_back ht (Heap.IsSliceOf.new _ .none .none (.int (-1) tk)) ?_ (by rw [List.size_toArray]; omega)
    refine ⟨.ref _, _, I5.laid (t' := s4.toks) (o := .tup xs.reverse) (fun b ob q => Heap.get?_push_of_some _ q) (Nat.le_refl _) ?_, rfl, q _ (I5.hok.fresh (Nat.le_refl _))⟩
    exact ⟨by rw [List.length_reverse]; exact hz, _, r.reverse, IsTup.new _ _⟩
/-! ### xs.extend(t), t a tuple -/
theorem ext_tup (l : Addr) (items : Array Value) (n : Nat) (b : Addr) (items2 : Array Value) (n2 : Nat) (dd : Option Addr) (sl : Array (Option Value)) (hs0 : ¬(!items.isEmpty && Builtin.List.listTooLong (items.size + items2.size)) = true) (hs1 : items.size ≤ sizeLine) (hs2 : items.size + items2.size ≤ sizeLine + 1) :
    Meets (Builtin.«list.extend» ⟨[.ref l, .ref b], []⟩) (fun _ R s => s.heap.get? l = some { cls := .type "list", dict := none, data := .seq items n, slots := #[] } ∧ s.heap.get? b = some { cls := .type "tuple", dict := dd, data := .seq items2 n2, slots := sl } ∧
      R (.ok (.ret Value.none)) { s with heap := s.heap.update l (Obj.mapSeq fun x => x ++ items2), toks := s.toks }) :=
  .of_wp fun prog w A R s h => by
    obtain ⟨hp, g, d, tk, os⟩ := s
    obtain ⟨hl, hb, h⟩ := h
    have f1 := AutoSeq1.idx_int; have f2 := AutoSeq1.sub_tuple_tuple; have f3 := AutoSeq1.sub_list_list; have f4 := AutoSeq1.sub_tuple_list; have f5 := AutoSeq1.sub_list_tuple
    have hz' : (items ++ items2).size ≤ sizeLine + 1 := by rw [Array.size_append]; omega
    wp_walk using (wpAny_updateSeq hl rfl (hz := hs1) (_hz' := hz')), wpAny_loadPart' hl, wpAny_loadPart' hb
    exact ⟨_, rfl, h⟩
def rExtT (K : PySem.W.Frag) : V → List V → Hp → VK → Prop := fun x vs H Q => ∃ l b xs zs, x = .ref l ∧ vs = [.ref b] ∧ H l = some (.lst xs) ∧ SqT K H b zs ∧ xs.length + zs.length ≤ sizeLine ∧ Q .non (upd H l (.lst (xs ++ zs)))
theorem mt_extendT : MtR X "list.extend" (rExtT X.K) := by
  intro pins s σ H x vs v us Q I rx rv h
  obtain ⟨l, b, xs, zs, rfl, rfl, hH, hB, hz, q⟩ := h
  cases rx
  obtain ⟨u, rfl, ru⟩ := rv.one
  cases ru
  obtain ⟨z, its, n, r, hl, e⟩ := I.lstM hH
  obtain ⟨its2, r2, ht2, hl2⟩ := I.tuple hB
  obtain ⟨⟨cls2, dd2, data2, sl2⟩, e2, hc2, n2, hd2⟩ := id ht2
  simp only at hc2 hd2
  subst hc2 hd2
  have hsz : its.toArray.size + its2.toArray.size ≤ sizeLine := by rw [List.size_toArray, List.size_toArray, ← r.length, ← r2.length]; exact hz
  have hlong : ¬ (!its.toArray.isEmpty && Builtin.List.listTooLong (its.toArray.size + its2.toArray.size)) = true := by
    rw [notLongL hsz, Bool.and_false]
    exact Bool.false_ne_true
  refine call_meets PySem.F.slot_list_extend ⟨_, e, rfl⟩ PySem.F.entry_list_extend (PySem.F.args_list_extend_2 _ _) (ext_tup l its.toArray n b its2.toArray n2 dd2 sl2 hlong (by omega) (by omega)) ⟨e, e2, ?_⟩
  refine ⟨.non, _, I.lset (its' := its ++ its2) hH e (by simp) (r.append r2) ?_, rfl, q⟩
  rw [List.length_append]
  exact hz
/-! ### a constant of the module -/
theorem pe_globI {x : Str} {i : Int} {pos : Pos} (hg : Gl X x) (hm : ∃ t, X.mg x = some (.int i t)) (hd : (x == ("__debug__" : Str)) = false := by decide) : PE X (.Name x pos) (tC (.int i)) := by
  obtain ⟨t, e⟩ := hm
  exact pe_glob hg e ⟨t, rfl⟩ hd
/-- a class of the module as a value -/
theorem pe_globC {x : Str} {C : Addr} {pos : Pos} (hg : Gl X x) (hm : X.mg x = some (.ref C)) (hd : (x == ("__debug__" : Str)) = false := by decide) : PE X (.Name x pos) (tC (.ref C)) := pe_glob hg hm rfl hd
/-- t + u, also of empty ones -/
def rCatA (K : PySem.W.Frag) : R2 := fun x y H Q => ∃ a b xs ys, x = .ref a ∧ y = .ref b ∧ SqT K H a xs ∧ SqT K H b ys ∧ xs.length + ys.length ≤ sizeLine ∧
  (xs = [] → Q (.ref b) H) ∧ (xs ≠ [] → ys = [] → Q (.ref a) H) ∧ (xs ≠ [] → ys ≠ [] → ∀ p, H p = none → Q (.ref p) (upd H p (.tup (xs ++ ys))))
theorem op_catA : OpR X (binaryOp .Add) (rCatA X.K) := by
  intro pins s σ H x y v u Q I rx ry h
  obtain ⟨a, b, xs, ys, rfl, rfl, ha, hb, hz, q0, q1, q2⟩ := h
  by_cases hx : xs = []
  · subst hx
    cases rx
    cases ry
    obtain ⟨its, r1, p1, _⟩ := I.tuple ha
    obtain ⟨its2, r2, p2, _⟩ := I.tuple hb
    cases r1
    obtain ⟨⟨cls, dd, data, sl⟩, ho, hc, n, hd⟩ := id p1
    obtain ⟨⟨cls2, dd2, data2, sl2⟩, ho2, hc2, n2, hd2⟩ := id p2
    simp only at hc hd hc2 hd2
    subst hc hd hc2 hd2
    exact concat_meets ⟨_, ho, rfl⟩ ⟨_, ho2, rfl⟩ noFill_tuple_add seq_tuple_add PySem.F.slot_tuple_add PySem.F.entry_tuple_add (PySem.F.args_tuple_add_2 _ _)
      (tuple_addW0 a b #[] its2.toArray n n2 dd dd2 sl sl2 (by rfl)) ⟨ho, ho2, ⟨.ref b, H, I, rfl, q0 rfl⟩⟩
  · exact op_catT pins s σ H _ _ v u Q I rx ry ⟨a, b, xs, ys, rfl, rfl, ha, hb, hx, hz, q1 hx, q2 hx⟩
/-- what does not name the part around it: for a comprehension's block -/
theorem op_catTK {K : PySem.W.Frag} (e : X.K = K) : OpR X (binaryOp .Add) (rCatT K) := e ▸ op_catT
theorem pg_tupK {K : PySem.W.Frag} {es : List Expr} {k : Nat} {t : TGs} {n : Nat} {pos : Pos} (e : X.K = K) (hc : X.calm = true) (h : PGs X es t)
    (hn : (assignEach es X.env).length = n := by rfl) (hst : (assignEach es X.env).findIdx? (·.1) = none := by rfl) : PG X (.Tuple es k pos) (gTup K n t) := e ▸ pg_tup hc h hn hst
end
end Wv
/-! list(zip(s, t)) of two tuples of one length: the pairs are kept, so that each turn makes its own. -/
namespace Wz
open PySem
open Sem (wp)
open PySem.W (kdx_alive)
section
variable {prog : Program} {w : World} {A : Around} {E : Value → Shared → Prop} {s : Shared}
theorem held_item {z TI TO T i1 i2 l1 l2 : Addr} {f : Bool} {oT : Obj} {k1 k2 : Nat} {xs ys : Array Value} {x y : Value} {Q : Value → Shared → Prop} (D : ZipApart z TI TO i1 i2 l1 l2)
    (zh : IsZipHeld s.heap z TI TO T f) (hT : s.heap.get? T = some oT) (hTI : IsPair s.heap TI (.ref i1) (.ref i2)) (t1 : s.heap.IsTupleIter i1 l1 k1) (t2 : s.heap.IsTupleIter i2 l2 k2) (u1 : s.heap.IsTuple l1 xs) (u2 : s.heap.IsTuple l2 ys)
    (hx : xs[k1]? = some x) (hy : ys[k2]? = some y)
    (go : ∀ h', IsZipHeld h' z TI TO T true → h'.IsTupleIter i1 l1 (k1 + 1) → h'.IsTupleIter i2 l2 (k2 + 1) → IsPair h' s.heap.objs.size x y → h'.objs.size = s.heap.objs.size + 1 → (∀ c o, c ≠ z → c ≠ i1 → c ≠ i2 → s.heap.get? c = some o → h'.get? c = some o) →
      Q (.ref s.heap.objs.size) { s with heap := h' }) : wpAny (model prog w) A (Builtin.«zip.__next__» ⟨[.ref z], []⟩) (fun fin s' => ∃ v, fin = .done (.ret v) ∧ Q v s') E s := by
  show wpAny _ _ (field (.ref z) 2 >>= _) _ _ _
  refine wpAny_bind (wpAny_field zh rfl (x := .bool false) rfl ?_); show wpAny _ _ (field (.ref z) 3 >>= _) _ _ _
  refine wpAny_bind (wpAny_field zh rfl (x := .ref TI) rfl (wpAny_bind (wpAny_seqItems hTI rfl ?_)))
  show wpAny _ _ (Builtin.SmallTypes.ownedTupleIsFree (.ref z) >>= _) _ _ _
  refine wpAny_bind (wpAny_tupleHeld_zip zh hT fun ha za sa => ?_)
  simp only [Bool.false_eq_true, if_false]
  refine wpAny_bind ?_
  rw [← Array.forIn_toList]; simp only [List.forIn_cons, List.forIn_nil]
  refine wpAny_bind (wpAny_bind (wpAny_holding ?_)); show wpAny _ _ (Builtin.SmallTypes.nextOf (.ref i1) >>= _) _ _ _
  refine wpAny_bind (RZ.nextOf_tuple_item (s := { s with heap := ha }) (t1.extBut sa.extBut D.i1z) (u1.extBut sa.extBut D.l1z) hx fun hb tb sb => wpAny_pure (wpAny_pure ?_))
  refine wpAny_bind (wpAny_bind (wpAny_holding ?_)); show wpAny _ _ (Builtin.SmallTypes.nextOf (.ref i2) >>= _) _ _ _
  refine wpAny_bind (RZ.nextOf_tuple_item (s := { s with heap := hb }) ((t2.extBut sa.extBut D.i2z).extBut sb.extBut D.i12.symm) ((u2.extBut sa.extBut D.l2z).extBut sb.extBut D.l2i1) hy fun hc tc sc => wpAny_pure (wpAny_pure (wpAny_pure ?_)))
  show wpAny _ _ (newTuple [x, y] >>= _) _ _ _
  refine wpAny_bind (wpAny_newTuple ?_)
  have ez : hc.objs.size = s.heap.objs.size := by rw [sc.1, sb.1, sa.1]
  have zc : IsZipHeld hc z TI TO T true := sc.extBut _ _ D.i2z.symm (sb.extBut _ _ D.i1z.symm za)
  have kc : ∀ c o, c ≠ z → c ≠ i1 → c ≠ i2 → s.heap.get? c = some o → hc.get? c = some o := fun c o c1 c2 c3 e => sc.extBut _ _ c3 (sb.extBut _ _ c2 (sa.extBut _ _ c1 e))
  have td : hc.IsTupleIter i1 l1 (k1 + 1) := tb.extBut sc.extBut D.i12
  refine wpAny_pure ⟨_, rfl, ?_⟩
  show Q (.ref hc.objs.size) _
  have pn : IsPair (hc.push { cls := .type "tuple", data := .seq #[x, y] }) hc.objs.size x y := Heap.get?_push_size _ rfl
  have sn : (hc.push { cls := .type "tuple", data := .seq #[x, y] }).objs.size = hc.objs.size + 1 := Heap.size_push ..
  rw [ez] at pn sn ⊢
  exact go _ (Heap.get?_push_of_some _ zc) (td.at fun o e => Heap.get?_push_of_some _ e) (tc.at fun o e => Heap.get?_push_of_some _ e) pn sn fun c o c1 c2 c3 e => Heap.get?_push_of_some _ (kc c o c1 c2 c3 e)
theorem held_end {z TI TO T i1 i2 l1 l2 : Addr} {f : Bool} {oT : Obj} {k1 : Nat} {xs : Array Value} {Q : Fin → Shared → Prop} (hh : A.handled = none) (D : ZipApart z TI TO i1 i2 l1 l2)
    (zh : IsZipHeld s.heap z TI TO T f) (hT : s.heap.get? T = some oT) (hTI : IsPair s.heap TI (.ref i1) (.ref i2)) (t1 : s.heap.IsTupleIter i1 l1 k1) (u1 : s.heap.IsTuple l1 xs) (hx : xs[k1]? = none)
    (go : ∀ h' e, (∀ c o, c ≠ z → c ≠ i1 → c ≠ i2 → s.heap.get? c = some o → h'.get? c = some o) → (∃ o, h'.get? e = some o ∧ o.cls = .type "StopIteration") → E (.ref e) { s with heap := h' }) :
    wpAny (model prog w) A (Builtin.«zip.__next__» ⟨[.ref z], []⟩) Q E s := by
  show wpAny _ _ (field (.ref z) 2 >>= _) _ _ _
  refine wpAny_bind (wpAny_field zh rfl (x := .bool false) rfl ?_); show wpAny _ _ (field (.ref z) 3 >>= _) _ _ _
  refine wpAny_bind (wpAny_field zh rfl (x := .ref TI) rfl (wpAny_bind (wpAny_seqItems hTI rfl ?_)))
  show wpAny _ _ (Builtin.SmallTypes.ownedTupleIsFree (.ref z) >>= _) _ _ _
  refine wpAny_bind (wpAny_tupleHeld_zip zh hT fun ha za sa => ?_)
  simp only [Bool.false_eq_true, if_false]
  refine wpAny_bind ?_
  rw [← Array.forIn_toList]; simp only [List.forIn_cons, List.forIn_nil]
  refine wpAny_bind (wpAny_bind (wpAny_holding ?_)); show wpAny _ _ (Builtin.SmallTypes.nextOf (.ref i1) >>= _) _ _ _
  refine wpAny_bind (RZ.nextOf_tuple_end (s := { s with heap := ha }) hh (t1.extBut sa.extBut D.i1z) (u1.extBut sa.extBut D.l1z) hx fun hb e sb he => ?_)
  exact go hb e (fun c o c1 c2 _ x => sb _ _ c2 (sa.extBut _ _ c1 x)) he
theorem next_held {z TI TO T i1 i2 l1 l2 : Addr} {f : Bool} {oT : Obj} {k1 k2 : Nat} {xs ys : Array Value} {x y : Value} {Q : Option Value → Shared → Prop} (D : ZipApart z TI TO i1 i2 l1 l2)
    (zh : IsZipHeld s.heap z TI TO T f) (hT : s.heap.get? T = some oT) (hTI : IsPair s.heap TI (.ref i1) (.ref i2)) (t1 : s.heap.IsTupleIter i1 l1 k1) (t2 : s.heap.IsTupleIter i2 l2 k2) (u1 : s.heap.IsTuple l1 xs) (u2 : s.heap.IsTuple l2 ys)
    (hx : xs[k1]? = some x) (hy : ys[k2]? = some y)
    (go : ∀ h', IsZipHeld h' z TI TO T true → h'.IsTupleIter i1 l1 (k1 + 1) → h'.IsTupleIter i2 l2 (k2 + 1) → IsPair h' s.heap.objs.size x y → h'.objs.size = s.heap.objs.size + 1 → (∀ c o, c ≠ z → c ≠ i1 → c ≠ i2 → s.heap.get? c = some o → h'.get? c = some o) →
      Q (some (.ref s.heap.objs.size)) { s with heap := h' }) : wpAny (model prog w) A (pyNext (.ref z)) Q E s := by
  have ty : s.TypeIs (.ref z) "zip" := ⟨_, zh, rfl⟩
  unfold pyNext
  exact wpAny_bind (wpAny_attempt (wpAny_callSpecial?_slot (name := Str.ofString "__next__") ty F.slot_zip_next (wpAny_call_entry F.slot_zip_next ty F.entry_zip_next
    (held_item D zh hT hTI t1 t2 u1 u2 hx hy fun h' a1 a3 a4 a5 a6 a7 => wpAny_pure (go h' a1 a3 a4 a5 a6 a7)) (F.args_zip_next_1 _))))
theorem next_held_end {z TI TO T i1 i2 l1 l2 : Addr} {f : Bool} {oT : Obj} {k1 : Nat} {xs : Array Value} {Q : Option Value → Shared → Prop} (hh : A.handled = none) (D : ZipApart z TI TO i1 i2 l1 l2)
    (zh : IsZipHeld s.heap z TI TO T f) (hT : s.heap.get? T = some oT) (hTI : IsPair s.heap TI (.ref i1) (.ref i2)) (t1 : s.heap.IsTupleIter i1 l1 k1) (u1 : s.heap.IsTuple l1 xs) (hx : xs[k1]? = none)
    (go : ∀ h', (∀ c o, c ≠ z → c ≠ i1 → c ≠ i2 → s.heap.get? c = some o → h'.get? c = some o) → Q none { s with heap := h' }) : wpAny (model prog w) A (pyNext (.ref z)) Q E s := by
  have ty : s.TypeIs (.ref z) "zip" := ⟨_, zh, rfl⟩
  unfold pyNext
  refine wpAny_bind (wpAny_attempt (wpAny_callSpecial?_slot (name := Str.ofString "__next__") ty F.slot_zip_next (wpAny_call_entry F.slot_zip_next ty F.entry_zip_next (held_end hh D zh hT hTI t1 u1 hx fun h' e hk he => ?_) (F.args_zip_next_1 _))))
  obtain ⟨o, ho, hc⟩ := he
  exact wpAny_bind (wpAny_isInstance (T := "StopIteration") (b := true) ⟨o, ho, hc⟩ isSubtype_stop (wpAny_pure (go _ hk)))
end
/-- the five records of a zip and its tuples, the list at S behind them -/
structure Apart (z TI TO i1 i2 l1 l2 S : Addr) : Prop where
  D : ZipApart z TI TO i1 i2 l1 l2
  zS : z < S
  TIS : TI < S
  TOS : TO < S
  i1S : i1 < S
  i2S : i2 < S
  l1S : l1 < S
  l2S : l2 < S
/-- the zip ahead of turn i -/
structure St (h : Heap) (z TI TO i1 i2 l1 l2 S : Addr) (xs ys : Array Value) (i : Nat) : Prop where
  ti : IsPair h TI (.ref i1) (.ref i2)
  t1 : h.IsTupleIter i1 l1 i
  t2 : h.IsTupleIter i2 l2 i
  u1 : h.IsTuple l1 xs
  u2 : h.IsTuple l2 ys
  own : (IsZip h z TI TO .none ∧ ∃ a b, IsPair h TO a b) ∨ ∃ T f oT, IsZipHeld h z TI TO T f ∧ h.get? T = some oT ∧ S < T
theorem St.keep {h h' : Heap} {z TI TO i1 i2 l1 l2 S : Addr} {xs ys : Array Value} {i : Nat} (A : Apart z TI TO i1 i2 l1 l2 S) (st : St h z TI TO i1 i2 l1 l2 S xs ys i) (k : ∀ b o, b ≠ S → h.get? b = some o → h'.get? b = some o) : St h' z TI TO i1 i2 l1 l2 S xs ys i where
  ti := k _ _ (Nat.ne_of_lt A.TIS) st.ti
  t1 := st.t1.at fun o e => k _ o (Nat.ne_of_lt A.i1S) e
  t2 := st.t2.at fun o e => k _ o (Nat.ne_of_lt A.i2S) e
  u1 := let ⟨o, e, r⟩ := st.u1; ⟨o, k _ _ (Nat.ne_of_lt A.l1S) e, r⟩
  u2 := let ⟨o, e, r⟩ := st.u2; ⟨o, k _ _ (Nat.ne_of_lt A.l2S) e, r⟩
  own := by
    rcases st.own with ⟨h1, a, b, h2⟩ | ⟨T, f, oT, h1, h2, h3⟩
    · exact .inl ⟨k _ _ (Nat.ne_of_lt A.zS) h1, a, b, k _ _ (Nat.ne_of_lt A.TOS) h2⟩
    · exact .inr ⟨T, f, oT, k _ _ (Nat.ne_of_lt A.zS) h1, k _ _ (Nat.ne_of_gt h3) h2, h3⟩
section
variable {prog : Program} {w : World} {A : Around} {E : Value → Shared → Prop} {s : Shared}
theorem far_ne {c m S i1 : Nat} (h : c < i1 ∨ S ≤ c) (a : i1 ≤ m) (b : m < S) : c ≠ m := by omega
theorem low_ne {c S i1 : Nat} (h : c < i1) (b : i1 < S) : c ≠ S := by omega
theorem turn_item {z TI TO i1 i2 l1 l2 S : Addr} {i : Nat} {xs ys : Array Value} {x y : Value} {Q : Option Value → Shared → Prop} (B : Apart z TI TO i1 i2 l1 l2 S) (hS : S < s.heap.objs.size) (st : St s.heap z TI TO i1 i2 l1 l2 S xs ys i) (hx : xs[i]? = some x) (hy : ys[i]? = some y)
    (go : ∀ h', St h' z TI TO i1 i2 l1 l2 S xs ys (i + 1) → IsPair h' s.heap.objs.size x y → h'.objs.size = s.heap.objs.size + 1 → (∀ c o, (c < i1 ∨ S ≤ c) → s.heap.get? c = some o → h'.get? c = some o) → Q (some (.ref s.heap.objs.size)) { s with heap := h' })
    (low : i1 ≤ i2 ∧ i1 ≤ TI ∧ i1 ≤ TO ∧ i1 ≤ z ∧ l1 < i1 ∧ l2 < i1) : wpAny (model prog w) A (pyNext (.ref z)) Q E s := by
  obtain ⟨b1, b2, b3, b4, b5, b6⟩ := low
  have D := B.D
  have zS := B.zS; have TOS := B.TOS; have i1S := B.i1S; have i2S := B.i2S; have TIS := B.TIS
  rcases st.own with ⟨h1, a, b, h2⟩ | ⟨T, f, oT, h1, h2, h3⟩
  · refine RZ.pyNext_zipT_item D h1 st.ti h2 st.t1 st.t2 st.u1 st.u2 hx hy fun h' z' TO' t1' t2' pn sz k => ?_
    refine go h' ⟨k _ _ D.TIz D.TITO D.TIi1 D.TIi2 st.ti, t1', t2', ?_, ?_, .inr ⟨_, false, _, z', pn, hS⟩⟩ pn sz fun c o hc e => k c o (far_ne hc b4 zS) (far_ne hc b3 TOS) (far_ne hc (Nat.le_refl _) i1S) (far_ne hc b1 i2S) e
    · obtain ⟨o, e, r⟩ := st.u1; exact ⟨o, k _ _ D.l1z D.l1TO D.l1i1 D.l1i2 e, r⟩
    · obtain ⟨o, e, r⟩ := st.u2; exact ⟨o, k _ _ D.l2z D.l2TO D.l2i1 D.l2i2 e, r⟩
  · refine next_held D h1 h2 st.ti st.t1 st.t2 st.u1 st.u2 hx hy fun h' z' t1' t2' pn sz k => ?_
    refine go h' ⟨k _ _ D.TIz D.TIi1 D.TIi2 st.ti, t1', t2', ?_, ?_, .inr ⟨T, true, oT, z', k _ _ (Nat.ne_of_gt (Nat.lt_trans zS h3)) (Nat.ne_of_gt (Nat.lt_trans i1S h3)) (Nat.ne_of_gt (Nat.lt_trans i2S h3)) h2, h3⟩⟩ pn sz fun c o hc e => k c o (far_ne hc b4 zS) (far_ne hc (Nat.le_refl _) i1S) (far_ne hc b1 i2S) e
    · obtain ⟨o, e, r⟩ := st.u1; exact ⟨o, k _ _ D.l1z D.l1i1 D.l1i2 e, r⟩
    · obtain ⟨o, e, r⟩ := st.u2; exact ⟨o, k _ _ D.l2z D.l2i1 D.l2i2 e, r⟩
theorem turn_end {z TI TO i1 i2 l1 l2 S : Addr} {i : Nat} {xs ys : Array Value} {Q : Option Value → Shared → Prop} (hh : A.handled = none) (B : Apart z TI TO i1 i2 l1 l2 S) (st : St s.heap z TI TO i1 i2 l1 l2 S xs ys i) (hx : xs[i]? = none)
    (go : ∀ h', (∀ c o, (c < i1 ∨ S ≤ c) → s.heap.get? c = some o → h'.get? c = some o) → Q none { s with heap := h' })
    (low : i1 ≤ i2 ∧ i1 ≤ TI ∧ i1 ≤ TO ∧ i1 ≤ z ∧ l1 < i1 ∧ l2 < i1) : wpAny (model prog w) A (pyNext (.ref z)) Q E s := by
  obtain ⟨b1, b2, b3, b4, b5, b6⟩ := low
  have D := B.D
  have zS := B.zS; have TOS := B.TOS; have i1S := B.i1S; have i2S := B.i2S; have TIS := B.TIS
  rcases st.own with ⟨h1, a, b, h2⟩ | ⟨T, f, oT, h1, h2, h3⟩
  · refine RZ.pyNext_zipT_end hh D h1 st.ti h2 st.t1 st.t2 st.u1 st.u2 (.inl hx) fun h' k => go h' fun c o hc e => k c o (far_ne hc b4 zS) (far_ne hc b3 TOS) (far_ne hc (Nat.le_refl _) i1S) (far_ne hc b1 i2S) e
  · refine next_held_end hh D h1 h2 st.ti st.t1 st.u1 hx fun h' k => go h' fun c o hc e => k c o (far_ne hc b4 zS) (far_ne hc (Nat.le_refl _) i1S) (far_ne hc b1 i2S) e
end
/-- the pairs made so far -/
structure Gv (xs ys : Array Value) (lo : Addr) (h : Heap) (as : List Addr) : Prop where
  rise : as.Pairwise (· < ·)
  above : ∀ a ∈ as, lo < a
  pairs : ∀ (j : Nat) (a : Addr), as[j]? = some a → ∃ x y, xs[j]? = some x ∧ ys[j]? = some y ∧ IsPair h a x y
theorem Gv.there {xs ys : Array Value} {lo : Addr} {h : Heap} {as : List Addr} (g : Gv xs ys lo h as) {a : Addr} (ha : a ∈ as) : a < h.objs.size := by
  obtain ⟨j, hj⟩ := List.mem_iff_getElem?.mp ha
  obtain ⟨_, _, _, _, e⟩ := g.pairs j a hj
  exact Heap.lt_size e
theorem Gv.keep {xs ys : Array Value} {lo : Addr} {h h' : Heap} {as : List Addr} (g : Gv xs ys lo h as) (k : ∀ b o, lo < b → h.get? b = some o → h'.get? b = some o) : Gv xs ys lo h' as := ⟨g.rise, g.above, fun j a hj => by
  obtain ⟨x, y, e1, e2, e3⟩ := g.pairs j a hj
  exact ⟨x, y, e1, e2, k a _ (g.above a (List.mem_of_getElem? hj)) e3⟩⟩
section
variable {prog : Program} {w : World} {A : Around} {s : Shared} {R : Result → Shared → Prop}
theorem z_loop {z TI TO i1 i2 l1 l2 S : Addr} {xs ys : Array Value} (hh : A.handled = none) (B : Apart z TI TO i1 i2 l1 l2 S) (low : i1 ≤ i2 ∧ i1 ≤ TI ∧ i1 ≤ TO ∧ i1 ≤ z ∧ l1 < i1 ∧ l2 < i1) (hl : xs.size = ys.size) (hn : xs.size ≤ sizeLine) (res : Value) {h0 : Heap}
    (go : ∀ h' tk acc c as, (∀ b o, b < i1 → h0.get? b = some o → h'.get? b = some o) → h'.get? S = some { cls := .type "list", dict := none, data := .seq acc c, slots := #[] } → as.length = xs.size → Gv xs ys S h' as → acc.toList = as.map Value.ref → R (.ok (.ret res)) { s with heap := h', toks := tk }) :
    ∀ (k i : Nat) (h : Heap) (tk c : Nat) (acc : Array Value) (as : List Addr), xs.size - i = k → i ≤ xs.size → St h z TI TO i1 i2 l1 l2 S xs ys i → (∀ b o, b < i1 → h0.get? b = some o → h.get? b = some o) →
      h.get? S = some { cls := .type "list", dict := none, data := .seq acc c, slots := #[] } → acc.toList = as.map Value.ref → as.length = i → Gv xs ys S h as →
      codeAny (model prog w) A (.builtin "list.extend.loop" ⟨[.ref S, .ref z, res], []⟩) R { s with heap := h, toks := tk } := by
  have i1S := B.i1S
  intro k
  induction k with
  | zero =>
    intro i h tk c acc as hk hi st keep hS hacc hal hG
    refine codeAny_builtin PySem.F.entry_extend_loop ?_
    rw [Around.under_plainId PySem.F.plain_extend_loop _]; show wpAny _ A.in1 (pyNext (.ref z) >>= _) _ _ _
    refine wpAny_bind (turn_end (s := { s with heap := h, toks := tk }) (A := A.in1) hh B st (Array.getElem?_eq_none (by omega)) (fun h' he => ?_) low)
    exact wpAny_pure (go h' tk acc c as (fun b o hb e => he b o (.inl hb) (keep b o hb e)) (he S _ (.inr (Nat.le_refl _)) hS) (by omega) (hG.keep fun b o hb e => he b o (.inr (Nat.le_of_lt hb)) e) hacc)
  | succ k ih =>
    intro i h tk c acc as hk hi st keep hS hacc hal hG
    have hlt : i < xs.size := by omega
    have hx : xs[i]? = some xs[i] := Array.getElem?_eq_getElem hlt
    have hy : ys[i]? = some (ys[i]'(by omega)) := Array.getElem?_eq_getElem (by omega)
    have hsz : acc.size = i := by rw [← Array.length_toList, hacc, List.length_map, hal]
    have hSl : S < h.objs.size := Heap.lt_size hS
    refine codeAny_builtin PySem.F.entry_extend_loop ?_
    rw [Around.under_plainId PySem.F.plain_extend_loop _]; show wpAny _ A.in1 (pyNext (.ref z) >>= _) _ _ _
    refine wpAny_bind (turn_item (s := { s with heap := h, toks := tk }) B hSl st hx hy (fun h' st' pn sz kp => ?_) low)
    dsimp only at pn sz kp ⊢
    have hS' := kp S _ (.inr (Nat.le_refl _)) hS
    have up : ∀ b o, b ≠ S → h'.get? b = some o → (h'.update S (Obj.mapSeq (·.push (Value.ref h.objs.size)))).get? b = some o := fun b o hb e => (Heap.get?_update_other _ _ (Ne.symm hb)).trans e
    show wpAny _ A.in1 (updateSeq S (·.push (Value.ref h.objs.size)) >>= _) _ _ _
    refine wpAny_bind (wpAny_updateSeq hS' rfl (wpAny_pure ⟨plainId_quiet PySem.F.plain_extend_loop _, ih (i + 1) _ tk _ (acc.push (Value.ref h.objs.size)) (as ++ [h.objs.size]) (by omega) hlt (st'.keep B up) (fun b o hb e => up b o (low_ne hb i1S) (kp b o (.inl hb) (keep b o hb e)))
      (Heap.get?_update_self _ hS' rfl) (by rw [Array.toList_push, hacc, List.map_append]; rfl) (by rw [List.length_append, hal]; rfl) ⟨?_, ?_, ?_⟩⟩) (by rw [hsz]; omega) (by show (acc.push (Value.ref h.objs.size)).size ≤ sizeLine + 1; rw [Array.size_push, hsz]; omega))
    · refine List.pairwise_append.mpr ⟨hG.rise, List.pairwise_singleton _ _, fun a ha b hb => ?_⟩
      rw [List.mem_singleton.mp hb]; exact hG.there ha
    · intro a ha
      rcases List.mem_append.mp ha with ha | ha
      · exact hG.above a ha
      · rw [List.mem_singleton.mp ha]; exact hSl
    · intro j b hj
      rcases Nat.lt_trichotomy j as.length with q | q | q
      · rw [List.getElem?_append_left q] at hj
        obtain ⟨x', y', e1, e2, e3⟩ := hG.pairs j b hj
        have hb := hG.above b (List.mem_of_getElem? hj)
        exact ⟨x', y', e1, e2, up b _ (Nat.ne_of_gt hb) (kp b _ (.inr (Nat.le_of_lt hb)) e3)⟩
      · subst q
        have hb : h.objs.size = b := by simpa using hj
        subst hb
        exact ⟨_, _, by rw [hal]; exact hx, by rw [hal]; exact hy, up _ _ (Nat.ne_of_gt hSl) pn⟩
      · have no : (as ++ [h.objs.size])[j]? = none := List.getElem?_eq_none (by rw [List.length_append, List.length_singleton]; omega)
        rw [no] at hj; cases hj
end
theorem zip_no_len : typeLookup (.type "zip") "__len__" = pure none := by rw [typeLookup_type, builtinLookup_eq_fast]; kernel_rfl
theorem zip_no_hint : typeLookup (.type "zip") "__length_hint__" = pure none := by rw [typeLookup_type, builtinLookup_eq_fast]; kernel_rfl
section
variable {prog : Program} {w : World} {A : Around} {E : Value → Shared → Prop} {s : Shared}
theorem z_extend {z TI TO i1 i2 l1 l2 S : Addr} {xs ys : Array Value} {c₀ : Nat} {R : Result → Shared → Prop} (hh : A.handled = none) (B : Apart z TI TO i1 i2 l1 l2 S) (low : i1 ≤ i2 ∧ i1 ≤ TI ∧ i1 ≤ TO ∧ i1 ≤ z ∧ l1 < i1 ∧ l2 < i1) (hl : xs.size = ys.size) (hn : xs.size ≤ sizeLine) (res : Value)
    (st : St s.heap z TI TO i1 i2 l1 l2 S xs ys 0) (hz : IsZip s.heap z TI TO .none) (hS : s.heap.get? S = some { cls := .type "list", data := .seq #[] c₀ })
    (go : ∀ h' tk acc c as, (∀ b o, b < i1 → s.heap.get? b = some o → h'.get? b = some o) → h'.get? S = some { cls := .type "list", dict := none, data := .seq acc c, slots := #[] } → as.length = xs.size → Gv xs ys S h' as → acc.toList = as.map Value.ref → R (.ok (.ret res)) { s with heap := h', toks := tk }) :
    wpAny (model prog w) A.in1 (Builtin.List.listExtendWith (.ref S) (.ref z) res)
      (fun fin s' => match fin with | .done f => R (.ok f) s' | .again c' => c'.quiet = true ∧ codeAny (model prog w) A c' R s') (fun e s' => R (.error e) s') s := by
  have i1S := B.i1S
  have ty : s.TypeIs (.ref z) "zip" := ⟨_, hz, rfl⟩
  have key : ∀ (h : Heap) (c₁ tk : Nat), (∀ b o, b ≠ S → s.heap.get? b = some o → h.get? b = some o) → h.get? S = some { cls := .type "list", data := .seq #[] c₁ } →
      codeAny (model prog w) A (.builtin "list.extend.loop" ⟨[.ref S, .ref z, res], []⟩) R { s with heap := h, toks := tk } := fun h c₁ tk hk hS₁ =>
    z_loop (s := s) (h0 := s.heap) hh B low hl hn res go xs.size 0 h tk c₁ #[] [] (Nat.sub_zero _) (Nat.zero_le _) (st.keep B hk) (fun b o hb e => hk b o (low_ne hb i1S) e) hS₁ rfl rfl ⟨List.Pairwise.nil, (fun _ ha => nomatch ha), (fun j a hj => by simp at hj)⟩
  unfold Builtin.List.listExtendWith
  refine wpAny_bind (wpAny_typeOf (T := "zip") ty ?_)
  have e1 : Builtin.List.listSameRef (.ref S) (.ref z) = false := by simp [Builtin.List.listSameRef, Nat.ne_of_gt B.zS]
  have e2 : (Value.type "zip" == Value.type "list") = false := by decide
  have e3 : (Value.type "zip" == Value.type "tuple") = false := by decide
  simp only [e1, e2, e3, Bool.or_false, Bool.false_eq_true, if_false]
  refine wpAny_bind (wpAny_pyIter_zip hz (wpAny_bind (wpAny_holding ?_)))
  unfold Builtin.List.listLengthHint
  refine wpAny_bind (wpAny_specialOf ty zip_no_len ?_)
  show wpAny _ A.in1 (specialOf (Value.ref z) (Str.ofString "__length_hint__") >>= _) _ _ _
  refine wpAny_bind (wpAny_specialOf ty zip_no_hint (wpAny_pure ?_))
  show wpAny _ A.in1 (rule "list.extend.makes-room" >>= fun _ => Builtin.List.listTouch (.ref S) >>= fun _ => again (.builtin "list.extend.loop" ⟨[.ref S, .ref z, res], []⟩)) _ _ _
  refine wpAny_bind (wpAny_rule (wpAny_bind ?_))
  show wpAny _ A.in1 (updateSeq S (·.push .none) >>= fun _ => updateSeq S (·.pop)) _ _ _
  refine wpAny_bind (wpAny_updateSeq hS rfl ?_)
  have g1 := Heap.get?_update_self (Obj.mapSeq (·.push Value.none)) hS rfl
  refine wpAny_updateSeq (hz := by seq_fits) g1 rfl ?_
  have g2 := Heap.get?_update_self (Obj.mapSeq (·.pop)) g1 rfl
  refine wpAny_pure ⟨plainId_quiet PySem.F.plain_extend_loop _, key _ _ _ (fun b o hb e => ?_) g2⟩
  exact (Heap.get?_update_other _ _ (Ne.symm hb)).trans ((Heap.get?_update_other _ _ (Ne.symm hb)).trans e)
theorem z_init {z TI TO i1 i2 l1 l2 S : Addr} {xs ys : Array Value} {R : Result → Shared → Prop} (hh : A.handled = none) (B : Apart z TI TO i1 i2 l1 l2 S) (low : i1 ≤ i2 ∧ i1 ≤ TI ∧ i1 ≤ TO ∧ i1 ≤ z ∧ l1 < i1 ∧ l2 < i1) (hl : xs.size = ys.size) (hn : xs.size ≤ sizeLine)
    (st : St s.heap z TI TO i1 i2 l1 l2 S xs ys 0) (hz : IsZip s.heap z TI TO .none) (hS : s.heap.get? S = some { cls := .type "list", data := .seq #[] })
    (go : ∀ h' tk acc c as, (∀ b o, b < i1 → s.heap.get? b = some o → h'.get? b = some o) → h'.get? S = some { cls := .type "list", dict := none, data := .seq acc c, slots := #[] } → as.length = xs.size → Gv xs ys S h' as → acc.toList = as.map Value.ref → R (.ok (.ret .none)) { s with heap := h', toks := tk }) :
    wpAny (model prog w) A.in1 (Builtin.«list.__init__» ⟨[.ref S, .ref z], []⟩)
      (fun fin s' => match fin with | .done f => R (.ok f) s' | .again c' => c'.quiet = true ∧ codeAny (model prog w) A c' R s') (fun e s' => R (.error e) s') s := by
  show wpAny _ _ (do let old ← Builtin.List.listItems (.ref S); Builtin.List.listUpdate (.ref S) (fun _ => #[]); letGo old.toList.reverse; Builtin.List.listExtendWith (.ref S) (.ref z) .none) _ _ s
  refine wpAny_bind ?_
  unfold Builtin.List.listItems
  refine wpAny_bind (wpAny_seqItems hS rfl (wpAny_pure ?_))
  show wpAny _ _ (updateSeq S (fun _ => #[]) >>= fun _ => letGo (#[] : Array Value).toList.reverse >>= fun _ => Builtin.List.listExtendWith (.ref S) (.ref z) .none) _ _ s
  refine wpAny_bind (wpAny_updateSeq hS rfl ?_)
  have g2 := Heap.get?_update_self (Obj.mapSeq (fun _ => (#[] : Array Value))) hS rfl
  have oth : ∀ b o, b ≠ S → s.heap.get? b = some o → (s.heap.update S (Obj.mapSeq (fun _ => (#[] : Array Value)))).get? b = some o := fun b o hb e => (Heap.get?_update_other _ _ (Ne.symm hb)).trans e
  refine wpAny_bind (wpAny_letGo ?_)
  exact z_extend hh B low hl hn .none (st.keep B oth) (oth _ _ (Nat.ne_of_lt B.zS) hz) g2 fun h' tk acc c as hk => go h' tk acc c as fun b o hb e => hk b o hb (oth b o (low_ne hb B.i1S) e)
theorem z_call {z TI TO i1 i2 l1 l2 : Addr} {xs ys : Array Value} {Q : Value → Shared → Prop} (hh : A.handled = none) (D : ZipApart z TI TO i1 i2 l1 l2) (low : i1 ≤ i2 ∧ i1 ≤ TI ∧ i1 ≤ TO ∧ i1 ≤ z ∧ l1 < i1 ∧ l2 < i1) (hl : xs.size = ys.size) (hn : xs.size ≤ sizeLine)
    (hz : IsZip s.heap z TI TO .none) (hTI : IsPair s.heap TI (.ref i1) (.ref i2)) (hTO : ∃ a b, IsPair s.heap TO a b) (t1 : s.heap.IsTupleIter i1 l1 0) (t2 : s.heap.IsTupleIter i2 l2 0) (u1 : s.heap.IsTuple l1 xs) (u2 : s.heap.IsTuple l2 ys)
    (go : ∀ h' tk acc c as, (∀ b o, b < i1 → s.heap.get? b = some o → h'.get? b = some o) → h'.get? s.heap.objs.size = some { cls := .type "list", dict := none, data := .seq acc c, slots := #[] } → as.length = xs.size → Gv xs ys s.heap.objs.size h' as → acc.toList = as.map Value.ref →
      Q (.ref s.heap.objs.size) { s with heap := h', toks := tk }) : wpAny (model prog w) A (call (.type "list") [.ref z]) Q E s := by
  refine callType_codes (Q₁ := fun obj s₁ => obj = .ref s.heap.objs.size ∧ s₁ = { s with heap := s.heap.push { cls := .type "list", data := .seq #[] } }) PySem.F.called_list (PySem.F.typeCall_list_1 _) PySem.F.entry_list_init
    (code_list_new _ ⟨rfl, rfl⟩) fun obj s₁ h₁ => ?_
  obtain ⟨rfl, rfl⟩ := h₁
  have hS : (s.heap.push { cls := .type "list", data := .seq #[] }).get? s.heap.objs.size = some { cls := .type "list", data := .seq #[] } := Heap.get?_push_size _ rfl
  have up : ∀ b o, s.heap.get? b = some o → (s.heap.push { cls := .type "list", data := .seq #[] }).get? b = some o := fun b o e => Heap.get?_push_of_some _ e
  obtain ⟨a, b, hTO⟩ := hTO
  have B : Apart z TI TO i1 i2 l1 l2 s.heap.objs.size := ⟨D, Heap.lt_size hz, Heap.lt_size hTI, Heap.lt_size hTO, (let ⟨_, e, _⟩ := t1; Heap.lt_size e), (let ⟨_, e, _⟩ := t2; Heap.lt_size e), (let ⟨_, e, _⟩ := u1; Heap.lt_size e), (let ⟨_, e, _⟩ := u2; Heap.lt_size e)⟩
  refine ⟨⟨_, hS, rfl⟩, PySem.F.args_list_init_2 _ _, z_init (A := A.in1) (xs := xs) (ys := ys) hh B low hl hn ⟨up _ _ hTI, t1.at fun o e => up _ o e, t2.at fun o e => up _ o e, (let ⟨o, e, r⟩ := u1; ⟨o, up _ _ e, r⟩), (let ⟨o, e, r⟩ := u2; ⟨o, up _ _ e, r⟩), .inl ⟨up _ _ hz, a, b, up _ _ hTO⟩⟩ (up _ _ hz) hS
    fun h' tk acc c as hk hS' hl' hG hacc => ?_⟩
  exact ⟨rfl, go h' tk acc c as (fun b o hb e => hk b o hb (up _ _ e)) hS' hl' hG hacc⟩
end
end Wz
namespace Wz
open PySem PySem.Spec PyProof.Rows L2
/-! ### the rule -/
def putP : Hp → List Addr → List (V × V) → Hp
  | H, a :: as, p :: ps => putP (upd H a (.tup [p.1, p.2])) as ps
  | H, _, _ => H
theorem putP_off {b : Addr} : ∀ (as : List Addr) (ps : List (V × V)) (H : Hp), b ∉ as → putP H as ps b = H b
  | [], _, _, _ => rfl
  | _ :: _, [], _, _ => rfl
  | a :: as, p :: ps, H, h => by
    show putP (upd H a (.tup [p.1, p.2])) as ps b = H b
    rw [putP_off as ps _ (fun q => h (List.mem_cons_of_mem _ q)), upd_ne (fun q => h (by rw [q]; exact List.mem_cons_self))]
theorem putP_at : ∀ (as : List Addr) (ps : List (V × V)) (H : Hp), as.length = ps.length → as.Nodup → ∀ (j : Nat) (a : Addr) (p : V × V), as[j]? = some a → ps[j]? = some p → putP H as ps a = some (.tup [p.1, p.2])
  | [], _, _, _, _, j, a, p, h, _ => by simp at h
  | _ :: _, [], _, _, _, j, a, p, _, h => by simp at h
  | b :: as, q :: ps, H, hl, hn, 0, a, p, h1, h2 => by
    have hn' := List.nodup_cons.mp hn
    have e1 : b = a := by simpa using h1
    have e2 : q = p := by simpa using h2
    subst e1 e2
    show putP (upd H b (.tup [q.1, q.2])) as ps b = _
    rw [putP_off as ps _ hn'.1, upd_same]
  | b :: as, q :: ps, H, hl, hn, j + 1, a, p, h1, h2 => putP_at as ps _ (Nat.succ.inj hl) (List.nodup_cons.mp hn).2 j a p (by simpa using h1) (by simpa using h2)
/-- pairs of values at addresses -/
structure PairsAt (H : Hp) (ts : List Addr) (xs ys : List V) : Prop where
  len : ts.length = xs.length
  at_ : ∀ (j : Nat) (t : Addr), ts[j]? = some t → ∃ x y, xs[j]? = some x ∧ ys[j]? = some y ∧ H t = some (.tup [x, y])
def rListZip (K : PySem.W.Frag) : List V → Hp → VK → Prop := fun vs H Q => ∃ (a b : Addr) (xs ys : List V), vs = [.ref a, .ref b] ∧ SqT K H a xs ∧ SqT K H b ys ∧ xs.length = ys.length ∧
  ∀ (H' : Hp) (p : Addr) (ts : List Addr), Same H H' → H p = none → H' p = some (.lst (ts.map V.ref)) → PairsAt H' ts xs ys → Q (.ref p) H'
def tListZip (K : PySem.W.Frag) (ta : TA) : TE := fun σ H Q => ta σ H fun vs H1 => rListZip K vs H1 Q
section
variable {X : Cx}
theorem pairs_laid {pins : List (Addr × Obj)} {σ : L2.St} {H : Hp} {s : Shared} {h' : Heap} {tk S : Nat} {xs ys : List V} {its its2 : List Value} {acc : Array Value} {c : Nat} {as : List Addr} (I : Inv X pins σ H s) (hz : xs.length ≤ sizeLine) (r : Vals xs its) (r2 : Vals ys its2) (el : xs.length = ys.length) (hSz : s.heap.objs.size ≤ S)
    (hk : ∀ b o, s.heap.get? b = some o → h'.get? b = some o) (hS : h'.get? S = some { cls := .type "list", dict := none, data := .seq acc c, slots := #[] }) (hl : as.length = its.length) (hG : Gv its.toArray its2.toArray S h' as) (hacc : acc.toList = as.map Value.ref) :
    ∃ H' : Hp, Same H H' ∧ H S = none ∧ H' S = some (.lst (as.map V.ref)) ∧ PairsAt H' as xs ys ∧ Inv X pins σ H' { s with heap := h', toks := tk } := by
  have l1 := r.length
  have l2 := r2.length
  have hSn : S ∉ as := fun q => Nat.lt_irrefl _ (hG.above _ q)
  have nd : as.Nodup := List.Pairwise.imp (fun {a b} (h : a < b) => Nat.ne_of_lt h) hG.rise
  have fresh : ∀ t ∈ as, H t = none := fun t ht => I.hok.fresh (Nat.le_trans hSz (Nat.le_of_lt (hG.above t ht)))
  have freshS : H S = none := I.hok.fresh hSz
  have lz : as.length = (xs.zip ys).length := by rw [List.length_zip]; omega
  have off : ∀ b, b ∉ as → b ≠ S → putP (upd H S (.lst (as.map V.ref))) as (xs.zip ys) b = H b := fun b h1 h2 => by rw [putP_off as _ _ h1, upd_ne h2]
  have kp : Same H (putP (upd H S (.lst (as.map V.ref))) as (xs.zip ys)) := fun b u e => by
    rw [off b (fun q => by rw [fresh b q] at e; cases e) (fun q => by rw [q, freshS] at e; cases e)]
    exact e
  have eS : putP (upd H S (.lst (as.map V.ref))) as (xs.zip ys) S = some (.lst (as.map V.ref)) := by rw [putP_off as _ _ hSn, upd_same]
  have at2 : ∀ (j : Nat) (t : Addr), as[j]? = some t → ∃ x y, xs[j]? = some x ∧ ys[j]? = some y ∧ putP (upd H S (.lst (as.map V.ref))) as (xs.zip ys) t = some (.tup [x, y]) := fun j t ht => by
    have hj : j < as.length := (List.getElem?_eq_some_iff.mp ht).1
    refine ⟨xs[j]'(by omega), ys[j]'(by omega), List.getElem?_eq_getElem (by omega), List.getElem?_eq_getElem (by omega), ?_⟩
    exact putP_at as (xs.zip ys) _ lz nd j t (xs[j]'(by omega), ys[j]'(by omega)) ht (by rw [List.getElem?_zip_eq_some]; exact ⟨List.getElem?_eq_getElem (by omega), List.getElem?_eq_getElem (by omega)⟩)
  have low : ∀ b o, s.heap.get? b = some o → b ∉ as ∧ b ≠ S := fun b o e => ⟨fun q => absurd (Heap.lt_size e) (Nat.not_lt.mpr (Nat.le_trans hSz (Nat.le_of_lt (hG.above b q)))), Nat.ne_of_lt (Nat.lt_of_lt_of_le (Heap.lt_size e) hSz)⟩
  refine ⟨putP (upd H S (.lst (as.map V.ref))) as (xs.zip ys), kp, freshS, eS, ⟨by omega, at2⟩, ?_⟩
  refine I.call' (ch := []) rfl ⟨fun b o q _ _ _ => hk b o q, fun b o q _ _ _ => ⟨o.slots, hk b o q⟩, fun b o q n _ => ?_, fun b o q _ => ⟨o, hk b o q⟩, fun b xs q => kp b _ q, fun b o u q => kp b _ q, fun b ps q => ⟨#[], by rw [kp b _ q]; simp⟩⟩ (fun b u q => ?_) I.bare fun b q => by simp at q
  · obtain ⟨z1, z2⟩ := low b o q
    rw [off b z1 z2]
    exact n
  · by_cases hb : b ∈ as
    · obtain ⟨j, hj⟩ := List.mem_iff_getElem?.mp hb
      obtain ⟨x, y, e1, e2, e3⟩ := at2 j b hj
      rw [e3] at q
      cases q
      obtain ⟨u, v, f1, f2, f3⟩ := hG.pairs j b hj
      obtain ⟨u', g1, ru⟩ := r.get e1
      obtain ⟨v', g2, rv⟩ := r2.get e2
      have q1 : u = u' := Option.some.inj ((by simpa using f1.symm : some u = its[j]?).trans g1)
      have q2 : v = v' := Option.some.inj ((by simpa using f2.symm : some v = its2[j]?).trans g2)
      subst q1 q2
      exact ⟨by show 2 ≤ sizeLine; decide, [u, v], .cons ru (.cons rv .nil), ⟨_, f3, rfl, _, rfl⟩⟩
    · by_cases hb2 : b = S
      · rw [hb2] at q ⊢
        rw [eS] at q
        cases q
        refine ⟨by rw [List.length_map]; omega, acc.toList, c, by rw [hacc]; exact LiI.vals_refs as, ?_⟩
        rw [Array.toArray_toList]
        exact hS
      · rw [off b hb hb2] at q
        exact (I.hok b u q).stay (fun d v _ y => hk d v y) (fun d y => kp d _ y) fun d xs y => kp d _ y
/-- list(zip(e, e2)) -/
theorem pe_listZip {e e2 : Expr} {ta : TA} {p p2 pos pos2 : Pos} (hc : X.calm = true) (hg : Gl X "list") (hm : X.mg "list" = none) (hg2 : Gl X "zip") (hm2 : X.mg "zip" = none) (ha : PA X [e, e2] ta)
    (hs : starEach [.Call (.Name "zip" p2) [e, e2] [] pos2] X.env = (false, eval (.Call (.Name "zip" p2) [e, e2] [] pos2) X.env) :: starEach [] X.env := by rfl)
    (hs2 : starEach [e, e2] X.env = (false, eval e X.env) :: starEach [e2] X.env := by rfl) (hpl : (backTo pos2 (starEach [e2] X.env)).any (·.1) = false := by rfl) :
    PE X (.Call (.Name "list" p) [.Call (.Name "zip" p2) [e, e2] [] pos2] [] pos) (tListZip X.K ta) := by
  refine ⟨fun pins s σ H Q I hq => ?_⟩
  refine wpAny_Call_Name_kw (ld_blt I hg hm (by decide +kernel : bootBuiltins "list" = some (.type "list")) ?_)
  refine PyProof.Rows.callWith_type1 ?_ hs rfl
  rw [hs]
  show wpAny _ _ (spliced ((false, eval (.Call (.Name "zip" p2) [e, e2] [] pos2) X.env) :: backTo pos (starEach [] X.env))) _ _ s
  refine Calls.spliced_cons ?_
  refine Call_ (ld_blt I hg2 hm2 PyProof.Rows.boot_zip (PyProof.Rows.callWith_type1 (thn (ha.run pos2 pins s σ H _ I hq) fun us s1 ⟨vs, H1, I1, r1, q1⟩ => ?_) hs2 hpl))
  obtain ⟨a, b, xs, ys, ex, hqx, hqy, el, q⟩ := q1
  subst ex
  cases r1 with
  | cons r rr =>
    cases rr with
    | cons r' rr =>
      cases rr
      cases r
      cases r'
      obtain ⟨its, rv, u1, hz1⟩ := I1.tuple hqx
      obtain ⟨its2, rv2, u2, hz2⟩ := I1.tuple hqy
      obtain ⟨o1, ho1, _⟩ := id u1
      obtain ⟨o2, ho2, _⟩ := id u2
      refine RZ.call_zipT (show s1.heap.IsTuple a its.toArray from u1) (show s1.heap.IsTuple b its2.toArray from u2) fun h' hz hTI hTO t1 t2 hsz hk => ?_
      have n1 : a < s1.heap.objs.size := Heap.lt_size ho1
      have n2 : b < s1.heap.objs.size := Heap.lt_size ho2
      refine Calls.spliced_nil ?_
      have e1 := rv.length
      have e2 := rv2.length
      refine z_call (s := { s1 with heap := h' }) (xs := its.toArray) (ys := its2.toArray) (I1.ok.hd hc) (PySem.W.ktu_apart s1.heap.objs.size a b n1 n2) ⟨Nat.le_succ _, Nat.le_add_right _ _, Nat.le_add_right _ _, Nat.le_add_right _ _, n1, n2⟩
        (by rw [List.size_toArray, List.size_toArray]; omega) (by rw [List.size_toArray]; omega) hz hTI ⟨_, _, hTO⟩ t1 t2 (let ⟨o, q1, r⟩ := u1; ⟨o, hk _ _ q1, r⟩) (let ⟨o, q1, r⟩ := u2; ⟨o, hk _ _ q1, r⟩) fun h'' tk acc c as k2 hS hl hG hacc => ?_
      obtain ⟨H', j1, j2, j3, j4, J⟩ := pairs_laid (tk := tk) I1 (by omega) rv rv2 el (show s1.heap.objs.size ≤ h'.objs.size by omega) (fun b o q1 => k2 b o (Heap.lt_size q1) (hk b o q1)) hS (by rw [hl, List.size_toArray]) hG hacc
      exact ⟨.ref _, H', J, rfl, q H' _ as j1 j2 j3 j4⟩
end
end Wz
/-! == and len of ways, by the text's own __eq__ and __len__ -/
namespace Wv
open PySem PySem.Spec PyProof.Rows L2
/-- both are the same way -/
def DW (c : Cs) : Eqv := fun x y H => ∃ w : W, w.size ≤ 1000 ∧ ObjAt c H x w ∧ ObjAt c H y w
structure EqOk (P : Program) (w : World) (K : PySem.W.Frag) (mg : Str → Option Value) (base : Heap) (c : Cs) (n : Nat) : Prop where
  ex : ∃ (f : Addr) (fd : FuncData) (ps : List Str), FnOk P w K mg base CX0 n f fd ps (spEq fun a b H => DW c (.ref a) (.ref b) H) ∧ (∀ u : W, PySem.W.findIn K (.ref (c.of u)) "__eq__" = some (some (.ref f))) ∧ PySem.W.isFn K (.ref f) = true ∧ Binds K fd ps []
structure LenOk (P : Program) (w : World) (K : PySem.W.Frag) (mg : Str → Option Value) (base : Heap) (c : Cs) (n : Nat) (sp : Sp) : Prop where
  ex : ∃ (f : Addr) (fd : FuncData) (ps : List Str), FnOk P w K mg base CX0 n f fd ps sp ∧ (∀ u : W, PySem.W.findIn K (.ref (c.of u)) "__len__" = some (some (.ref f))) ∧ PySem.W.isFn K (.ref f) = true ∧ Binds K fd ps []
section
variable {X : Cx} {c : Cs} {n : Nat} {sp : Sp}
theorem op_way (G : EqOk X.prog X.w X.K X.mg X.base c n) (hr : Room n X.A) : OpR X (compareOp .Eq) (rEqG (DW c)) := by
  obtain ⟨f, fd, ps, F, hs, hf, hb⟩ := G.ex
  refine op_eqG (n := n) (fun A pins s σ H x y u v sb I rx ry d => ?_) hr
  obtain ⟨w, _, hx, hy⟩ := id d
  obtain ⟨a, da, fa, ea, ha⟩ := hx.head
  obtain ⟨b, db, fb, eb, hb'⟩ := hy.head
  subst ea eb
  exact rcG_ins (C := c.of w) (R := fun a b H => DW c (.ref a) (.ref b) H) F (hs w) hf hb pass0 A pins s σ H _ _ u v sb I rx ry ⟨a, b, da, db, fa, fb, rfl, rfl, ha, hb', d⟩
/-- len(x) of a way -/
def rLenW (c : Cs) (sp : Sp) : List V → Hp → VK → Prop := fun xs H Q => ∃ (v : V) (w : W), xs = [v] ∧ ObjAt c H v w ∧ sp [v] H (fun z H' => ∃ i : Int, z = .int i ∧ 0 ≤ i ∧ i < 2 ^ 63 ∧ Q (.int i) H') E0
theorem call_lenW (G : LenOk X.prog X.w X.K X.mg X.base c n sp) (hr : Room (n + 1) X.A) : CallR X (.builtin "len") (rLenW c sp) := by
  obtain ⟨f, fd, ps, F, hs, hf, hb⟩ := G.ex
  intro pins s σ H xs us Q I r h
  obtain ⟨v, w, rfl, hv, hsp⟩ := h
  obtain ⟨u, rfl, ru⟩ := r.one
  obtain ⟨a, d, fs, ev, ha⟩ := hv.head
  subst ev
  cases ru
  obtain ⟨mA, J, _⟩ := ins_get I.hok ha
  obtain ⟨od, J, _⟩ := J.look
  obtain ⟨m, hF⟩ := I.fr
  have hl := F.len _ _ _ _ hsp
  have r2 : Vals [V.ref a] [Value.ref a] := .cons rfl .nil
  refine PySem.W.len_K hF I.ok.mod.kin J (hs w) hf (wpAny_call (codeAny_mono (F.run X.A.in1 X.stack s H ⟨[.ref a], []⟩ [.ref a] [.ref a] _ E0 hr.in1 (I.env0.in1) (by
    have q := hb s [.ref a] I.kIn (by simpa using hl)
    simpa using q) r2 hsp) fun r s' hq => ?_))
  cases r with
  | error e => exact (pass0 (X := X) pins σ H s e s' I hq)
  | ok fl =>
    cases fl with
    | ret x =>
      obtain ⟨z, H', I', rz, i, ez, h0, h1, q⟩ := I.after hq
      subst ez
      obtain ⟨t, ex⟩ := rz
      subst ex
      exact ⟨⟨h0, h1⟩, ⟨.int i, H', I'.tok _, ⟨_, rfl⟩, q⟩⟩
    | next => exact False.elim hq
    | brk => exact False.elim hq
    | cont => exact False.elim hq
/-! ### a method of a way, called -/
structure MethOk (P : Program) (w : World) (K : PySem.W.Frag) (mg : Str → Option Value) (base : Heap) (c : Cs) (n : Nat) (m : Str) (ps : List Str) (sp : Sp) : Prop where
  ex : ∃ (f : Addr) (fd : FuncData), FnOk P w K mg base CX0 n f fd ps sp ∧ (∀ u : W, Meth K (c.of u) m f) ∧ (∀ u : W, Cls K (c.of u)) ∧ Binds K fd ps []
def tMethW (c : Cs) (m : Str) (sp : Sp) (ta : TE) (t : TA) : TE := fun σ H Q => ta σ H fun x H1 => ∃ w, ObjAt c H1 x w ∧ t σ H1 fun vs H2 => sp (x :: vs) H2 Q E0
theorem pe_methW {pl : Sem Bool} {m : Str} {ps : List Str} {o e : Expr} {es : List Expr} {ta : TE} {t : TA} {apos pos : Pos} (G : MethOk X.prog X.w X.K X.mg X.base c n m ps sp) (hr : Room n X.A) (he : PE X o ta) (ha : PA X (e :: es) t)
    (nl : Names7 m := by unfold Names7; decide +kernel)
    (hst : starEach (e :: es) X.env = (false, eval e X.env) :: starEach es X.env := by rfl) (hpl : (backTo pos (starEach es X.env)).any (·.1) = false := by rfl)
    (ht : eval (.Call (.Attribute o m apos) (e :: es) [] pos) X.env = (do
      let ov ← eval o X.env
      standAt apos.atName
      let (f, first) ← holding [ov] (getMethod ov m pl)
      callWith pos f first (backTo pos (starEach (e :: es) X.env)) (backToKw pos (keywordEach [] X.env))) := by rfl) :
    PE X (.Call (.Attribute o m apos) (e :: es) [] pos) (tMethW c m sp ta t) := by
  obtain ⟨f, fd, F, hm, hc, hb⟩ := G.ex
  refine ⟨fun pins s σ H Q I h => ?_⟩
  refine PySem.W.methodCall_KW (pl := pl) (thn (he.run pins s σ H _ I h) fun u s1 ⟨x, H1, I1, rx, w, hx, q⟩ => ?_) ht
  obtain ⟨a, dx, fs, ex, ea, l⟩ := hx.head'
  subst ex
  obtain rfl : u = Value.ref a := rx
  refine getmeth_ok I1 ea (hc w) (hm w) (l m nl) ?_
  refine PySem.W.callWith_K (first := [.ref a]) (h₀ := X.base) I.ok.mod.kin (hm w).kp (thn (ha.run pos pins s1 σ H1 _ I1 q) fun us s2 ⟨vs, H2, I2, r, q2⟩ => ⟨I2.kIn, ?_⟩) hst hpl
  exact run_fn (us := .ref a :: us) (vs := .ref a :: vs) (dvs := []) (ds := []) F hr hb .nil pass0 I2 (.cons rfl r) (by simpa using q2)
end
end Wv
namespace Wv
open PySem PySem.Spec PyProof.Rows L2
/-! ### kind, word and inner ways of a way -/
def W.kind : W → Nat
  | .letter _ => 0 | .one => 1 | .nothing => 2 | .row _ => 3 | .choice _ => 4 | .again _ => 5 | .maybe _ => 6 | .ahead _ => 7 | .unless _ => 8 | .call _ => 9
def W.word : W → Str
  | .letter x => sg x
  | .call x => x
  | _ => Str.ofString ""
def spKind (c : Cs) : Sp := fun vs H Q _ => ∃ (v : V) (w : W), vs = [v] ∧ ObjAt c H v w ∧ Q (.int w.kind) H
def spWord (c : Cs) : Sp := fun vs H Q _ => ∃ (v : V) (w : W), vs = [v] ∧ ObjAt c H v w ∧ Q (.str w.word) H
def spMadeOf (c : Cs) : Sp := fun vs H Q _ => ∃ (v : V) (w : W), vs = [v] ∧ ObjAt c H v w ∧ ∀ (t : Addr) (us : List V) (H' : Hp), Same H H' → H' t = some (.tup us) → ObjsAt c H' us w.inner → Q (.ref t) H'
structure Kc (mg : Str → Option Value) : Prop where
  k0 : ∃ t, mg "LETTER" = some (.int 0 t)
  k1 : ∃ t, mg "ONE" = some (.int 1 t)
  k2 : ∃ t, mg "NOTHING" = some (.int 2 t)
  k3 : ∃ t, mg "ROW" = some (.int 3 t)
  k4 : ∃ t, mg "CHOICE" = some (.int 4 t)
  k5 : ∃ t, mg "AGAIN" = some (.int 5 t)
  k6 : ∃ t, mg "MAYBE" = some (.int 6 t)
  k7 : ∃ t, mg "AHEAD" = some (.int 7 t)
  k8 : ∃ t, mg "UNLESS" = some (.int 8 t)
  k9 : ∃ t, mg "CALL" = some (.int 9 t)
section
variable {P : Program} {w : World} {K : PySem.W.Frag} {mg : Str → Option Value} {base : Heap} {c : Cs} {H : Hp} {v : V} {x : W} {Q : VK}
theorem ObjAt.ty (A : AllF K mg c) (h : ObjAt c H v x) : TyX K H v (.ref (c.of x)) := by
  obtain ⟨a, d, fs, e, ha⟩ := h.head
  subst e
  have f := A.f x
  exact .base (.ins ha f.cl f.ha A.hn A.ht f.hm)
theorem st_isi (A : AllF K mg c) (h : ObjAt c H v x) (u : W) {tb r : TS} {D : Ends} (hy : x.tag = u.tag → tb { D with nx := r D } [some v] H) (hn : x.tag ≠ u.tag → r D [some v] H) :
    (tSeq (tIfS (tB (tCB (rIsi K) (tCons (tVar 0) (tCons (tC (V.ref (c.of u))) tNil)))) tb tNext) r) D [some v] H := by
  refine ⟨v, rfl, v, .ref (c.of u), _, _, _, rfl, .own _, h.ty A, A.kit x u, _, rfl, ?_⟩
  refine ite2 (fun e => hy (of_decide_eq_true e)) (fun e => hn fun e2 => e (decide_eq_true e2))
theorem kitAny2 (A : AllF K mg c) (x : W) : ∀ us : List W, PySem.W.kitAny K (.ref (c.of x)) (us.map fun u => .ref (c.of u)) = some (us.any fun u => decide (x.tag = u.tag))
  | [] => kitAny_nil
  | u :: us => by
    refine kitAny_cons (A.kit x u) (fun e => ?_) (fun e => ?_)
    · rw [List.any_cons, e, Bool.false_or]; exact kitAny2 A x us
    · rw [List.any_cons, e]; rfl
def fRc (t : Str) : Bool := decide (t = Str.ofString "row") || (decide (t = Str.ofString "choice") || false)
def fUn (t : Str) : Bool := decide (t = Str.ofString "again") || (decide (t = Str.ofString "maybe") || (decide (t = Str.ofString "ahead") || (decide (t = Str.ofString "unless") || false)))
theorem any_rc (x : W) : ([W.row [], .choice []].any fun u => decide (x.tag = u.tag)) = x.is_rc := by
  show fRc x.tag = x.is_rc
  cases x <;> (simp only [W.tag, W.is_rc]; decide +kernel)
theorem any_un (x : W) : ([W.again .one, .maybe .one, .ahead .one, .unless .one].any fun u => decide (x.tag = u.tag)) = x.is_un := by
  show fUn x.tag = x.is_un
  cases x <;> (simp only [W.tag, W.is_un]; decide +kernel)
theorem kit_rc (A : AllF K mg c) (x : W) : PySem.W.kitAny K (.ref (c.of x)) [.ref c.ro, .ref c.ch] = some x.is_rc := by rw [← any_rc]; exact kitAny2 A x [.row [], .choice []]
theorem kit_un (A : AllF K mg c) (x : W) : PySem.W.kitAny K (.ref (c.of x)) [.ref c.ag, .ref c.ma, .ref c.ah, .ref c.un] = some x.is_un := by rw [← any_un]; exact kitAny2 A x [.again .one, .maybe .one, .ahead .one, .unless .one]
theorem clsv (c : Cs) : ∀ us : List W, Paired ClsV (us.map fun u => V.ref (c.of u)) (us.map fun u => Value.ref (c.of u))
  | [] => .nil
  | u :: us => .cons (.own _) (clsv c us)
abbrev s_kind_of : Stmt := top 34
theorem sc_kind_of : FnScope ["way"] ["way"] (defScope s_kind_of) := ⟨rfl, rfl, rfl, by decide +kernel, rfl, by decide +kernel, by decide +kernel⟩
theorem d_kind_of (h : Here K mg "kind_of" s_kind_of ["way"]) (A : AllF K mg c) (B : Bs mg) (C : Kc mg) : DefOk P w K mg base 1 "kind_of" ["way"] (spKind c) := by
  have B_isinstance := B.isinstance
  have GK_Letter := A.mLt; have GK_One := A.mOn; have GK_Nothing := A.mNo; have GK_Row := A.mRo; have GK_Choice := A.mCh; have GK_Again := A.mAg; have GK_Maybe := A.mMa; have GK_Ahead := A.mAh; have GK_Unless := A.mUn
  have GC_LETTER := C.k0; have GC_ONE := C.k1; have GC_NOTHING := C.k2; have GC_ROW := C.k3; have GC_CHOICE := C.k4; have GC_AGAIN := C.k5; have GC_MAYBE := C.k6; have GC_AHEAD := C.k7; have GC_UNLESS := C.k8; have GC_CALL := C.k9
  refine h.ok sc_kind_of (fun vs H Q E h => by obtain ⟨v, w, rfl, _⟩ := h; rfl) (fun f cdv A' outer s H vs Q E hr h => ?_)
  obtain ⟨v, x, rfl, hv, k⟩ := h
  refine ⟨_, (pss_cons (ps_if (pt_val (pe_callB call_isi rfl B_isinstance (by decide +kernel) (pa_cons (pv 0) (pa_cons (pe_globC rfl GK_Letter) pa_nil)))) (pss_one (ps_ret (pe_globI rfl GC_LETTER))) pss_nil)
  (pss_cons (ps_if (pt_val (pe_callB call_isi rfl B_isinstance (by decide +kernel) (pa_cons (pv 0) (pa_cons (pe_globC rfl GK_One) pa_nil)))) (pss_one (ps_ret (pe_globI rfl GC_ONE))) pss_nil)
  (pss_cons (ps_if (pt_val (pe_callB call_isi rfl B_isinstance (by decide +kernel) (pa_cons (pv 0) (pa_cons (pe_globC rfl GK_Nothing) pa_nil)))) (pss_one (ps_ret (pe_globI rfl GC_NOTHING))) pss_nil)
  (pss_cons (ps_if (pt_val (pe_callB call_isi rfl B_isinstance (by decide +kernel) (pa_cons (pv 0) (pa_cons (pe_globC rfl GK_Row) pa_nil)))) (pss_one (ps_ret (pe_globI rfl GC_ROW))) pss_nil)
  (pss_cons (ps_if (pt_val (pe_callB call_isi rfl B_isinstance (by decide +kernel) (pa_cons (pv 0) (pa_cons (pe_globC rfl GK_Choice) pa_nil)))) (pss_one (ps_ret (pe_globI rfl GC_CHOICE))) pss_nil)
  (pss_cons (ps_if (pt_val (pe_callB call_isi rfl B_isinstance (by decide +kernel) (pa_cons (pv 0) (pa_cons (pe_globC rfl GK_Again) pa_nil)))) (pss_one (ps_ret (pe_globI rfl GC_AGAIN))) pss_nil)
  (pss_cons (ps_if (pt_val (pe_callB call_isi rfl B_isinstance (by decide +kernel) (pa_cons (pv 0) (pa_cons (pe_globC rfl GK_Maybe) pa_nil)))) (pss_one (ps_ret (pe_globI rfl GC_MAYBE))) pss_nil)
  (pss_cons (ps_if (pt_val (pe_callB call_isi rfl B_isinstance (by decide +kernel) (pa_cons (pv 0) (pa_cons (pe_globC rfl GK_Ahead) pa_nil)))) (pss_one (ps_ret (pe_globI rfl GC_AHEAD))) pss_nil)
  (pss_cons (ps_if (pt_val (pe_callB call_isi rfl B_isinstance (by decide +kernel) (pa_cons (pv 0) (pa_cons (pe_globC rfl GK_Unless) pa_nil)))) (pss_one (ps_ret (pe_globI rfl GC_UNLESS))) pss_nil)
  (pss_one (ps_ret (pe_globI rfl GC_CALL)))))))))))), ?_⟩
  refine st_isi A hv (.letter 0) (fun e => ?_) (fun e0 => ?_)
  · cases x <;> first | exact k | exact absurd e (by simp only [W.tag]; decide +kernel)
  refine st_isi A hv .one (fun e => ?_) (fun e1 => ?_)
  · cases x <;> first | exact k | exact absurd e (by simp only [W.tag]; decide +kernel)
  refine st_isi A hv .nothing (fun e => ?_) (fun e2 => ?_)
  · cases x <;> first | exact k | exact absurd e (by simp only [W.tag]; decide +kernel)
  refine st_isi A hv (.row []) (fun e => ?_) (fun e3 => ?_)
  · cases x <;> first | exact k | exact absurd e (by simp only [W.tag]; decide +kernel)
  refine st_isi A hv (.choice []) (fun e => ?_) (fun e4 => ?_)
  · cases x <;> first | exact k | exact absurd e (by simp only [W.tag]; decide +kernel)
  refine st_isi A hv (.again .one) (fun e => ?_) (fun e5 => ?_)
  · cases x <;> first | exact k | exact absurd e (by simp only [W.tag]; decide +kernel)
  refine st_isi A hv (.maybe .one) (fun e => ?_) (fun e6 => ?_)
  · cases x <;> first | exact k | exact absurd e (by simp only [W.tag]; decide +kernel)
  refine st_isi A hv (.ahead .one) (fun e => ?_) (fun e7 => ?_)
  · cases x <;> first | exact k | exact absurd e (by simp only [W.tag]; decide +kernel)
  refine st_isi A hv (.unless .one) (fun e => ?_) (fun e8 => ?_)
  · cases x <;> first | exact k | exact absurd e (by simp only [W.tag]; decide +kernel)
  cases x <;> first | exact absurd rfl e0 | exact absurd rfl e1 | exact absurd rfl e2 | exact absurd rfl e3 | exact absurd rfl e4 | exact absurd rfl e5 | exact absurd rfl e6 | exact absurd rfl e7 | exact absurd rfl e8 | exact k
abbrev s_word_of : Stmt := top 35
theorem sc_word_of : FnScope ["way"] ["way"] (defScope s_word_of) := ⟨rfl, rfl, rfl, by decide +kernel, rfl, by decide +kernel, by decide +kernel⟩
theorem d_word_of (h : Here K mg "word_of" s_word_of ["way"]) (A : AllF K mg c) (B : Bs mg) : DefOk P w K mg base 1 "word_of" ["way"] (spWord c) := by
  have B_isinstance := B.isinstance
  have GK_Letter := A.mLt; have GK_Call := A.mCa
  refine h.ok sc_word_of (fun vs H Q E h => by obtain ⟨v, w, rfl, _⟩ := h; rfl) (fun f cdv A' outer s H vs Q E hr h => ?_)
  obtain ⟨v, x, rfl, hv, k⟩ := h
  refine ⟨_, (pss_cons (ps_if (pt_val (pe_callB call_isi rfl B_isinstance (by decide +kernel) (pa_cons (pv 0) (pa_cons (pe_globC rfl GK_Letter) pa_nil)))) (pss_one (ps_ret (pe_fld (pv 0) rfl))) pss_nil)
  (pss_cons (ps_if (pt_val (pe_callB call_isi rfl B_isinstance (by decide +kernel) (pa_cons (pv 0) (pa_cons (pe_globC rfl GK_Call) pa_nil)))) (pss_one (ps_ret (pe_fld (pv 0) rfl))) pss_nil)
  (pss_one (ps_ret pe_str)))), ?_⟩
  refine st_isi A hv (.letter 0) (fun e => ?_) (fun e0 => ?_)
  · cases x <;> first | exact absurd e (by simp only [W.tag]; decide +kernel) | skip
    obtain ⟨a, d, ev, ha⟩ := id hv
    exact ⟨_, rfl, a, c.lt, d, _, _, ev, ha, (A.f (.letter 0)).cl, (A.f (.letter 0)).nl, rfl, k⟩
  refine st_isi A hv (.call (Str.ofString "")) (fun e => ?_) (fun e1 => ?_)
  · cases x <;> first | exact absurd e (by simp only [W.tag]; decide +kernel) | skip
    obtain ⟨a, d, ev, ha⟩ := id hv
    exact ⟨_, rfl, a, c.ca, d, _, _, ev, ha, (A.f (.call (Str.ofString ""))).cl, (A.f (.call (Str.ofString ""))).nn, rfl, k⟩
  cases x <;> first | exact absurd rfl e0 | exact absurd rfl e1 | exact k
abbrev s_made_of : Stmt := top 36
theorem sc_made_of : FnScope ["way"] ["way"] (defScope s_made_of) := ⟨rfl, rfl, rfl, by decide +kernel, rfl, by decide +kernel, by decide +kernel⟩
theorem d_made_of (h : Here K mg "made_of" s_made_of ["way"]) (A : AllF K mg c) (B : Bs mg) : DefOk P w K mg base 1 "made_of" ["way"] (spMadeOf c) := by
  have B_isinstance := B.isinstance
  have GK_Row := A.mRo; have GK_Choice := A.mCh; have GK_Again := A.mAg; have GK_Maybe := A.mMa; have GK_Ahead := A.mAh; have GK_Unless := A.mUn
  refine h.ok sc_made_of (fun vs H Q E h => by obtain ⟨v, w, rfl, _⟩ := h; rfl) (fun f cdv A' outer s H vs Q E hr h => ?_)
  obtain ⟨v, x, rfl, hv, k⟩ := h
  refine ⟨_, (pss_cons (ps_if (pt_val (pe_callB call_isiT rfl B_isinstance (by decide +kernel) (pa_cons (pv 0) (pa_cons (pe_tup (pa_cons (pe_globC rfl GK_Row) (pa_cons (pe_globC rfl GK_Choice) pa_nil))) pa_nil)))) (pss_one (ps_ret (pe_fld (pv 0) rfl))) pss_nil)
  (pss_cons (ps_if (pt_val (pe_callB call_isiT rfl B_isinstance (by decide +kernel) (pa_cons (pv 0) (pa_cons (pe_tup (pa_cons (pe_globC rfl GK_Again) (pa_cons (pe_globC rfl GK_Maybe) (pa_cons (pe_globC rfl GK_Ahead) (pa_cons (pe_globC rfl GK_Unless) pa_nil))))) pa_nil)))) (pss_one (ps_ret (pe_tup (pa_cons (pe_fld (pv 0) rfl) pa_nil)))) pss_nil)
  (pss_one (ps_ret (pe_tup pa_nil))))), ?_⟩
  walk_at "rd"
  refine ⟨by show 2 ≤ sizeLine; decide, fun tp htp => ?_⟩
  have s1 := Same.new htp (.tup [.ref c.ro, .ref c.ch])
  have hv1 := ObjAt.keep (stillS s1) _ _ hv
  refine ⟨v, tp, _, _, _, _, rfl, upd_same, clsv c [.row [], .choice []], hv1.ty A, kit_rc A x, _, rfl, ?_⟩
  refine ite2 (fun e => ?_) (fun e0 => ?_)
  · cases x <;> first | exact absurd e Bool.false_ne_true | skip
    all_goals
      obtain ⟨a, d, t, us, ev, ha, ht, hus⟩ := id hv1
      refine ⟨_, rfl, a, _, d, _, _, ev, ha, ?_, ?_, rfl, k t us _ s1 ht hus⟩
      · first | exact (A.f (.row [])).cl | exact (A.f (.choice [])).cl
      · first | exact (A.f (.row [])).nw | exact (A.f (.choice [])).nw
  walk_at "nx"
  walk_at "rd"
  refine ⟨by show 4 ≤ sizeLine; decide, fun tq htq => ?_⟩
  have s2 := s1.trans (Same.new htq (.tup [.ref c.ag, .ref c.ma, .ref c.ah, .ref c.un]))
  have hv2 := ObjAt.keep (stillS s2) _ _ hv
  refine ⟨v, tq, _, _, _, _, rfl, upd_same, clsv c [.again .one, .maybe .one, .ahead .one, .unless .one], hv2.ty A, kit_un A x, _, rfl, ?_⟩
  refine ite2 (fun e => ?_) (fun e1 => ?_)
  · cases x <;> first | exact absurd e Bool.false_ne_true | skip
    all_goals
      obtain ⟨a, d, u, mk, ev, ha, hu⟩ := id hv2
      refine ⟨_, rfl, a, _, d, _, _, ev, ha, ?_, ?_, rfl, by show 1 ≤ sizeLine; decide, fun p hp => ?_⟩
      · first | exact (A.f (.again .one)).cl | exact (A.f (.maybe .one)).cl | exact (A.f (.ahead .one)).cl | exact (A.f (.unless .one)).cl
      · first | exact (A.f (.again .one)).np | exact (A.f (.maybe .one)).np | exact (A.f (.ahead .one)).np | exact (A.f (.unless .one)).np
      have s3 := s2.trans (Same.new hp (.tup [u]))
      exact k p _ _ s3 upd_same ⟨u, [], rfl, ObjAt.keep (stillS (Same.new hp _)) _ _ hu, rfl⟩
  walk_at "nx"
  walk_at "rd"
  refine ⟨Nat.zero_le _, fun p hp => ?_⟩
  have s3 := s2.trans (Same.new hp (.tup []))
  cases x <;> first | exact absurd rfl e0 | exact absurd rfl e1 | exact k p _ _ s3 upd_same rfl
end
end Wv
namespace Wv
open PySem PySem.Spec PyProof.Rows L2
/-! ### the parts of a way, == and len -/
theorem while_m {c : TT} {tb : TS} {D : Ends} {σ : L2.St} {H : Hp} (Pv : Nat → L2.St → Hp → Prop) (m : Nat) (h0 : Pv m σ H)
    (hs : ∀ m σ H, Pv m σ H → c σ H fun b H1 => if b = true then tb { D with nx := fun σ' H' => ∃ m', m' < m ∧ Pv m' σ' H', ct := fun σ' H' => ∃ m', m' < m ∧ Pv m' σ' H', bk := D.nx } σ H1 else D.nx σ H1)
    (mono : ∀ σ H Q Q', (∀ b H1, Q b H1 → Q' b H1) → c σ H Q → c σ H Q') : tWhile c tb D σ H := by
  refine ⟨Pv, ⟨m, h0⟩, fun m σ H p => mono σ H _ _ (fun b H1 q => ?_) (hs m σ H p)⟩
  cases b with
  | true => exact ⟨_, fun _ _ h => h, q⟩
  | false => exact q
theorem ObjsAt.split {c : Cs} {H : Hp} : ∀ (a : List W) (w : W) (vs : List V), ObjsAt c H vs (a ++ [w]) → ∃ us u, vs = us ++ [u] ∧ ObjsAt c H us a ∧ ObjAt c H u w
  | [], w, vs, ⟨u, us, e, h, h2⟩ => ⟨[], u, by rw [e, show us = [] from h2]; rfl, rfl, h⟩
  | x :: a, w, vs, ⟨u, us, e, h, h2⟩ => by
    obtain ⟨us', u', e', h3, h4⟩ := ObjsAt.split a w us h2
    exact ⟨u :: us', u', by rw [e, e']; rfl, ⟨u, us', rfl, h, h3⟩, h4⟩
theorem W.sizes_rev : ∀ ws : List W, W.sizes ws.reverse = W.sizes ws
  | [] => rfl
  | w :: ws => by rw [List.reverse_cons, W.sizes_app, W.sizes_rev ws]; simp only [W.sizes]; omega
theorem last_get {α : Type} (us : List α) (u : α) : (us ++ [u])[(us ++ [u]).length - 1]? = some u := by
  rw [List.length_append, List.length_singleton, Nat.add_sub_cancel, List.getElem?_append_right (Nat.le_refl _), Nat.sub_self]; rfl
theorem tru_lst {K : PySem.W.Frag} {H : Hp} {t : Addr} {xs : List V} (h : H t = some (.lst xs)) : TruV K (.ref t) H (!xs.isEmpty) := .inl ⟨xs, SqL.of h, rfl⟩
theorem iteT' {b : Bool} {T F : Prop} (h : b = true) (t : T) : if b = true then T else F := by rw [h]; exact t
mutual
/-- all parts of a way, one after the other -/
def W.parts : W → List W
  | .nothing => [.nothing] | .one => [.one] | .letter x => [.letter x] | .call x => [.call x]
  | .row ws => .row ws :: W.partss ws
  | .choice ws => .choice ws :: W.partss ws
  | .again w => .again w :: (W.parts w ++ [])
  | .maybe w => .maybe w :: (W.parts w ++ [])
  | .ahead w => .ahead w :: (W.parts w ++ [])
  | .unless w => .unless w :: (W.parts w ++ [])
def W.partss : List W → List W
  | [] => []
  | w :: ws => W.parts w ++ W.partss ws
end
theorem W.parts_eq (w : W) : w.parts = w :: W.partss w.inner := by cases w <;> rfl
theorem W.partss_app : ∀ a b : List W, W.partss (a ++ b) = W.partss a ++ W.partss b
  | [], b => rfl
  | x :: a, b => by rw [List.cons_append, W.partss, W.partss_app a b, W.partss, List.append_assoc]
def spParts (c : Cs) : Sp := fun vs H Q _ => ∃ (v : V) (w : W), vs = [v] ∧ ObjAt c H v w ∧ w.size ≤ 1000 ∧ ∀ (p : Addr) (ps : List V) (H' : Hp), Same H H' → H' p = some (.lst ps) → ps.length = w.size → ObjsAt c H' ps w.parts → Q (.ref p) H'
section
variable {P : Program} {w : World} {K : PySem.W.Frag} {mg : Str → Option Value} {base : Heap} {c : Cs} {H : Hp} {v : V} {x : W} {Q : VK}
abbrev s_parts_of : Stmt := top 37
theorem sc_parts_of : FnScope ["way", "parts", "todo", "part"] ["way"] (defScope s_parts_of) := ⟨rfl, rfl, rfl, by decide +kernel, rfl, by decide +kernel, by decide +kernel⟩
theorem d_parts_of (h : Here K mg "parts_of" s_parts_of ["way"]) (G_made_of : DefOk P w K mg base 1 "made_of" ["way"] (spMadeOf c)) : DefOk P w K mg base 2 "parts_of" ["way"] (spParts c) := by
  refine h.ok sc_parts_of (fun vs H Q E h => by obtain ⟨v, w, rfl, _⟩ := h; rfl) (fun f cdv A' outer s H vs Q E hr h => ?_)
  obtain ⟨v, x, rfl, hv, hx, k⟩ := h
  refine ⟨_, (pss_cons (ps_set (i := 1) sc_parts_of.nd rfl (Or.inl rfl) (pe_lst pa_nil))
  (pss_cons (ps_set (i := 2) sc_parts_of.nd rfl (Or.inl rfl) (pe_lst (pa_cons (pv 0) pa_nil)))
  (pss_cons (ps_while PassesOwn.never (pt_truth (pv 2) (by intro _; rfl)) (pss_cons (ps_set (i := 3) sc_parts_of.nd rfl (Or.inl rfl) (pe_bm0 PySem.F.plainAttrs_list PySem.F.slot_list_pop PySem.F.type_list_pop mt_pop (pv 2)))
  (pss_cons (ps_expr (pe_bm PySem.F.plainAttrs_list PySem.F.slot_list_append PySem.F.type_list_append mt_append (pv 1) (pa_cons (pv 3) pa_nil)))
  (pss_one (ps_expr (pe_bm PySem.F.plainAttrs_list PySem.F.slot_list_extend PySem.F.type_list_extend mt_extendT (pv 2) (pa_cons (pe_revT (pe_callD G_made_of (hr.mono (by first | decide | omega)) rfl (pa_cons (pv 3) pa_nil))) pa_nil)))))))
  (pss_one (ps_ret (pv 1)))))), ?_⟩
  refine ⟨Nat.zero_le _, fun p hp => ?_⟩
  have s1 := Same.new hp (.lst [])
  walk_at "nx"
  walk_at "rd"
  refine ⟨by show 1 ≤ sizeLine; decide, fun t ht => ?_⟩
  have s2 := s1.trans (Same.new ht (.lst [v]))
  have npt : p ≠ t := ne_of_none upd_same ht
  have htH : H t = none := by rw [upd_ne npt.symm] at ht; exact ht
  walk_at "nx"
  refine while_m (fun m σ H' => ∃ (ps ts : List V) (ws : List W) (x3 : Option V), σ = [some v, some (.ref p), some (.ref t), x3] ∧ H' p = some (.lst ps) ∧ H' t = some (.lst ts) ∧ ObjsAt c H' ts ws ∧ W.sizes ws = m ∧ ps.length + m = x.size ∧ (∃ dn : List W, ObjsAt c H' ps dn ∧ dn ++ W.partss ws.reverse = x.parts) ∧ Same H H') x.size ?_ ?_
    (fun σ H Q Q' hq ⟨v, e, b, tv, h⟩ => ⟨v, e, b, tv, hq _ _ h⟩)
  · exact ⟨[], [v], [x], none, rfl, by rw [upd_ne npt]; exact upd_same, upd_same, ⟨v, [], rfl, ObjAt.keep (stillS s2) _ _ hv, rfl⟩, by simp only [W.sizes]; omega, by simp, ⟨[], rfl, by simp [W.partss]⟩, s2⟩
  · rintro m σ H1 ⟨ps, ts, ws, x3, rfl, hp1, ht1, hts, hm, hlen, ⟨dn, hdn, edn⟩, s3⟩
    refine ⟨_, rfl, _, tru_lst ht1, ?_⟩
    rcases List.eq_nil_or_concat ws with e | ⟨wa, wl, e⟩
    · subst e
      have e2 : ts = [] := hts
      subst e2
      refine iteF ?_
      walk_at "nx"
      walk_at "rd"
      have : m = 0 := hm.symm
      exact k p ps H1 s3 hp1 (by omega) (by rw [← edn]; simpa [W.partss] using hdn)
    · have e' : ws = wa ++ [wl] := by rw [e]; simp
      clear e
      subst e'
      obtain ⟨ta, tl, e2, hta, htl⟩ := ObjsAt.split _ _ _ hts
      subst e2
      have hsz : W.sizes wa + wl.size = m := by rw [← hm, W.sizes_app]; simp only [W.sizes]; omega
      have hin := wl.size_inner
      refine iteT' (by simp) ?_
      walk_at "nx"
      refine ⟨_, rfl, .inl ⟨rfl, _, SqL.of ht1⟩, t, _, _, rfl, rfl, ht1, last_get _ _, ?_⟩
      rw [List.dropLast_concat]
      walk_at "nx"
      have hp2 : upd H1 t (.lst ta) p = some (.lst ps) := by rw [upd_ne npt]; exact hp1
      refine ⟨_, rfl, .inl ⟨rfl, _, SqL.of hp2⟩, _, rfl, p, _, _, rfl, rfl, hp2, small' (by omega), ?_⟩
      walk_at "nx"
      have k1 : Still H1 (upd H1 t (.lst ta)) := Still.put ht1
      have k2 : Still (upd H1 t (.lst ta)) (upd (upd H1 t (.lst ta)) p (.lst (ps ++ [tl]))) := Still.put hp2
      have k12 := k1.trans k2
      have ht3 : upd (upd H1 t (.lst ta)) p (.lst (ps ++ [tl])) t = some (.lst ta) := by rw [upd_ne npt.symm]; exact upd_same
      have hp3 : upd (upd H1 t (.lst ta)) p (.lst (ps ++ [tl])) p = some (.lst (ps ++ [tl])) := upd_same
      have s4 : Same H (upd (upd H1 t (.lst ta)) p (.lst (ps ++ [tl]))) := Same.put hp (Same.put htH s3 _) _
      generalize upd (upd H1 t (.lst ta)) p (.lst (ps ++ [tl])) = H2 at *
      refine ⟨_, rfl, .inl ⟨rfl, _, SqL.of ht3⟩, _, rfl, tl, wl, rfl, ObjAt.keep k12 _ _ htl, fun u us H3 s5 hu hus => ?_⟩
      refine ⟨u, us, rfl, SqT.of hu, fun r hr => ?_⟩
      have s6 := Same.new hr (.tup us.reverse)
      have ll := ObjsAt.len _ _ hta
      have l2 := W.sizes_len wa
      have l3 := ObjsAt.len _ _ hus
      have l4 := W.sizes_len wl.inner
      have ht4 := s6 _ _ (s5 _ _ ht3)
      refine ⟨t, r, _, _, rfl, rfl, ht4, SqT.of upd_same, ?_, ?_⟩
      · rw [List.length_reverse]
        exact Nat.le_of_lt (small' (by omega))
      · walk_at "nx"
        have k7 : Still _ (upd (upd H3 r (.tup us.reverse)) t (.lst (ta ++ us.reverse))) := Still.put ht4
        have k36 := (stillS s6).trans k7
        refine ⟨W.sizes (wa ++ wl.inner.reverse), ?_, ps ++ [tl], _, wa ++ wl.inner.reverse, _, rfl, ?_, upd_same, ?_, rfl, ?_, ?_⟩
        · rw [W.sizes_app, W.sizes_rev]; omega
        · rw [upd_ne npt]; exact s6 _ _ (s5 _ _ hp3)
        · exact ObjsAt.app _ _ (ObjsAt.keep ((k12.trans (stillS s5)).trans k36) _ _ hta) (ObjsAt.keep k36 _ _ (ObjsAt.rev _ _ hus))
        · rw [W.sizes_app, W.sizes_rev, List.length_append, List.length_singleton]; omega
        · refine ⟨⟨dn ++ [wl], ?_, ?_⟩, Same.put htH ((s4.trans s5).trans s6) _⟩
          · exact ObjsAt.app _ _ (ObjsAt.keep ((k12.trans (stillS s5)).trans k36) _ _ hdn) ⟨tl, [], rfl, ObjAt.keep ((k12.trans (stillS s5)).trans k36) _ _ htl, rfl⟩
          · rw [← edn, List.reverse_append, List.reverse_append, List.reverse_reverse, W.partss_app, List.reverse_singleton, List.singleton_append, W.partss, W.parts_eq wl]
            simp
/-- pairs of two ways that are the same -/
def TwoAt (c : Cs) (H : Hp) : List V → List W → Prop
  | ts, [] => ts = []
  | ts, w :: ws => ∃ r a b us, ts = V.ref r :: us ∧ H r = some (.tup [a, b]) ∧ ObjAt c H a w ∧ ObjAt c H b w ∧ TwoAt c H us ws
theorem TwoAt.keep {H H' : Hp} (k : Still H H') : ∀ (ws : List W) (ts : List V), TwoAt c H ts ws → TwoAt c H' ts ws
  | [], _, h => h
  | w :: ws, ts, ⟨r, a, b, us, e, h, h1, h2, h3⟩ => ⟨r, a, b, us, e, k.tup h, ObjAt.keep k _ _ h1, ObjAt.keep k _ _ h2, TwoAt.keep k ws us h3⟩
theorem TwoAt.len : ∀ (ws : List W) (ts : List V), TwoAt c H ts ws → ts.length = ws.length
  | [], ts, h => by rw [show ts = [] from h]; rfl
  | w :: ws, ts, ⟨r, a, b, us, e, _, _, _, h3⟩ => by rw [e, List.length_cons, List.length_cons, TwoAt.len ws us h3]
theorem TwoAt.app : ∀ (ws : List W) (ts : List V) {us : List V} {xs : List W}, TwoAt c H ts ws → TwoAt c H us xs → TwoAt c H (ts ++ us) (ws ++ xs)
  | [], ts, us, xs, h, h2 => by rw [show ts = [] from h]; exact h2
  | w :: ws, ts, us, xs, ⟨r, a, b, r', e, h, h1, h3, h4⟩, h2 => by rw [e]; exact ⟨r, a, b, r' ++ us, rfl, h, h1, h3, TwoAt.app ws r' h4 h2⟩
theorem TwoAt.split : ∀ (a : List W) (w : W) (vs : List V), TwoAt c H vs (a ++ [w]) → ∃ us r x y, vs = us ++ [V.ref r] ∧ TwoAt c H us a ∧ H r = some (.tup [x, y]) ∧ ObjAt c H x w ∧ ObjAt c H y w
  | [], w, vs, ⟨r, a, b, us, e, h, h1, h2, h3⟩ => ⟨[], r, a, b, by rw [e, show us = [] from h3]; rfl, rfl, h, h1, h2⟩
  | x :: a, w, vs, ⟨r, y, z, us, e, h, h1, h2, h3⟩ => by
    obtain ⟨us', r', x', y', e', g1, g2, g3, g4⟩ := TwoAt.split a w us h3
    exact ⟨V.ref r :: us', r', x', y', by rw [e, e']; rfl, ⟨r, y, z, us', rfl, h, h1, h2, g1⟩, g2, g3, g4⟩
theorem TwoAt.of : ∀ (ws : List W) (ts : List Addr) (xs ys : List V), Wz.PairsAt H ts xs ys → ObjsAt c H xs ws → ObjsAt c H ys ws → TwoAt c H (ts.map V.ref) ws
  | [], ts, xs, ys, p, hx, hy => by
    have e : xs = [] := hx
    have l := p.len
    rw [e] at l
    rw [List.eq_nil_of_length_eq_zero l]
    rfl
  | w :: ws, ts, xs, ys, p, ⟨u, us, e, hu, hus⟩, ⟨u2, us2, e2, hu2, hus2⟩ => by
    subst e e2
    have l := p.len
    cases ts with
    | nil => cases l
    | cons t ts =>
      obtain ⟨x, y, h1, h2, h3⟩ := p.at_ 0 t rfl
      have e1 : u = x := Option.some.inj h1
      have e2 : u2 = y := Option.some.inj h2
      subst e1 e2
      exact ⟨t, u, u2, _, rfl, h3, hu, hu2, TwoAt.of ws ts us us2 ⟨by simpa using l, fun j t' hj => p.at_ (j + 1) t' (by simpa using hj)⟩ hus hus2⟩
def spSameW (c : Cs) : Sp := fun vs H Q _ => ∃ (a b : V) (w : W), vs = [a, b] ∧ ObjAt c H a w ∧ ObjAt c H b w ∧ w.size ≤ 1000 ∧ ∀ H', Same H H' → Q (.bl true) H'
abbrev s_same_ways : Stmt := top 38
theorem sc_same_ways : FnScope ["one", "other", "todo", "left", "right"] ["one", "other"] (defScope s_same_ways) := ⟨rfl, rfl, rfl, by decide +kernel, rfl, by decide +kernel, by decide +kernel⟩
theorem ok_same_ways {f : Addr} {fd : FuncData} (F : Fun K "same_ways" "same_ways" s_same_ways f fd) (B : Bs mg) (G_made_of : DefOk P w K mg base 1 "made_of" ["way"] (spMadeOf c)) (G_kind_of : DefOk P w K mg base 1 "kind_of" ["way"] (spKind c)) (G_word_of : DefOk P w K mg base 1 "word_of" ["way"] (spWord c)) :
    FnOk P w K mg base CX0 2 f fd ["one", "other"] (spSameW c) := by
  have B_len := B.len; have B_list := B.list; have B_zip := B.zip
  refine F.ok sc_same_ways (fun vs H Q E h => by obtain ⟨a, b, w, rfl, _⟩ := h; rfl) (fun cdv A' outer s H vs Q E hr h => ?_)
  obtain ⟨a, b, x, rfl, ha, hb, hx, k⟩ := h
  refine ⟨_, (pss_cons (ps_set (i := 2) sc_same_ways.nd rfl (Or.inl rfl) (pe_lst (pa_cons (pe_tup (pa_cons (pv 0) (pa_cons (pv 1) pa_nil))) pa_nil)))
  (pss_cons (ps_while PassesOwn.never (pt_truth (pv 2) (by intro _; rfl)) (pss_cons (ps_asg (pe_bm0 PySem.F.plainAttrs_list PySem.F.slot_list_pop PySem.F.type_list_pop mt_pop (pv 2)) (pg_tup rfl (pgs_cons (pg_name (i := 3) sc_same_ways.nd rfl (Or.inl rfl)) (pgs_cons (pg_name (i := 4) sc_same_ways.nd rfl (Or.inl rfl)) pgs_nil))))
  (pss_cons (ps_if (PW.pt (pw_or (pt_cmpR op_ne (pe_callD G_kind_of (hr.mono (by first | decide | omega)) rfl (pa_cons (pv 3) pa_nil)) (pe_callD G_kind_of (hr.mono (by first | decide | omega)) rfl (pa_cons (pv 4) pa_nil)) (nomark _)) (pw_or1 (pt_cmpR op_ne (pe_callD G_word_of (hr.mono (by first | decide | omega)) rfl (pa_cons (pv 3) pa_nil)) (pe_callD G_word_of (hr.mono (by first | decide | omega)) rfl (pa_cons (pv 4) pa_nil)) (nomark _))))) (pss_one (ps_ret pe_bl)) pss_nil)
  (pss_cons (ps_if (pt_cmpR op_ne (pe_callB call_len_seq rfl B_len PySem.boot_len (pa_cons (pe_callD G_made_of (hr.mono (by first | decide | omega)) rfl (pa_cons (pv 3) pa_nil)) pa_nil)) (pe_callB call_len_seq rfl B_len PySem.boot_len (pa_cons (pe_callD G_made_of (hr.mono (by first | decide | omega)) rfl (pa_cons (pv 4) pa_nil)) pa_nil)) (nomark _)) (pss_one (ps_ret pe_bl)) pss_nil)
  (pss_one (ps_expr (pe_bm PySem.F.plainAttrs_list PySem.F.slot_list_extend PySem.F.type_list_extend mt_extend (pv 2) (pa_cons (Wz.pe_listZip rfl rfl B_list rfl B_zip (pa_cons (pe_callD G_made_of (hr.mono (by first | decide | omega)) rfl (pa_cons (pv 3) pa_nil)) (pa_cons (pe_callD G_made_of (hr.mono (by first | decide | omega)) rfl (pa_cons (pv 4) pa_nil)) pa_nil))) pa_nil))))))))
  (pss_one (ps_ret pe_bl)))), ?_⟩
  walk_at "rd"
  refine ⟨by show 2 ≤ sizeLine; decide, fun r hr => ?_⟩
  have s1 := Same.new hr (.tup [a, b])
  refine ⟨by show 1 ≤ sizeLine; decide, fun t ht => ?_⟩
  have s2 := s1.trans (Same.new ht (.lst [.ref r]))
  have nrt : r ≠ t := ne_of_none upd_same ht
  have htH : H t = none := by rw [upd_ne nrt.symm] at ht; exact ht
  walk_at "nx"
  refine while_m (fun m σ H' => ∃ (ts : List V) (ws : List W) (x3 x4 : Option V), σ = [some a, some b, some (.ref t), x3, x4] ∧ H' t = some (.lst ts) ∧ TwoAt c H' ts ws ∧ W.sizes ws = m ∧ m ≤ 1000 ∧ Same H H') x.size ?_ ?_
    (fun σ H Q Q' hq ⟨v, e, b, tv, h⟩ => ⟨v, e, b, tv, hq _ _ h⟩)
  · exact ⟨_, [x], none, none, rfl, upd_same, ⟨r, a, b, [], rfl, by rw [upd_ne nrt]; exact upd_same, ObjAt.keep (stillS s2) _ _ ha, ObjAt.keep (stillS s2) _ _ hb, rfl⟩, by simp only [W.sizes]; omega, hx, s2⟩
  · rintro m σ H1 ⟨ts, ws, x3, x4, rfl, ht1, hts, hm, hmx, s3⟩
    refine ⟨_, rfl, _, tru_lst ht1, ?_⟩
    rcases List.eq_nil_or_concat ws with e | ⟨wa, wl, e⟩
    · subst e
      have e2 : ts = [] := hts
      subst e2
      refine iteF ?_
      walk_at "nx"
      walk_at "rd"
      exact k H1 s3
    · have e' : ws = wa ++ [wl] := by rw [e]; simp
      clear e
      subst e'
      obtain ⟨ta, tl, y, z, e2, hta, htl, hy, hz⟩ := TwoAt.split _ _ _ hts
      subst e2
      have hsz : W.sizes wa + wl.size = m := by rw [← hm, W.sizes_app]; simp only [W.sizes]; omega
      have hin := wl.size_inner
      refine iteT' (by simp) ?_
      walk_at "nx"
      refine ⟨_, rfl, .inl ⟨rfl, _, SqL.of ht1⟩, t, _, _, rfl, rfl, ht1, last_get _ _, ?_⟩
      rw [List.dropLast_concat]
      have k1 : Still H1 (upd H1 t (.lst ta)) := Still.put ht1
      have s4 : Same H (upd H1 t (.lst ta)) := Same.put htH s3 _
      have ht2 : upd H1 t (.lst ta) t = some (.lst ta) := upd_same
      generalize upd H1 t (.lst ta) = H2 at *
      refine ⟨tl, [y, z], rfl, SqT.of (k1.tup htl), rfl, ?_⟩
      have hy2 := ObjAt.keep k1 _ _ hy
      have hz2 := ObjAt.keep k1 _ _ hz
      refine ⟨y, [z], rfl, ?_⟩
      walk_at "nx"
      refine ⟨z, [], rfl, ?_⟩
      walk_at "nx"
      refine ⟨rfl, ?_⟩
      walk_at "nx"
      refine ⟨_, rfl, y, wl, rfl, hy2, _, rfl, z, wl, rfl, hz2, rfl, ?_⟩
      rw [decide_eq_true rfl]
      refine ⟨_, rfl, iteF ?_⟩
      refine ⟨_, rfl, y, wl, rfl, hy2, _, rfl, z, wl, rfl, hz2, rfl, ?_⟩
      rw [decide_eq_true rfl]
      refine ⟨_, rfl, iteF ?_⟩
      walk_at "nx"
      refine ⟨_, rfl, y, wl, rfl, hy2, fun u1 us1 H3 s5 hu1 hus1 => ?_⟩
      have hz3 := ObjAt.keep (stillS s5) _ _ hz2
      refine ⟨u1, us1, rfl, .inr (SqT.of hu1), ?_⟩
      refine ⟨_, rfl, z, wl, rfl, hz3, fun u2 us2 H4 s6 hu2 hus2 => ?_⟩
      refine ⟨u2, us2, rfl, .inr (SqT.of hu2), ?_⟩
      have l1 := ObjsAt.len _ _ hus1
      have l2 := ObjsAt.len _ _ hus2
      rw [l1, l2]
      refine ⟨rfl, ?_⟩
      rw [decide_eq_true rfl]
      refine ⟨_, rfl, iteF ?_⟩
      walk_at "nx"
      have s24 := s5.trans s6
      have ht4 := s24 _ _ ht2
      have hy4 := ObjAt.keep (stillS s24) _ _ hy2
      have hz4 := ObjAt.keep (stillS s24) _ _ hz2
      refine ⟨_, rfl, .inl ⟨rfl, _, SqL.of ht4⟩, ?_⟩
      refine ⟨_, rfl, y, wl, rfl, hy4, fun u3 us3 H5 s7 hu3 hus3 => ?_⟩
      have hz5 := ObjAt.keep (stillS s7) _ _ hz4
      refine ⟨_, rfl, z, wl, rfl, hz5, fun u4 us4 H6 s8 hu4 hus4 => ?_⟩
      have l3 := ObjsAt.len _ _ hus3
      have l4 := ObjsAt.len _ _ hus4
      refine ⟨u3, u4, us3, us4, rfl, SqT.of (s8 _ _ hu3), SqT.of hu4, by omega, fun H7 p ts s9 hp7 hl7 hpr => ?_⟩
      have s69 := (s7.trans s8).trans s9
      have s29 := s24.trans s69
      have ht7 := s69 _ _ ht4
      have lp := hpr.len
      have la := TwoAt.len _ _ hta
      have lb := W.sizes_len wa
      have lc := W.sizes_len wl.inner
      refine ⟨t, p, _, _, rfl, rfl, ht7, hl7, by rw [List.length_map]; exact Nat.le_of_lt (small' (by omega)), ?_⟩
      walk_at "nx"
      have k8 : Still H7 (upd H7 t (.lst (ta ++ ts.map V.ref))) := Still.put ht7
      refine ⟨W.sizes (wa ++ wl.inner), by rw [W.sizes_app]; omega, _, wa ++ wl.inner, _, _, rfl, upd_same, ?_, rfl, by rw [W.sizes_app]; omega, Same.put htH (s4.trans s29) _⟩
      have hx7 := ObjsAt.keep (stillS (s8.trans s9)) _ _ hus3
      have hy7 := ObjsAt.keep (stillS s9) _ _ hus4
      exact TwoAt.app _ _ (TwoAt.keep ((k1.trans (stillS s29)).trans k8) _ _ hta) (TwoAt.keep k8 _ _ (TwoAt.of _ _ _ _ hpr hx7 hy7))
theorem d_same_ways (h : Here K mg "same_ways" s_same_ways ["one", "other"]) (B : Bs mg) (G_made_of : DefOk P w K mg base 1 "made_of" ["way"] (spMadeOf c)) (G_kind_of : DefOk P w K mg base 1 "kind_of" ["way"] (spKind c)) (G_word_of : DefOk P w K mg base 1 "word_of" ["way"] (spWord c)) :
    DefOk P w K mg base 2 "same_ways" ["one", "other"] (spSameW c) := by
  obtain ⟨f, fd, F, m, b⟩ := h.ex
  exact ⟨f, fd, m, F.kp, b, ok_same_ways F B G_made_of G_kind_of G_word_of⟩
end
end Wv
namespace Tk
open PySem PySem.Spec PyProof.Rows L2 Wv
/-! ### ranges as values -/
section
variable {X : Cx} {tg : Expr} {e : Expr} {te : TE} {tr : L2.St → Hp → (Int → Int → Hp → Prop) → Prop}
theorem cr_range1 : CallR X (.type "range") (fun vs H Q => ∃ j, vs = [V.int j] ∧ ∀ p, H p = none → Q (.ref p) (upd H p (.rng 0 j))) := by
  intro pins s σ H vs us Q I r h
  obtain ⟨j, rfl, q⟩ := h
  obtain ⟨u1, rfl, ri⟩ := vals1 r
  obtain ⟨t, rfl⟩ := ri
  refine call_range_1 ⟨.ref s.heap.objs.size, upd H s.heap.objs.size (.rng 0 j), I.laid (fun b o e => Heap.get?_push_of_some _ e) (Nat.le_refl _) ?_, rfl, q _ (I.hok.fresh (Nat.le_refl _))⟩
  exact ⟨_, _, _, Heap.get?_push_size _ rfl⟩
def tRgV (te : TE) : L2.St → Hp → (Int → Int → Hp → Prop) → Prop := fun σ H Q => te σ H fun x H1 => ∃ a lo hi, x = .ref a ∧ H1 a = some (.rng lo hi) ∧ Q lo hi H1
theorem prg_v (he : PE X e te) : PRg X e (tRgV te) := by
  intro pins s σ H Q I h
  refine thn (he.run pins s σ H _ I h) fun v s1 ⟨x, H1, I1, r1, a, lo, hi, ex, ha, q⟩ => ?_
  subst ex
  cases r1
  obtain ⟨t1, t2, t3, ho⟩ := I1.hok a _ ha
  exact ⟨a, lo, hi, t1, t2, t3, H1, rfl, ho, I1, q⟩
def iRg (tr : L2.St → Hp → (Int → Int → Hp → Prop) → Prop) : TI := fun σ H R => tr σ H fun a b H1 => (-(2 ^ 62) ≤ a ∧ a < 2 ^ 62 ∧ -(2 ^ 62) ≤ b ∧ b < 2 ^ 62) ∧ R (Itr a (b - a).toNat) H1
theorem pi_rg (he : PRg X e tr) : PI X tg e (iRg tr) := by
  refine ⟨fun pins s σ H R I h => ?_⟩
  refine thn (he pins s σ H _ I h) fun u s1 ⟨r, a, b, t, w1, v, H1, eu, hr, I1, ⟨b1, b2, b3, b4⟩, q⟩ => ?_
  subst eu
  refine wpAny_pyIter_range hr (small_one b1 b2 b3 b4) ?_
  refine pi_one (tk := s1.toks) I1 _ (turn_range _ a (b - a).toNat) ?_ q
  have hn : Builtin.Range.rangeSize a b 1 = (((b - a).toNat : Nat) : Int) := rangeSize_nat a b
  have e1 : a + ((0 : Nat) : Int) * 1 = a := by simp
  have e2 : (((b - a).toNat : Nat) : Int) - ((0 : Nat) : Int) = Builtin.Range.rangeSize a b 1 := by rw [hn]; omega
  show IsRangeIter _ _ (a + ((0 : Nat) : Int) * 1) ((((b - a).toNat : Nat) : Int) - ((0 : Nat) : Int)) 1
  rw [e1, e2]
  exact Heap.get?_push_size _ rfl
end
theorem ix_listK {X : Cx} {K : PySem.W.Frag} (e : X.K = K) : IxR X (rIxL K) := e ▸ ix_list
/-! ### where a way ends -/
/-- rounds of a way, with so many places left -/
def ag (f : Nat → Option Nat) : Nat → Nat → Nat
  | 0, p => p
  | k + 1, p => match f p with
    | some q => if p < q then ag f k q else p
    | none => p
mutual
def ew (z : List Nat) : W → Nat → Option Nat
  | .letter c, p => if z[p]? = some c then some (p + 1) else none
  | .one, p => if p < z.length then some (p + 1) else none
  | .nothing, p => some p
  | .call _, _ => none
  | .row ws, p => ewR z ws p
  | .choice ws, p => ewC z ws p
  | .again w, p => some (ag (fun q => ew z w q) (z.length + 1 - p) p)
  | .maybe w, p => some ((ew z w p).getD p)
  | .ahead w, p => if (ew z w p).isSome = true then some p else none
  | .unless w, p => if (ew z w p).isSome = true then none else some p
def ewR (z : List Nat) : List W → Nat → Option Nat
  | [], p => some p
  | w :: ws, p => match ew z w p with
    | some q => ewR z ws q
    | none => none
def ewC (z : List Nat) : List W → Nat → Option Nat
  | [], _ => none
  | w :: ws, p => match ew z w p with
    | some q => some q
    | none => ewC z ws p
end
theorem ag_in {f : Nat → Option Nat} {n : Nat} (hf : ∀ p q, p ≤ n → f p = some q → p ≤ q ∧ q ≤ n) : ∀ (k p : Nat), p ≤ n → p ≤ ag f k p ∧ ag f k p ≤ n
  | 0, p, h => ⟨Nat.le_refl _, h⟩
  | k + 1, p, h => by
    unfold ag
    cases e : f p with
    | none => exact ⟨Nat.le_refl _, h⟩
    | some q =>
      dsimp only
      have := hf p q h e
      split
      · have := ag_in hf k q this.2
        omega
      · omega
/-- enough is enough -/
theorem ag_more {f : Nat → Option Nat} {n : Nat} (hf : ∀ p q, p ≤ n → f p = some q → p ≤ q ∧ q ≤ n) : ∀ (k j p : Nat), p ≤ n → n + 1 ≤ k + p → n + 1 ≤ j + p → ag f k p = ag f j p
  | 0, j, p, h, h1, h2 => by omega
  | k + 1, 0, p, h, h1, h2 => by omega
  | k + 1, j + 1, p, h, h1, h2 => by
    unfold ag
    cases e : f p with
    | none => rfl
    | some q =>
      dsimp only
      have := hf p q h e
      split
      · exact ag_more hf k j q this.2 (by omega) (by omega)
      · rfl
mutual
theorem ew_in (z : List Nat) : ∀ (w : W) (p q : Nat), p ≤ z.length → ew z w p = some q → p ≤ q ∧ q ≤ z.length
  | .letter c, p, q, h, e => by
    unfold ew at e
    split at e
    · have h1 := (List.getElem?_eq_some_iff.mp ‹_›).1
      cases e
      omega
    · cases e
  | .one, p, q, h, e => by
    unfold ew at e
    split at e
    · cases e; omega
    · cases e
  | .nothing, p, q, h, e => by unfold ew at e; cases e; omega
  | .call _, p, q, h, e => by unfold ew at e; cases e
  | .row ws, p, q, h, e => by unfold ew at e; exact ewR_in z ws p q h e
  | .choice ws, p, q, h, e => by unfold ew at e; exact ewC_in z ws p q h e
  | .again w, p, q, h, e => by
    unfold ew at e
    cases e
    exact ag_in (fun p q h e => ew_in z w p q h e) _ p h
  | .maybe w, p, q, h, e => by
    unfold ew at e
    cases e2 : ew z w p with
    | none => rw [e2] at e; cases e; exact ⟨Nat.le_refl _, h⟩
    | some r => rw [e2] at e; cases e; exact ew_in z w p _ h e2
  | .ahead w, p, q, h, e => by
    unfold ew at e
    split at e
    · cases e; omega
    · cases e
  | .unless w, p, q, h, e => by
    unfold ew at e
    split at e
    · cases e
    · cases e; omega
theorem ewR_in (z : List Nat) : ∀ (ws : List W) (p q : Nat), p ≤ z.length → ewR z ws p = some q → p ≤ q ∧ q ≤ z.length
  | [], p, q, h, e => by unfold ewR at e; cases e; omega
  | w :: ws, p, q, h, e => by
    unfold ewR at e
    cases e2 : ew z w p with
    | none => rw [e2] at e; cases e
    | some r =>
      rw [e2] at e
      have h1 := ew_in z w p r h e2
      have h2 := ewR_in z ws r q h1.2 e
      omega
theorem ewC_in (z : List Nat) : ∀ (ws : List W) (p q : Nat), p ≤ z.length → ewC z ws p = some q → p ≤ q ∧ q ≤ z.length
  | [], p, q, h, e => by unfold ewC at e; cases e
  | w :: ws, p, q, h, e => by
    unfold ewC at e
    cases e2 : ew z w p with
    | none => rw [e2] at e; exact ewC_in z ws p q h e
    | some r => rw [e2] at e; cases e; exact ew_in z w p _ h e2
end
/-- rounds: one, then the rest -/
theorem ew_again (z : List Nat) (w : W) (p : Nat) (h : p ≤ z.length) : ew z (.again w) p = match ew z w p with | some q => if p < q then ew z (.again w) q else some p | none => some p := by
  have hf : ∀ p q, p ≤ z.length → (fun q => ew z w q) p = some q → p ≤ q ∧ q ≤ z.length := fun p q h e => ew_in z w p q h e
  conv => lhs; unfold ew
  rw [show z.length + 1 - p = (z.length - p) + 1 by omega]
  unfold ag
  cases e : ew z w p with
  | none => rfl
  | some q =>
    dsimp only
    have hq := ew_in z w p q h e
    split
    · conv => rhs; unfold ew
      rw [ag_more hf (z.length - p) (z.length + 1 - q) q hq.2 (by omega) (by omega)]
    · rfl
/-! ### tables of ends -/
def eI : Option Nat → Int
  | some n => (n : Nat)
  | none => -1
theorem eI_no (o : Option Nat) : decide (V.int (eI o) = V.int (-1)) = o.isNone := by
  cases o with
  | none => exact decide_eq_true rfl
  | some n => exact decide_eq_false fun h => by have := V.int.inj h; simp only [eI] at this; omega
theorem ewC_cons (z : List Nat) (w : W) (ws : List W) (p : Nat) : ewC z (w :: ws) p = match ew z w p with | some q => some q | none => ewC z ws p := by
  conv => lhs; unfold ewC
  all_goals (cases ew z w p <;> rfl)
theorem ix_nat {n j : Nat} (h : j < n) : ixN n ((j : Nat) : Int) = some j := by
  unfold ixN
  rw [if_pos (by omega), if_pos (by omega)]
  simp
theorem drop_at {α : Type} {l : List α} {i : Nat} {x : α} (h : l[i]? = some x) : l.drop i = x :: l.drop (i + 1) := by
  obtain ⟨hi, e⟩ := List.getElem?_eq_some_iff.mp h
  rw [List.drop_eq_getElem_cons hi, e]
/-! ### the table of a part -/
def sgn : Option Nat → Str
  | some c => sg c
  | none => Str.ofString ""
theorem cut1 (z : List Nat) (i : Nat) : cutS (tx z) (some ((i : Nat) : Int)) (some ((i : Int) + 1)) = sgn z[i]? := by
  unfold cutS
  have e : ((i : Int) + 1) = ((i + 1 : Nat) : Int) := by omega
  rw [e, HT.sIx_nat, HT.sIx_nat]
  have hl : (tx z).length = z.length := by simp [Str.length, tx]
  rw [hl]
  have ez : (tx z).cps.toList = z := by simp [tx]
  rw [ez]
  by_cases h : i < z.length
  · rw [Nat.min_eq_left (by omega), Nat.min_eq_left (by omega), show i + 1 - i = 1 by omega, List.getElem?_eq_getElem h, List.drop_eq_getElem_cons h]
    rfl
  · rw [Nat.min_eq_right (by omega), Nat.min_eq_right (by omega), List.getElem?_eq_none (by omega), Nat.sub_self]
    rfl
theorem sgn_eq (o : Option Nat) (c : Nat) : decide (V.str (sgn o) = V.str (sg c)) = decide (o = some c) := by
  cases o with
  | none =>
    rw [decide_eq_false (fun h => by have := V.str.inj h; revert this; show ¬ (Str.ofString "" = sg c); intro h; have := congrArg (fun s => s.cps.size) h; revert this; show ¬ ((Str.ofString "").cps.size = 1); decide +kernel), decide_eq_false (fun h => by cases h)]
  | some d =>
    by_cases h : d = c
    · subst h; exact (decide_eq_true rfl).trans (decide_eq_true rfl).symm
    · rw [decide_eq_false (fun e => h (by have := V.str.inj e; have := congrArg (fun s => s.cps[0]?) this; simpa [sgn, sg] using this)), decide_eq_false (fun e => h (Option.some.inj e))]
def iV (l : List Nat) : List V := l.map fun n => V.int (n : Nat)
theorem iV_at {l : List Nat} {j x : Nat} (h : l[j]? = some x) : (iV l)[j]? = some (.int (x : Nat)) := by unfold iV; rw [List.getElem?_map, h]; rfl
theorem iV_back {l : List Nat} {j : Nat} {v : V} (h : (iV l)[j]? = some v) : ∃ x, l[j]? = some x ∧ v = .int (x : Nat) := by
  unfold iV at h
  rw [List.getElem?_map] at h
  cases e : l[j]? with
  | none => rw [e] at h; cases h
  | some x => rw [e] at h; cases h; exact ⟨x, rfl, rfl⟩
theorem iV_snoc (l : List Nat) (v : Nat) : iV (l ++ [v]) = iV l ++ [.int (v : Nat)] := by simp [iV]
theorem get_lt {α : Type} {l : List α} {j : Nat} (h : j < l.length) : ∃ x, l[j]? = some x := ⟨_, List.getElem?_eq_getElem h⟩
end Tk
namespace Tk
open PySem PySem.Spec PyProof.Rows L2 Wv
/-! ### sets of places as the bits of a number -/
/-- the places in a set, the lowest first -/
def bitsOf (b : Nat) : List Nat := (List.range (b.log2 + 1)).filter fun i => b.testBit i
theorem and_pred_even (c : Nat) (h : 0 < c) : (2 * c) &&& (2 * c - 1) = 2 * (c &&& (c - 1)) := by
  refine Nat.eq_of_testBit_eq fun i => ?_
  cases i with
  | zero => simp [Nat.testBit_and, Nat.testBit_zero]
  | succ i =>
    rw [Nat.testBit_and, Nat.testBit_succ, Nat.testBit_succ, Nat.testBit_succ, show 2 * c / 2 = c by omega, show (2 * c - 1) / 2 = c - 1 by omega, show 2 * (c &&& (c - 1)) / 2 = c &&& (c - 1) by omega, Nat.testBit_and]
theorem and_pred_odd (m : Nat) : (2 * m + 1) &&& (2 * m + 1 - 1) = 2 * m := by
  refine Nat.eq_of_testBit_eq fun i => ?_
  cases i with
  | zero => simp [Nat.testBit_and, Nat.testBit_zero]
  | succ i =>
    rw [Nat.testBit_and, Nat.testBit_succ, Nat.testBit_succ, Nat.testBit_succ, show (2 * m + 1) / 2 = m by omega, show (2 * m + 1 - 1) / 2 = m by omega, show 2 * m / 2 = m by omega, Bool.and_self]
/-- the lowest bit of a number, as the program tells it -/
theorem low_bit : ∀ (n b : Nat), b ≤ n → 0 < b → ∃ k m, b = 2 ^ k * (2 * m + 1) ∧ b &&& (b - 1) = 2 ^ k * (2 * m)
  | 0, b, h, h0 => by omega
  | n + 1, b, h, h0 => by
    by_cases e : b % 2 = 1
    · obtain ⟨m, rfl⟩ : ∃ m, b = 2 * m + 1 := ⟨b / 2, by omega⟩
      exact ⟨0, m, by simp, by rw [and_pred_odd]; simp⟩
    · obtain ⟨c, rfl⟩ : ∃ c, b = 2 * c := ⟨b / 2, by omega⟩
      obtain ⟨k, m, h1, h2⟩ := low_bit n c (by omega) (by omega)
      refine ⟨k + 1, m, ?_, ?_⟩
      · rw [Nat.pow_succ, h1]
        rw [Nat.mul_comm (2 ^ k) 2, Nat.mul_assoc]
      · rw [and_pred_even c (by omega), h2, Nat.pow_succ, Nat.mul_comm (2 ^ k) 2, Nat.mul_assoc]
theorem low_int (b : Nat) (h : 0 < b) : ∃ k m, b = 2 ^ k * (2 * m + 1) ∧ Builtin.bitAnd (b : Int) (-(b : Int)) = ((2 ^ k : Nat) : Int) := by
  obtain ⟨k, m, h1, h2⟩ := low_bit b b (Nat.le_refl _) h
  refine ⟨k, m, h1, ?_⟩
  unfold Builtin.bitAnd
  rw [decide_eq_true (show (0 : Int) ≤ (b : Int) by omega), decide_eq_false (show ¬ (0 : Int) ≤ -(b : Int) by omega)]
  show (b : Int) - (((b : Int).toNat &&& (Builtin.bitNot (-(b : Int))).toNat : Nat) : Int) = _
  have e : (Builtin.bitNot (-(b : Int))).toNat = b - 1 := by unfold Builtin.bitNot; omega
  rw [e, Int.toNat_natCast, h2]
  have e2 : b = 2 ^ k * (2 * m) + 2 ^ k := by rw [h1, Nat.mul_add, Nat.mul_one]
  rw [e2, Int.natCast_add]
  omega
end Tk
namespace Tk
open PySem PySem.Spec PyProof.Rows L2 Wv
/-- the places below n in a set -/
def bitsN (n b : Nat) : List Nat := (List.range n).filter fun i => b.testBit i
theorem bitsN_zero (n : Nat) : bitsN n 0 = [] := by
  unfold bitsN
  rw [List.filter_eq_nil_iff]
  intro i _
  simp
theorem range_split (n k : Nat) (h : k < n) : List.range n = List.range k ++ (k :: (List.range' (k + 1) (n - k - 1))) := by
  obtain ⟨j, rfl⟩ : ∃ j, n = k + (j + 1) := ⟨n - k - 1, by omega⟩
  rw [show k + (j + 1) - k - 1 = j by omega, List.range_eq_range', List.range_eq_range', ← List.range'_append_1, Nat.zero_add, List.range'_succ]
theorem bit_low {k m i : Nat} : (2 ^ k * m).testBit i = (decide (k ≤ i) && m.testBit (i - k)) := by
  rw [Nat.mul_comm, Nat.testBit_mul_two_pow]
theorem bitsN_step {n k m : Nat} (h : 2 ^ k * (2 * m + 1) < 2 ^ n) : k < n ∧ bitsN n (2 ^ k * (2 * m + 1)) = k :: bitsN n (2 ^ k * (2 * m)) := by
  have hk : k < n := by
    by_cases c : k < n
    · exact c
    · have h1 : 2 ^ n ≤ 2 ^ k := Nat.pow_le_pow_right (by decide) (by omega)
      have h2 : 2 ^ k * 1 ≤ 2 ^ k * (2 * m + 1) := Nat.mul_le_mul_left _ (by omega)
      omega
  refine ⟨hk, ?_⟩
  unfold bitsN
  rw [range_split n k hk, List.filter_append, List.filter_append, List.filter_cons, List.filter_cons]
  have z1 : (List.range k).filter (fun i => (2 ^ k * (2 * m + 1)).testBit i) = [] := by
    rw [List.filter_eq_nil_iff]
    intro i hi
    rw [List.mem_range] at hi
    rw [bit_low, decide_eq_false (by omega)]
    simp
  have z2 : (List.range k).filter (fun i => (2 ^ k * (2 * m)).testBit i) = [] := by
    rw [List.filter_eq_nil_iff]
    intro i hi
    rw [List.mem_range] at hi
    rw [bit_low, decide_eq_false (by omega)]
    simp
  have b1 : (2 ^ k * (2 * m + 1)).testBit k = true := by
    rw [bit_low, Nat.sub_self, Nat.testBit_zero, decide_eq_true (Nat.le_refl k)]
    simp
  have b2 : (2 ^ k * (2 * m)).testBit k = false := by
    rw [bit_low, Nat.sub_self, Nat.testBit_zero]
    simp
  rw [z1, z2, b1, b2, if_pos rfl, if_neg Bool.false_ne_true, List.nil_append, List.nil_append]
  congr 1
  refine List.filter_congr fun i hi => ?_
  have hi' := (List.mem_range'_1.mp hi).1
  rw [bit_low, bit_low]
  congr 1
  obtain ⟨j, hj⟩ : ∃ j, i - k = j + 1 := ⟨i - k - 1, by omega⟩
  rw [hj, Nat.testBit_succ, Nat.testBit_succ, show (2 * m + 1) / 2 = m by omega, show 2 * m / 2 = m by omega]
theorem xor_low (k m : Nat) : Builtin.bitXor ((2 ^ k * (2 * m + 1) : Nat) : Int) ((2 ^ k : Nat) : Int) = ((2 ^ k * (2 * m) : Nat) : Int) := by
  unfold Builtin.bitXor
  rw [bitOr_nn (Int.natCast_nonneg _) (Int.natCast_nonneg _)]
  unfold Builtin.bitAnd
  rw [decide_eq_true (show (0 : Int) ≤ ((2 ^ k * (2 * m + 1) : Nat) : Int) from Int.natCast_nonneg _), decide_eq_true (show (0 : Int) ≤ ((2 ^ k : Nat) : Int) from Int.natCast_nonneg _)]
  show (((((2 ^ k * (2 * m + 1) : Nat) : Int).toNat ||| ((2 ^ k : Nat) : Int).toNat : Nat) : Int)) - ((((2 ^ k * (2 * m + 1) : Nat) : Int).toNat &&& ((2 ^ k : Nat) : Int).toNat : Nat) : Int) = _
  rw [Int.toNat_natCast, Int.toNat_natCast]
  have hb : (2 ^ k * (2 * m + 1)).testBit k = true := by
    rw [bit_low, Nat.sub_self, Nat.testBit_zero, decide_eq_true (Nat.le_refl k)]
    simp
  have e1 : 2 ^ k * (2 * m + 1) &&& 2 ^ k = 2 ^ k := by
    refine Nat.eq_of_testBit_eq fun i => ?_
    rw [Nat.testBit_and, Nat.testBit_two_pow]
    by_cases c : k = i
    · subst c; rw [hb]; simp
    · simp [c]
  have e2 : 2 ^ k * (2 * m + 1) ||| 2 ^ k = 2 ^ k * (2 * m + 1) := by
    refine Nat.eq_of_testBit_eq fun i => ?_
    rw [Nat.testBit_or, Nat.testBit_two_pow]
    by_cases c : k = i
    · subst c; rw [hb]; simp
    · simp [c]
  rw [e1, e2, Nat.mul_add, Nat.mul_one, Int.natCast_add]
  omega
theorem len_low (k : Nat) : ((Builtin.Int.intBits ((2 ^ k : Nat) : Int) : Nat) : Int) - 1 = (k : Nat) := by
  unfold Builtin.Int.intBits
  have h : ¬ (((2 ^ k : Nat) : Int) == 0) = true := by
    rw [beq_iff_eq]
    intro q
    have := Nat.two_pow_pos k
    have q2 := Int.natCast_eq_zero.mp q
    omega
  rw [if_neg h, Int.natAbs_natCast, Nat.log2_two_pow]
  omega
/-- the places in a set, a list -/
def spPlaces : Sp := fun vs H Q _ => ∃ (b n : Nat), vs = [.int (b : Nat)] ∧ b < 2 ^ n ∧ n ≤ 20000 ∧ ∀ (q : Addr) (H' : Hp), Same H H' → H' q = some (.lst (iV (bitsN n b))) → Q (.ref q) H'
theorem bitsN_len (n b : Nat) : (bitsN n b).length ≤ n := by
  unfold bitsN
  have := List.length_filter_le (fun i => b.testBit i) (List.range n)
  rw [List.length_range] at this
  exact this
section
variable {P : Program} {w : World} {K : PySem.W.Frag} {mg : Str → Option Value} {base : Heap}
abbrev s_places_of : Stmt := top 53
theorem sc_places_of : FnScope ["bits", "places", "lowest"] ["bits"] (defScope s_places_of) := ⟨rfl, rfl, rfl, by decide +kernel, rfl, by decide +kernel, by decide +kernel⟩
theorem d_places_of (h : Here K mg "places_of" s_places_of ["bits"]) : DefOk P w K mg base 1 "places_of" ["bits"] spPlaces := by
  refine h.ok sc_places_of (fun vs H Q E h => by obtain ⟨_, _, rfl, _⟩ := h; rfl) (fun f cdv A' outer s H vs Q E hr h => ?_)
  obtain ⟨b0, n, rfl, hb0, hn, k⟩ := h
  refine ⟨_, (pss_cons (ps_set (i := 1) sc_places_of.nd rfl (Or.inl rfl) (pe_lst pa_nil))
  (pss_cons (ps_while PassesOwn.never (pt_truth (pv 0) (by intro _; rfl)) (pss_cons (ps_set (i := 2) sc_places_of.nd rfl (Or.inl rfl) (pe_op op_and (pv 0) (pe_un un_neg (pv 0))))
  (pss_cons (ps_expr (pe_bm PySem.F.plainAttrs_list PySem.F.slot_list_append PySem.F.type_list_append mt_append (pv 1) (pa_cons (pe_op op_sub (pe_bits (pv 2)) pe_int) pa_nil)))
  (pss_one (ps_set (i := 0) sc_places_of.nd rfl (Or.inl rfl) (pe_op op_xor (pv 0) (pv 2)))))))
  (pss_one (ps_ret (pv 1))))), ?_⟩
  refine ⟨Nat.zero_le _, fun D hD => ?_⟩
  walk_at "nx"
  refine while_m (fun mm σ H' => ∃ (b : Nat) (ps : List Nat) (x2 : Option V), σ = [some (.int (b : Nat)), some (.ref D), x2] ∧ b = mm ∧ b < 2 ^ n ∧ H' D = some (.lst (iV ps)) ∧ ps ++ bitsN n b = bitsN n b0 ∧ Same H H') b0 ?_ ?_
    (fun σ H Q Q' hq ⟨v, e, b, tv, h⟩ => ⟨v, e, b, tv, hq _ _ h⟩)
  · exact ⟨b0, [], none, rfl, rfl, hb0, upd_same, rfl, Same.new hD _⟩
  · rintro mm σ H1 ⟨b, ps, x2, rfl, rfl, hb, hps, hbs, s1⟩
    have hpl : ps.length ≤ 20000 := by
      have h1 := bitsN_len n b0
      rw [← hbs, List.length_append] at h1
      omega
    refine ⟨_, rfl, _, rfl, ?_⟩
    by_cases h0 : b = 0
    · subst h0
      rw [bitsN_zero, List.append_nil] at hbs
      subst hbs
      refine iteF ?_
      exact ⟨_, rfl, k D H1 s1 hps⟩
    · have hne : (((b : Nat) : Int) != 0) = true := by
        rw [bne_iff_ne]
        intro q
        exact h0 (Int.natCast_eq_zero.mp q)
      rw [hne]
      refine iteT ?_
      obtain ⟨kk, mm, eb, el⟩ := low_int b (Nat.pos_of_ne_zero h0)
      obtain ⟨hkn, hst⟩ := bitsN_step (n := n) (k := kk) (m := mm) (by rw [← eb]; exact hb)
      refine ⟨_, rfl, _, rfl, _, rfl, _, _, rfl, rfl, ?_⟩
      walk_at "nx"
      refine ⟨_, rfl, .inl ⟨rfl, _, SqL.of hps⟩, _, rfl, _, rfl, _, _, rfl, rfl, D, _, _, rfl, rfl, hps, small' (by simp only [iV, List.length_map]; omega), ?_⟩
      walk_at "nx"
      refine ⟨_, rfl, _, rfl, _, _, rfl, rfl, ?_⟩
      refine ⟨2 ^ kk * (2 * mm), ?_, 2 ^ kk * (2 * mm), ps ++ [kk], some (.int ((2 ^ kk : Nat) : Int)), ?_, rfl, ?_, ?_, ?_, Same.put hD s1 _⟩
      · have := Nat.two_pow_pos kk
        rw [eb, Nat.mul_add]
        omega
      · show [some (V.int (Builtin.bitXor (b : Int) (Builtin.bitAnd (b : Int) (-(b : Int))))), some (V.ref D), some (V.int (Builtin.bitAnd (b : Int) (-(b : Int))))] = _
        rw [el, eb, xor_low]
      · have h1 : 2 ^ kk * (2 * mm) ≤ 2 ^ kk * (2 * mm + 1) := Nat.mul_le_mul_left _ (by omega)
        rw [eb] at hb
        omega
      · rw [upd_same, iV_snoc]
        show some (HO.lst (iV ps ++ [V.int (((Builtin.Int.intBits (Builtin.bitAnd (b : Int) (-(b : Int))) : Nat) : Int) - 1)])) = _
        rw [el, len_low]
      · rw [List.append_assoc, List.singleton_append, ← hst, ← eb]
        exact hbs
end
end Tk
namespace Tk
open PySem PySem.Spec PyProof.Rows L2 Wv
/-! ### what is gathered from a table of sets -/
def gath (n : Nat) (sp : List Nat) (b : Nat) : Nat := (bitsN n b).foldl (fun e i => e ||| sp.getD i 0) 0
theorem fold_bit (sp : List Nat) (j : Nat) : ∀ (l : List Nat) (e : Nat), (l.foldl (fun e i => e ||| sp.getD i 0) e).testBit j = (e.testBit j || l.any fun i => (sp.getD i 0).testBit j)
  | [], e => by simp
  | i :: l, e => by rw [List.foldl_cons, fold_bit sp j l, Nat.testBit_or, List.any_cons, Bool.or_assoc]
theorem gath_bit (n : Nat) (sp : List Nat) (b j : Nat) : (gath n sp b).testBit j = (bitsN n b).any fun i => (sp.getD i 0).testBit j := by
  unfold gath
  rw [fold_bit]
  simp
theorem mem_bitsN {n b i : Nat} : i ∈ bitsN n b ↔ i < n ∧ b.testBit i = true := by
  unfold bitsN
  rw [List.mem_filter, List.mem_range]
def spGath : Sp := fun vs H Q _ => ∃ (a : Addr) (sp : List Nat) (b n : Nat), vs = [.ref a, .int (b : Nat)] ∧ H a = some (.lst (iV sp)) ∧ b < 2 ^ n ∧ n ≤ 20000 ∧ n ≤ sp.length ∧ ∀ H', Same H H' → Q (.int (gath n sp b : Nat)) H'
section
variable {P : Program} {w : World} {K : PySem.W.Frag} {mg : Str → Option Value} {base : Heap}
abbrev s_gathered : Stmt := top 52
theorem sc_gathered : FnScope ["spread", "places", "ends", "place"] ["spread", "places"] (defScope s_gathered) := ⟨rfl, rfl, rfl, by decide +kernel, rfl, by decide +kernel, by decide +kernel⟩
theorem d_gathered (h : Here K mg "gathered" s_gathered ["spread", "places"]) (G_places_of : DefOk P w K mg base 1 "places_of" ["bits"] spPlaces) : DefOk P w K mg base 2 "gathered" ["spread", "places"] spGath := by
  refine h.ok sc_gathered (fun vs H Q E h => by obtain ⟨_, _, _, _, rfl, _⟩ := h; rfl) (fun f cdv A' outer s H vs Q E hr h => ?_)
  obtain ⟨a, sp, b, n, rfl, ha, hb, hn, hl, k⟩ := h
  refine ⟨_, (pss_cons (ps_set (i := 2) sc_gathered.nd rfl (Or.inl rfl) pe_int)
  (pss_cons (ps_for PassesOwn.never rfl (pi_list (pe_callD G_places_of (hr.mono (by first | decide | omega)) rfl (pa_cons (pv 1) pa_nil))) (pg_name (i := 3) sc_gathered.nd rfl (Or.inl rfl))
   (pss_one (ps_set (i := 2) sc_gathered.nd rfl (Or.inl rfl) (pe_op op_or (pv 2) (pe_ix ix_list (pv 0) (pv 3) (fun _ _ => rfl))))))
  (pss_one (ps_ret (pv 2))))), ?_⟩
  walk_at "nx"
  refine ⟨_, rfl, b, n, rfl, hb, hn, fun q H1 s1 hq => ?_⟩
  refine ⟨q, rfl, ⟨_, SqL.of hq⟩, ?_⟩
  refine for_list (K := K) (a := q) (xs := iV (bitsN n b)) (fun i σ H' => ∃ x3 : Option V, σ = [some (.ref a), some (.int (b : Nat)), some (.int (((bitsN n b).take i).foldl (fun e i => e ||| sp.getD i 0) 0 : Nat)), x3] ∧ Same H1 H') ?_ ?_ ?_ ?_
  · exact ⟨none, rfl, fun _ _ h => h⟩
  · rintro i σ H' _ ⟨_, rfl, sx⟩
    exact SqL.of (sx _ _ hq)
  · rintro i e σ H2 he ⟨x3, rfl, s2⟩
    obtain ⟨j, hj, rfl⟩ := iV_back he
    have hjn := (mem_bitsN.mp (List.mem_of_getElem? hj)).1
    obtain ⟨y, hy⟩ := get_lt (l := sp) (j := j) (by omega)
    refine gset ?_
    refine ⟨_, rfl, _, rfl, _, rfl, a, _, _, _, rfl, rfl, SqL.of (s2 _ _ (s1 _ _ ha)), atI_nat (iV_at hy), ?_⟩
    refine ⟨_, _, rfl, rfl, ?_⟩
    refine ⟨some (.int (j : Nat)), ?_, s2⟩
    have ey : sp.getD j 0 = y := by rw [List.getD_eq_getElem?_getD, hy]; rfl
    show [some (V.ref a), some (V.int (b : Nat)), some (V.int (Builtin.bitOr ((((bitsN n b).take i).foldl (fun e i => e ||| sp.getD i 0) 0 : Nat) : Int) ((y : Nat) : Int))), some (V.int (j : Nat))] = _
    rw [bitOr_nn (Int.natCast_nonneg _) (Int.natCast_nonneg _), Int.toNat_natCast, Int.toNat_natCast, take_more' hj, List.foldl_append, List.foldl_cons, List.foldl_nil, ey]
  · rintro σ H2 ⟨x3, rfl, s2⟩
    refine ⟨_, rfl, ?_⟩
    have := k H2 (s1.trans s2)
    unfold gath at this
    simp only [iV, List.length_map, List.take_length]
    exact this
end
end Tk
namespace Tk
open PySem PySem.Spec PyProof.Rows L2 Wv
/-! ### where a way might end, going back: sets of places -/
def anyN (n : Nat) (f : Nat → Bool) : Bool := (List.range (n + 1)).any f
theorem anyN_true {n : Nat} {f : Nat → Bool} : anyN n f = true ↔ ∃ r, r ≤ n ∧ f r = true := by
  unfold anyN
  rw [List.any_eq_true]
  constructor
  · rintro ⟨r, hr, h⟩
    rw [List.mem_range] at hr
    exact ⟨r, by omega, h⟩
  · rintro ⟨r, hr, h⟩
    exact ⟨r, by rw [List.mem_range]; omega, h⟩
theorem anyN_congr {n : Nat} {f g : Nat → Bool} (h : ∀ r, r ≤ n → f r = g r) : anyN n f = anyN n g := by
  rw [Bool.eq_iff_iff, anyN_true, anyN_true]
  constructor
  · rintro ⟨r, hr, q⟩; exact ⟨r, hr, by rw [← h r hr]; exact q⟩
  · rintro ⟨r, hr, q⟩; exact ⟨r, hr, by rw [h r hr]; exact q⟩
def enA (n : Nat) (f : Nat → Nat → Bool) : Nat → Nat → Nat → Bool
  | 0, p, q => decide (p = q)
  | k + 1, p, q => decide (p = q) || anyN n fun r => decide (p < r) && (f p r && enA n f k r q)
mutual
def en (z : List Nat) : W → Nat → Nat → Bool
  | .row ws, p, q => enR z ws p q
  | .choice ws, p, q => enC z ws p q
  | .again w, p, q => enA z.length (fun a b => en z w a b) (z.length + 1 - p) p q
  | .maybe w, p, q => en z w p q || decide (p = q)
  | .letter c, p, q => decide (ew z (.letter c) p = some q)
  | .one, p, q => decide (ew z .one p = some q)
  | .nothing, p, q => decide (ew z .nothing p = some q)
  | .call x, p, q => decide (ew z (.call x) p = some q)
  | .ahead w, p, q => decide (ew z (.ahead w) p = some q)
  | .unless w, p, q => decide (ew z (.unless w) p = some q)
def enR (z : List Nat) : List W → Nat → Nat → Bool
  | [], p, q => decide (p = q)
  | w :: ws, p, q => anyN z.length fun r => en z w p r && enR z ws r q
def enC (z : List Nat) : List W → Nat → Nat → Bool
  | [], _, _ => false
  | w :: ws, p, q => en z w p q || enC z ws p q
end
theorem enA_in {n : Nat} {f : Nat → Nat → Bool} (hf : ∀ p q, p ≤ n → f p q = true → p ≤ q ∧ q ≤ n) : ∀ (k p q : Nat), p ≤ n → enA n f k p q = true → p ≤ q ∧ q ≤ n
  | 0, p, q, hp, h => by
    unfold enA at h
    have := of_decide_eq_true h
    omega
  | k + 1, p, q, hp, h => by
    unfold enA at h
    rcases (Bool.or_eq_true _ _).mp h with h | h
    · have := of_decide_eq_true h
      omega
    · obtain ⟨r, hr, h⟩ := anyN_true.mp h
      rw [Bool.and_eq_true, Bool.and_eq_true] at h
      have h1 := of_decide_eq_true h.1
      have h2 := enA_in hf k r q hr h.2.2
      omega
/-- enough is enough -/
theorem enA_more {n : Nat} {f : Nat → Nat → Bool} : ∀ (k j p q : Nat), p ≤ n → n + 1 ≤ k + p → n + 1 ≤ j + p → enA n f k p q = enA n f j p q
  | 0, j, p, q, h, h1, h2 => by omega
  | k + 1, 0, p, q, h, h1, h2 => by omega
  | k + 1, j + 1, p, q, h, h1, h2 => by
    unfold enA
    congr 1
    refine anyN_congr fun r hr => ?_
    by_cases c : p < r
    · rw [enA_more k j r q hr (by omega) (by omega)]
    · rw [decide_eq_false c, Bool.false_and, Bool.false_and]
theorem ewd_in (z : List Nat) (w : W) (p q : Nat) (hp : p ≤ z.length) (h : decide (ew z w p = some q) = true) : p ≤ q ∧ q ≤ z.length := ew_in z w p q hp (of_decide_eq_true h)
mutual
theorem en_in (z : List Nat) : ∀ (w : W) (p q : Nat), p ≤ z.length → en z w p q = true → p ≤ q ∧ q ≤ z.length
  | .row ws, p, q, hp, h => by unfold en at h; exact enR_in z ws p q hp h
  | .choice ws, p, q, hp, h => by unfold en at h; exact enC_in z ws p q hp h
  | .again w, p, q, hp, h => by
    unfold en at h
    exact enA_in (fun p q hp h => en_in z w p q hp h) _ p q hp h
  | .maybe w, p, q, hp, h => by
    unfold en at h
    rcases (Bool.or_eq_true _ _).mp h with h | h
    · exact en_in z w p q hp h
    · have := of_decide_eq_true h; omega
  | .letter _, p, q, hp, h => by unfold en at h; exact ewd_in z _ p q hp h
  | .one, p, q, hp, h => by unfold en at h; exact ewd_in z _ p q hp h
  | .nothing, p, q, hp, h => by unfold en at h; exact ewd_in z _ p q hp h
  | .call _, p, q, hp, h => by unfold en at h; exact ewd_in z _ p q hp h
  | .ahead _, p, q, hp, h => by unfold en at h; exact ewd_in z _ p q hp h
  | .unless _, p, q, hp, h => by unfold en at h; exact ewd_in z _ p q hp h
theorem enR_in (z : List Nat) : ∀ (ws : List W) (p q : Nat), p ≤ z.length → enR z ws p q = true → p ≤ q ∧ q ≤ z.length
  | [], p, q, hp, h => by unfold enR at h; have := of_decide_eq_true h; omega
  | w :: ws, p, q, hp, h => by
    unfold enR at h
    obtain ⟨r, hr, h⟩ := anyN_true.mp h
    rw [Bool.and_eq_true] at h
    have h1 := en_in z w p r hp h.1
    have h2 := enR_in z ws r q hr h.2
    omega
theorem enC_in (z : List Nat) : ∀ (ws : List W) (p q : Nat), p ≤ z.length → enC z ws p q = true → p ≤ q ∧ q ≤ z.length
  | [], p, q, hp, h => by unfold enC at h; cases h
  | w :: ws, p, q, hp, h => by
    unfold enC at h
    rcases (Bool.or_eq_true _ _).mp h with h | h
    · exact en_in z w p q hp h
    · exact enC_in z ws p q hp h
end
theorem en_again (z : List Nat) (w : W) (p q : Nat) (hp : p ≤ z.length) : en z (.again w) p q = (decide (p = q) || anyN z.length fun r => decide (p < r) && (en z w p r && en z (.again w) r q)) := by
  conv => lhs; unfold en
  rw [show z.length + 1 - p = (z.length - p) + 1 by omega]
  conv => lhs; unfold enA
  congr 1
  refine anyN_congr fun r hr => ?_
  by_cases c : p < r
  · congr 2
    conv => rhs; unfold en
    exact enA_more _ _ r q hr (by omega) (by omega)
  · rw [decide_eq_false c, Bool.false_and, Bool.false_and]
theorem enR_snoc (z : List Nat) (w : W) : ∀ (ws : List W) (p q : Nat), p ≤ z.length → q ≤ z.length → enR z (ws ++ [w]) p q = anyN z.length fun r => enR z ws p r && en z w r q
  | [], p, q, hp, hq => by
    rw [List.nil_append, Bool.eq_iff_iff, anyN_true]
    unfold enR
    rw [anyN_true]
    constructor
    · rintro ⟨r, hr, h⟩
      rw [Bool.and_eq_true] at h
      unfold enR at h
      have e := of_decide_eq_true h.2
      subst e
      exact ⟨p, hp, by rw [Bool.and_eq_true]; exact ⟨decide_eq_true rfl, h.1⟩⟩
    · rintro ⟨r, hr, h⟩
      rw [Bool.and_eq_true] at h
      have e := of_decide_eq_true h.1
      subst e
      exact ⟨q, hq, by rw [Bool.and_eq_true]; exact ⟨h.2, by unfold enR; exact decide_eq_true rfl⟩⟩
  | u :: ws, p, q, hp, hq => by
    rw [List.cons_append, Bool.eq_iff_iff, anyN_true]
    unfold enR
    rw [anyN_true]
    constructor
    · rintro ⟨r, hr, h⟩
      rw [Bool.and_eq_true, enR_snoc z w ws r q hr hq, anyN_true] at h
      obtain ⟨h1, r2, hr2, h2⟩ := h
      rw [Bool.and_eq_true] at h2
      refine ⟨r2, hr2, ?_⟩
      rw [Bool.and_eq_true, anyN_true]
      exact ⟨⟨r, hr, by rw [Bool.and_eq_true]; exact ⟨h1, h2.1⟩⟩, h2.2⟩
    · rintro ⟨r2, hr2, h⟩
      rw [Bool.and_eq_true, anyN_true] at h
      obtain ⟨⟨r, hr, h1⟩, h2⟩ := h
      rw [Bool.and_eq_true] at h1
      refine ⟨r, hr, ?_⟩
      rw [Bool.and_eq_true, enR_snoc z w ws r q hr hq, anyN_true]
      exact ⟨h1.1, r2, hr2, by rw [Bool.and_eq_true]; exact ⟨h1.2, h2⟩⟩
theorem enC_snoc (z : List Nat) (w : W) : ∀ (ws : List W) (p q : Nat), enC z (ws ++ [w]) p q = (enC z ws p q || en z w p q)
  | [], p, q => by
    rw [List.nil_append]
    unfold enC
    unfold enC
    rw [Bool.or_false, Bool.false_or]
  | u :: ws, p, q => by
    rw [List.cons_append]
    conv => lhs; unfold enC
    conv => rhs; unfold enC
    rw [enC_snoc z w ws p q, Bool.or_assoc]
/-! ### a set as the bits of a number -/
def mk (n : Nat) (f : Nat → Bool) : Nat := (List.range (n + 1)).foldl (fun b i => if f i = true then b ||| 2 ^ i else b) 0
theorem mk_fold (f : Nat → Bool) (j : Nat) : ∀ (l : List Nat) (b : Nat), (l.foldl (fun b i => if f i = true then b ||| 2 ^ i else b) b).testBit j = (b.testBit j || (decide (j ∈ l) && f j))
  | [], b => by simp
  | i :: l, b => by
    rw [List.foldl_cons, mk_fold f j l]
    by_cases h : f i = true
    · rw [if_pos h, Nat.testBit_or, Nat.testBit_two_pow]
      by_cases e : i = j
      · subst e; simp [h]
      · have e' : ¬ j = i := fun q => e q.symm
        simp [e, e']
    · rw [if_neg h]
      by_cases e : j = i
      · subst e; simp [h]
      · simp [e]
theorem mk_bit (n : Nat) (f : Nat → Bool) (j : Nat) : (mk n f).testBit j = (decide (j ≤ n) && f j) := by
  unfold mk
  rw [mk_fold, Nat.zero_testBit, Bool.false_or]
  congr 1
  rw [decide_eq_decide, List.mem_range]
  omega
theorem mk_lt (n : Nat) (f : Nat → Bool) : mk n f < 2 ^ (n + 1) := by
  refine Nat.lt_pow_two_of_testBit _ fun i hi => ?_
  rw [mk_bit, decide_eq_false (by omega), Bool.false_and]
theorem mk_congr {n : Nat} {f g : Nat → Bool} (h : ∀ r, r ≤ n → f r = g r) : mk n f = mk n g := by
  refine Nat.eq_of_testBit_eq fun i => ?_
  rw [mk_bit, mk_bit]
  by_cases c : i ≤ n
  · rw [h i c]
  · rw [decide_eq_false c, Bool.false_and, Bool.false_and]
theorem mk_or (n : Nat) (f g : Nat → Bool) : mk n f ||| mk n g = mk n fun r => f r || g r := by
  refine Nat.eq_of_testBit_eq fun i => ?_
  rw [Nat.testBit_or, mk_bit, mk_bit, mk_bit, Bool.and_or_distrib_left]
theorem mk_one {n p : Nat} (h : p ≤ n) : 2 ^ p = mk n fun r => decide (p = r) := by
  refine Nat.eq_of_testBit_eq fun i => ?_
  rw [mk_bit, Nat.testBit_two_pow]
  by_cases c : p = i
  · subst c; simp [h]
  · simp [c]
theorem mk_none (n : Nat) : 0 = mk n fun _ => false := by
  refine Nat.eq_of_testBit_eq fun i => ?_
  rw [mk_bit, Nat.zero_testBit, Bool.and_false]
theorem bits_mk (n : Nat) (f : Nat → Bool) : bitsN (n + 1) (mk n f) = (List.range (n + 1)).filter f := by
  unfold bitsN
  refine List.filter_congr fun i hi => ?_
  rw [List.mem_range] at hi
  rw [mk_bit, decide_eq_true (by omega), Bool.true_and]
/-- the table of a way: at each place where it might end -/
def mks (z : List Nat) (w : W) : List Nat := (List.range (z.length + 1)).map fun p => mk z.length (en z w p)
theorem mks_len (z : List Nat) (w : W) : (mks z w).length = z.length + 1 := by simp [mks]
theorem mks_at {z : List Nat} {w : W} {p : Nat} (h : p ≤ z.length) : (mks z w)[p]? = some (mk z.length (en z w p)) := by
  unfold mks
  rw [List.getElem?_map, List.getElem?_range (by omega)]
  rfl
theorem mks_getD {z : List Nat} {w : W} {p : Nat} (h : p ≤ z.length) : (mks z w).getD p 0 = mk z.length (en z w p) := by
  rw [List.getD_eq_getElem?_getD, mks_at h]
  rfl
theorem gath_of {n : Nat} {sp : List Nat} {f : Nat → Bool} {g : Nat → Nat → Bool} (h : ∀ r, r ≤ n → f r = true → sp.getD r 0 = mk n (g r)) : gath (n + 1) sp (mk n f) = mk n fun q => anyN n fun r => f r && g r q := by
  refine Nat.eq_of_testBit_eq fun i => ?_
  rw [gath_bit, mk_bit, bits_mk, Bool.eq_iff_iff, List.any_eq_true, Bool.and_eq_true, anyN_true, decide_eq_true_iff]
  constructor
  · rintro ⟨r, hr, hb⟩
    rw [List.mem_filter, List.mem_range] at hr
    rw [h r (by omega) hr.2, mk_bit, Bool.and_eq_true, decide_eq_true_iff] at hb
    exact ⟨hb.1, r, by omega, by rw [Bool.and_eq_true]; exact ⟨hr.2, hb.2⟩⟩
  · rintro ⟨hi, r, hr, hb⟩
    rw [Bool.and_eq_true] at hb
    refine ⟨r, by rw [List.mem_filter, List.mem_range]; exact ⟨by omega, hb.1⟩, ?_⟩
    rw [h r hr hb.1, mk_bit, Bool.and_eq_true, decide_eq_true_iff]
    exact ⟨hi, hb.2⟩
theorem gath_mks (z : List Nat) (w : W) (f : Nat → Bool) : gath (z.length + 1) (mks z w) (mk z.length f) = mk z.length fun q => anyN z.length fun r => f r && en z w r q := gath_of fun r hr _ => mks_getD hr
theorem add_or : ∀ (n a b : Nat), a ≤ n → a &&& b = 0 → a + b = a ||| b
  | 0, a, b, h, _ => by
    have e : a = 0 := by omega
    subst e
    simp
  | n + 1, a, b, h, h0 => by
    by_cases e : a = 0
    · subst e; simp
    have h1 : a / 2 &&& b / 2 = 0 := by rw [← Nat.and_div_two, h0]
    have ih := add_or n (a / 2) (b / 2) (by omega) h1
    have h2 : (a ||| b) / 2 = a / 2 ||| b / 2 := Nat.or_div_two
    have h3 : ¬ (a % 2 = 1 ∧ b % 2 = 1) := fun q => by
      have := Nat.and_mod_two_eq_one.mpr q
      rw [h0] at this
      cases this
    have h4 : (a ||| b) % 2 = 1 ↔ a % 2 = 1 ∨ b % 2 = 1 := Nat.or_mod_two_eq_one
    have h5 := Nat.div_add_mod (a ||| b) 2
    by_cases ca : a % 2 = 1
    · have := h4.mpr (.inl ca)
      have : b % 2 = 0 := by have := h3; omega
      omega
    · by_cases cb : b % 2 = 1
      · have := h4.mpr (.inr cb)
        omega
      · have : ¬ (a ||| b) % 2 = 1 := fun q => by rcases h4.mp q with q | q <;> omega
        omega
/-- spread[m] & ~(1 << m) -/
theorem not_self {n : Nat} (f : Nat → Bool) (m : Nat) : Builtin.bitAnd ((mk n f : Nat) : Int) (Builtin.bitNot ((2 : Int) ^ m)) = ((mk n fun r => f r && !decide (m = r) : Nat) : Int) := by
  have h2 : ((2 : Int) ^ m) = ((2 ^ m : Nat) : Int) := by rw [Int.natCast_pow]; rfl
  have hp := Nat.two_pow_pos m
  unfold Builtin.bitAnd
  rw [decide_eq_true (show (0 : Int) ≤ ((mk n f : Nat) : Int) from Int.natCast_nonneg _), decide_eq_false (show ¬ (0 : Int) ≤ Builtin.bitNot ((2 : Int) ^ m) by rw [h2]; unfold Builtin.bitNot; omega)]
  show ((mk n f : Nat) : Int) - ((((mk n f : Nat) : Int).toNat &&& (Builtin.bitNot (Builtin.bitNot ((2 : Int) ^ m))).toNat : Nat) : Int) = _
  have e : (Builtin.bitNot (Builtin.bitNot ((2 : Int) ^ m))).toNat = 2 ^ m := by rw [h2]; unfold Builtin.bitNot; omega
  rw [e, Int.toNat_natCast]
  have key : mk n f = (mk n fun r => f r && !decide (m = r)) + (mk n f &&& 2 ^ m) := by
    rw [add_or _ _ _ (Nat.le_refl _)]
    · refine Nat.eq_of_testBit_eq fun i => ?_
      rw [Nat.testBit_or, Nat.testBit_and, mk_bit, mk_bit, Nat.testBit_two_pow]
      by_cases q : m = i
      · subst q; simp
      · simp [q]
    · refine Nat.eq_of_testBit_eq fun i => ?_
      rw [Nat.testBit_and, Nat.testBit_and, mk_bit, mk_bit, Nat.testBit_two_pow, Nat.zero_testBit]
      by_cases q : m = i
      · subst q; simp
      · simp [q]
  omega
end Tk
namespace Tk
open PySem PySem.Spec PyProof.Rows L2 Wv
/-! ### tables of all ends -/
def MabsAt (z : List Nat) (H : Hp) : List V → List W → Prop
  | vs, [] => vs = []
  | vs, w :: ws => ∃ a us, vs = V.ref a :: us ∧ H a = some (.lst (iV (mks z w))) ∧ MabsAt z H us ws
theorem MabsAt.len {z : List Nat} {H : Hp} : ∀ (ws : List W) (vs : List V), MabsAt z H vs ws → vs.length = ws.length
  | [], vs, h => by rw [show vs = [] from h]; rfl
  | w :: ws, vs, ⟨a, us, e, _, h⟩ => by rw [e, List.length_cons, List.length_cons, MabsAt.len ws us h]
theorem MabsAt.at_ {z : List Nat} {H : Hp} : ∀ (ws : List W) (vs : List V) (j : Nat) (v : V), MabsAt z H vs ws → vs[j]? = some v → ∃ a w, v = .ref a ∧ ws[j]? = some w ∧ H a = some (.lst (iV (mks z w)))
  | [], vs, j, v, h, e => by rw [show vs = [] from h] at e; simp at e
  | w :: ws, vs, 0, v, ⟨a, us, ev, hu, h⟩, e => by
    rw [ev] at e
    exact ⟨a, w, (Option.some.inj e).symm, rfl, hu⟩
  | w :: ws, vs, j + 1, v, ⟨a, us, ev, hu, h⟩, e => by
    rw [ev] at e
    obtain ⟨b, x, h1, h2, h3⟩ := MabsAt.at_ ws us j v h (by simpa using e)
    exact ⟨b, x, h1, by simpa using h2, h3⟩
theorem MabsAt.of {z : List Nat} {H : Hp} : ∀ (ws : List W) (vs : List V), vs.length = ws.length → (∀ (j : Nat) (w : W), ws[j]? = some w → ∃ a, vs[j]? = some (.ref a) ∧ H a = some (.lst (iV (mks z w)))) → MabsAt z H vs ws
  | [], vs, hl, _ => List.eq_nil_of_length_eq_zero hl
  | w :: ws, [], hl, _ => by simp at hl
  | w :: ws, v :: vs, hl, h => by
    obtain ⟨a, h1, h2⟩ := h 0 w rfl
    have e : v = .ref a := Option.some.inj h1
    subst e
    exact ⟨a, vs, rfl, h2, MabsAt.of ws vs (by simpa using hl) fun j x hx => by
      obtain ⟨b, h3, h4⟩ := h (j + 1) x (by simpa using hx)
      exact ⟨b, by simpa using h3, h4⟩⟩
theorem MabsAt.keep {z : List Nat} {H H' : Hp} (k : Same H H') : ∀ (ws : List W) (vs : List V), MabsAt z H vs ws → MabsAt z H' vs ws
  | [], _, h => h
  | w :: ws, vs, ⟨a, us, e, hu, h⟩ => ⟨a, us, e, k _ _ hu, MabsAt.keep k ws us h⟩
theorem int_pow (p : Nat) : ((2 : Int) ^ p) = ((2 ^ p : Nat) : Int) := by rw [Int.natCast_pow]; rfl
theorem or_mk (n : Nat) (f g : Nat → Bool) : Builtin.bitOr ((mk n f : Nat) : Int) ((mk n g : Nat) : Int) = ((mk n fun r => f r || g r : Nat) : Int) := by
  rw [bitOr_nn (Int.natCast_nonneg _) (Int.natCast_nonneg _), Int.toNat_natCast, Int.toNat_natCast, mk_or]
def spRowM (z : List Nat) : Sp := fun vs H Q _ => ∃ (a : Addr) (ts : List V) (ws : List W) (p : Nat), vs = [.ref a, .int (p : Nat)] ∧ H a = some (.lst ts) ∧ MabsAt z H ts ws ∧ p ≤ z.length ∧ z.length ≤ 10000 ∧ ∀ H', Same H H' → Q (.int (mk z.length (enR z ws p) : Nat)) H'
def spChM (z : List Nat) : Sp := fun vs H Q _ => ∃ (a : Addr) (ts : List V) (ws : List W) (p : Nat), vs = [.ref a, .int (p : Nat)] ∧ H a = some (.lst ts) ∧ MabsAt z H ts ws ∧ p ≤ z.length ∧ z.length ≤ 10000 ∧ Q (.int (mk z.length (enC z ws p) : Nat)) H
def spAgM (z : List Nat) : Sp := fun vs H Q _ => ∃ (a : Addr) (w : W), vs = [.ref a] ∧ H a = some (.lst (iV (mks z w))) ∧ z.length ≤ 10000 ∧ ∀ (q : Addr) (H' : Hp), Same H H' → H q = none → H' q = some (.lst (iV (mks z (.again w)))) → Q (.ref q) H'
/-- the table of rounds, from this place on -/
def agN (z : List Nat) (w : W) (m : Nat) : List Nat := (List.range (z.length + 1)).map fun p => if m ≤ p then mk z.length (en z (.again w) p) else 2 ^ p
theorem agN_zero (z : List Nat) (w : W) : agN z w 0 = mks z (.again w) := by
  unfold agN mks
  refine List.map_congr_left fun p hp => ?_
  rw [if_pos (Nat.zero_le _)]
theorem agN_len (z : List Nat) (w : W) (m : Nat) : (agN z w m).length = z.length + 1 := by simp [agN]
theorem agN_at {z : List Nat} {w : W} {m p : Nat} (h : p ≤ z.length) : (agN z w m)[p]? = some (if m ≤ p then mk z.length (en z (.again w) p) else 2 ^ p) := by
  unfold agN
  rw [List.getElem?_map, List.getElem?_range (by omega)]
  rfl
theorem agN_set {z : List Nat} {w : W} {m : Nat} (h : m ≤ z.length) : (iV (agN z w (m + 1))).set m (.int (mk z.length (en z (.again w) m) : Nat)) = iV (agN z w m) := by
  unfold iV
  rw [show (V.int ((mk z.length (en z (.again w) m) : Nat) : Int)) = (fun n : Nat => V.int (n : Nat)) (mk z.length (en z (.again w) m)) from rfl, ← List.map_set]
  congr 1
  refine List.ext_getElem? fun p => ?_
  by_cases hp : p ≤ z.length
  · by_cases e : p = m
    · subst e
      rw [List.getElem?_set_self (by rw [agN_len]; omega), agN_at hp, if_pos (Nat.le_refl _)]
    · rw [List.getElem?_set_ne (Ne.symm e), agN_at hp, agN_at hp]
      by_cases c : m ≤ p
      · rw [if_pos c, if_pos (by omega)]
      · rw [if_neg c, if_neg (by omega)]
  · rw [List.getElem?_eq_none (by rw [List.length_set, agN_len]; omega), List.getElem?_eq_none (by rw [agN_len]; omega)]
theorem again_mask {z : List Nat} {w : W} {m : Nat} (h : m ≤ z.length) : (mk z.length fun r => decide (m = r)) ||| gath (z.length + 1) (agN z w (m + 1)) (mk z.length fun r => en z w m r && !decide (m = r)) = mk z.length (en z (.again w) m) := by
  rw [gath_of (g := fun r q => en z (.again w) r q), mk_or]
  · refine mk_congr fun q hq => ?_
    rw [en_again z w m q h]
    congr 1
    refine anyN_congr fun r hr => ?_
    by_cases c : en z w m r = true
    · have := en_in z w m r h c
      by_cases e : m = r
      · subst e; simp
      · rw [decide_eq_true (show m < r by omega), decide_eq_false e, c]; rfl
    · have c' : en z w m r = false := by simpa using c
      rw [c']; simp
  · intro r hr hf
    rw [Bool.and_eq_true] at hf
    have h1 := en_in z w m r h hf.1
    have h2 : ¬ m = r := by simpa using hf.2
    rw [List.getD_eq_getElem?_getD, agN_at hr, if_pos (by omega)]
    rfl
section
variable {P : Program} {w : World} {K : PySem.W.Frag} {mg : Str → Option Value} {base : Heap} {z : List Nat}
abbrev s_all_ends_of_row : Stmt := top 49
theorem sc_all_ends_of_row : FnScope ["inner", "place", "ends", "spread"] ["inner", "place"] (defScope s_all_ends_of_row) := ⟨rfl, rfl, rfl, by decide +kernel, rfl, by decide +kernel, by decide +kernel⟩
theorem d_all_ends_of_row (h : Here K mg "all_ends_of_row" s_all_ends_of_row ["inner", "place"]) (G_gathered : DefOk P w K mg base 2 "gathered" ["spread", "places"] spGath) : DefOk P w K mg base 3 "all_ends_of_row" ["inner", "place"] (spRowM z) := by
  refine h.ok sc_all_ends_of_row (fun vs H Q E h => by obtain ⟨_, _, _, _, rfl, _⟩ := h; rfl) (fun f cdv A' outer s H vs Q E hr h => ?_)
  obtain ⟨a, ts, ws, p, rfl, ha, hts, hp, hz, k⟩ := h
  refine ⟨_, (pss_cons (ps_set (i := 2) sc_all_ends_of_row.nd rfl (Or.inl rfl) (pe_op op_oneShl pe_int (pv 1)))
  (pss_cons (ps_for PassesOwn.never rfl (pi_list (pv 0)) (pg_name (i := 3) sc_all_ends_of_row.nd rfl (Or.inl rfl))
   (pss_one (ps_set (i := 2) sc_all_ends_of_row.nd rfl (Or.inl rfl) (pe_callD G_gathered (hr.mono (by first | decide | omega)) rfl (pa_cons (pv 3) (pa_cons (pv 2) pa_nil))))))
  (pss_one (ps_ret (pv 2))))), ?_⟩
  refine ⟨_, rfl, p, rfl, rfl, by omega, ?_⟩
  walk_at "nx"
  refine ⟨_, rfl, a, rfl, ⟨_, SqL.of ha⟩, ?_⟩
  have ll := MabsAt.len _ _ hts
  refine for_list (K := K) (a := a) (xs := ts) (fun i σ H' => ∃ (x3 : Option V), σ = [some (.ref a), some (.int (p : Nat)), some (.int (mk z.length (enR z (ws.take i) p) : Nat)), x3] ∧ Same H H') ?_ ?_ ?_ ?_
  · refine ⟨none, ?_, fun _ _ h => h⟩
    have e : (2 : Int) ^ p = ((mk z.length (enR z (ws.take 0) p) : Nat) : Int) := by
      rw [int_pow, mk_one hp]
      congr 1
    rw [← e]
    rfl
  · rintro i σ H' _ ⟨_, rfl, s1⟩
    exact SqL.of (s1 _ _ ha)
  · rintro i e σ H1 he ⟨x3, rfl, s1⟩
    obtain ⟨b, wy, rfl, hw, hb⟩ := MabsAt.at_ _ _ _ _ hts he
    refine gset ?_
    refine ⟨_, rfl, _, rfl, b, mks z wy, _, z.length + 1, rfl, s1 _ _ hb, mk_lt _ _, by omega, by rw [mks_len]; exact Nat.le_refl _, fun H2 s2 => ?_⟩
    refine ⟨some (.ref b), ?_, s1.trans s2⟩
    rw [gath_mks, take_more' hw, mk_congr (g := enR z (ws.take i ++ [wy]) p) fun q hq => (enR_snoc z wy (ws.take i) p q hp hq).symm]
    rfl
  · rintro σ H1 ⟨x3, rfl, s1⟩
    rw [ll, List.take_length]
    exact ⟨_, rfl, k H1 s1⟩
abbrev s_all_ends_of_choice : Stmt := top 50
theorem sc_all_ends_of_choice : FnScope ["inner", "place", "ends", "spread"] ["inner", "place"] (defScope s_all_ends_of_choice) := ⟨rfl, rfl, rfl, by decide +kernel, rfl, by decide +kernel, by decide +kernel⟩
theorem d_all_ends_of_choice (h : Here K mg "all_ends_of_choice" s_all_ends_of_choice ["inner", "place"]) : DefOk P w K mg base 1 "all_ends_of_choice" ["inner", "place"] (spChM z) := by
  refine h.ok sc_all_ends_of_choice (fun vs H Q E h => by obtain ⟨_, _, _, _, rfl, _⟩ := h; rfl) (fun f cdv A' outer s H vs Q E hr h => ?_)
  obtain ⟨a, ts, ws, p, rfl, ha, hts, hp, hz, k⟩ := h
  refine ⟨_, (pss_cons (ps_set (i := 2) sc_all_ends_of_choice.nd rfl (Or.inl rfl) pe_int)
  (pss_cons (ps_for PassesOwn.never rfl (pi_list (pv 0)) (pg_name (i := 3) sc_all_ends_of_choice.nd rfl (Or.inl rfl))
   (pss_one (ps_set (i := 2) sc_all_ends_of_choice.nd rfl (Or.inl rfl) (pe_op op_or (pv 2) (pe_ix ix_list (pv 3) (pv 1) (fun _ _ => rfl))))))
  (pss_one (ps_ret (pv 2))))), ?_⟩
  walk_at "nx"
  refine ⟨_, rfl, a, rfl, ⟨_, SqL.of ha⟩, ?_⟩
  have ll := MabsAt.len _ _ hts
  refine for_list (K := K) (a := a) (xs := ts) (fun i σ H' => ∃ (x3 : Option V), σ = [some (.ref a), some (.int (p : Nat)), some (.int (mk z.length (enC z (ws.take i) p) : Nat)), x3] ∧ H' = H) ?_ ?_ ?_ ?_
  · refine ⟨none, ?_, rfl⟩
    have e : (0 : Int) = ((mk z.length (enC z (ws.take 0) p) : Nat) : Int) := by
      have := mk_none z.length
      rw [show mk z.length (enC z (ws.take 0) p) = 0 from (mk_congr fun q _ => rfl).trans this.symm]
      rfl
    rw [← e]
    rfl
  · rintro i σ H' _ ⟨_, rfl, rfl⟩
    exact SqL.of ha
  · rintro i e σ H1 he ⟨x3, rfl, rfl⟩
    obtain ⟨b, wy, rfl, hw, hb⟩ := MabsAt.at_ _ _ _ _ hts he
    refine gset ?_
    refine ⟨_, rfl, _, rfl, _, rfl, b, _, _, _, rfl, rfl, SqL.of hb, atI_nat (iV_at (mks_at hp)), ?_⟩
    refine ⟨_, _, rfl, rfl, ?_⟩
    refine ⟨some (.ref b), ?_, rfl⟩
    show [some (V.ref a), some (V.int (p : Nat)), some (V.int (Builtin.bitOr ((mk z.length (enC z (ws.take i) p) : Nat) : Int) ((mk z.length (en z wy p) : Nat) : Int))), some (V.ref b)] = _
    rw [or_mk, take_more' hw, mk_congr (g := enC z (ws.take i ++ [wy]) p) fun q hq => (enC_snoc z wy (ws.take i) p q).symm]
  · rintro σ H1 ⟨x3, rfl, rfl⟩
    rw [ll, List.take_length]
    exact ⟨_, rfl, k⟩
abbrev s_all_ends_of_again : Stmt := top 51
theorem sc_all_ends_of_again : FnScope ["spread", "place", "result", "taken"] ["spread"] (defScope s_all_ends_of_again) := ⟨rfl, rfl, rfl, by decide +kernel, rfl, by decide +kernel, by decide +kernel⟩
theorem d_all_ends_of_again (h : Here K mg "all_ends_of_again" s_all_ends_of_again ["spread"]) (B : Bs mg) (G_gathered : DefOk P w K mg base 2 "gathered" ["spread", "places"] spGath) : DefOk P w K mg base 3 "all_ends_of_again" ["spread"] (spAgM z) := by
  have B_len := B.len; have B_list := B.list; have B_range := B.range; have B_reversed := B.reversed
  refine h.ok sc_all_ends_of_again (fun vs H Q E h => by obtain ⟨_, _, rfl, _⟩ := h; rfl) (fun f cdv A' outer s H vs Q E hr h => ?_)
  obtain ⟨a, y, rfl, ha, hz, k⟩ := h
  refine ⟨_, (pss_cons (ps_setLc (i := 2) (own := [("place", 1)]) (g := (gName 1)) (tt := tYes) rfl sc_all_ends_of_again.nd rfl rfl (sw_true rfl rfl rfl (by decide +kernel)) (pi_range1 rfl B_range (pa_cons (pe_callB call_len_seq rfl B_len PySem.boot_len (pa_cons (pv 0) pa_nil)) pa_nil)) (blkOk_by (own := [("place", 1)]) (N := ["spread", "place", "result", "taken"]) (sc := defScope s_all_ends_of_again) (by decide +kernel)) (fun _ _ _ _ _ => pg_name (i := 1) sc_all_ends_of_again.nd rfl (Or.inl rfl)) (fun _ _ _ _ _ => pts_nil) (fun _ _ _ _ _ => (pe_op op_oneShl pe_int (pv 1))))
  (pss_cons (ps_for PassesOwn.never rfl (pi_revR rfl B_reversed (prg_1 rfl B_range (pe_callB call_len_seq rfl B_len PySem.boot_len (pa_cons (pv 0) pa_nil)))) (pg_name (i := 1) sc_all_ends_of_again.nd rfl (Or.inl rfl))
   (pss_cons (ps_set (i := 3) sc_all_ends_of_again.nd rfl (Or.inl rfl) (pe_op op_and (pe_ix ix_list (pv 0) (pv 1) (fun _ _ => rfl)) (pe_un un_inv (pe_op op_oneShl pe_int (pv 1)))))
  (pss_one (ps_asg (pe_op op_or (pe_ix ix_list (pv 2) (pv 1) (fun _ _ => rfl)) (pe_callD G_gathered (hr.mono (by first | decide | omega)) rfl (pa_cons (pv 2) (pa_cons (pv 3) pa_nil)))) (pg_sub (pv 2) (pv 1) set_list)))))
  (pss_one (ps_ret (pv 2))))), ?_⟩
  have hlen : (iV (mks z y)).length = z.length + 1 := by simp only [iV, List.length_map, mks_len]
  refine ⟨_, rfl, a, _, rfl, .inl (SqL.of ha), _, rfl, by rw [hlen]; omega, by rw [hlen]; omega, fun q hq => ?_⟩
  rw [hlen, show (((z.length + 1 : Nat) : Int)).toNat = z.length + 1 by omega]
  refine lc_range (fun i Hx => Hx q = some (.lst ((iV (agN z y (z.length + 1))).take i)) ∧ Same H Hx) ?_ ?_ ?_
  · exact ⟨upd_same, Same.new hq _⟩
  · rintro i Hx hi ⟨hd, sx⟩
    rw [Int.zero_add]
    have hi' : i ≤ z.length := by omega
    refine ⟨rfl, _, rfl, i, rfl, rfl, by omega, _, hd, small' (by rw [List.length_take]; simp only [iV, List.length_map, agN_len]; omega), ?_, Same.put hq sx _⟩
    rw [upd_same, take_more' (iV_at (agN_at (z := z) (w := y) (m := z.length + 1) hi')), if_neg (by omega), int_pow]
  · rintro H1 ⟨hq1, s1⟩
    rw [List.take_of_length_le (by simp only [iV, List.length_map, agN_len]; omega)] at hq1
    walk_at "nx"
    refine ⟨_, rfl, a, _, rfl, .inl (SqL.of (s1 _ _ ha)), _, rfl, ?_⟩
    rw [hlen]
    refine ⟨by omega, by omega, by omega, by omega, ?_⟩
    rw [show ((((z.length + 1 : Nat) : Int) - 0).toNat) = z.length + 1 by omega]
    refine for_rangeC (fun i σ H' => ∃ (x1 x3 : Option V), σ = [some (.ref a), x1, some (.ref q), x3] ∧ H' q = some (.lst (iV (agN z y (z.length + 1 - i)))) ∧ Same H H') ?_ ?_ ?_
    · exact ⟨_, none, rfl, hq1, s1⟩
    · rintro i σ H2 hi ⟨x1, x3, rfl, hq2, s2⟩
      have ep : (0 : Int) + ((z.length + 1 : Nat) : Int) - 1 + (i : Nat) * (-1) = ((z.length - i : Nat) : Int) := by omega
      rw [ep]
      have hm : z.length + 1 - i = (z.length - i) + 1 := by omega
      rw [hm] at hq2
      have hm2 : z.length + 1 - (i + 1) = z.length - i := by omega
      have hle : z.length - i ≤ z.length := Nat.sub_le _ _
      rw [hm2]
      generalize z.length - i = m at *
      refine gset ?_
      have ha2 := s2 _ _ ha
      refine ⟨_, rfl, _, rfl, a, _, _, _, rfl, rfl, SqL.of ha2, atI_nat (iV_at (mks_at hle)), _, rfl, m, rfl, rfl, by omega, _, rfl, _, _, rfl, rfl, ?_⟩
      walk_at "nx"
      simp only [not_self]
      refine ⟨_, rfl, _, rfl, q, _, _, _, rfl, rfl, SqL.of hq2, atI_nat (iV_at (agN_at hle)), ?_⟩
      rw [if_neg (by omega)]
      refine ⟨_, rfl, _, rfl, q, agN z y (m + 1), _, z.length + 1, rfl, hq2, mk_lt _ _, by omega, by rw [agN_len]; exact Nat.le_refl _, fun H3 s3 => ?_⟩
      refine ⟨_, _, rfl, rfl, ?_⟩
      refine ⟨_, rfl, _, rfl, q, _, _, _, rfl, rfl, s3 _ _ hq2, ix_nat (by simp only [iV, List.length_map, agN_len]; omega), ?_⟩
      have e1 : Builtin.bitOr ((2 ^ m : Nat) : Int) ((gath (z.length + 1) (agN z y (m + 1)) (mk z.length fun r => en z y m r && !decide (m = r)) : Nat) : Int) = ((mk z.length (en z (.again y) m) : Nat) : Int) := by
        rw [bitOr_nn (Int.natCast_nonneg _) (Int.natCast_nonneg _), Int.toNat_natCast, Int.toNat_natCast, ← again_mask hle, ← mk_one hle]
      refine ⟨_, _, rfl, ?_, Same.put hq (s2.trans s3) _⟩
      rw [upd_same]
      show some (HO.lst ((iV (agN z y (m + 1))).set m (.int (Builtin.bitOr ((2 ^ m : Nat) : Int) ((gath (z.length + 1) (agN z y (m + 1)) (mk z.length fun r => en z y m r && !decide (m = r)) : Nat) : Int))))) = _
      rw [e1, agN_set hle]
    · rintro σ H2 ⟨x1, x3, rfl, hq2, s2⟩
      rw [Nat.sub_self, agN_zero] at hq2
      exact ⟨_, rfl, k q H2 s2 hq hq2⟩
end
end Tk
/-! defs that are called where no repr goes on: repr of data there -/
namespace Gd
open PySem PySem.Spec PyProof.Rows L2 Wv
/-- as FnOk, but called only where nothing is being shown -/
structure FnG (P : Program) (w : World) (K : PySem.W.Frag) (mg : Str → Option Value) (base : Heap) (k : Nat) (f : Addr) (fd : FuncData) (ps : List Str) (sp : Sp) : Prop where
  len : ∀ vs H Q E, sp vs H Q E → vs.length = ps.length
  run : ∀ (A : Around) (outer : List Env) (s : Shared) (H : Hp) (args : Args) (us : List Value) (vs : List V) (Q : VK) (E : XK), A.guards = some [] → Room k A → Env0 P w K mg base A outer s H → BindsTo s fd args (ps.zip us) → Vals vs us → sp vs H Q E → codeAny (model P w) A (.call (.ref f) args) (CR CX0 outer P w H s Q E) s
section
variable {P : Program} {w : World} {K : PySem.W.Frag} {mg : Str → Option Value} {base : Heap}
theorem fnG_of {k : Nat} {f : Addr} {x qual : Str} {st : Stmt} {fd : FuncData} {N ps : List Str} {sp : Sp} (F : Fun K x qual st f fd) (S : FnScope N ps (defScope st)) (len : ∀ vs H Q E, sp vs H Q E → vs.length = ps.length)
    (hbody : ∀ (cdv : Value) (A : Around) (outer : List Env) (s : Shared) (H : Hp) (vs : List V) (Q : VK) (E : XK), A.guards = some [] → Room k (A.deeper (envOfC qual (defScope st) s.heap.objs.size f cdv)) → sp vs H Q E →
      ∃ t, PSs (cxOf CX0 P w K mg base N qual (defScope st) f cdv A outer s H E).nox (defBody st) t ∧ t { nx := fun _ H' => Q .non H', rt := Q } (start N vs) H) : FnG P w K mg base (k + 1) f fd ps sp := by
  obtain ⟨oc, od, kV, doc, pm, an, cdv, ct, osl, rfl, lk, hcd⟩ := F.ex
  refine ⟨len, fun A outer s H args us vs Q E hg hr e0 hb r hsp => ?_⟩
  have hl := len _ _ _ _ hsp
  have KX : K.In s.heap := e0.mod.kin.keeps fun b o e => (e0.bs b o e).1
  have kinds : ∀ y ∈ ps.zip us, (defScope st).names.lookup y.1 = some .local ∨ ((defScope st).names.lookup y.1 = some .cell ∧ ((cellsFrom (s.heap.objs.size + 1) (defScope st).names []).lookup y.1).isSome = true) := by
    rintro ⟨n, v⟩ hy
    exact (S.par n (List.of_mem_zip hy).1).imp id fun q => ⟨q, PySem.W.cellsFrom_some _ _ _ (.inl q)⟩
  refine codeAny_call_function hr.depth (KX _ _ lk) rfl S.co S.gen rfl (PySem.W.codeRec_of KX hcd) (hb _ _ _ _ (wpAny_newFunctionEnv_cells S.kind kinds fun env he s1 x => ?_))
  subst he
  refine ⟨(e0.mod.nolimit.keeps fun b o e => (e0.bs b o e).1).keeps x.toInCall.keep, codeAny_func ?_⟩
  obtain ⟨t, ht, hq⟩ := hbody cdv A outer s H vs Q E hg (hr.deeper _) hsp
  refine wpAny_mono (ht.nox.run [] s1 (start N vs) H _ (inv_start S hr.hd e0 hl r x) hq) (fun fl s' hs => ?_) fun e s' hs => hs
  cases fl with
  | ret u => obtain ⟨v, σ', H', J, rv, q⟩ := hs; exact ⟨v, H', J.os, J.bare, J.base, J.hok, rv, q⟩
  | next => obtain ⟨σ', H', J, q⟩ := hs; exact ⟨.non, H', J.os, J.bare, J.base, J.hok, rfl, q⟩
  | brk => obtain ⟨_, _, _, q⟩ := hs; exact False.elim q
  | cont => obtain ⟨_, _, _, q⟩ := hs; exact False.elim q
structure DefG (P : Program) (w : World) (K : PySem.W.Frag) (mg : Str → Option Value) (base : Heap) (k : Nat) (x : Str) (ps : List Str) (sp : Sp) : Prop where
  ex : ∃ (f : Addr) (fd : FuncData), mg x = some (.ref f) ∧ PySem.W.keepIn K (.ref f) = true ∧ Binds K fd ps [] ∧ FnG P w K mg base k f fd ps sp
theorem Here.okG {x : Str} {st : Stmt} {N ps : List Str} {k : Nat} {sp : Sp} (h : Here K mg x st ps) (S : FnScope N ps (defScope st)) (len : ∀ vs H Q E, sp vs H Q E → vs.length = ps.length)
    (hbody : ∀ (f : Addr) (cdv : Value) (A : Around) (outer : List Env) (s : Shared) (H : Hp) (vs : List V) (Q : VK) (E : XK), A.guards = some [] → Room k (A.deeper (envOfC x (defScope st) s.heap.objs.size f cdv)) → sp vs H Q E →
      ∃ t, PSs (cxOf CX0 P w K mg base N x (defScope st) f cdv A outer s H E).nox (defBody st) t ∧ t { nx := fun _ H' => Q .non H', rt := Q } (start N vs) H) : DefG P w K mg base (k + 1) x ps sp := by
  obtain ⟨f, fd, F, m, b⟩ := h.ex
  exact ⟨f, fd, m, F.kp, b, fnG_of F S len fun cdv A outer s H vs Q E hg hr q => hbody f cdv A outer s H vs Q E hg hr q⟩
end
section
variable {X : Cx} {k : Nat} {x : Str} {ps : List Str} {sp : Sp} {e : Expr} {es : List Expr} {t : TA} {p pos : Pos}
theorem pe_callG (G : DefG X.prog X.w X.K X.mg X.base k x ps sp) (hgd : X.A.guards = some []) (hr : Room k X.A) (hg : Gl X x) (ha : PA X (e :: es) t) (hdb : (x == ("__debug__" : Str)) = false := by decide)
    (he : starEach (e :: es) X.env = (false, eval e X.env) :: starEach es X.env := by rfl) (hpl : (backTo pos (starEach es X.env)).any (·.1) = false := by rfl) : PE X (.Call (.Name x p) (e :: es) [] pos) (tCall sp [] E0 t) := by
  obtain ⟨f, fd, m, kp, hb, F⟩ := G.ex
  refine ⟨fun pins s σ H Q I h => wpAny_Call_Name_kw (ld_glob I hg m ?_ hdb)⟩
  refine PySem.W.callWith_K (h₀ := X.base) I.ok.mod.kin kp (thn (ha.run pos pins s σ H _ I h) fun us s1 ⟨vs, H1, I1, r, q⟩ => ⟨I1.kIn, ?_⟩) he hpl
  have r2 : Vals (vs ++ []) (us ++ []) := r.append .nil
  have hl : (us ++ []).length = ps.length := by rw [← r2.length]; exact F.len _ _ _ _ q
  refine wpAny_call (codeAny_mono (F.run X.A X.stack s1 H1 ⟨us, []⟩ (us ++ []) (vs ++ []) Q E0 hgd hr I1.env0 (hb s1 us I1.kIn hl) r2 q) fun r s' hq => ?_)
  cases r with
  | error e => exact pass0 (X := X) pins σ H1 s1 e s' I1 hq
  | ok fl =>
    cases fl with
    | ret u => exact I1.after hq
    | next => exact False.elim hq
    | brk => exact False.elim hq
    | cont => exact False.elim hq
theorem op_in_seqK {X : Cx} {K : PySem.W.Frag} (h : X.K = K) : OpR X (compareOp .In) (rIn K false) := h ▸ op_in_seq
theorem op_notIn_seqK {X : Cx} {K : PySem.W.Frag} (h : X.K = K) : OpR X (compareOp .NotIn) (rIn K true) := h ▸ op_notIn_seq
/-- repr(x) of a list or tuple of data, of an int, of None -/
def rRepr (K : PySem.W.Frag) : List V → Hp → VK → Prop := fun xs H Q => ∃ x : V, xs = [x] ∧ ((∃ d : PyData, Dp K H x d ∧ PyProof.Rows.isDisplay d = true ∧ d.showable = true ∧ d.hasDict = false ∧ d.depth ≤ 60 ∧ d.shown.length ≤ sizeLine ∧ Q (.str d.shown) H) ∨
  (∃ i : Int, x = .int i ∧ i.natAbs.log2 < 1920 ∧ Q (.str (toString i)) H) ∨ (x = .non ∧ Q (.str "None") H))
theorem call_repr (hg : X.A.guards = some []) (hr : Room k X.A) : CallR X (.builtin "repr") (rRepr X.K) := by
  intro pins s σ H xs us Q I r h
  obtain ⟨x, rfl, h⟩ := h
  obtain ⟨u, rfl, ru⟩ := r.one
  rcases h with ⟨d, hd, h1, h2, h3, h4, h5, q⟩ | ⟨i, rfl, hz, q⟩ | ⟨rfl, q⟩
  · obtain ⟨as, r1⟩ := Dp.reads I d x u hd ru
    obtain ⟨a, rfl⟩ := PyProof.Rows.isRef_of_reads r1 h1
    exact repr_of_reads' r1 h2 (PyData.noDict_hsm h3) hg (by have := hr.un; omega) (fun _ _ e => e) (fun h' u tk hk => ⟨.str d.shown, H, I.kept hk, ⟨_, rfl⟩, q⟩) h5
  · obtain ⟨t, rfl⟩ := ru
    exact PySem.P.repr_of_int hz ⟨.str _, H, I.tok _, ⟨_, rfl⟩, q⟩
  · cases ru
    exact PySem.P.repr_of_none ⟨.str _, H, I.tok _, ⟨_, rfl⟩, q⟩
end
end Gd
/-! the law's own call, where nothing is being shown -/
namespace Gd
open PySem PySem.Spec PyProof.Rows L2 Wv
section
variable {P : Program} {w : World} {K : PySem.W.Frag} {mg mb : Str → Option Value} {k : Nat} {fa a : Addr} {fd : FuncData} {x : Str} {sp : Sp} {s₁ : Shared} {vs : List Value} {ns : List Int}
abbrev Good (s₁ : Shared) (r : Result) (s' : Shared) : Prop := r = .ok (.ret (.bool true)) ∧ OldK s₁.heap s'.heap ∧ s'.os = s₁.os ∧ AllBare s'.gens
/-- from an abstract heap that tracks nothing but, perhaps, the script -/
theorem from_heap {H : Hp} (KX : K.In s₁.heap) (hns : s₁.heap.Ns mainGlobals mg) (hb : s₁.heap.Ns builtinsNs mb) (hbb : ∀ x : Str, x ≠ "__name__" → mb x = bootBuiltins x) (hlim : s₁.heap.NoLimit) (hg : s₁.gens = #[])
    (ha : s₁.heap.get? a = some { cls := .type "list", data := .seq vs.toArray }) (hr : Room k callerA) (F : ∀ base : Heap, K.In base → base.Ns mainGlobals mg → FnG P w K mg base k fa fd [x] sp) (hbind : ∀ (s : Shared) (u : Value), BindsTo s fd ⟨[u], []⟩ [(x, u)])
    (hO : Only H) (hok : HOk P w H s₁.heap) (hA : ∀ b, H b ≠ none → b = a) (hK : H a ≠ none → K.lookup a = none) (hsp : sp [.ref a] H (fun v _ => v = .bl true) fun _ _ _ => False) : codeAny (model P w) callerA (.call (.ref fa) ⟨[.ref a], []⟩) (Good s₁) s₁ := by
  have noD : ∀ {b : Addr} {o : Obj} {es : Array DictEntry} {ep : Nat}, s₁.heap.get? b = some o → o.data = .dict es ep → H b = none := by
    intro b o es ep e d
    refine Classical.byContradiction fun q => ?_
    have e' := hA b q
    subst e'
    rw [ha] at e
    cases e
    exact nomatch (show Data.seq vs.toArray _ = Data.dict es ep from d)
  have toK : ∀ {b : Addr} {m : Str → Option Value}, s₁.heap.Ns b m → (hidT s₁.heap H).Ns b m := by
    rintro b m ⟨o, es, ep, e, d, r⟩
    exact ⟨o, es, ep, hidT_get e (noD e d), d, r⟩
  have KB : K.In (hidT s₁.heap H) := by
    intro b o e
    refine hidT_get (KX b o e) (Classical.byContradiction fun q => ?_)
    have e' := hA b q
    subst e'
    rw [hK q] at e
    cases e
  have M : Mod K mg (hidT s₁.heap H) := by
    obtain ⟨mc, h1, h2⟩ := hlim
    exact ⟨KB, toK hns, ⟨mb, toK hb, hbb⟩, mc, toK h1, h2⟩
  have E : Env0 P w K mg (hidT s₁.heap H) callerA [] s₁ H := by
    refine ⟨rfl, M, fun b o e => of_hidT e, Nat.le_of_eq (hidT_size _ _), trivial, ?_, hok, .of_eq hg⟩
    intro b hb
    cases hb
  refine codeAny_mono ((F _ KB (toK hns)).run callerA [] s₁ H ⟨[.ref a], []⟩ [.ref a] [.ref a] _ _ rfl hr E (hbind s₁ (.ref a)) (.cons rfl .nil) hsp) ?_
  rintro (e | fl) s' h
  · exact h.elim
  cases fl
  case ret u =>
    obtain ⟨v, H', os, bare, un, hok', r', q⟩ := h
    cases (show v = .bl true from q)
    cases r'
    refine ⟨rfl, OldK.of_keep fun b o e => ?_, os, bare⟩
    rcases hO b with z | ⟨ob, ys, z⟩
    · have none_of : ∀ l : List Addr, l = [] → b ∉ l := fun l hl h => by rw [hl] at h; cases h
      exact un.keep b o e z (none_of _ rfl) (none_of _ rfl)
    · have e1 := (hok b _ z).1
      have e2 := (hok' b _ (un.frzs b ob _ z)).1
      rw [e] at e1
      cases e1
      exact e2
  all_goals exact False.elim h
theorem law_callG (KX : K.In s₁.heap) (hns : s₁.heap.Ns mainGlobals mg) (hb : s₁.heap.Ns builtinsNs mb) (hbb : ∀ x : Str, x ≠ "__name__" → mb x = bootBuiltins x) (hlim : s₁.heap.NoLimit) (hg : s₁.gens = #[]) (ha : s₁.heap.get? a = some { cls := .type "list", data := .seq vs.toArray })
    (hi : IntsAre vs ns) (hl : ns.length ≤ sizeLine) (hr : Room k callerA) (F : ∀ base : Heap, K.In base → base.Ns mainGlobals mg → FnG P w K mg base k fa fd [x] sp) (hbind : ∀ (s : Shared) (u : Value), BindsTo s fd ⟨[u], []⟩ [(x, u)])
    (hsp : ∀ H : Hp, SqL K H a (ns.map V.int) → sp [.ref a] H (fun v _ => v = .bl true) fun _ _ _ => False) : codeAny (model P w) callerA (.call (.ref fa) ⟨[.ref a], []⟩) (Good s₁) s₁ := by
  have rv : Vals (ns.map V.int) vs := vals_ints hi
  have lenV := hi.length
  by_cases hk : K.lookup a = none
  · let H : Hp := fun b => if b = a then some (.frz { cls := .type "list", data := .seq vs.toArray } (.lst (ns.map V.int))) else none
    have at_ : H a = some (.frz { cls := .type "list", data := .seq vs.toArray } (.lst (ns.map V.int))) := if_pos rfl
    have off : ∀ b, b ≠ a → H b = none := fun b h => if_neg h
    refine from_heap (H := H) KX hns hb hbb hlim hg ha hr F hbind (fun b => ?_) (fun b u z => ?_) (fun b z => Classical.byContradiction fun h => z (off b h)) (fun _ => hk) (hsp H (.inl (.inr ⟨_, at_⟩)))
    · by_cases h : b = a
      · subst h; exact .inr ⟨_, _, at_⟩
      · exact .inl (off b h)
    · by_cases h : b = a
      · subst h
        rw [at_] at z
        cases z
        exact ⟨ha, by rw [List.length_map]; exact hl, vs, _, rv, ha⟩
      · rw [off b h] at z
        cases z
  · obtain ⟨o, ho⟩ := Option.ne_none_iff_exists'.mp hk
    have e := KX a o ho
    rw [ha] at e
    cases e
    exact from_heap (H := fun _ => none) KX hns hb hbb hlim hg ha hr F hbind (fun _ => .inl rfl) (fun b u z => by cases z) (fun b z => absurd rfl z) (fun z => absurd rfl z) (hsp _ (.inr ⟨_, vs.toArray, _, ho, rfl, rfl, rfl, by rw [List.size_toArray, lenV]; exact hl, by simpa using rv⟩))
end
theorem walkG {l : PySem.W.OpenLaw} {n k : Nat} {q : Program} {loose : List Str} {XP : (Str → Option Value) → Heap → Prop} {YP : World → Heap → Prop} {d : DefRec} {K : Params → PySem.W.Frag} {sp : PySem.W.Frag → Sp} {x : Str} (hn : l.most = some n) (hn2 : n ≤ sizeLine) (hdf : d.params.defaults = [])
    (hr : Room k callerA) (hY : ∀ (w : World) (h : Heap), YP w h → (K w.params).In h) (F : ∀ (w : World) (mg : Str → Option Value) (fa : Addr) (h : Heap), (K w.params).In h → h.Ns mainGlobals mg → mg d.name = some (.ref fa) →
      ∃ fd : FuncData, (∀ (s : Shared) (u : Value), BindsTo s fd ⟨[u], []⟩ [(x, u)]) ∧ ∀ base : Heap, (K w.params).In base → base.Ns mainGlobals mg → FnG l.prog w (K w.params) mg base k fa fd [x] (sp (K w.params)))
    (hsp : ∀ (K : PySem.W.Frag) (H : Hp) (a : Addr) (ns : List Int), ns.length ≤ n → SqL K H a (ns.map V.int) → sp K [.ref a] H (fun v _ => v = .bl true) fun _ _ _ => False) : PySem.W.WalkO q loose XP YP l.row.toRowW d [] (fun f vs => PySem.call f vs) := by
  refine Att.attach_call hn hdf ?_
  intro w s₀ s₁ mg mb fa o pm cd doc a vs ns G Y ho hd hcd hmg hobj hints hlen hg
  obtain ⟨fd, hb, hF⟩ := F w mg fa _ (hY w _ Y) G.T.g hmg
  exact law_callG (hY w _ Y) G.T.g G.T.b G.T.builtins G.T.nolimit hg hobj hints (Nat.le_trans hlen hn2) hr hF hb fun H hS => hsp _ H a ns hlen hS
end Gd
namespace Tk
open PySem PySem.Spec PyProof.Rows L2 Wv
/-! ### a method that each class of ways has of its own -/
structure EachOk (P : Program) (w : World) (K : PySem.W.Frag) (mg : Str → Option Value) (base : Heap) (c : Cs) (n : Nat) (m : Str) (ps : List Str) (ok : W → Prop) (sp : W → Sp) : Prop where
  ex : ∀ u : W, ok u → Cls K (c.of u) ∧ ∃ (f : Addr) (fd : FuncData), FnOk P w K mg base CX0 n f fd ps (sp u) ∧ Meth K (c.of u) m f ∧ Binds K fd ps []
section
variable {X : Cx} {c : Cs} {n : Nat} {ok : W → Prop} {sp : W → Sp}
def tMethE (c : Cs) (ok : W → Prop) (m : Str) (sp : W → Sp) (ta : TE) (t : TA) : TE := fun σ H Q => ta σ H fun x H1 => ∃ w, ObjAt c H1 x w ∧ ok w ∧ t σ H1 fun vs H2 => sp w (x :: vs) H2 Q E0
theorem pe_methE {pl : Sem Bool} {m : Str} {ps : List Str} {o e : Expr} {es : List Expr} {ta : TE} {t : TA} {apos pos : Pos} (G : EachOk X.prog X.w X.K X.mg X.base c n m ps ok sp) (hr : Room n X.A) (he : PE X o ta) (ha : PA X (e :: es) t)
    (nl : Names7 m := by unfold Names7; decide +kernel)
    (hst : starEach (e :: es) X.env = (false, eval e X.env) :: starEach es X.env := by rfl) (hpl : (backTo pos (starEach es X.env)).any (·.1) = false := by rfl)
    (ht : eval (.Call (.Attribute o m apos) (e :: es) [] pos) X.env = (do
      let ov ← eval o X.env
      standAt apos.atName
      let (f, first) ← holding [ov] (getMethod ov m pl)
      callWith pos f first (backTo pos (starEach (e :: es) X.env)) (backToKw pos (keywordEach [] X.env))) := by rfl) :
    PE X (.Call (.Attribute o m apos) (e :: es) [] pos) (tMethE c ok m sp ta t) := by
  refine ⟨fun pins s σ H Q I h => ?_⟩
  refine PySem.W.methodCall_KW (pl := pl) (thn (he.run pins s σ H _ I h) fun u s1 ⟨x, H1, I1, rx, w, hx, hok, q⟩ => ?_) ht
  obtain ⟨hc, f, fd, F, hm, hb⟩ := G.ex w hok
  obtain ⟨a, dx, fs, ex, ea, l⟩ := hx.head'
  subst ex
  obtain rfl : u = Value.ref a := rx
  refine getmeth_ok I1 ea hc hm (l m nl) ?_
  refine PySem.W.callWith_K (first := [.ref a]) (h₀ := X.base) I.ok.mod.kin hm.kp (thn (ha.run pos pins s1 σ H1 _ I1 q) fun us s2 ⟨vs, H2, I2, r, q2⟩ => ⟨I2.kIn, ?_⟩) hst hpl
  exact run_fn (us := .ref a :: us) (vs := .ref a :: vs) (dvs := []) (ds := []) F hr hb .nil pass0 I2 (.cons rfl r) (by simpa using q2)
end
/-! ### a method of a class -/
structure ScOk (P : Program) (w : World) (K : PySem.W.Frag) (mg : Str → Option Value) (base : Heap) (C : Addr) (n : Nat) (m : Str) (ps : List Str) (sp : Sp) : Prop where
  cl : Cls K C
  ex : ∃ (f : Addr) (fd : FuncData), FnOk P w K mg base CX0 n f fd ps sp ∧ Meth K C m f ∧ Binds K fd ps []
section
variable {X : Cx} {C : Addr} {n : Nat} {sp : Sp} {m : Str} {ps : List Str} {o e : Expr} {es : List Expr} {ta : TE} {t : TA} {apos pos : Pos}
theorem pe_methS {pl : Sem Bool} (G : ScOk X.prog X.w X.K X.mg X.base C n m ps sp) (hr : Room n X.A) (he : PE X o ta) (ha : PA X (e :: es) t)
    (hst : starEach (e :: es) X.env = (false, eval e X.env) :: starEach es X.env := by rfl) (hpl : (backTo pos (starEach es X.env)).any (·.1) = false := by rfl)
    (ht : eval (.Call (.Attribute o m apos) (e :: es) [] pos) X.env = (do
      let ov ← eval o X.env
      standAt apos.atName
      let (f, first) ← holding [ov] (getMethod ov m pl)
      callWith pos f first (backTo pos (starEach (e :: es) X.env)) (backToKw pos (keywordEach [] X.env))) := by rfl) :
    PE X (.Call (.Attribute o m apos) (e :: es) [] pos) (tMeth C m sp [] E0 ta t) := by
  obtain ⟨f, fd, F, hm, hb⟩ := G.ex
  exact pe_meth he G.cl hm F hr hb .nil pass0 ha hst hpl ht
end
theorem ObjsAt.at_v {c : Cs} {H : Hp} : ∀ {ws : List W} {vs : List V} {i : Nat} {v : V}, ObjsAt c H vs ws → vs[i]? = some v → ∃ w, ws[i]? = some w ∧ ObjAt c H v w
  | [], vs, i, v, h, e => by rw [show vs = [] from h] at e; simp at e
  | w :: ws, vs, 0, v, ⟨u, us, ev, hu, h⟩, e => by
    subst ev
    have q : u = v := by simpa using e
    subst q
    exact ⟨w, rfl, hu⟩
  | w :: ws, vs, i + 1, v, ⟨u, us, ev, hu, h⟩, e => by
    subst ev
    rw [List.getElem?_cons_succ] at e
    obtain ⟨x, h1, h2⟩ := ObjsAt.at_v h e
    exact ⟨x, by rw [List.getElem?_cons_succ]; exact h1, h2⟩
/-! ### where a way ends -/
/-- ways of letters, without calls and looks, nested at most so deep -/
def good : Nat → W → Prop
  | 0, w => ∃ x, w = .letter x
  | n + 1, w => match w with
    | .letter _ => True
    | .row ws => ws.length ≤ 100 ∧ ∀ x ∈ ws, good n x
    | .choice ws => ws.length ≤ 100 ∧ ∀ x ∈ ws, good n x
    | .again x => good n x
    | .maybe x => good n x
    | _ => False
def spEnd (c : Cs) (w : W) : Sp := fun vs H Q _ => ∃ (v : V) (z : List Nat) (p : Nat) (kv : V), vs = [v, .str (tx z), .int (p : Nat), kv] ∧ ObjAt c H v w ∧ ((∃ x, w = .letter x) ∨ (kv = .non ∧ w.rounds ≤ 1)) ∧ p ≤ z.length ∧ z.length ≤ 10000 ∧ Q (.int (eI (ew z w p))) H
structure Kn (mg : Str → Option Value) : Prop where
  c : Kc mg
  n : ∃ t, mg "NOWHERE" = some (.int (-1) t)
def psE : List Str := ["self", "text", "place", "known"]
abbrev EndOk (P : Program) (w : World) (K : PySem.W.Frag) (mg : Str → Option Value) (base : Heap) (c : Cs) (n : Nat) : Prop := EachOk P w K mg base c (n + 1) "end_at" psE (good n) (spEnd c)
section
variable {P : Program} {w : World} {K : PySem.W.Frag} {mg : Str → Option Value} {base : Heap} {c : Cs} {f : Addr} {fd : FuncData} {n : Nat}
abbrev s_Letter_end_at : Stmt := inClass (top 22) 1
theorem sc_Letter_end_at : FnScope ["self", "text", "place", "known"] ["self", "text", "place", "known"] (defScope s_Letter_end_at) := ⟨rfl, rfl, rfl, by decide +kernel, rfl, by decide +kernel, by decide +kernel⟩
theorem ok_e_Letter {k : Nat} (F : Fun K "end_at" "Letter.end_at" s_Letter_end_at f fd) (T : ClsF K c.lt) (Cn : Kn mg) (x : Nat) : FnOk P w K mg base CX0 (k + 1) f fd psE (spEnd c (.letter x)) := by
  have GC_NOWHERE := Cn.n
  refine F.ok sc_Letter_end_at (fun vs H Q E h => by obtain ⟨_, _, _, _, rfl, _⟩ := h; rfl) (fun cdv A outer s H vs Q E hr h => ?_)
  obtain ⟨v, z, p, kv, rfl, hv, _, hp, hz, k⟩ := h
  refine ⟨_, (pss_one (ps_ret (pe_ifExp (pt_cmpR op_eq (pe_slice sl_str (pv 1) (po_some (pv 2)) (po_some (pe_op op_add (pv 2) pe_int))) (pe_fld (pv 0) rfl) (nomark _)) (pe_op op_add (pv 2) pe_int) (pe_globI rfl GC_NOWHERE)))), ?_⟩
  have hl : (tx z).length = z.length := by simp [Str.length, tx]
  walk_at "rd"
  obtain ⟨a, dx, rfl, ha⟩ := hv
  refine ⟨by rw [hl]; exact Nat.le_of_lt (small' (by omega)), ?_⟩
  rw [cut1]
  refine ⟨_, rfl, a, c.lt, dx, _, _, rfl, ha, T.cl, T.nl, rfl, rfl, _, rfl, ?_⟩
  rw [sgn_eq]
  have ev : ew z (.letter x) p = if z[p]? = some x then some (p + 1) else none := by conv => lhs; unfold ew
  rw [ev] at k
  refine ite2 (fun e => ?_) (fun e => ?_)
  · rw [if_pos (of_decide_eq_true e)] at k
    have k : Q (.int ((p : Int) + 1)) H := k
    exact ⟨_, rfl, _, _, rfl, rfl, k⟩
  · rw [if_neg (fun q => e (decide_eq_true q))] at k
    exact k
theorem good_le : ∀ (n : Nat) (w : W), good n w → good (n + 1) w
  | 0, w, ⟨x, e⟩ => by subst e; exact True.intro
  | n + 1, w, h => by
    cases w with
    | letter x => exact True.intro
    | row ws => exact ⟨h.1, fun x hx => good_le n x (h.2 x hx)⟩
    | choice ws => exact ⟨h.1, fun x hx => good_le n x (h.2 x hx)⟩
    | again x => exact good_le n x h
    | maybe x => exact good_le n x h
    | _ => exact h.elim
theorem rounds_in : ∀ (ws : List W) (x : W), x ∈ ws → x.rounds ≤ W.roundss ws
  | w :: ws, x, h => by
    rw [W.roundss]
    rcases List.mem_cons.mp h with rfl | h
    · omega
    · have := rounds_in ws x h
      omega
theorem ewR_cons (z : List Nat) (w : W) (ws : List W) (p : Nat) : ewR z (w :: ws) p = match ew z w p with | some q => ewR z ws q | none => none := by
  conv => lhs; unfold ewR
  all_goals (cases ew z w p <;> rfl)
abbrev s_Row_end_at : Stmt := inClass (top 25) 1
theorem sc_Row_end_at : FnScope ["self", "text", "place", "known", "part"] ["self", "text", "place", "known"] (defScope s_Row_end_at) := ⟨rfl, rfl, rfl, by decide +kernel, rfl, by decide +kernel, by decide +kernel⟩
theorem ok_e_Row (F : Fun K "end_at" "Row.end_at" s_Row_end_at f fd) (T : ClsF K c.ro) (Cn : Kn mg) (G_end_at : EndOk P w K mg base c n) (ws : List W) (hg : ∀ x ∈ ws, good n x) : FnOk P w K mg base CX0 (n + 2) f fd psE (spEnd c (.row ws)) := by
  have GC_NOWHERE := Cn.n
  refine F.ok sc_Row_end_at (fun vs H Q E h => by obtain ⟨_, _, _, _, rfl, _⟩ := h; rfl) (fun cdv A outer s H vs Q E hr h => ?_)
  obtain ⟨v, z, p, kv, rfl, hv, hk, hp, hz, k⟩ := h
  refine ⟨_, (pss_cons (ps_for PassesOwn.never rfl (pi_tup (pe_fld (pv 0) rfl)) (pg_name (i := 4) sc_Row_end_at.nd rfl (Or.inl rfl))
   (pss_cons (ps_set (i := 2) sc_Row_end_at.nd rfl (Or.inl rfl) (pe_methE G_end_at (hr.mono (by first | decide | omega)) (pv 4) (pa_cons (pv 1) (pa_cons (pv 2) (pa_cons (pv 3) pa_nil)))))
  (pss_one (ps_if (pt_cmpR op_eq (pv 2) (pe_globI rfl GC_NOWHERE) (nomark _)) (pss_one (ps_ret (pe_globI rfl GC_NOWHERE))) pss_nil))))
  (pss_one (ps_ret (pv 2)))), ?_⟩
  obtain ⟨a, dx, t, us, rfl, ha, ht, hus⟩ := hv
  have hk : kv = .non ∧ (W.row ws).rounds ≤ 1 := hk.resolve_left (fun ⟨_, e⟩ => by cases e)
  obtain ⟨rfl, hrn⟩ := hk
  have ll := ObjsAt.len _ _ hus
  have ev : ew z (.row ws) p = ewR z ws p := by conv => lhs; unfold ew
  rw [ev] at k
  refine ⟨_, rfl, a, c.ro, dx, _, _, rfl, ha, T.cl, T.nw, rfl, t, rfl, ⟨us, SqT.of ht⟩, ?_⟩
  refine for_tup (K := K) (a := t) (xs := us) (fun i σ H' => ∃ (q : Nat) (x4 : Option V), σ = [some (.ref a), some (.str (tx z)), some (.int (q : Nat)), some .non, x4] ∧ H' = H ∧ ewR z (ws.drop i) q = ewR z ws p ∧ q ≤ z.length) ?_ ?_ ?_ ?_
  · exact ⟨p, none, rfl, rfl, rfl, hp⟩
  · rintro i σ H' _ ⟨_, _, rfl, rfl, _⟩
    exact SqT.of ht
  · rintro i e σ H1 he ⟨q, x4, rfl, rfl, ho, hq⟩
    obtain ⟨wy, hwy, hoy⟩ := Tk.ObjsAt.at_v hus he
    rw [drop_at hwy, ewR_cons] at ho
    refine gset ?_
    refine ⟨_, rfl, wy, hoy, hg wy (List.mem_of_getElem? hwy), _, rfl, _, rfl, _, rfl, ?_⟩
    refine ⟨e, z, q, .non, rfl, hoy, .inr ⟨rfl, Nat.le_trans (rounds_in ws wy (List.mem_of_getElem? hwy)) hrn⟩, hq, hz, ?_⟩
    walk_at "nx"
    refine ⟨_, rfl, rfl, _, rfl, ?_⟩
    rw [eI_no]
    cases e2 : ew z wy q with
    | none =>
      rw [e2] at ho
      have ho' : none = ewR z ws p := ho
      rw [← ho'] at k
      exact iteT k
    | some r =>
      rw [e2] at ho
      exact iteF ⟨r, _, rfl, rfl, ho, (ew_in z wy q r hq e2).2⟩
  · rintro σ H1 ⟨q, x4, rfl, rfl, ho, _⟩
    rw [ll, List.drop_length] at ho
    have ho' : some q = ewR z ws p := by rw [← ho]; unfold ewR; rfl
    rw [← ho'] at k
    exact ⟨_, rfl, k⟩
abbrev s_Choice_end_at : Stmt := inClass (top 26) 1
theorem sc_Choice_end_at : FnScope ["self", "text", "place", "known", "part", "end"] ["self", "text", "place", "known"] (defScope s_Choice_end_at) := ⟨rfl, rfl, rfl, by decide +kernel, rfl, by decide +kernel, by decide +kernel⟩
theorem ok_e_Choice (F : Fun K "end_at" "Choice.end_at" s_Choice_end_at f fd) (T : ClsF K c.ch) (Cn : Kn mg) (G_end_at : EndOk P w K mg base c n) (ws : List W) (hg : ∀ x ∈ ws, good n x) : FnOk P w K mg base CX0 (n + 2) f fd psE (spEnd c (.choice ws)) := by
  have GC_NOWHERE := Cn.n
  refine F.ok sc_Choice_end_at (fun vs H Q E h => by obtain ⟨_, _, _, _, rfl, _⟩ := h; rfl) (fun cdv A outer s H vs Q E hr h => ?_)
  obtain ⟨v, z, p, kv, rfl, hv, hk, hp, hz, k⟩ := h
  refine ⟨_, (pss_cons (ps_for PassesOwn.never rfl (pi_tup (pe_fld (pv 0) rfl)) (pg_name (i := 4) sc_Choice_end_at.nd rfl (Or.inl rfl))
   (pss_cons (ps_set (i := 5) sc_Choice_end_at.nd rfl (Or.inl rfl) (pe_methE G_end_at (hr.mono (by first | decide | omega)) (pv 4) (pa_cons (pv 1) (pa_cons (pv 2) (pa_cons (pv 3) pa_nil)))))
  (pss_one (ps_if (pt_cmpR op_ne (pv 5) (pe_globI rfl GC_NOWHERE) (nomark _)) (pss_one (ps_ret (pv 5))) pss_nil))))
  (pss_one (ps_ret (pe_globI rfl GC_NOWHERE)))), ?_⟩
  obtain ⟨a, dx, t, us, rfl, ha, ht, hus⟩ := hv
  have hk : kv = .non ∧ (W.choice ws).rounds ≤ 1 := hk.resolve_left (fun ⟨_, e⟩ => by cases e)
  obtain ⟨rfl, hrn⟩ := hk
  have ll := ObjsAt.len _ _ hus
  have ev : ew z (.choice ws) p = ewC z ws p := by conv => lhs; unfold ew
  rw [ev] at k
  refine ⟨_, rfl, a, c.ch, dx, _, _, rfl, ha, T.cl, T.nw, rfl, t, rfl, ⟨us, SqT.of ht⟩, ?_⟩
  refine for_tup (K := K) (a := t) (xs := us) (fun i σ H' => ∃ (x4 x5 : Option V), σ = [some (.ref a), some (.str (tx z)), some (.int (p : Nat)), some .non, x4, x5] ∧ H' = H ∧ ewC z (ws.drop i) p = ewC z ws p) ?_ ?_ ?_ ?_
  · exact ⟨none, none, rfl, rfl, rfl⟩
  · rintro i σ H' _ ⟨_, _, rfl, rfl, _⟩
    exact SqT.of ht
  · rintro i e σ H1 he ⟨x4, x5, rfl, rfl, ho⟩
    obtain ⟨wy, hwy, hoy⟩ := Tk.ObjsAt.at_v hus he
    rw [drop_at hwy, ewC_cons] at ho
    refine gset ?_
    refine ⟨_, rfl, wy, hoy, hg wy (List.mem_of_getElem? hwy), _, rfl, _, rfl, _, rfl, ?_⟩
    refine ⟨e, z, p, .non, rfl, hoy, .inr ⟨rfl, Nat.le_trans (rounds_in ws wy (List.mem_of_getElem? hwy)) hrn⟩, hp, hz, ?_⟩
    walk_at "nx"
    refine ⟨_, rfl, rfl, _, rfl, ?_⟩
    rw [eI_no]
    cases e2 : ew z wy p with
    | none =>
      rw [e2] at ho
      exact iteF ⟨_, _, rfl, rfl, ho⟩
    | some r =>
      rw [e2] at ho
      have ho' : some r = ewC z ws p := ho
      rw [← ho'] at k
      exact iteT ⟨_, rfl, k⟩
  · rintro σ H1 ⟨x4, x5, rfl, rfl, ho⟩
    rw [ll, List.drop_length] at ho
    have ho' : none = ewC z ws p := by rw [← ho]; unfold ewC; rfl
    rw [← ho'] at k
    exact k
abbrev s_Maybe_end_at : Stmt := inClass (top 28) 1
theorem sc_Maybe_end_at : FnScope ["self", "text", "place", "known", "end"] ["self", "text", "place", "known"] (defScope s_Maybe_end_at) := ⟨rfl, rfl, rfl, by decide +kernel, rfl, by decide +kernel, by decide +kernel⟩
theorem ok_e_Maybe (F : Fun K "end_at" "Maybe.end_at" s_Maybe_end_at f fd) (T : ClsF K c.ma) (Cn : Kn mg) (G_end_at : EndOk P w K mg base c n) (y : W) (hg : good n y) : FnOk P w K mg base CX0 (n + 2) f fd psE (spEnd c (.maybe y)) := by
  have GC_NOWHERE := Cn.n
  refine F.ok sc_Maybe_end_at (fun vs H Q E h => by obtain ⟨_, _, _, _, rfl, _⟩ := h; rfl) (fun cdv A outer s H vs Q E hr h => ?_)
  obtain ⟨v, z, p, kv, rfl, hv, hk, hp, hz, k⟩ := h
  refine ⟨_, (pss_cons (ps_set (i := 4) sc_Maybe_end_at.nd rfl (Or.inl rfl) (pe_methE G_end_at (hr.mono (by first | decide | omega)) (pe_fld (pv 0) rfl) (pa_cons (pv 1) (pa_cons (pv 2) (pa_cons (pv 3) pa_nil)))))
  (pss_one (ps_ret (pe_ifExp (pt_cmpR op_eq (pv 4) (pe_globI rfl GC_NOWHERE) (nomark _)) (pv 2) (pv 4))))), ?_⟩
  obtain ⟨a, dx, u, _, rfl, ha, hu⟩ := hv
  have hk : kv = .non ∧ (W.maybe y).rounds ≤ 1 := hk.resolve_left (fun ⟨_, e⟩ => by cases e)
  obtain ⟨rfl, hrn⟩ := hk
  refine ⟨_, rfl, a, c.ma, dx, _, _, rfl, ha, T.cl, T.np, rfl, y, hu, hg, _, rfl, _, rfl, _, rfl, ?_⟩
  refine ⟨u, z, p, .non, rfl, hu, .inr ⟨rfl, hrn⟩, hp, hz, ?_⟩
  walk_at "nx"
  refine ⟨_, rfl, rfl, _, rfl, ?_⟩
  rw [eI_no]
  have ev : ew z (.maybe y) p = some ((ew z y p).getD p) := by conv => lhs; unfold ew
  rw [ev] at k
  cases e2 : ew z y p with
  | none => rw [e2] at k; exact iteT ⟨_, rfl, k⟩
  | some r => rw [e2] at k; exact iteF ⟨_, rfl, k⟩
abbrev s_Again_end_at : Stmt := inClass (top 27) 1
theorem sc_Again_end_at : FnScope ["self", "text", "place", "known", "end"] ["self", "text", "place", "known"] (defScope s_Again_end_at) := ⟨rfl, rfl, rfl, by decide +kernel, rfl, by decide +kernel, by decide +kernel⟩
theorem ok_e_Again (F : Fun K "end_at" "Again.end_at" s_Again_end_at f fd) (T : ClsF K c.ag) (Cn : Kn mg) (G_known_end : ScOk P w K mg base c.ag 1 "known_end" psE (fun _ _ _ _ => False)) (G_end_at : EndOk P w K mg base c n) (y : W) (hg : good n y) : FnOk P w K mg base CX0 (n + 2) f fd psE (spEnd c (.again y)) := by
  refine F.ok sc_Again_end_at (fun vs H Q E h => by obtain ⟨_, _, _, _, rfl, _⟩ := h; rfl) (fun cdv A outer s H vs Q E hr h => ?_)
  obtain ⟨v, z, p, kv, rfl, hv, hk, hp, hz, k⟩ := h
  refine ⟨_, (pss_cons (ps_if (pt_cmpR op_notN (pv 3) pe_non (nomark _)) (pss_one (ps_ret (pe_methS G_known_end (hr.mono (by first | decide | omega)) (pv 0) (pa_cons (pv 1) (pa_cons (pv 2) (pa_cons (pv 3) pa_nil)))))) pss_nil)
  (pss_cons (ps_if (pt_cmpR op_gt (pe_fld (pv 0) rfl) pe_int (nomark _)) (pss_one (ps_set (i := 3) sc_Again_end_at.nd rfl (Or.inl rfl) pe_dnewK)) pss_nil)
  (pss_cons (ps_set (i := 4) sc_Again_end_at.nd rfl (Or.inl rfl) (pe_methE G_end_at (hr.mono (by first | decide | omega)) (pe_fld (pv 0) rfl) (pa_cons (pv 1) (pa_cons (pv 2) (pa_cons (pv 3) pa_nil)))))
  (pss_cons (ps_while PassesOwn.never (pt_cmpR op_gt (pv 4) (pv 2) (nomark _)) (pss_cons (ps_set (i := 2) sc_Again_end_at.nd rfl (Or.inl rfl) (pv 4))
  (pss_one (ps_set (i := 4) sc_Again_end_at.nd rfl (Or.inl rfl) (pe_methE G_end_at (hr.mono (by first | decide | omega)) (pe_fld (pv 0) rfl) (pa_cons (pv 1) (pa_cons (pv 2) (pa_cons (pv 3) pa_nil))))))))
  (pss_one (ps_ret (pv 2))))))), ?_⟩
  obtain ⟨a, dx, u, mk, rfl, ha, hu⟩ := hv
  have hk : kv = .non ∧ (W.again y).rounds ≤ 1 := hk.resolve_left (fun ⟨_, e⟩ => by cases e)
  obtain ⟨rfl, hrn⟩ := hk
  refine ⟨_, rfl, rfl, _, rfl, iteF ?_⟩
  walk_at "nx"
  refine ⟨_, rfl, a, c.ag, dx, _, _, rfl, ha, T.cl, T.nr, rfl, _, _, rfl, rfl, _, rfl, ?_⟩
  have hr0 : decide ((1 : Int) < (((y.rounds + 1 : Nat) : Nat) : Int)) = false := decide_eq_false (by
    have h1 : y.rounds + 1 ≤ 1 := hrn
    omega)
  rw [hr0]
  refine iteF ?_
  walk_at "nx"
  have hy0 : y.rounds ≤ 1 := by
    have h1 : y.rounds + 1 ≤ 1 := hrn
    omega
  refine ⟨_, rfl, a, c.ag, dx, _, _, rfl, ha, T.cl, T.np, rfl, y, hu, hg, _, rfl, _, rfl, _, rfl, ?_⟩
  refine ⟨u, z, p, .non, rfl, hu, .inr ⟨rfl, hy0⟩, hp, hz, ?_⟩
  walk_at "nx"
  refine while_m (fun m σ H' => ∃ q : Nat, σ = [some (.ref a), some (.str (tx z)), some (.int (q : Nat)), some .non, some (.int (eI (ew z y q)))] ∧ H' = H ∧ q ≤ z.length ∧ ew z (.again y) q = ew z (.again y) p ∧ m = z.length - q) (z.length - p) ?_ ?_
    (fun σ H Q Q' hq h => ?_)
  · exact ⟨p, rfl, rfl, hp, rfl, rfl⟩
  · rintro m σ H1 ⟨q, rfl, rfl, hq, ho, rfl⟩
    have hag := ew_again z y q hq
    refine ⟨_, rfl, _, rfl, _, _, rfl, rfl, _, rfl, ?_⟩
    have stop : ew z (.again y) q = some q → tRet (tVar 2) { nx := fun _ H' => Q .non H', rt := Q } [some (.ref a), some (.str (tx z)), some (.int (q : Nat)), some .non, some (.int (eI (ew z y q)))] H1 := fun e => by
      rw [e] at ho
      rw [← ho] at k
      exact ⟨_, rfl, k⟩
    cases e2 : ew z y q with
    | none =>
      rw [e2] at hag stop
      refine ite2 (fun e => ?_) (fun _ => stop hag)
      have e := of_decide_eq_true e
      simp only [eI] at e
      omega
    | some r =>
      rw [e2] at hag stop
      have hr := ew_in z y q r hq e2
      refine ite2 (fun e => ?_) (fun e => ?_)
      · have e := of_decide_eq_true e
        simp only [eI] at e
        have hqr : q < r := by omega
        have hag : ew z (.again y) q = ew z (.again y) r := by
          rw [hag]
          show (if q < r then _ else _) = _
          rw [if_pos hqr]
        refine ⟨_, rfl, ?_⟩
        walk_at "nx"
        refine ⟨_, rfl, a, c.ag, dx, _, _, rfl, ha, T.cl, T.np, rfl, y, hu, hg, _, rfl, _, rfl, _, rfl, ?_⟩
        refine ⟨u, z, r, .non, rfl, hu, .inr ⟨rfl, hy0⟩, hr.2, hz, ?_⟩
        exact ⟨z.length - r, by omega, r, rfl, rfl, hr.2, by rw [← hag]; exact ho, rfl⟩
      · have e : ¬ q < r := fun h => e (decide_eq_true (show ((q : Nat) : Int) < ((r : Nat) : Int) by omega))
        refine stop ?_
        rw [hag]
        show (if q < r then _ else _) = _
        rw [if_neg e]
  · obtain ⟨v4, e4, v2, e2, i, j, r1, r2, b, eb, q⟩ := h
    exact ⟨v4, e4, v2, e2, i, j, r1, r2, b, eb, hq _ _ q⟩
/-! ### all classes at once -/
structure EM (K : PySem.W.Frag) (C : Addr) (q : Str) (st : Stmt) : Prop where
  ex : ∃ (f : Addr) (fd : FuncData), Fun K "end_at" q st f fd ∧ Meth K C "end_at" f ∧ Binds K fd psE []
theorem end_ok (eL : EM K c.lt "Letter.end_at" s_Letter_end_at) (eR : EM K c.ro "Row.end_at" s_Row_end_at) (eC : EM K c.ch "Choice.end_at" s_Choice_end_at) (eA : EM K c.ag "Again.end_at" s_Again_end_at) (eM : EM K c.ma "Maybe.end_at" s_Maybe_end_at)
    (T : ∀ u : W, ClsF K (c.of u)) (Cn : Kn mg) (ke : ScOk P w K mg base c.ag 1 "known_end" psE (fun _ _ _ _ => False)) : ∀ n, EndOk P w K mg base c n
  | 0 => ⟨fun u ⟨x, e⟩ => by
    subst e
    obtain ⟨f, fd, F, m, b⟩ := eL.ex
    exact ⟨(T (.letter x)).cl, f, fd, ok_e_Letter F (T (.letter x)) Cn x, m, b⟩⟩
  | n + 1 => ⟨fun u hu => by
    have ih := end_ok eL eR eC eA eM T Cn ke n
    cases u with
    | letter x =>
      obtain ⟨f, fd, F, m, b⟩ := eL.ex
      exact ⟨(T (.letter x)).cl, f, fd, ok_e_Letter F (T (.letter x)) Cn x, m, b⟩
    | row ws =>
      obtain ⟨f, fd, F, m, b⟩ := eR.ex
      exact ⟨(T (.row ws)).cl, f, fd, ok_e_Row F (T (.row ws)) Cn ih ws hu.2, m, b⟩
    | choice ws =>
      obtain ⟨f, fd, F, m, b⟩ := eC.ex
      exact ⟨(T (.choice ws)).cl, f, fd, ok_e_Choice F (T (.choice ws)) Cn ih ws hu.2, m, b⟩
    | again y =>
      obtain ⟨f, fd, F, m, b⟩ := eA.ex
      exact ⟨(T (.again y)).cl, f, fd, ok_e_Again F (T (.again y)) Cn ke ih y hu, m, b⟩
    | maybe y =>
      obtain ⟨f, fd, F, m, b⟩ := eM.ex
      exact ⟨(T (.maybe y)).cl, f, fd, ok_e_Maybe F (T (.maybe y)) Cn ih y hu, m, b⟩
    | _ => exact hu.elim⟩
end
end Tk
namespace Tk
open PySem PySem.Spec PyProof.Rows L2 Wv
/-! ### all ends, takes and ends -/
theorem mk_comp {te : TE} {a0 a1 a2 a3 a5 : Option V} {r : Addr} {H1 : Hp} {Q : VK} {z : List Nat} {w : W} (hr : H1 r = some (.rng 0 ((z.length : Int) + 1))) (hz : z.length ≤ 10000)
    (hs : ∀ (i : Nat) (Hx : Hp), i ≤ z.length → Same H1 Hx → ∀ Q' : VK, (∀ H2, Same Hx H2 → Q' (.int (mk z.length (en z w i) : Nat)) H2) → te [a0, a1, a2, a3, some (.ref r), a5, none, some (.int (i : Nat)), none, none] Hx Q')
    (k : ∀ (q : Addr) (H' : Hp), Same H1 H' → H1 q = none → H' q = some (.lst (iV (mks z w))) → Q (.ref q) H') : tLc (iRg (tRgV (tVar 4))) (gName 7) tYes te [7] [a0, a1, a2, a3, some (.ref r), a5, none, none, none, none] H1 Q := by
  refine ⟨_, rfl, r, _, _, rfl, hr, ⟨by omega, by omega, by omega, by omega⟩, fun D hD => ?_⟩
  rw [show (((z.length : Int) + 1 - 0).toNat) = z.length + 1 by omega]
  have hl : (iV (mks z w)).length = z.length + 1 := by simp only [iV, List.length_map, mks_len]
  refine lc_range (fun i Hx => Hx D = some (.lst ((iV (mks z w)).take i)) ∧ Same H1 Hx) ?_ ?_ ?_
  · exact ⟨upd_same, Same.new hD _⟩
  · rintro i Hx hi ⟨hd, sx⟩
    rw [Int.zero_add]
    refine ⟨rfl, ?_⟩
    refine hs i Hx (by omega) sx _ fun H2 s2 => ⟨_, s2 _ _ hd, small' (by rw [List.length_take, hl]; omega), ?_, Same.put hD (sx.trans s2) _⟩
    rw [upd_same, take_more' (iV_at (mks_at (z := z) (w := w) (p := i) (by omega)))]
  · rintro Hx ⟨hd, sx⟩
    rw [List.take_of_length_le (by rw [hl]; exact Nat.le_refl _)] at hd
    exact k D Hx sx hD hd
def tab (z : List Nat) (w : W) : List V := (List.range (z.length + 1)).map fun p => V.int (eI (ew z w p))
theorem tab_len (z : List Nat) (w : W) : (tab z w).length = z.length + 1 := by simp [tab]
theorem tab_at {z : List Nat} {w : W} {p : Nat} (h : p ≤ z.length) : (tab z w)[p]? = some (.int (eI (ew z w p))) := by
  unfold tab
  rw [List.getElem?_map, List.getElem?_range (by omega)]
  rfl
theorem MabsAt.snoc {z : List Nat} {H : Hp} {a : Addr} {w : W} (ha : H a = some (.lst (iV (mks z w)))) : ∀ (ws : List W) (vs : List V), MabsAt z H vs ws → MabsAt z H (vs ++ [.ref a]) (ws ++ [w])
  | [], vs, h => by rw [show vs = [] from h]; exact ⟨a, [], rfl, ha, rfl⟩
  | x :: ws, vs, ⟨b, us, e, hb, h⟩ => ⟨b, us ++ [.ref a], by rw [e]; rfl, hb, MabsAt.snoc ha ws us h⟩
theorem MabsAt.put {z : List Nat} {H : Hp} {D : Addr} {o : HO} : ∀ (ws : List W) (vs : List V), (∀ v ∈ vs, v ≠ .ref D) → MabsAt z H vs ws → MabsAt z (upd H D o) vs ws
  | [], _, _, h => h
  | w :: ws, vs, n, ⟨a, us, e, ha, h⟩ => by
    subst e
    exact ⟨a, us, rfl, by rw [upd_ne (fun q => n _ List.mem_cons_self (by rw [q]))]; exact ha, MabsAt.put ws us (fun v hv => n v (List.mem_cons_of_mem _ hv)) h⟩
def okn : Nat → W → Prop
  | 0, _ => False
  | n + 1, w => good n w
theorem good_in {n : Nat} {w : W} (h : good n w) : (∃ x, w = .letter x) ∨ ((w.kind = 3 ∨ w.kind = 4 ∨ w.kind = 5 ∨ w.kind = 6) ∧ w.inner.length ≤ 100 ∧ ∀ x ∈ w.inner, okn n x) := by
  cases n with
  | zero => exact .inl h
  | succ n =>
    cases w with
    | letter x => exact .inl ⟨x, rfl⟩
    | row ws => exact .inr ⟨.inl rfl, h⟩
    | choice ws => exact .inr ⟨.inr (.inl rfl), h⟩
    | again y => exact .inr ⟨.inr (.inr (.inl rfl)), by show 1 ≤ 100; omega, fun x hx => by
        have e : x = y := by simpa [W.inner] using hx
        rw [e]; exact h⟩
    | maybe y => exact .inr ⟨.inr (.inr (.inr rfl)), by show 1 ≤ 100; omega, fun x hx => by
        have e : x = y := by simpa [W.inner] using hx
        rw [e]; exact h⟩
    | _ => exact h.elim
def spAll (c : Cs) (ok : W → Prop) : Sp := fun vs H Q _ => ∃ (v : V) (w : W) (z : List Nat) (kv : V), vs = [v, .str (tx z), kv] ∧ ObjAt c H v w ∧ ok w ∧ z.length ≤ 10000 ∧ ∀ (q : Addr) (H' : Hp), Same H H' → H q = none → H' q = some (.lst (iV (mks z w))) → Q (.ref q) H'
section
variable {P : Program} {w : World} {K : PySem.W.Frag} {mg : Str → Option Value} {base : Heap} {c : Cs} {n : Nat}
theorem d_never {x : Str} {st : Stmt} {ps : List Str} {k : Nat} (h : Here K mg x st ps) {sp : Sp} (hs : ∀ vs H Q E, ¬ sp vs H Q E) : DefOk P w K mg base k x ps sp := by
  obtain ⟨f, fd, F, m, b⟩ := h.ex
  exact ⟨f, fd, m, F.kp, b, ⟨fun vs H Q E q => absurd q (hs _ _ _ _), fun A outer s H args us vs Q E _ _ _ _ q => absurd q (hs _ _ _ _)⟩⟩
abbrev s_all_ends : Stmt := top 48
theorem sc_all_ends : FnScope ["way", "text", "known", "kind", "places", "inner", "only", "place", "end", "part"] ["way", "text", "known"] (defScope s_all_ends) := ⟨rfl, rfl, rfl, by decide +kernel, rfl, by decide +kernel, by decide +kernel⟩
theorem s_all_ends' (h : Here K mg "all_ends" s_all_ends ["way", "text", "known"]) (B : Bs mg) (Cn : Kn mg) (G_kind_of : DefOk P w K mg base 1 "kind_of" ["way"] (spKind c)) (G_made_of : DefOk P w K mg base 1 "made_of" ["way"] (spMadeOf c))
    (G_all_ends_of_row : ∀ z, DefOk P w K mg base 3 "all_ends_of_row" ["inner", "place"] (spRowM z)) (G_all_ends_of_choice : ∀ z, DefOk P w K mg base 1 "all_ends_of_choice" ["inner", "place"] (spChM z))
    (G_all_ends_of_again : ∀ z, DefOk P w K mg base 3 "all_ends_of_again" ["spread"] (spAgM z)) (G_end_at : EndOk P w K mg base c 0)
    (G_all_ends : DefOk P w K mg base (n + 4) "all_ends" ["way", "text", "known"] (spAll c (okn n))) : DefOk P w K mg base (n + 5) "all_ends" ["way", "text", "known"] (spAll c (okn (n + 1))) := by
  have B_len := B.len; have B_range := B.range
  have GC_NOWHERE := Cn.n; have GC_ROW := Cn.c.k3; have GC_CHOICE := Cn.c.k4; have GC_AGAIN := Cn.c.k5; have GC_MAYBE := Cn.c.k6
  refine h.ok sc_all_ends (fun vs H Q E h => by obtain ⟨_, _, _, _, rfl, _⟩ := h; rfl) (fun f cdv A' outer s H vs Q E hr h => ?_)
  obtain ⟨v, x, z, kv, rfl, hv, hok, hz, k⟩ := h
  have G_all_ends_of_row := G_all_ends_of_row z
  have G_all_ends_of_choice := G_all_ends_of_choice z
  have G_all_ends_of_again := G_all_ends_of_again z
  refine ⟨_, (pss_cons (ps_set (i := 3) sc_all_ends.nd rfl (Or.inl rfl) (pe_callD G_kind_of (hr.mono (by first | decide | omega)) rfl (pa_cons (pv 0) pa_nil)))
  (pss_cons (ps_set (i := 4) sc_all_ends.nd rfl (Or.inl rfl) (pe_callTy cr_range1 rfl B_range (by decide +kernel) (pa_cons (pe_op op_add (pe_callB call_len_str rfl B_len PySem.boot_len (pa_cons (pv 1) pa_nil)) pe_int) pa_nil)))
  (pss_cons (ps_if (pt_cmpR op_in_seq (pv 3) (pe_tup (pa_cons (pe_globI rfl GC_ROW) (pa_cons (pe_globI rfl GC_CHOICE) (pa_cons (pe_globI rfl GC_AGAIN) (pa_cons (pe_globI rfl GC_MAYBE) pa_nil))))) (by rfl)) (pss_cons (ps_set (i := 5) sc_all_ends.nd rfl (Or.inr rfl) (pe_lc (own := [("part", 9)]) (g := (gName 9)) (tt := tYes) rfl sc_all_ends.nd (pi_tup (pe_callD G_made_of (hr.mono (by first | decide | omega)) rfl (pa_cons (pv 0) pa_nil))) (blkOk_by (own := [("part", 9)]) (N := ["way", "text", "known", "kind", "places", "inner", "only", "place", "end", "part"]) (sc := defScope s_all_ends) (by decide +kernel)) (fun _ _ _ _ _ => pg_name (i := 9) sc_all_ends.nd rfl (Or.inl rfl)) (fun _ _ _ _ _ => pts_nil) (fun _ _ _ _ _ => (pe_callD G_all_ends (hr.mono (by first | decide | omega)) rfl (pa_cons (pv 9) (pa_cons (pv 1) (pa_cons (pv 2) pa_nil)))))))
  (pss_cons (ps_if (pt_cmpR op_eq (pv 3) (pe_globI rfl GC_ROW) (nomark _)) (pss_one (ps_ret (pe_lc (own := [("place", 7)]) (g := (gName 7)) (tt := tYes) rfl sc_all_ends.nd (pi_rg (prg_v (pv 4))) (blkOk_by (own := [("place", 7)]) (N := ["way", "text", "known", "kind", "places", "inner", "only", "place", "end", "part"]) (sc := defScope s_all_ends) (by decide +kernel)) (fun _ _ _ _ _ => pg_name (i := 7) sc_all_ends.nd rfl (Or.inl rfl)) (fun _ _ _ _ _ => pts_nil) (fun _ _ _ _ _ => (pe_callD G_all_ends_of_row (hr.mono (by first | decide | omega)) rfl (pa_cons (pv 5) (pa_cons (pv 7) pa_nil))))))) pss_nil)
  (pss_cons (ps_if (pt_cmpR op_eq (pv 3) (pe_globI rfl GC_CHOICE) (nomark _)) (pss_one (ps_ret (pe_lc (own := [("place", 7)]) (g := (gName 7)) (tt := tYes) rfl sc_all_ends.nd (pi_rg (prg_v (pv 4))) (blkOk_by (own := [("place", 7)]) (N := ["way", "text", "known", "kind", "places", "inner", "only", "place", "end", "part"]) (sc := defScope s_all_ends) (by decide +kernel)) (fun _ _ _ _ _ => pg_name (i := 7) sc_all_ends.nd rfl (Or.inl rfl)) (fun _ _ _ _ _ => pts_nil) (fun _ _ _ _ _ => (pe_callD G_all_ends_of_choice (hr.mono (by first | decide | omega)) rfl (pa_cons (pv 5) (pa_cons (pv 7) pa_nil))))))) pss_nil)
  (pss_cons (ps_if (pt_cmpR op_eq (pv 3) (pe_globI rfl GC_AGAIN) (nomark _)) (pss_one (ps_ret (pe_callD G_all_ends_of_again (hr.mono (by first | decide | omega)) rfl (pa_cons (pe_ix ix_list (pv 5) pe_int (fun _ _ => rfl)) pa_nil)))) pss_nil)
  (pss_one (ps_ret (pe_lc (own := [("place", 7)]) (g := (gName 7)) (tt := tYes) rfl sc_all_ends.nd (pi_rg (prg_v (pv 4))) (blkOk_by (own := [("place", 7)]) (N := ["way", "text", "known", "kind", "places", "inner", "only", "place", "end", "part"]) (sc := defScope s_all_ends) (by decide +kernel)) (fun _ _ _ _ _ => pg_name (i := 7) sc_all_ends.nd rfl (Or.inl rfl)) (fun _ _ _ _ _ => pts_nil) (fun _ _ _ _ _ => (pe_op op_or (pe_ix (ix_listK (K := K) rfl) (pe_ix (ix_listK (K := K) rfl) (pv 5) pe_int (fun _ _ => rfl)) (pv 7) (fun _ _ => rfl)) (pe_op op_oneShl pe_int (pv 7))))))))))) pss_nil)
  (pss_cons (ps_setLc (i := 6) (own := [("place", 7)]) (g := (gName 7)) (tt := tYes) rfl sc_all_ends.nd rfl rfl (sw_true rfl rfl rfl (by decide +kernel)) (pi_rg (prg_v (pv 4))) (blkOk_by (own := [("place", 7)]) (N := ["way", "text", "known", "kind", "places", "inner", "only", "place", "end", "part"]) (sc := defScope s_all_ends) (by decide +kernel)) (fun _ _ _ _ _ => pg_name (i := 7) sc_all_ends.nd rfl (Or.inl rfl)) (fun _ _ _ _ _ => pts_nil) (fun _ _ _ _ _ => (pe_methE G_end_at (hr.mono (by first | decide | omega)) (pv 0) (pa_cons (pv 1) (pa_cons (pv 7) (pa_cons (pv 2) pa_nil))))))
  (pss_one (ps_ret (pe_lc (own := [("end", 8)]) (g := (gName 8)) (tt := tYes) rfl sc_all_ends.nd (pi_list (pv 6)) (blkOk_by (own := [("end", 8)]) (N := ["way", "text", "known", "kind", "places", "inner", "only", "place", "end", "part"]) (sc := defScope s_all_ends) (by decide +kernel)) (fun _ _ _ _ _ => pg_name (i := 8) sc_all_ends.nd rfl (Or.inl rfl)) (fun _ _ _ _ _ => pts_nil) (fun _ _ _ _ _ => (pe_ifExp (pt_cmpR op_eq (pv 8) (pe_globI rfl GC_NOWHERE) (nomark _)) pe_int (pe_op op_oneShl pe_int (pv 8))))))))))), ?_⟩
  refine ⟨_, rfl, v, x, rfl, hv, ?_⟩
  walk_at "nx"
  have hl : (tx z).length = z.length := by simp [Str.length, tx]
  refine ⟨_, rfl, _, rfl, by rw [hl]; exact Nat.le_of_lt (small' (by omega)), ?_⟩
  rw [hl]
  refine ⟨_, _, rfl, rfl, _, rfl, fun r hr => ?_⟩
  have s1 := Same.new hr (.rng 0 ((z.length : Int) + 1))
  have hr1 : upd H r (.rng 0 ((z.length : Int) + 1)) r = some (.rng 0 ((z.length : Int) + 1)) := upd_same
  generalize upd H r (.rng 0 ((z.length : Int) + 1)) = H1 at *
  walk_at "nx"
  refine ⟨_, rfl, by show 4 ≤ sizeLine; decide, fun q2 hq2 => ?_⟩
  have s2 := Same.new hq2 (.tup [.int 3, .int 4, .int 5, .int 6])
  have hq3 : upd H1 q2 (.tup [.int 3, .int 4, .int 5, .int 6]) q2 = some (.tup [.int 3, .int 4, .int 5, .int 6]) := upd_same
  generalize upd H1 q2 (.tup [.int 3, .int 4, .int 5, .int 6]) = H2 at *
  have s12 := s1.trans s2
  have hr2 := s2 _ _ hr1
  have hv2 := ObjAt.keep (stillS s12) _ _ hv
  have k2 : ∀ (q : Addr) (H' : Hp), Same H2 H' → H2 q = none → H' q = some (.lst (iV (mks z x))) → Q (.ref q) H' := fun q H' sx hq hq2 => k q H' (s12.trans sx) (by
    cases e : H q with
    | none => rfl
    | some o => rw [s12 _ _ e] at hq; cases hq) hq2
  refine ⟨q2, _, rfl, .inr (SqT.of hq3), rfl, rfl, _, rfl, ?_⟩
  rw [if_neg Bool.false_ne_true]
  rcases good_in hok with ⟨x0, rfl⟩ | ⟨hk, hin, hall⟩
  · rw [show inV (V.int ((W.letter x0).kind : Nat)) [.int 3, .int 4, .int 5, .int 6] = false from rfl]
    refine iteF ?_
    walk_at "nx"
    refine ⟨_, rfl, r, _, _, rfl, hr2, ⟨by omega, by omega, by omega, by omega⟩, fun D hD => ?_⟩
    rw [show (((z.length : Int) + 1 - 0).toNat) = z.length + 1 by omega]
    refine lc_range (fun i Hx => Hx D = some (.lst ((tab z (.letter x0)).take i)) ∧ Same H2 Hx) ?_ ?_ ?_
    · exact ⟨upd_same, Same.new hD _⟩
    · rintro i Hx hi ⟨hd, sx⟩
      rw [Int.zero_add]
      have hi' : i ≤ z.length := by omega
      have hvx := ObjAt.keep (stillS sx) _ _ hv2
      refine ⟨rfl, _, rfl, .letter x0, hvx, ⟨x0, rfl⟩, _, rfl, _, rfl, _, rfl, v, z, i, kv, rfl, hvx, .inl ⟨x0, rfl⟩, hi', hz, ?_⟩
      refine ⟨_, hd, small' (by rw [List.length_take, tab_len]; omega), ?_, Same.put hD sx _⟩
      rw [upd_same, take_more' (tab_at hi')]
    · rintro Hx ⟨hd, sx⟩
      rw [List.take_of_length_le (by rw [tab_len]; exact Nat.le_refl _)] at hd
      walk_at "nx"
      refine ⟨_, rfl, D, rfl, ⟨_, SqL.of hd⟩, fun D2 hD2 => ?_⟩
      have hleaf : ∀ i, en z (.letter x0) i = fun q => decide (ew z (.letter x0) i = some q) := fun i => by
        funext q
        conv => lhs; unfold en
      have hl3 : (iV (mks z (.letter x0))).length = z.length + 1 := by simp only [iV, List.length_map, mks_len]
      refine lc_list (K := K) (a := D) (xs := tab z (.letter x0)) (fun i Hy => Hy D2 = some (.lst ((iV (mks z (.letter x0))).take i)) ∧ Same Hx Hy) ?_ ?_ ?_ ?_
      · exact ⟨upd_same, Same.new hD2 _⟩
      · rintro i Hy _ ⟨_, sy⟩
        exact SqL.of (sy _ _ hd)
      · rintro i e Hy he ⟨hd2, sy⟩
        have hi : i < (tab z (.letter x0)).length := (List.getElem?_eq_some_iff.mp he).1
        rw [tab_len] at hi
        have hi' : i ≤ z.length := by omega
        rw [tab_at hi'] at he
        have ee := Option.some.inj he
        subst ee
        refine ⟨rfl, _, rfl, rfl, _, rfl, ?_⟩
        rw [eI_no]
        have hnext : (iV (mks z (.letter x0))).take (i + 1) = (iV (mks z (.letter x0))).take i ++ [.int (mk z.length (en z (.letter x0) i) : Nat)] := take_more' (iV_at (mks_at hi'))
        cases c2 : ew z (.letter x0) i with
        | none =>
          have e9 : mk z.length (en z (.letter x0) i) = 0 := by
            rw [hleaf i, c2]
            exact (mk_congr fun q _ => decide_eq_false (by intro q; cases q)).trans (mk_none z.length).symm
          rw [e9] at hnext
          refine iteT ⟨_, hd2, small' (by rw [List.length_take, hl3]; omega), ?_, Same.put hD2 sy _⟩
          rw [upd_same, hnext]
          rfl
        | some j =>
          have hj := ew_in z (.letter x0) i j hi' c2
          have e9 : mk z.length (en z (.letter x0) i) = 2 ^ j := by
            rw [hleaf i, c2, mk_one hj.2]
            refine mk_congr fun q _ => ?_
            rw [decide_eq_decide]
            exact ⟨fun q => Option.some.inj q, fun q => by rw [q]⟩
          rw [e9] at hnext
          refine iteF ⟨_, rfl, j, rfl, rfl, by omega, _, hd2, small' (by rw [List.length_take, hl3]; omega), ?_, Same.put hD2 sy _⟩
          rw [upd_same, hnext, int_pow]
      · rintro Hy ⟨hd2, sy⟩
        rw [tab_len, List.take_of_length_le (by rw [hl3]; exact Nat.le_refl _)] at hd2
        refine k2 D2 Hy (sx.trans sy) ?_ hd2
        cases e : H2 D2 with
        | none => rfl
        | some o => rw [sx _ _ e] at hD2; cases hD2
  · have hc : inV (V.int (x.kind : Nat)) [.int 3, .int 4, .int 5, .int 6] = true := by rcases hk with e | e | e | e <;> (rw [e]; rfl)
    rw [hc]
    refine iteT ?_
    refine ⟨_, rfl, v, x, rfl, hv2, fun tt us H3 s3 htt hus => ?_⟩
    refine ⟨tt, rfl, ⟨us, SqT.of htt⟩, fun D hD => ?_⟩
    have ll := ObjsAt.len _ _ hus
    refine lc_tup (K := K) (a := tt) (xs := us) (fun i Hx => ∃ ms, Hx D = some (.lst ms) ∧ ms.length = i ∧ MabsAt z Hx ms (x.inner.take i) ∧ (∀ v ∈ ms, v ≠ .ref D) ∧ Same H3 Hx) ?_ ?_ ?_ ?_
    · exact ⟨[], upd_same, rfl, rfl, fun v hv => (nomatch hv), Same.new hD _⟩
    · rintro i Hx _ ⟨_, _, _, _, _, sx⟩
      exact SqT.of (sx _ _ htt)
    · rintro i e Hx he ⟨ms, hms, hml, hmt, hmn, sx⟩
      obtain ⟨wy, hwy, hoy⟩ := Tk.ObjsAt.at_v hus he
      have hi := (List.getElem?_eq_some_iff.mp hwy).1
      refine ⟨rfl, _, rfl, _, rfl, _, rfl, e, wy, z, kv, rfl, ObjAt.keep (stillS sx) _ _ hoy, hall wy (List.mem_of_getElem? hwy), hz, fun q H4 s4 hq hq4 => ?_⟩
      have hms4 := s4 _ _ hms
      have nqD : q ≠ D := fun e => by rw [e, hms] at hq; cases hq
      refine ⟨ms, hms4, small' (by omega), ms ++ [.ref q], upd_same, by rw [List.length_append, hml]; rfl, ?_, fun v hv => ?_, Same.put hD (sx.trans s4) _⟩
      · rw [take_more' hwy]
        exact MabsAt.snoc (by rw [upd_ne nqD]; exact hq4) _ _ (MabsAt.put _ _ hmn (MabsAt.keep s4 _ _ hmt))
      · rcases List.mem_append.mp hv with hv | hv
        · exact hmn v hv
        · rw [List.mem_singleton] at hv
          rw [hv]
          exact fun q => nqD (V.ref.inj q)
    · rintro H4 ⟨ms, hms, hml, hmt, _, s4⟩
      rw [ll, List.take_length] at hmt
      rw [ll] at hml
      have s34 := s3.trans s4
      have hr4 := s34 _ _ hr2
      have k3 : ∀ (q : Addr) (H' : Hp), Same H4 H' → H4 q = none → H' q = some (.lst (iV (mks z x))) → Q (.ref q) H' := fun q H' sx hq hq2 => k2 q H' (s34.trans sx) (by
        cases e : H2 q with
        | none => rfl
        | some o => rw [s34 _ _ e] at hq; cases hq) hq2
      clear k k2
      walk_at "nx"
      refine ⟨_, rfl, rfl, _, rfl, ite2 (fun e => ?_) (fun e3 => ?_)⟩
      · cases x <;> first | exact absurd (V.int.inj (of_decide_eq_true e)) (by simp only [W.kind]; omega) | skip
        rename_i ws
        refine mk_comp hr4 hz (fun i Hx hi sx Q' q => ?_) k3
        have ev : en z (.row ws) i = enR z ws i := by funext q; conv => lhs; unfold en
        rw [ev] at q
        exact ⟨_, rfl, _, rfl, D, ms, ws, i, rfl, sx _ _ hms, MabsAt.keep sx _ _ hmt, hi, hz, q⟩
      walk_at "nx"
      refine ⟨_, rfl, rfl, _, rfl, ite2 (fun e => ?_) (fun e4 => ?_)⟩
      · cases x <;> first | exact absurd (V.int.inj (of_decide_eq_true e)) (by simp only [W.kind]; omega) | skip
        rename_i ws
        refine mk_comp hr4 hz (fun i Hx hi sx Q' q => ?_) k3
        have ev : en z (.choice ws) i = enC z ws i := by funext q; conv => lhs; unfold en
        rw [ev] at q
        exact ⟨_, rfl, _, rfl, D, ms, ws, i, rfl, sx _ _ hms, MabsAt.keep sx _ _ hmt, hi, hz, q _ (fun _ _ h => h)⟩
      walk_at "nx"
      refine ⟨_, rfl, rfl, _, rfl, ite2 (fun e => ?_) (fun e5 => ?_)⟩
      · cases x <;> first | exact absurd (V.int.inj (of_decide_eq_true e)) (by simp only [W.kind]; omega) | skip
        rename_i y
        obtain ⟨b, us, ets, hb, hus⟩ := hmt
        subst ets
        exact ⟨_, rfl, D, _, _, _, rfl, rfl, SqL.of hms, atI0, b, y, rfl, hb, hz, fun q H' sx hq hq2 => k3 q H' sx hq hq2⟩
      walk_at "nx"
      have hk6 : x.kind = 6 := by
        rcases hk with q | q | q | q
        · exact absurd (decide_eq_true (by rw [q]; rfl)) e3
        · exact absurd (decide_eq_true (by rw [q]; rfl)) e4
        · exact absurd (decide_eq_true (by rw [q]; rfl)) e5
        · exact q
      cases x <;> first | exact absurd hk6 (by simp only [W.kind]; omega) | skip
      rename_i y
      obtain ⟨b, us, ets, hb, hus⟩ := hmt
      subst ets
      refine mk_comp hr4 hz (fun i Hx hi sx Q' q => ?_) k3
      have q' := q Hx (fun _ _ h => h)
      have ev : en z (.maybe y) i = fun r => en z y i r || decide (i = r) := by funext q; conv => lhs; unfold en
      rw [ev, ← or_mk, ← mk_one hi] at q'
      refine ⟨_, rfl, D, _, _, _, rfl, rfl, SqL.of (sx _ _ hms), atI0, _, rfl, b, _, _, _, rfl, rfl, SqL.of (sx _ _ hb), atI_nat (iV_at (mks_at hi)), _, rfl, i, rfl, rfl, by omega, _, _, rfl, rfl, ?_⟩
      rw [int_pow]
      exact q'
theorem d_all_ends (h : Here K mg "all_ends" s_all_ends ["way", "text", "known"]) (B : Bs mg) (Cn : Kn mg) (G1 : DefOk P w K mg base 1 "kind_of" ["way"] (spKind c)) (G2 : DefOk P w K mg base 1 "made_of" ["way"] (spMadeOf c))
    (G3 : ∀ z, DefOk P w K mg base 3 "all_ends_of_row" ["inner", "place"] (spRowM z)) (G4 : ∀ z, DefOk P w K mg base 1 "all_ends_of_choice" ["inner", "place"] (spChM z))
    (G5 : ∀ z, DefOk P w K mg base 3 "all_ends_of_again" ["spread"] (spAgM z)) (G6 : EndOk P w K mg base c 0) : ∀ n, DefOk P w K mg base (n + 4) "all_ends" ["way", "text", "known"] (spAll c (okn n))
  | 0 => d_never h fun vs H Q E ⟨_, _, _, _, _, _, q, _⟩ => q
  | n + 1 => s_all_ends' h B Cn G1 G2 G3 G4 G5 G6 (d_all_ends h B Cn G1 G2 G3 G4 G5 G6 n)
/-! ### no calls -/
def spRefuse (c : Cs) : Sp := fun vs H Q _ => ∃ (l : Addr) (v : V) (w : W), vs = [.ref l] ∧ H l = some (.lst [v]) ∧ ObjAt c H v w ∧ w.called = none ∧ Q .non H
abbrev s_refuse_calls : Stmt := top 46
theorem sc_refuse_calls : FnScope ["ways", "way"] ["ways"] (defScope s_refuse_calls) := ⟨rfl, rfl, rfl, by decide +kernel, rfl, by decide +kernel, by decide +kernel⟩
theorem d_refuse_calls (h : Here K mg "refuse_calls" s_refuse_calls ["ways"]) (T : ∀ u : W, ClsF K (c.of u)) : DefOk P w K mg base 1 "refuse_calls" ["ways"] (spRefuse c) := by
  refine h.ok sc_refuse_calls (fun vs H Q E h => by obtain ⟨_, _, _, rfl, _⟩ := h; rfl) (fun f cdv A' outer s H vs Q E hr h => ?_)
  obtain ⟨l, v, x, rfl, hl, hv, hc, k⟩ := h
  refine ⟨_, (pss_one (ps_for PassesOwn.never rfl (pi_list (pv 0)) (pg_name (i := 1) sc_refuse_calls.nd rfl (Or.inl rfl))
   (pss_one (ps_if (pt_cmpR op_notN (pe_fld (pv 1) rfl) pe_non (nomark _)) (pss_one ps_never) pss_nil)))), ?_⟩
  refine ⟨_, rfl, l, rfl, ⟨_, SqL.of hl⟩, ?_⟩
  refine for_list (K := K) (a := l) (xs := [v]) (fun i σ H' => ∃ x1 : Option V, σ = [some (.ref l), x1] ∧ H' = H) ?_ ?_ ?_ ?_
  · exact ⟨none, rfl, rfl⟩
  · rintro i σ H' _ ⟨_, rfl, rfl⟩
    exact SqL.of hl
  · rintro i e σ H1 he ⟨x1, rfl, rfl⟩
    cases i with
    | succ i => simp at he
    | zero =>
      cases he
      obtain ⟨a, d, fs, ea, ha, l1, l2⟩ := hv.notes
      refine gset ?_
      refine ⟨_, rfl, a, _, d, fs, _, ea, ha, (T x).cl, (T x).nc, l1, rfl, _, rfl, ?_⟩
      rw [hc]
      exact iteF ⟨_, rfl, rfl⟩
  · rintro σ H1 ⟨x1, rfl, rfl⟩
    exact k
/-! ### takes and ends -/
/-- what takes tells -/
def told (o : Option Nat) (p : Nat) : V := match o with
  | some q => .int ((q : Nat) - (p : Nat) : Int)
  | none => .non
/-- the numbers that ends tells -/
def endL (z : List Nat) (w : W) (p : Nat) : List Int := ((List.range (z.length + 1)).filter (en z w p)).map fun q => (((q : Nat) : Int) - ((p : Nat) : Int))
structure Plain (w : W) : Prop where
  g : good 3 w
  r : w.rounds ≤ 1
  c : w.called = none
def spTakes (c : Cs) : Sp := fun vs H Q _ => ∃ (v : V) (w : W) (z : List Nat) (p : Nat), vs = [v, .str (tx z), .int (p : Nat)] ∧ ObjAt c H v w ∧ Plain w ∧ z.length ≤ 10000 ∧ p ≤ z.length ∧ ∀ H', Same H H' → Q (told (ew z w p) p) H'
def spEnds (c : Cs) : Sp := fun vs H Q _ => ∃ (v : V) (w : W) (z : List Nat) (p : Nat), vs = [v, .str (tx z), .int (p : Nat)] ∧ ObjAt c H v w ∧ Plain w ∧ z.length ≤ 10000 ∧ p ≤ z.length ∧
  ∀ (q : Addr) (H' : Hp), Same H H' → H' q = some (.lst ((endL z w p).map V.int)) → Q (.ref q) H'
structure HereZ (K : PySem.W.Frag) (mg : Str → Option Value) (x : Str) (st : Stmt) (ps : List Str) : Prop where
  ex : ∃ (f : Addr) (fd : FuncData), FunD K x x (defArgs st) (defBody st) (defScope st) [.int 0] [] f fd ∧ mg x = some (.ref f) ∧ Binds K fd ps [] ∧ ∃ ds, Vals [V.int 0] ds ∧ Binds K fd ps ds
structure DefZ (P : Program) (w : World) (K : PySem.W.Frag) (mg : Str → Option Value) (base : Heap) (k : Nat) (x : Str) (ps : List Str) (sp : Sp) : Prop where
  ex : ∃ (f : Addr) (fd : FuncData), mg x = some (.ref f) ∧ PySem.W.keepIn K (.ref f) = true ∧ Binds K fd ps [] ∧ (∃ ds, Vals [V.int 0] ds ∧ Binds K fd ps ds) ∧ FnOk P w K mg base CX0 k f fd ps sp
theorem DefZ.all {k : Nat} {x : Str} {ps : List Str} {sp : Sp} (h : DefZ P w K mg base k x ps sp) : DefOk P w K mg base k x ps sp := by
  obtain ⟨f, fd, a, b, c, _, d⟩ := h.ex
  exact ⟨f, fd, a, b, c, d⟩
theorem HereZ.ok {x : Str} {st : Stmt} {N ps : List Str} {k : Nat} {sp : Sp} (h : HereZ K mg x st ps) (S : FnScope N ps (defScope st)) (len : ∀ vs H Q E, sp vs H Q E → vs.length = ps.length)
    (hbody : ∀ (f : Addr) (cdv : Value) (A : Around) (outer : List Env) (s : Shared) (H : Hp) (vs : List V) (Q : VK) (E : XK), Room k (A.deeper (envOfC x (defScope st) s.heap.objs.size f cdv)) → sp vs H Q E →
      ∃ t, PSs (cxOf CX0 P w K mg base N x (defScope st) f cdv A outer s H E) (defBody st) t ∧ t { nx := fun _ H' => Q .non H', rt := Q } (start N vs) H) : DefZ P w K mg base (k + 1) x ps sp := by
  obtain ⟨f, fd, F, m, b, b2⟩ := h.ex
  exact ⟨f, fd, m, F.kp, b, b2, F.ok S len fun cdv A outer s H vs Q E hr q => hbody f cdv A outer s H vs Q E hr q⟩
theorem pe_callZ {X : Cx} {k : Nat} {x : Str} {ps : List Str} {sp : Sp} {e : Expr} {es : List Expr} {t : TA} {p pos : Pos} (G : DefZ X.prog X.w X.K X.mg X.base k x ps sp) (hr : Room k X.A) (hg : Gl X x) (ha : PA X (e :: es) t) (hdb : (x == ("__debug__" : Str)) = false := by decide)
    (he : starEach (e :: es) X.env = (false, eval e X.env) :: starEach es X.env := by rfl) (hpl : (backTo pos (starEach es X.env)).any (·.1) = false := by rfl) :
    PE X (.Call (.Name x p) (e :: es) [] pos) (tCall sp [V.int 0] E0 t) := by
  obtain ⟨f, fd, m, kp, _, ⟨ds, r, b⟩, F⟩ := G.ex
  exact pe_call F hr hg m kp b r pass0 ha hdb he hpl
abbrev s_takes : Stmt := top 55
theorem sc_takes : FnScope ["way", "text", "place", "end"] ["way", "text", "place"] (defScope s_takes) := ⟨rfl, rfl, rfl, by decide +kernel, rfl, by decide +kernel, by decide +kernel⟩
theorem d_takes (h : HereZ K mg "takes" s_takes ["way", "text", "place"]) (Cn : Kn mg) (G_refuse_calls : DefOk P w K mg base 1 "refuse_calls" ["ways"] (spRefuse c)) (G_end_at : EndOk P w K mg base c 3) : DefZ P w K mg base 5 "takes" ["way", "text", "place"] (spTakes c) := by
  have GC_NOWHERE := Cn.n
  refine h.ok sc_takes (fun vs H Q E h => by obtain ⟨_, _, _, _, rfl, _⟩ := h; rfl) (fun f cdv A' outer s H vs Q E hr h => ?_)
  obtain ⟨v, x, z, p, rfl, hv, hx, hz, hp, k⟩ := h
  refine ⟨_, (pss_cons (ps_expr (pe_callD G_refuse_calls (hr.mono (by first | decide | omega)) rfl (pa_cons (pe_lst (pa_cons (pv 0) pa_nil)) pa_nil)))
  (pss_cons (ps_set (i := 3) sc_takes.nd rfl (Or.inl rfl) (pe_methE G_end_at (hr.mono (by first | decide | omega)) (pv 0) (pa_cons (pv 1) (pa_cons (pv 2) (pa_cons pe_non pa_nil)))))
  (pss_one (ps_ret (pe_ifExp (pt_cmpR op_eq (pv 3) (pe_globI rfl GC_NOWHERE) (nomark _)) pe_non (pe_op op_sub (pv 3) (pv 2))))))), ?_⟩
  refine ⟨_, rfl, by show 1 ≤ sizeLine; decide, fun l1 hl1 => ?_⟩
  have s1 := Same.new hl1 (.lst [v])
  have hv1 := ObjAt.keep (stillS s1) _ _ hv
  refine ⟨l1, v, x, rfl, upd_same, hv1, hx.c, ?_⟩
  walk_at "nx"
  refine ⟨_, rfl, x, hv1, hx.g, _, rfl, _, rfl, v, z, p, .non, rfl, hv1, .inr ⟨rfl, hx.r⟩, hp, hz, ?_⟩
  walk_at "nx"
  refine ⟨_, rfl, rfl, _, rfl, ?_⟩
  rw [eI_no]
  have k' := k _ s1
  cases e : ew z x p with
  | none =>
    rw [e] at k'
    exact iteT k'
  | some r =>
    rw [e] at k'
    exact iteF ⟨_, rfl, _, rfl, _, _, rfl, rfl, k'⟩
abbrev s_ends : Stmt := top 56
theorem sc_ends : FnScope ["way", "text", "place", "end"] ["way", "text", "place"] (defScope s_ends) := ⟨rfl, rfl, rfl, by decide +kernel, rfl, by decide +kernel, by decide +kernel⟩
theorem d_ends (h : HereZ K mg "ends" s_ends ["way", "text", "place"]) (G_refuse_calls : DefOk P w K mg base 1 "refuse_calls" ["ways"] (spRefuse c)) (G_all_ends : DefOk P w K mg base 8 "all_ends" ["way", "text", "known"] (spAll c (okn 4))) (G_places_of : DefOk P w K mg base 1 "places_of" ["bits"] spPlaces) : DefZ P w K mg base 9 "ends" ["way", "text", "place"] (spEnds c) := by
  refine h.ok sc_ends (fun vs H Q E h => by obtain ⟨_, _, _, _, rfl, _⟩ := h; rfl) (fun f cdv A' outer s H vs Q E hr h => ?_)
  obtain ⟨v, x, z, p, rfl, hv, hx, hz, hp, k⟩ := h
  refine ⟨_, (pss_cons (ps_expr (pe_callD G_refuse_calls (hr.mono (by first | decide | omega)) rfl (pa_cons (pe_lst (pa_cons (pv 0) pa_nil)) pa_nil)))
  (pss_one (ps_ret (pe_lc (own := [("end", 3)]) (g := (gName 3)) (tt := tYes) rfl sc_ends.nd (pi_list (pe_callD G_places_of (hr.mono (by first | decide | omega)) rfl (pa_cons (pe_ix ix_list (pe_callD G_all_ends (hr.mono (by first | decide | omega)) rfl (pa_cons (pv 0) (pa_cons (pv 1) (pa_cons pe_dnewK pa_nil)))) (pv 2) (fun _ _ => rfl)) pa_nil))) (blkOk_by (own := [("end", 3)]) (N := ["way", "text", "place", "end"]) (sc := defScope s_ends) (by decide +kernel)) (fun _ _ _ _ _ => pg_name (i := 3) sc_ends.nd rfl (Or.inl rfl)) (fun _ _ _ _ _ => pts_nil) (fun _ _ _ _ _ => (pe_op op_sub (pv 3) (pv 2))))))), ?_⟩
  refine ⟨_, rfl, by show 1 ≤ sizeLine; decide, fun l1 hl1 => ?_⟩
  have s1 := Same.new hl1 (.lst [v])
  have hv1 := ObjAt.keep (stillS s1) _ _ hv
  refine ⟨l1, v, x, rfl, upd_same, hv1, hx.c, ?_⟩
  generalize upd H l1 (.lst [v]) = H1 at *
  walk_at "nx"
  refine ⟨_, rfl, _, rfl, fun kd hkd => ?_⟩
  have s2 := s1.trans (Same.new hkd (.dK []))
  have hv2 := ObjAt.keep (stillS (Same.new hkd (.dK []))) _ _ hv1
  refine ⟨v, x, z, .ref kd, rfl, hv2, hx.g, hz, fun b H3 s3 hbn hb => ?_⟩
  refine ⟨_, rfl, b, _, _, _, rfl, rfl, SqL.of hb, atI_nat (iV_at (mks_at hp)), ?_⟩
  have sA := s2.trans s3
  refine ⟨_, z.length + 1, rfl, mk_lt _ _, by omega, fun q7 H7 s7 hq7 => ?_⟩
  rw [bits_mk] at hq7
  refine ⟨q7, rfl, ⟨_, SqL.of hq7⟩, fun D hD => ?_⟩
  have hfl : ((List.range (z.length + 1)).filter (en z x p)).length ≤ z.length + 1 := by
    have := List.length_filter_le (en z x p) (List.range (z.length + 1))
    rw [List.length_range] at this
    exact this
  refine lc_list (K := K) (a := q7) (xs := iV ((List.range (z.length + 1)).filter (en z x p))) (fun i Hx => Hx D = some (.lst (((endL z x p).map V.int).take i)) ∧ Same H7 Hx) ?_ ?_ ?_ ?_
  · exact ⟨upd_same, Same.new hD _⟩
  · rintro i Hx _ ⟨_, sx⟩
    exact SqL.of (sx _ _ hq7)
  · rintro i e Hx he ⟨hd, sx⟩
    obtain ⟨j, hj, rfl⟩ := iV_back he
    have hnext : ((endL z x p).map V.int)[i]? = some (.int (((j : Nat) : Int) - ((p : Nat) : Int))) := by
      unfold endL
      rw [List.getElem?_map, List.getElem?_map, hj]
      rfl
    refine ⟨rfl, _, rfl, _, rfl, _, _, rfl, rfl, _, hd, small' (by rw [List.length_take]; unfold endL; rw [List.length_map, List.length_map]; omega), ?_, Same.put hD sx _⟩
    rw [upd_same, take_more' hnext]
  · rintro Hx ⟨hd, sx⟩
    rw [List.take_of_length_le (by unfold endL; simp only [iV, List.length_map]; exact Nat.le_refl _)] at hd
    exact k D Hx ((sA.trans s7).trans sx) hd
end
end Tk
namespace Su
open PySem PySem.Spec PyProof.Rows L2 Wv Tk
/-! ### ways of one letter: what they take, where they might end -/
/-- the first M places of the text bear the letter, the next one does not -/
structure Run (z : List Nat) (c M : Nat) : Prop where
  le : M ≤ z.length
  on : ∀ i, i < M → z[i]? = some c
  off : z[M]? ≠ some c
def same (c s : Nat) : W := if s = 1 then .letter c else .row (List.replicate s (.letter c))
def one (c : Nat) (ss : List Nat) : W := match ss with
  | [s] => same c s
  | _ => .choice (ss.map (same c))
section
variable {z : List Nat} {c M : Nat}
theorem ew_letter (R : Run z c M) {p : Nat} (hp : p ≤ M) : ew z (.letter c) p = if p + 1 ≤ M then some (p + 1) else none := by
  have e : ew z (.letter c) p = if z[p]? = some c then some (p + 1) else none := by conv => lhs; unfold ew
  rw [e]
  by_cases h : p < M
  · rw [if_pos (R.on p h), if_pos (by omega)]
  · have e2 : p = M := by omega
    rw [e2, if_neg R.off, if_neg (by omega)]
theorem ewR_rep (R : Run z c M) : ∀ (s p : Nat), p ≤ M → ewR z (List.replicate s (.letter c)) p = if p + s ≤ M then some (p + s) else none
  | 0, p, hp => by
    rw [List.replicate_zero, if_pos (by omega)]
    unfold ewR
    rfl
  | s + 1, p, hp => by
    rw [List.replicate_succ]
    unfold ewR
    rw [ew_letter R hp]
    by_cases h : p + 1 ≤ M
    · rw [if_pos h]
      dsimp only
      rw [ewR_rep R s (p + 1) h]
      by_cases h2 : p + 1 + s ≤ M
      · rw [if_pos h2, if_pos (by omega)]; congr 1; omega
      · rw [if_neg h2, if_neg (by omega)]
    · rw [if_neg h, if_neg (by omega)]
theorem ew_same (R : Run z c M) {s p : Nat} (hp : p ≤ M) : ew z (same c s) p = if p + s ≤ M then some (p + s) else none := by
  unfold same
  by_cases h : s = 1
  · rw [if_pos h, h, ew_letter R hp]
  · rw [if_neg h]
    conv => lhs; unfold ew
    exact ewR_rep R s p hp
theorem en_letter (R : Run z c M) {p q : Nat} (hp : p ≤ M) : en z (.letter c) p q = decide (p + 1 ≤ M ∧ q = p + 1) := by
  conv => lhs; unfold en
  rw [ew_letter R hp, decide_eq_decide]
  by_cases h : p + 1 ≤ M
  · rw [if_pos h]
    exact ⟨fun e => ⟨h, (Option.some.inj e).symm⟩, fun e => by rw [e.2]⟩
  · rw [if_neg h]
    exact ⟨fun e => (by cases e), fun e => absurd e.1 h⟩
theorem enR_rep (R : Run z c M) : ∀ (s p q : Nat), p ≤ M → enR z (List.replicate s (.letter c)) p q = decide (p + s ≤ M ∧ q = p + s)
  | 0, p, q, hp => by
    rw [List.replicate_zero]
    unfold enR
    rw [decide_eq_decide]
    omega
  | s + 1, p, q, hp => by
    rw [List.replicate_succ, Bool.eq_iff_iff, decide_eq_true_iff]
    unfold enR
    rw [anyN_true]
    constructor
    · rintro ⟨r, hr, h⟩
      rw [Bool.and_eq_true, en_letter R hp, decide_eq_true_iff] at h
      obtain ⟨⟨h1, h2⟩, h3⟩ := h
      rw [enR_rep R s r q (by omega), decide_eq_true_iff] at h3
      omega
    · rintro ⟨h1, h2⟩
      have := R.le
      refine ⟨p + 1, by omega, ?_⟩
      rw [Bool.and_eq_true, en_letter R hp, decide_eq_true_iff, enR_rep R s (p + 1) q (by omega), decide_eq_true_iff]
      omega
theorem en_same (R : Run z c M) {s p q : Nat} (hp : p ≤ M) : en z (same c s) p q = decide (p + s ≤ M ∧ q = p + s) := by
  unfold same
  by_cases h : s = 1
  · rw [if_pos h, h, en_letter R hp]
  · rw [if_neg h]
    conv => lhs; unfold en
    exact enR_rep R s p q hp
/-! rounds -/
def fits (M : Nat) (ss : List Nat) (p : Nat) : List Nat := ss.filter fun s => decide (p + s ≤ M)
theorem ewC_same (R : Run z c M) {p : Nat} (hp : p ≤ M) : ∀ ss : List Nat, ewC z (ss.map (same c)) p = (fits M ss p).head?.map fun s => p + s
  | [] => by unfold ewC; rfl
  | s :: ss => by
    rw [List.map_cons]
    unfold ewC
    rw [ew_same R hp, ewC_same R hp ss]
    unfold fits
    rw [List.filter_cons]
    by_cases h : p + s ≤ M
    · rw [if_pos h, if_pos (decide_eq_true h)]; rfl
    · rw [if_neg h, if_neg (by simpa using h)]
theorem ew_one (R : Run z c M) {p : Nat} (hp : p ≤ M) (ss : List Nat) : ew z (one c ss) p = (fits M ss p).head?.map fun s => p + s := by
  have many : ew z (.choice (ss.map (same c))) p = (fits M ss p).head?.map fun s => p + s := by
    conv => lhs; unfold ew
    exact ewC_same R hp ss
  match ss with
  | [] => exact many
  | [s] =>
    show ew z (same c s) p = _
    rw [ew_same R hp]
    unfold fits
    rw [List.filter_cons]
    by_cases h : p + s ≤ M
    · rw [if_pos h, if_pos (decide_eq_true h)]; rfl
    · rw [if_neg h, if_neg (by simpa using h)]; rfl
  | _ :: _ :: _ => exact many
theorem enC_same (R : Run z c M) {p q : Nat} (hp : p ≤ M) : ∀ ss : List Nat, enC z (ss.map (same c)) p q = ss.any fun s => decide (p + s ≤ M ∧ q = p + s)
  | [] => by unfold enC; rfl
  | s :: ss => by
    rw [List.map_cons, List.any_cons]
    unfold enC
    rw [en_same R hp, enC_same R hp ss]
theorem en_one (R : Run z c M) {p q : Nat} (hp : p ≤ M) (ss : List Nat) : en z (one c ss) p q = ss.any fun s => decide (p + s ≤ M ∧ q = p + s) := by
  have many : en z (.choice (ss.map (same c))) p q = ss.any fun s => decide (p + s ≤ M ∧ q = p + s) := by
    conv => lhs; unfold en
    exact enC_same R hp ss
  match ss with
  | [] => exact many
  | [s] =>
    show en z (same c s) p q = _
    rw [en_same R hp, List.any_cons, List.any_nil, Bool.or_false]
  | _ :: _ :: _ => exact many
/-- one round as the law goes on -/
def stepT (M : Nat) (ss : List Nat) (p : Nat) : Nat := p + (fits M ss p).head?.getD 0
def iter (M : Nat) (ss : List Nat) : Nat → Nat → Nat
  | 0, p => p
  | k + 1, p => iter M ss k (stepT M ss p)
theorem iter_snoc (M : Nat) (ss : List Nat) : ∀ (k p : Nat), iter M ss (k + 1) p = stepT M ss (iter M ss k p)
  | 0, p => rfl
  | k + 1, p => by
    show iter M ss (k + 1) (stepT M ss p) = _
    rw [iter_snoc M ss k]
    rfl
theorem fits_mem {ss : List Nat} {p s : Nat} (h : (fits M ss p).head? = some s) : s ∈ ss ∧ p + s ≤ M := by
  have := List.mem_of_mem_head? (Option.mem_def.mpr h)
  unfold fits at this
  rw [List.mem_filter] at this
  exact ⟨this.1, of_decide_eq_true this.2⟩
theorem iter_stop {ss : List Nat} {p : Nat} (h : (fits M ss p).head? = none) : ∀ k, iter M ss k p = p
  | 0 => rfl
  | k + 1 => by
    show iter M ss k (stepT M ss p) = p
    have : stepT M ss p = p := by unfold stepT; rw [h]; rfl
    rw [this]
    exact iter_stop h k
theorem ew_rounds (R : Run z c M) {ss : List Nat} (hs : ∀ s ∈ ss, 0 < s) : ∀ (k p : Nat), p ≤ M → M ≤ k + p → ew z (.again (one c ss)) p = some (iter M ss k p)
  | 0, p, hp, hk => by
    have e : p = M := by omega
    rw [ew_again z (one c ss) p (by have := R.le; omega), ew_one R hp]
    cases h : (fits M ss p).head? with
    | none => rfl
    | some s =>
      obtain ⟨h1, h2⟩ := fits_mem h
      have := hs s h1
      omega
  | k + 1, p, hp, hk => by
    rw [ew_again z (one c ss) p (by have := R.le; omega), ew_one R hp]
    cases h : (fits M ss p).head? with
    | none =>
      rw [iter_stop h]
      rfl
    | some s =>
      obtain ⟨h1, h2⟩ := fits_mem h
      have h0 := hs s h1
      show (if p < p + s then ew z (.again (one c ss)) (p + s) else some p) = _
      rw [if_pos (by omega), ew_rounds R hs k (p + s) h2 (by omega)]
      show _ = some (iter M ss k (stepT M ss p))
      have : stepT M ss p = p + s := by unfold stepT; rw [h]; rfl
      rw [this]
/-- the sums up to m, as the law makes them -/
def sums (ss : List Nat) : Nat → List Nat
  | 0 => [0]
  | m + 1 => sums ss m ++ (if (ss.any fun s => decide (s ≤ m + 1) && decide (m + 1 - s ∈ sums ss m)) = true then [m + 1] else [])
theorem sums_le (ss : List Nat) : ∀ (m t : Nat), t ∈ sums ss m → t ≤ m
  | 0, t, h => by simp [sums] at h; omega
  | m + 1, t, h => by
    unfold sums at h
    rcases List.mem_append.mp h with h | h
    · have := sums_le ss m t h; omega
    · split at h
      · simp at h; omega
      · simp at h
theorem sums_stay (ss : List Nat) : ∀ (m t : Nat), t ≤ m → (t ∈ sums ss m ↔ t ∈ sums ss t)
  | 0, t, h => by have e : t = 0 := by omega
                  rw [e]
  | m + 1, t, h => by
    by_cases e : t = m + 1
    · rw [e]
    · have ih := sums_stay ss m t (by omega)
      rw [← ih]
      conv => lhs; unfold sums
      rw [List.mem_append]
      constructor
      · rintro (h | h)
        · exact h
        · split at h
          · simp at h; omega
          · simp at h
      · exact Or.inl
theorem sums_next (ss : List Nat) (hs : ∀ s ∈ ss, 0 < s) (t : Nat) : t + 1 ∈ sums ss (t + 1) ↔ ∃ s, s ∈ ss ∧ s ≤ t + 1 ∧ t + 1 - s ∈ sums ss (t + 1 - s) := by
  have hn : ¬ t + 1 ∈ sums ss t := fun h => by have := sums_le ss t _ h; omega
  conv => lhs; unfold sums
  rw [List.mem_append]
  constructor
  · rintro (h | h)
    · exact absurd h hn
    · split at h
      · rename_i q
        rw [List.any_eq_true] at q
        obtain ⟨s, h1, h2⟩ := q
        rw [Bool.and_eq_true, decide_eq_true_iff, decide_eq_true_iff] at h2
        have := hs s h1
        exact ⟨s, h1, h2.1, (sums_stay ss t _ (by omega)).mp h2.2⟩
      · simp at h
  · rintro ⟨s, h1, h2, h3⟩
    have := hs s h1
    refine Or.inr ?_
    rw [if_pos]
    · exact List.mem_singleton.mpr rfl
    · rw [List.any_eq_true]
      exact ⟨s, h1, by rw [Bool.and_eq_true, decide_eq_true_iff, decide_eq_true_iff]; exact ⟨h2, (sums_stay ss t _ (by omega)).mpr h3⟩⟩
theorem sums_filter (ss : List Nat) : ∀ m, sums ss m = (List.range (m + 1)).filter fun t => decide (t ∈ sums ss t)
  | 0 => by simp [sums, List.range_succ]
  | m + 1 => by
    rw [List.range_succ, List.filter_append, ← sums_filter ss m]
    by_cases hc : (ss.any fun s => decide (s ≤ m + 1) && decide (m + 1 - s ∈ sums ss m)) = true
    · have h : m + 1 ∈ sums ss (m + 1) := by
        unfold sums
        rw [if_pos hc]
        simp
      rw [List.filter_cons, if_pos (decide_eq_true h), List.filter_nil]
      conv => lhs; unfold sums
      rw [if_pos hc]
    · have h : ¬ m + 1 ∈ sums ss (m + 1) := fun h => by
        unfold sums at h
        rw [if_neg hc, List.append_nil] at h
        have := sums_le ss m _ h
        omega
      rw [List.filter_cons, if_neg (fun q => h (of_decide_eq_true q)), List.filter_nil]
      conv => lhs; unfold sums
      rw [if_neg hc]
theorem en_rounds (R : Run z c M) {ss : List Nat} (hs : ∀ s ∈ ss, 0 < s) : ∀ (d p q : Nat), q - p ≤ d → p ≤ M → (en z (.again (one c ss)) p q = true ↔ p ≤ q ∧ q ≤ M ∧ q - p ∈ sums ss (q - p)) := by
  intro d
  induction d with
  | zero =>
    intro p q hd hp
    have hz := R.le
    have s0 : (0 : Nat) ∈ sums ss 0 := by simp [sums]
    constructor
    · intro h
      have h1 := en_in z _ p q (by omega) h
      have e : q = p := by omega
      rw [e, Nat.sub_self]
      exact ⟨Nat.le_refl _, hp, s0⟩
    · rintro ⟨h1, h2, _⟩
      have e : p = q := by omega
      rw [en_again z _ p q (by omega), e, decide_eq_true rfl, Bool.true_or]
  | succ d ih =>
    intro p q hd hp
    have hz := R.le
    by_cases e : p = q
    · have s0 : (0 : Nat) ∈ sums ss 0 := by simp [sums]
      subst e
      rw [Nat.sub_self, en_again z _ p p (by omega), decide_eq_true rfl, Bool.true_or]
      exact ⟨fun _ => ⟨Nat.le_refl _, hp, s0⟩, fun _ => rfl⟩
    rw [en_again z _ p q (by omega), decide_eq_false e, Bool.false_or, anyN_true]
    constructor
    · rintro ⟨r, hr, h⟩
      rw [Bool.and_eq_true, Bool.and_eq_true, decide_eq_true_iff, en_one R hp, List.any_eq_true] at h
      obtain ⟨h1, ⟨s, h2, h3⟩, h4⟩ := h
      have h3' := of_decide_eq_true h3
      have hrM : r ≤ M := by omega
      have h5 := (ih r q (by omega) hrM).mp h4
      have e1 : q - p = (q - p - 1) + 1 := by omega
      refine ⟨by omega, h5.2.1, ?_⟩
      rw [e1, sums_next ss hs]
      refine ⟨s, h2, by omega, ?_⟩
      rw [show q - p - 1 + 1 - s = q - r by omega]
      exact h5.2.2
    · rintro ⟨h1, h2, h3⟩
      have e1 : q - p = (q - p - 1) + 1 := by omega
      rw [e1, sums_next ss hs] at h3
      obtain ⟨s, h4, h5, h6⟩ := h3
      have h0 := hs s h4
      refine ⟨p + s, by omega, ?_⟩
      rw [Bool.and_eq_true, Bool.and_eq_true, decide_eq_true_iff, en_one R hp, List.any_eq_true]
      refine ⟨by omega, ⟨s, h4, decide_eq_true ⟨by omega, rfl⟩⟩, (ih (p + s) q (by omega) (by omega)).mpr ⟨by omega, h2, ?_⟩⟩
      rw [show q - (p + s) = q - p - 1 + 1 - s by omega]
      exact h6
theorem range_cut {n m : Nat} (h : m ≤ n) : List.range (n + 1) = List.range (m + 1) ++ List.range' (m + 1) (n - m) := by
  obtain ⟨j, rfl⟩ : ∃ j, n = m + j := ⟨n - m, by omega⟩
  rw [show m + j - m = j by omega, show m + j + 1 = (m + 1) + j by omega, List.range_eq_range', List.range_eq_range', ← List.range'_append_1, Nat.zero_add]
theorem filter_cut {n m : Nat} (h : m ≤ n) {f g : Nat → Bool} (h1 : ∀ t, t ≤ m → f t = g t) (h2 : ∀ t, m < t → f t = false) : (List.range (n + 1)).filter f = (List.range (m + 1)).filter g := by
  rw [range_cut h, List.filter_append]
  have e : (List.range' (m + 1) (n - m)).filter f = [] := by
    rw [List.filter_eq_nil_iff]
    intro t ht
    rw [List.mem_range'_1] at ht
    rw [h2 t (by omega)]
    exact Bool.false_ne_true
  rw [e, List.append_nil]
  exact List.filter_congr fun t ht => h1 t (by rw [List.mem_range] at ht; omega)
theorem rounds_ends (R : Run z c M) {ss : List Nat} (hs : ∀ s ∈ ss, 0 < s) : endL z (.again (one c ss)) 0 = (sums ss M).map fun t => ((t : Nat) : Int) := by
  unfold endL
  have key : ∀ t, en z (.again (one c ss)) 0 t = true ↔ t ≤ M ∧ t ∈ sums ss t := fun t => by
    rw [en_rounds R hs t 0 t (by omega) (Nat.zero_le _), Nat.sub_zero]
    exact ⟨fun h => h.2, fun h => ⟨Nat.zero_le _, h⟩⟩
  rw [filter_cut (g := fun t => decide (t ∈ sums ss t)) R.le, ← sums_filter]
  · exact List.map_congr_left fun t _ => by simp
  · intro t ht
    rw [Bool.eq_iff_iff, key, decide_eq_true_iff]
    exact ⟨fun h => h.2, fun h => ⟨ht, h⟩⟩
  · intro t ht
    refine Bool.eq_false_iff.mpr fun h => ?_
    have := ((key t).mp h).1
    omega
theorem rounds_takes (R : Run z c M) {ss : List Nat} (hs : ∀ s ∈ ss, 0 < s) : ew z (.again (one c ss)) 0 = some (iter M ss M 0) := ew_rounds R hs M 0 (Nat.zero_le _) (by omega)
/-! a row of lengths that may be left out -/
def rowW (c : Nat) (ss : List Nat) : List W := ss.map fun s => .maybe (same c s)
def rowT (M : Nat) (ss : List Nat) : Nat := ss.foldl (fun p s => if p + s ≤ M then p + s else p) 0
def rowS (M : Nat) (ss : List Nat) : List Nat := ss.foldl (fun S s => S ++ (S.map (· + s)).filter fun t => decide (t ≤ M)) [0]
theorem rowT_le (M : Nat) (ss : List Nat) : ∀ p, p ≤ M → ss.foldl (fun p s => if p + s ≤ M then p + s else p) p ≤ M := by
  induction ss with
  | nil => exact fun p h => h
  | cons s ss ih =>
    intro p h
    rw [List.foldl_cons]
    split
    · exact ih _ ‹_›
    · exact ih _ h
theorem ewR_row (R : Run z c M) : ∀ (ss : List Nat) (p : Nat), p ≤ M → ewR z (rowW c ss) p = some (ss.foldl (fun p s => if p + s ≤ M then p + s else p) p)
  | [], p, hp => by unfold rowW; rw [List.map_nil]; unfold ewR; rfl
  | s :: ss, p, hp => by
    unfold rowW
    rw [List.map_cons]
    unfold ewR
    have e : ew z (.maybe (same c s)) p = some (if p + s ≤ M then p + s else p) := by
      conv => lhs; unfold ew
      rw [ew_same R hp]
      by_cases h : p + s ≤ M
      · rw [if_pos h, if_pos h]; rfl
      · rw [if_neg h, if_neg h]; rfl
    rw [e]
    dsimp only
    rw [List.foldl_cons]
    refine ewR_row R ss _ ?_
    split <;> omega
theorem rowS_le (M : Nat) (ss : List Nat) : ∀ S : List Nat, (∀ t ∈ S, t ≤ M) → ∀ t ∈ ss.foldl (fun S s => S ++ (S.map (· + s)).filter fun t => decide (t ≤ M)) S, t ≤ M := by
  induction ss with
  | nil => exact fun S h => h
  | cons s ss ih =>
    intro S h
    rw [List.foldl_cons]
    refine ih _ fun t ht => ?_
    rcases List.mem_append.mp ht with q | q
    · exact h t q
    · exact of_decide_eq_true (List.mem_filter.mp q).2
theorem foldl_snoc {α β : Type} (f : β → α → β) (l : List α) (a : α) (b : β) : (l ++ [a]).foldl f b = f (l.foldl f b) a := by rw [List.foldl_append]; rfl
theorem enR_row (R : Run z c M) : ∀ (n : Nat) (ss : List Nat) (q : Nat), ss.length = n → q ≤ z.length → (enR z (rowW c ss) 0 q = true ↔ q ∈ rowS M ss) := by
  intro n
  induction n with
  | zero =>
    intro ss q hl hq
    have e := List.eq_nil_of_length_eq_zero hl
    subst e
    show enR z [] 0 q = true ↔ q ∈ [0]
    unfold enR
    rw [decide_eq_true_iff, List.mem_singleton]
    exact eq_comm
  | succ n ih =>
    intro ss q hl hq
    obtain ⟨l, s, rfl⟩ : ∃ l s, ss = l ++ [s] := ⟨ss.dropLast, ss.getLast (fun e => by rw [e] at hl; cases hl), (List.dropLast_concat_getLast _).symm⟩
    have hl' : l.length = n := by rw [List.length_append] at hl; simpa using hl
    have hz := R.le
    have hle : ∀ t ∈ rowS M l, t ≤ M := rowS_le M l [0] (fun t h => by rw [List.mem_singleton] at h; omega)
    have e1 : rowW c (l ++ [s]) = rowW c l ++ [.maybe (same c s)] := by unfold rowW; rw [List.map_append]; rfl
    have e2 : rowS M (l ++ [s]) = rowS M l ++ ((rowS M l).map (· + s)).filter fun t => decide (t ≤ M) := foldl_snoc _ _ _ _
    rw [e1, e2, enR_snoc z _ _ 0 q (Nat.zero_le _) hq, anyN_true, List.mem_append, List.mem_filter, List.mem_map]
    constructor
    · rintro ⟨r, hr, h⟩
      rw [Bool.and_eq_true, ih l r hl' hr] at h
      have hrM := hle r h.1
      have h2 := h.2
      unfold en at h2
      rw [Bool.or_eq_true, en_same R hrM, decide_eq_true_iff, decide_eq_true_iff] at h2
      rcases h2 with ⟨h3, h4⟩ | h3
      · exact .inr ⟨⟨r, h.1, h4.symm⟩, decide_eq_true (by omega)⟩
      · exact .inl (h3 ▸ h.1)
    · rintro (h | ⟨⟨r, h1, h2⟩, h3⟩)
      · refine ⟨q, hq, ?_⟩
        rw [Bool.and_eq_true, ih l q hl' hq]
        refine ⟨h, ?_⟩
        unfold en
        rw [decide_eq_true rfl, Bool.or_true]
      · have hrM := hle r h1
        have h3' := of_decide_eq_true h3
        refine ⟨r, by omega, ?_⟩
        rw [Bool.and_eq_true, ih l r hl' (by omega)]
        refine ⟨h1, ?_⟩
        unfold en
        rw [Bool.or_eq_true, en_same R hrM, decide_eq_true_iff]
        exact .inl ⟨by omega, h2.symm⟩
theorem row_ends (R : Run z c M) (ss : List Nat) : endL z (.row (rowW c ss)) 0 = ((List.range (M + 1)).filter fun t => decide (t ∈ rowS M ss)).map fun t => ((t : Nat) : Int) := by
  unfold endL
  have hz := R.le
  have hle : ∀ t ∈ rowS M ss, t ≤ M := rowS_le M ss [0] (fun t h => by rw [List.mem_singleton] at h; omega)
  have ev : ∀ t, en z (.row (rowW c ss)) 0 t = enR z (rowW c ss) 0 t := fun t => by conv => lhs; unfold en
  rw [filter_cut (g := fun t => decide (t ∈ rowS M ss)) R.le]
  · exact List.map_congr_left fun t _ => by simp
  · intro t ht
    rw [Bool.eq_iff_iff, ev, enR_row R _ ss t rfl (by omega), decide_eq_true_iff]
  · intro t ht
    refine Bool.eq_false_iff.mpr fun h => ?_
    have h1 := (en_in z _ 0 t (Nat.zero_le _) h).2
    rw [ev, enR_row R _ ss t rfl h1] at h
    have := hle t h
    omega
theorem row_takes (R : Run z c M) (ss : List Nat) : ew z (.row (rowW c ss)) 0 = some (rowT M ss) := by
  conv => lhs; unfold ew
  exact ewR_row R ss 0 (Nat.zero_le _)
end
end Su
namespace Su
open PySem PySem.Spec PyProof.Rows L2 Wv
open Tk
/-! ### a letter so many times, lists of numbers as they are shown -/
theorem fold_rep (c : Nat) : ∀ (n : Nat) (b : Array Nat), ((List.replicate n #[c]).foldl (· ++ ·) b).toList = b.toList ++ List.replicate n c
  | 0, b => by simp
  | n + 1, b => by
    rw [List.replicate_succ, List.foldl_cons, fold_rep c n, List.replicate_succ]
    simp
theorem op_rep_str {X : Cx} : OpR X (binaryOp .Mult) (fun x y H Q => ∃ (c k : Nat), x = .str (sg c) ∧ y = .int (k : Nat) ∧ k ≤ 1000 ∧ Q (.str (tx (List.replicate k c))) H) := by
  intro pins s σ H x y v u Q I rx ry h
  obtain ⟨c, k, rfl, rfl, hk2, q⟩ := h
  obtain ⟨t, rfl⟩ := rx
  obtain ⟨t', rfl⟩ := ry
  have hl : (sg c).length = 1 := rfl
  refine P.mul_str ?_ (fun h1 _ => ?_) (fun _ _ => ?_) ?_
  · rw [decide_eq_false (show ¬ ((k : Nat) : Int) < -(2 ^ 63 : Int) by omega), decide_eq_false (show ¬ ((k : Nat) : Int) ≥ 2 ^ 63 by omega)]; rfl
  · rw [hl]
    have h1 : ((1 : Nat) : Int) ≤ (2 ^ 63 - 1) / (k : Int) := (Int.le_ediv_iff_mul_le (by omega)).mpr (by omega)
    exact Int.not_lt.mpr h1
  · unfold Builtin.Str.tooLong
    rw [hl, Int.toNat_natCast]
    exact decide_eq_false (by rw [sizeLine_eq]; omega)
  · by_cases n1 : (k : Int) < 1
    · rw [if_pos n1]
      have e : k = 0 := by omega
      subst e
      exact ⟨by decide, .str Str.empty, H, I.tok _, ⟨_, rfl⟩, q⟩
    · rw [if_neg n1]
      by_cases n2 : k = 1
      · subst n2
        have h3 : (((1 : Nat) : Int) == 1 || (sg c).length == 0) = true := rfl
        rw [if_pos h3]
        exact ⟨.str (sg c), H, I, ⟨_, rfl⟩, q⟩
      · rw [if_neg (by rw [hl, Bool.or_eq_true, beq_iff_eq, beq_iff_eq]; omega)]
        have hs : ((List.replicate ((k : Nat) : Int).toNat (sg c).cps).foldl (· ++ ·) #[]) = (List.replicate k c).toArray := by
          rw [Int.toNat_natCast]
          apply Array.toList_inj.mp
          rw [show (sg c).cps = #[c] from rfl, fold_rep]
          simp
        rw [hs]
        exact ⟨by show Array.size _ ≤ _; rw [List.size_toArray, List.length_replicate, sizeLine_eq]; omega, .str (tx (List.replicate k c)), H, I.tok _, ⟨_, rfl⟩, q⟩
theorem flat_ints : ∀ ns : List Nat, iV ns = (ns.map fun n => ((n : Nat) : Int)).map V.int
  | ns => by unfold iV; rw [List.map_map]; rfl
def dN (ns : List Nat) : PyData := .list ((ns.map fun n => ((n : Nat) : Int)).map PyData.int)
theorem dpAll_ints' {K : PySem.W.Frag} {H : Hp} : ∀ ns : List Int, DpAll K H (ns.map V.int) (ns.map PyData.int)
  | [] => .nil
  | n :: r => .cons (.int n) (dpAll_ints' r)
theorem dp_dN {K : PySem.W.Frag} {H : Hp} {q : Addr} {ns : List Nat} (h : SqL K H q (iV ns)) : Dp K H (.ref q) (dN ns) := .lst (by rw [flat_ints] at h; exact h) (dpAll_ints' _)
theorem log_le {i B : Nat} (h : i < 10 ^ 6) : i.log2 < 1920 := by
  by_cases h0 : i = 0
  · subst h0; decide
  · exact (Nat.log2_lt h0).mpr (Nat.lt_of_lt_of_le h (Nat.le_trans (show 10 ^ 6 ≤ 2 ^ 20 by decide) (Nat.pow_le_pow_right (by decide) (show 20 ≤ 1920 by decide))))
theorem showAll : ∀ ns : List Nat, (∀ n ∈ ns, n < 10 ^ 6) → PyData.showableAll ((ns.map fun n => ((n : Nat) : Int)).map PyData.int) = true
  | [], _ => by simp [PyData.showableAll]
  | n :: r, h => by
    simp only [List.map_cons, PyData.showableAll, PyData.showable, Bool.and_eq_true, decide_eq_true_eq]
    refine ⟨?_, showAll r fun m hm => h m (List.mem_cons_of_mem _ hm)⟩
    rw [Int.natAbs_natCast]
    exact log_le (B := 0) (h n List.mem_cons_self)
theorem noDicts : ∀ ns : List Int, PyData.hasDictAll (ns.map PyData.int) = false
  | [] => by simp [PyData.hasDictAll]
  | n :: r => by simp only [List.map_cons, PyData.hasDictAll, PyData.hasDict, noDicts r]; rfl
theorem depths : ∀ ns : List Int, PyData.depthAll (ns.map PyData.int) ≤ 1
  | [] => by simp [PyData.depthAll]
  | n :: r => by have := depths r; simp only [List.map_cons, PyData.depthAll, PyData.depth]; omega
theorem bulks : ∀ ns : List Int, PyData.bulkAll (ns.map PyData.int) ≤ 2 * ns.length
  | [] => by simp [PyData.bulkAll]
  | n :: r => by have := bulks r; simp only [List.map_cons, PyData.bulkAll, PyData.bulk, List.length_cons]; omega
theorem shorts : ∀ ns : List Nat, (∀ n ∈ ns, n < 10 ^ 6) → PyData.leavesShortAll 13 ((ns.map fun n => ((n : Nat) : Int)).map PyData.int) = true
  | [], _ => by simp [PyData.leavesShortAll]
  | n :: r, h => by
    simp only [List.map_cons, PyData.leavesShortAll, PyData.leavesShort, Bool.and_eq_true, decide_eq_true_eq]
    have := h n List.mem_cons_self
    exact ⟨PyData.shown_int_le (by rw [Int.natAbs_natCast]; omega), shorts r fun m hm => h m (List.mem_cons_of_mem _ hm)⟩
/-- a list of small numbers may be shown -/
theorem dN_ok (ns : List Nat) (hl : ns.length ≤ 10000) (hn : ∀ n ∈ ns, n < 10 ^ 6) : isDisplay (dN ns) = true ∧ (dN ns).showable = true ∧ (dN ns).hasDict = false ∧ (dN ns).depth ≤ 60 ∧ (dN ns).shown.length ≤ sizeLine :=
  ⟨rfl, by unfold dN; rw [PyData.showable]; exact showAll ns hn, by unfold dN; rw [PyData.hasDict]; exact noDicts _, by
    unfold dN; rw [PyData.depth]; have := depths (ns.map fun n => ((n : Nat) : Int)); omega,
    PyData.shown_fits_bulk (B := 13) (by decide) (by decide) (by unfold dN; rw [PyData.leavesShort]; exact shorts ns hn) (by
      unfold dN
      rw [PyData.bulk]
      have := bulks (ns.map fun n => ((n : Nat) : Int))
      rw [List.length_map] at this
      omega)⟩
theorem log_nat {n : Nat} (hn : n < 10 ^ 6) : ((n : Nat) : Int).natAbs.log2 < 1920 := by rw [Int.natAbs_natCast]; exact log_le (B := 0) hn
theorem scal_str (x : Str) : scal (.str x) (.str x) = true := rfl
theorem objs_rep {c : Cs} {H : Hp} {x : W} : ∀ (n : Nat) (us : List V), us.length = n → (∀ u ∈ us, ObjAt c H u x) → ObjsAt c H us (List.replicate n x)
  | 0, us, hl, h => List.eq_nil_of_length_eq_zero hl
  | n + 1, us, hl, h => by
    cases us with
    | nil => cases hl
    | cons u us =>
      rw [List.replicate_succ]
      exact ⟨u, us, rfl, h u List.mem_cons_self, objs_rep n us (by simpa using hl) fun v hv => h v (List.mem_cons_of_mem _ hv)⟩
/-- a way that takes so many times one letter -/
def spSame (c : Cs) : Sp := fun vs H Q _ => ∃ (x s : Nat), vs = [.str (sg x), .int (s : Nat)] ∧ s ≤ 9 ∧ ∀ (u : V) (H' : Hp), Same H H' → ObjAt c H' u (same x s) → Q u H'
section
variable {P : Program} {w : World} {K : PySem.W.Frag} {mg : Str → Option Value} {base : Heap} {c : Cs}
abbrev s_l_same : Stmt := top 61
theorem sc_l_same : FnScope ["_law_letter", "_law_size", "_law_k"] ["_law_letter", "_law_size"] (defScope s_l_same) := ⟨rfl, rfl, rfl, by decide +kernel, rfl, by decide +kernel, by decide +kernel⟩
theorem d_l_same (h : Here K mg "_law_same" s_l_same ["_law_letter", "_law_size"]) (B : Bs mg) (g : Gs P w K mg base c) : DefOk P w K mg base 4 "_law_same" ["_law_letter", "_law_size"] (spSame c) := by
  have G_Letter := g.lt; have G_Row := g.ro
  have B_range := B.range
  refine h.ok sc_l_same (fun vs H Q E h => by obtain ⟨p, v, rfl, _⟩ := h; rfl) (fun f cdv A outer s' H vs Q E hr h => ?_)
  obtain ⟨x, s, rfl, hs, k⟩ := h
  refine ⟨_, (pss_one (ps_ret (pe_ifExp (pt_cmpR op_eq (pv 1) pe_int (nomark _)) (pe_makeD G_Letter (hr.mono (by first | decide | omega)) rfl (pa_cons (pv 0) pa_nil)) (pe_makeD G_Row (hr.mono (by first | decide | omega)) rfl (pa_cons (pe_lc (own := [("_law_k", 2)]) (g := (gName 2)) (tt := tYes) rfl sc_l_same.nd (pi_range1 rfl B_range (pa_cons (pv 1) pa_nil)) (blkOk_by (own := [("_law_k", 2)]) (N := ["_law_letter", "_law_size", "_law_k"]) (sc := defScope s_l_same) (by decide +kernel)) (fun _ _ _ _ _ => pg_name (i := 2) sc_l_same.nd rfl (Or.inl rfl)) (fun _ _ _ _ _ => pts_nil) (fun _ _ _ _ _ => (pe_makeD G_Letter (hr.mono (by first | decide | omega)) rfl (pa_cons (pv 0) pa_nil)))) pa_nil))))), ?_⟩
  walk_at "rd"
  refine ite2 (fun e => ?_) (fun e => ?_)
  · have e1 : s = 1 := by
      have q := of_decide_eq_true e
      simp only [V.int.injEq] at q
      omega
    subst e1
    refine ⟨_, rfl, makeL fun a dx H' s2 h => ?_⟩
    exact k _ H' s2 ⟨a, dx, rfl, h⟩
  · have e1 : s ≠ 1 := fun q => by rw [q] at e; exact e rfl
    refine ⟨_, rfl, (s : Int), rfl, by omega, by omega, fun D hD => ?_⟩
    refine lc_range (fun i Hx => ∃ us : List V, Hx D = some (.lst us) ∧ us.length = i ∧ (∀ u ∈ us, ObjAt c Hx u (.letter x)) ∧ Same H Hx) ?_ ?_ ?_
    · exact ⟨[], upd_same, rfl, fun u hu => (nomatch hu), Same.new hD _⟩
    · rintro i Hx hi ⟨us, hus, hul, hu1, sx⟩
      refine ⟨rfl, _, rfl, ?_⟩
      intro a dx ha hdx nd
      refine ⟨a, dx, _, Hx, rfl, at0 ha hdx, fun H' h s2 => ⟨rfl, ?_⟩⟩
      have hus' := s2 _ _ hus
      have st : Still H' (upd H' D (.lst (us ++ [.ref a]))) := Still.put hus'
      refine ⟨us, hus', small' (by omega), us ++ [.ref a], upd_same, by rw [List.length_append, hul]; rfl, fun u hu => ?_, Same.put hD (sx.trans s2) _⟩
      rcases List.mem_append.mp hu with hu | hu
      · exact ObjAt.keep ((stillS s2).trans st) _ _ (hu1 u hu)
      · rw [List.mem_singleton] at hu
        subst hu
        refine ObjAt.keep st _ _ ?_
        exact ⟨a, dx, rfl, h⟩
    · rintro Hx ⟨us, hus, hul, hu1, sx⟩
      rw [Int.toNat_natCast] at hul
      refine makeT (.inl hus) (objs_rep s us hul hu1) (by rw [List.length_replicate]; omega) fun a dx t H' s2 ht h => ?_
      have e3 : same x s = .row (List.replicate s (.letter x)) := by unfold same; rw [if_neg e1]
      refine k _ H' (sx.trans s2) ?_
      rw [e3]
      exact ⟨a, dx, t, us, rfl, h, ht, objs_rep s us hul fun u hu => ObjAt.keep (stillS s2) _ _ (hu1 u hu)⟩
end
end Su
namespace Su
open PySem PySem.Spec PyProof.Rows L2 Wv
open Tk
theorem lays : ∀ ns : List Int, PyData.canLayAll0 (ns.map PyData.int) = true
  | [] => by simp [PyData.canLayAll0]
  | n :: r => by simp only [List.map_cons, PyData.canLayAll0, PyData.canLay0, lays r]; rfl
theorem shaped_dN (ns : List Nat) : SeqAt.shaped (dN ns) = true := by
  unfold SeqAt.shaped dN
  rw [PyData.canLay0, lays, PyData.depth]
  have := depths (ns.map fun n => ((n : Nat) : Int))
  rw [decide_eq_true (by omega)]
  rfl
theorem eqv_nil : ∀ ns : List Nat, PyData.eqv (dN ns) (dN []) = ns.isEmpty
  | [] => rfl
  | n :: r => rfl
theorem iV_flat : ∀ ns : List Nat, (iV ns).all flatV = true := fun ns => by
  unfold iV
  rw [List.all_map, List.all_eq_true]
  exact fun x _ => rfl
theorem inV_nat (t : Int) (ns : List Nat) : inV (.int t) (iV ns) = decide (0 ≤ t ∧ t.toNat ∈ ns) := by
  unfold inV iV
  rw [Bool.eq_iff_iff, List.any_map, List.any_eq_true, decide_eq_true_iff]
  constructor
  · rintro ⟨x, hx, e⟩
    have e' : ((x : Nat) : Int) = t := by simpa [eqV] using e
    subst e'
    exact ⟨Int.natCast_nonneg x, by rw [Int.toNat_natCast]; exact hx⟩
  · rintro ⟨h0, h⟩
    refine ⟨t.toNat, h, ?_⟩
    show (((t.toNat : Nat) : Int) == t) = true
    rw [Int.toNat_of_nonneg h0]
    exact beq_self_eq_true t
theorem te_cut {t : TE} {σ : L2.St} {H : Hp} {Q : VK} {S : V → Hp → Prop} (h1 : ∀ Q' : VK, (∀ v H1, S v H1 → Q' v H1) → t σ H Q') (h2 : ∀ v H1, S v H1 → Q v H1) : t σ H Q := h1 Q h2
theorem Same.refl (H : Hp) : Same H H := fun _ _ e => e
/-- the lengths that the sums so far may be gone on with -/
def fS (ss : List Nat) (m : Nat) (s : Nat) : Bool := decide (s ≤ m + 1) && decide (m + 1 - s ∈ sums ss m)
theorem inV_fS (ss : List Nat) (m s : Nat) : inV (.int (1 + ((m : Nat) : Int) - ((s : Nat) : Int))) (iV (sums ss m)) = fS ss m s := by
  rw [inV_nat]
  unfold fS
  rw [Bool.eq_iff_iff, decide_eq_true_iff, Bool.and_eq_true, decide_eq_true_iff, decide_eq_true_iff]
  constructor
  · rintro ⟨h0, h⟩
    rw [show (1 + ((m : Nat) : Int) - ((s : Nat) : Int)).toNat = m + 1 - s by omega] at h
    exact ⟨by omega, h⟩
  · rintro ⟨h0, h⟩
    rw [show (1 + ((m : Nat) : Int) - ((s : Nat) : Int)).toNat = m + 1 - s by omega]
    exact ⟨by omega, h⟩
theorem filter_more {l : List Nat} {f : Nat → Bool} {j n : Nat} (h : l[j]? = some n) : (l.take (j + 1)).filter f = (l.take j).filter f ++ (if f n = true then [n] else []) := by
  rw [List.take_add_one, h, List.filter_append]
  congr 1
  by_cases hf : f n = true
  · rw [if_pos hf]; simp [hf]
  · rw [if_neg hf]; simp [hf]
theorem sums_len (ss : List Nat) : ∀ m, (sums ss m).length ≤ m + 1
  | 0 => by simp [sums]
  | m + 1 => by
    have := sums_len ss m
    unfold sums
    rw [List.length_append]
    split
    · simp; omega
    · simp; omega
theorem iteN' {b : Bool} {T F : Prop} (h : ¬ b = true) (f : F) : if b = true then T else F := by rw [if_neg h]; exact f
theorem sums_step (ss : List Nat) (i : Nat) : sums ss (i + 1) = sums ss i ++ (if (!(ss.filter (fS ss i)).isEmpty) = true then [i + 1] else []) := by
  conv => lhs; unfold sums
  congr 1
  have e : (ss.any fun s => decide (s ≤ i + 1) && decide (i + 1 - s ∈ sums ss i)) = (!(ss.filter (fS ss i)).isEmpty) := by
    rw [Bool.eq_iff_iff, List.any_eq_true]
    constructor
    · rintro ⟨s, h1, h2⟩
      have : s ∈ ss.filter (fS ss i) := List.mem_filter.mpr ⟨h1, h2⟩
      cases hc : ss.filter (fS ss i) with
      | nil => rw [hc] at this; cases this
      | cons a r => rfl
    · intro h
      cases hc : ss.filter (fS ss i) with
      | nil => rw [hc] at h; cases h
      | cons a r =>
        have : a ∈ ss.filter (fS ss i) := by rw [hc]; exact List.mem_cons_self
        rw [List.mem_filter] at this
        exact ⟨a, this.1, this.2⟩
  rw [e]
theorem stepT_le (M : Nat) (ss : List Nat) (p : Nat) (h : p ≤ M) : stepT M ss p ≤ M := by
  unfold stepT
  cases e : (fits M ss p).head? with
  | none => exact h
  | some s => exact (fits_mem e).2
theorem iter_le (M : Nat) (ss : List Nat) : ∀ (k p : Nat), p ≤ M → iter M ss k p ≤ M
  | 0, p, h => h
  | k + 1, p, h => iter_le M ss k _ (stepT_le M ss p h)
theorem rounds_rep (x : Nat) : ∀ n : Nat, W.roundss (List.replicate n (.letter x)) = 0
  | 0 => rfl
  | n + 1 => by rw [List.replicate_succ, W.roundss, rounds_rep x n]; rfl
theorem called_rep (x : Nat) : ∀ n : Nat, W.calleds (List.replicate n (.letter x)) = none
  | 0 => rfl
  | n + 1 => by rw [List.replicate_succ, W.calleds, called_rep x n]; rfl
theorem good_same (x s : Nat) (h : s ≤ 9) : good 1 (same x s) := by
  unfold same
  by_cases e : s = 1
  · rw [if_pos e]; exact True.intro
  · rw [if_neg e]; exact ⟨by rw [List.length_replicate]; omega, fun y hy => ⟨x, List.eq_of_mem_replicate hy⟩⟩
theorem rounds_same (x s : Nat) : (same x s).rounds = 0 := by
  unfold same
  by_cases e : s = 1
  · rw [if_pos e]; rfl
  · rw [if_neg e, W.rounds, rounds_rep]
theorem called_same (x s : Nat) : (same x s).called = none := by
  unfold same
  by_cases e : s = 1
  · rw [if_pos e]; rfl
  · rw [if_neg e, W.called, called_rep]
theorem rounds_sames (x : Nat) : ∀ ss : List Nat, W.roundss (ss.map (same x)) = 0
  | [] => rfl
  | s :: r => by rw [List.map_cons, W.roundss, rounds_same, rounds_sames x r]; rfl
theorem called_sames (x : Nat) : ∀ ss : List Nat, W.calleds (ss.map (same x)) = none
  | [] => rfl
  | s :: r => by rw [List.map_cons, W.calleds, called_same, called_sames x r]
theorem plain_one (x : Nat) (ss : List Nat) (hl : ss.length ≤ 3) (h : ∀ s ∈ ss, s ≤ 9) : Plain (.again (one x ss)) := by
  match ss, hl, h with
  | [s], _, h => exact ⟨good_le 1 _ (good_same x s (h s List.mem_cons_self)), by show (same x s).rounds + 1 ≤ 1; rw [rounds_same]; exact Nat.le_refl _, called_same x s⟩
  | [], _, _ => exact ⟨⟨Nat.zero_le _, fun y hy => (nomatch hy)⟩, Nat.le_refl _, rfl⟩
  | a :: b :: r, hl, h =>
    refine ⟨⟨by rw [List.length_map]; omega, fun y hy => ?_⟩, ?_, called_sames x (a :: b :: r)⟩
    · obtain ⟨s, hs, rfl⟩ := List.mem_map.mp hy
      exact good_same x s (h s hs)
    · show W.roundss ((a :: b :: r).map (same x)) + 1 ≤ 1
      rw [rounds_sames]
      exact Nat.le_refl _
theorem iV_app (a b : List Nat) : iV a ++ iV b = iV (a ++ b) := by unfold iV; rw [List.map_append]
/-- all rounds of a choice of lengths -/
def spRound (c : Cs) : Sp := fun vs H Q _ => ∃ (qw qs : Addr) (us : List V) (ss z y : List Nat) (x M : Nat), vs = [.ref qw, .ref qs, .str (tx z), .int (M : Nat)] ∧ H qw = some (.lst us) ∧ ObjsAt c H us (ss.map (same x)) ∧ H qs = some (.lst (iV ss)) ∧ 0 < ss.length ∧ ss.length ≤ 3 ∧ (∀ s ∈ ss, 0 < s ∧ s ≤ 9) ∧
  Run z x M ∧ z.length ≤ 200 ∧ ∀ H', Same H H' → Q (.bl true) H'
section
variable {P : Program} {w : World} {K : PySem.W.Frag} {mg : Str → Option Value} {base : Heap} {c : Cs}
abbrev s_l_rounds_right : Stmt := top 62
theorem sc_l_rounds_right : FnScope ["_law_ways", "_law_sizes", "_law_text", "_law_many", "_law_way", "_law_sums", "_law_total", "_law_steps", "_law_taken", "_law_turn", "_law_fitting", "_law_size"] ["_law_ways", "_law_sizes", "_law_text", "_law_many"] (defScope s_l_rounds_right) := ⟨rfl, rfl, rfl, by decide +kernel, rfl, by decide +kernel, by decide +kernel⟩
theorem d_l_rounds_right (h : Here K mg "_law_rounds_right" s_l_rounds_right ["_law_ways", "_law_sizes", "_law_text", "_law_many"]) (B : Bs mg) (B_repr : mg "repr" = none) (g : Gs P w K mg base c) (GZ_takes : DefZ P w K mg base 5 "takes" ["way", "text", "place"] (spTakes c)) (GZ_ends : DefZ P w K mg base 9 "ends" ["way", "text", "place"] (spEnds c)) :
    Gd.DefG P w K mg base 10 "_law_rounds_right" ["_law_ways", "_law_sizes", "_law_text", "_law_many"] (spRound c) := by
  have G_Again := g.ag; have G_Choice := g.ch
  have B_range := B.range; have B_len := B.len
  refine Gd.Here.okG h sc_l_rounds_right (fun vs H Q E h => by obtain ⟨_, _, _, _, _, _, _, _, rfl, _⟩ := h; rfl) (fun f cdv A outer s' H vs Q E hgd hr h => ?_)
  obtain ⟨qw, qs, us, ss, z, y, x, M, rfl, hqw, hus, hqs, hs0, hs3, hss, R, hz, k⟩ := h
  refine ⟨_, (pss_cons (ps_set (i := 4) sc_l_rounds_right.nd rfl (Or.inl rfl) (pe_makeD G_Again (hr.mono (by first | decide | omega)) rfl (pa_cons (pe_ifExp (pt_cmpR op_eq (pe_callB call_len_seq rfl B_len PySem.boot_len (pa_cons (pv 0) pa_nil)) pe_int (nomark _)) (pe_ix ix_list (pv 0) pe_int (fun _ _ => rfl)) (pe_makeD G_Choice (hr.mono (by first | decide | omega)) rfl (pa_cons (pv 0) pa_nil))) pa_nil)))
  (pss_cons (ps_set (i := 5) sc_l_rounds_right.nd rfl (Or.inr rfl) (pe_lst (pa_cons pe_int pa_nil)))
  (pss_cons (ps_for PassesOwn.never rfl (pi_range2 rfl B_range (pa_cons pe_int (pa_cons (pe_op op_add (pv 3) pe_int) pa_nil))) (pg_name (i := 6) sc_l_rounds_right.nd rfl (Or.inr rfl))
   (pss_cons (ps_setLc (i := 7) (own := [("_law_size", 11)]) (g := (gName 11)) rfl sc_l_rounds_right.nd rfl rfl (sw_true rfl rfl rfl (by decide +kernel)) (pi_list (pv 1)) (blkOk_by (own := [("_law_size", 11)]) (N := ["_law_ways", "_law_sizes", "_law_text", "_law_many", "_law_way", "_law_sums", "_law_total", "_law_steps", "_law_taken", "_law_turn", "_law_fitting", "_law_size"]) (sc := defScope s_l_rounds_right) (by decide +kernel)) (fun _ _ _ _ _ => pg_name (i := 11) sc_l_rounds_right.nd rfl (Or.inl rfl)) (fun _ _ _ _ _ => pts_one (pt_cmpR (Gd.op_in_seqK (K := K) rfl) (pe_op op_sub (pv 6) (pv 11)) (pv 5) (by rfl))) (fun _ _ _ _ _ => (pv 11)))
  (pss_one (ps_set (i := 5) sc_l_rounds_right.nd rfl (Or.inr rfl) (pe_op op_cat (pv 5) (pe_ifExp (pt_cmpR (op_neD hr.units) (pv 7) (pe_lst pa_nil) (nomark _)) (pe_lst (pa_cons (pv 6) pa_nil)) (pe_lst pa_nil)))))))
  (pss_cons (ps_set (i := 8) sc_l_rounds_right.nd rfl (Or.inr rfl) pe_int)
  (pss_cons (ps_for PassesOwn.never rfl (pi_range1 rfl B_range (pa_cons (pv 3) pa_nil)) (pg_name (i := 9) sc_l_rounds_right.nd rfl (Or.inl rfl))
   (pss_cons (ps_setLc (i := 10) (own := [("_law_size", 11)]) (g := (gName 11)) rfl sc_l_rounds_right.nd rfl rfl (sw_true rfl rfl rfl (by decide +kernel)) (pi_list (pv 1)) (blkOk_by (own := [("_law_size", 11)]) (N := ["_law_ways", "_law_sizes", "_law_text", "_law_many", "_law_way", "_law_sums", "_law_total", "_law_steps", "_law_taken", "_law_turn", "_law_fitting", "_law_size"]) (sc := defScope s_l_rounds_right) (by decide +kernel)) (fun _ _ _ _ _ => pg_name (i := 11) sc_l_rounds_right.nd rfl (Or.inl rfl)) (fun _ _ _ _ _ => pts_one (pt_cmpR op_le (pe_op op_add (pv 8) (pv 11)) (pv 3) (nomark _))) (fun _ _ _ _ _ => (pv 11)))
  (pss_one (ps_set (i := 8) sc_l_rounds_right.nd rfl (Or.inr rfl) (pe_op op_add (pv 8) (pe_ifExp (pt_cmpR (op_neD hr.units) (pv 10) (pe_lst pa_nil) (nomark _)) (pe_ix ix_list (pv 10) pe_int (fun _ _ => rfl)) pe_int))))))
  (pss_cons (ps_if (pt_cmpR op_ne (pe_callB (Gd.call_repr hgd hr) rfl B_repr (by decide +kernel) (pa_cons (pe_callZ GZ_ends (hr.mono (by first | decide | omega)) rfl (pa_cons (pv 4) (pa_cons (pv 2) pa_nil))) pa_nil)) (pe_callB (Gd.call_repr hgd hr) rfl B_repr (by decide +kernel) (pa_cons (pv 5) pa_nil)) (nomark _)) (pss_one (ps_ret pe_bl)) pss_nil)
  (pss_one (ps_ret (pe_cmpR op_eq (pe_callB (Gd.call_repr hgd hr) rfl B_repr (by decide +kernel) (pa_cons (pe_callZ GZ_takes (hr.mono (by first | decide | omega)) rfl (pa_cons (pv 4) (pa_cons (pv 2) pa_nil))) pa_nil)) (pe_callB (Gd.call_repr hgd hr) rfl B_repr (by decide +kernel) (pa_cons (pv 8) pa_nil)) (nomark _)))))))))), ?_⟩
  walk_at "nx"
  have hl := ObjsAt.len _ _ hus
  rw [List.length_map] at hl
  refine te_cut (S := fun v H1 => Same H H1 ∧ ObjAt c H1 v (.again (one x ss))) (fun Q' rest => ?_) (fun v H1 hv => ?_)
  · refine ⟨_, rfl, qw, us, rfl, .inl (SqL.of hqw), ?_⟩
    walk_at "rd"
    refine ite2 (fun e => ?_) (fun e => ?_)
    · have e1 : us.length = 1 := by
        have q := of_decide_eq_true e
        simp only [V.int.injEq] at q
        omega
      match ss, us, hus, e1, hl with
      | [s], [u], ⟨u', us', e2, ho, _⟩, _, _ =>
        cases e2
        refine ⟨_, rfl, qw, _, _, _, rfl, rfl, SqL.of hqw, atI0, ?_⟩
        refine makeA ho fun a dx mk H' s2 h => ?_
        exact rest _ H' ⟨s2, a, dx, u, mk, rfl, h, ObjAt.keep (stillS s2) _ _ ho⟩
    · have e1 : ss.length ≠ 1 := fun q => by rw [hl, q] at e; exact e rfl
      have eo : one x ss = .choice (ss.map (same x)) := by
        match ss, e1, hs0 with
        | _ :: _ :: _, _, _ => rfl
      refine ⟨_, rfl, ?_⟩
      intro a dx ha hdx nd
      refine ⟨a, dx, qw, us, _, H, rfl, at0 ha hdx, .inl hqw, hus, by rw [List.length_map]; omega, fun t H' ht h s2 => ⟨rfl, ?_⟩⟩
      have hch : ObjAt c H' (.ref a) (.choice (ss.map (same x))) := ⟨a, dx, t, us, rfl, h, ht, ObjsAt.keep (stillS s2) _ _ hus⟩
      refine makeA hch fun b db mk H2 s3 h2 => ?_
      rw [eo] at rest
      exact rest _ H2 ⟨s2.trans s3, b, db, _, mk, rfl, h2, ObjAt.keep (stillS s3) _ _ hch⟩
  · obtain ⟨s1, hv⟩ := hv
    walk_at "nx"
    refine ⟨by show 1 ≤ sizeLine; decide, fun q0 hq0 => ?_⟩
    have s2 := s1.trans (Same.new hq0 (.lst [.int 0]))
    have ho := ObjAt.keep (stillS (Same.new hq0 (.lst [.int 0]))) _ _ hv
    have hq1 : upd H1 q0 (.lst [.int 0]) q0 = some (.lst (iV (sums ss 0))) := upd_same
    generalize upd H1 q0 (.lst [.int 0]) = H2 at *
    walk_at "nx"
    have hqs2 := s2 _ _ hqs
    refine ⟨_, rfl, _, _, rfl, rfl, 1, ((M : Nat) : Int) + 1, rfl, ⟨by omega, by omega, by have := R.le; omega, by have := R.le; omega⟩, ?_⟩
    rw [show (((M : Nat) : Int) + 1 - 1).toNat = M by omega]
    refine for_range (lo := 1) (n := M) (fun i σ H' => ∃ (q : Addr) (x6 x7 : Option V), σ = [some (.ref qw), some (.ref qs), some (.str (tx z)), some (.int (M : Nat)), some v, some (.ref q), x6, x7, none, none, none, none] ∧ H' q = some (.lst (iV (sums ss i))) ∧ Same H2 H') ?_ ?_ ?_
    · exact ⟨q0, none, none, rfl, hq1, Same.refl _⟩
    · rintro i σ H3 hi ⟨q, x6, x7, rfl, hq, s3⟩
      have hsl : (sums ss i).length ≤ i + 1 := sums_len ss i
      walk_at "nx"
      refine ⟨_, rfl, qs, rfl, ⟨_, SqL.of (s3 _ _ hqs2)⟩, fun D hD => ?_⟩
      refine lc_list (K := K) (a := qs) (xs := iV ss) (fun j Hx => Hx D = some (.lst (iV ((ss.take j).filter (fS ss i)))) ∧ Same H3 Hx) ?_ ?_ ?_ ?_
      · exact ⟨upd_same, Same.new hD _⟩
      · rintro j Hx _ ⟨_, sx⟩
        exact SqL.of (sx _ _ (s3 _ _ hqs2))
      · rintro j e Hx he ⟨hd, sx⟩
        obtain ⟨n, hn, rfl⟩ := iV_back he
        refine ⟨rfl, _, rfl, _, rfl, _, _, rfl, rfl, _, rfl, ?_⟩
        refine ⟨q, _, rfl, .inl (SqL.of (sx _ _ hq)), rfl, iV_flat _, ?_⟩
        rw [if_neg Bool.false_ne_true, inV_fS]
        refine ⟨_, rfl, ?_⟩
        by_cases hf : fS ss i n = true
        · refine iteT' hf ?_
          have hll : ((ss.take j).filter (fS ss i)).length ≤ 3 := by
            have := List.length_filter_le (fS ss i) (ss.take j)
            rw [List.length_take] at this
            omega
          refine ⟨_, rfl, _, hd, small' (by simp only [iV, List.length_map]; omega), ?_, Same.put hD sx _⟩
          rw [upd_same, filter_more hn, if_pos hf, ← iV_app]
          rfl
        · refine iteN' hf ?_
          rw [filter_more hn, if_neg hf, List.append_nil]
          exact ⟨hd, sx⟩
      · rintro H4 ⟨hd, s4⟩
        rw [show (iV ss).length = ss.length by simp only [iV, List.length_map], List.take_length] at hd
        walk_at "nx"
        refine ⟨_, rfl, _, rfl, by show 0 ≤ sizeLine; decide, fun q5 hq5 => ?_⟩
        have s5 := s4.trans (Same.new hq5 (.lst []))
        have n5 : D ≠ q5 := ne_of_none hd hq5
        refine ⟨dN (ss.filter (fS ss i)), dN [], dp_dN (SqL.of (by rw [upd_ne n5]; exact hd)), .lst (SqL.of upd_same) .nil, shaped_dN _, shaped_dN _, ?_⟩
        refine ⟨_, rfl, ?_⟩
        rw [eqv_nil]
        have hq5' := s5 _ _ hq
        generalize upd H4 q5 (.lst []) = H5 at *
        have hsum : sums ss (i + 1) = sums ss i ++ (if (!(ss.filter (fS ss i)).isEmpty) = true then [i + 1] else []) := sums_step ss i
        by_cases hf : (!(ss.filter (fS ss i)).isEmpty) = true
        · refine iteT' hf ?_
          rw [if_pos hf] at hsum
          refine ⟨_, rfl, by show 1 ≤ sizeLine; decide, fun q6 hq6 => ?_⟩
          have s6 := s5.trans (Same.new hq6 (.lst [.int (1 + (i : Nat))]))
          refine ⟨q, q6, _, _, rfl, rfl, s6 _ _ hq, upd_same, ?_, fun q7 hq7 => ?_⟩
          · have := R.le
            exact Nat.le_of_lt (small' (by simp only [iV, List.length_map, List.length_cons, List.length_nil]; omega))
          · refine ⟨q7, _, _, rfl, ?_, s3.trans (s6.trans (Same.new hq7 _))⟩
            rw [upd_same, hsum, ← iV_app]
            show some (HO.lst (iV (sums ss i) ++ [V.int (1 + ((i : Nat) : Int))])) = some (HO.lst (iV (sums ss i) ++ [V.int ((i + 1 : Nat) : Int)]))
            rw [show (1 + ((i : Nat) : Int)) = ((i + 1 : Nat) : Int) by omega]
        · refine iteN' hf ?_
          rw [if_neg hf, List.append_nil] at hsum
          refine ⟨by show 0 ≤ sizeLine; decide, fun q6 hq6 => ?_⟩
          have s6 := s5.trans (Same.new hq6 (.lst []))
          refine ⟨q, q6, _, _, rfl, rfl, s6 _ _ hq, upd_same, ?_, fun q7 hq7 => ?_⟩
          · have := R.le
            exact Nat.le_of_lt (small' (by simp only [iV, List.length_map, List.length_cons, List.length_nil]; omega))
          · refine ⟨q7, _, _, rfl, ?_, s3.trans (s6.trans (Same.new hq7 _))⟩
            rw [upd_same, hsum, List.append_nil]
    · rintro σ H3 ⟨q, x6, x7, rfl, hq, s3⟩
      walk_at "nx"
      have hqs3 := s3 _ _ hqs2
      refine ⟨_, rfl, ((M : Nat) : Int), rfl, by omega, by have := R.le; omega, ?_⟩
      rw [Int.toNat_natCast]
      refine for_range (lo := 0) (n := M) (fun i σ H' => ∃ (x9 x10 : Option V), σ = [some (.ref qw), some (.ref qs), some (.str (tx z)), some (.int (M : Nat)), some v, some (.ref q), x6, x7, some (.int (iter M ss i 0 : Nat)), x9, x10, none] ∧ Same H3 H') ?_ ?_ ?_
      · exact ⟨none, none, rfl, Same.refl _⟩
      · rintro i σ H4 hi ⟨x9, x10, rfl, s4⟩
        have hT : iter M ss i 0 ≤ M := iter_le M ss i 0 (Nat.zero_le _)
        rw [iter_snoc]
        generalize iter M ss i 0 = T at hT
        walk_at "nx"
        refine ⟨_, rfl, qs, rfl, ⟨_, SqL.of (s4 _ _ hqs3)⟩, fun D hD => ?_⟩
        refine lc_list (K := K) (a := qs) (xs := iV ss) (fun j Hx => Hx D = some (.lst (iV ((ss.take j).filter fun s => decide (T + s ≤ M)))) ∧ Same H4 Hx) ?_ ?_ ?_ ?_
        · exact ⟨upd_same, Same.new hD _⟩
        · rintro j Hx _ ⟨_, sx⟩
          exact SqL.of (sx _ _ (s4 _ _ hqs3))
        · rintro j e Hx he ⟨hd, sx⟩
          obtain ⟨n, hn, rfl⟩ := iV_back he
          refine ⟨rfl, _, rfl, _, rfl, _, _, rfl, rfl, _, rfl, ?_⟩
          refine ⟨_, _, rfl, rfl, _, rfl, ?_⟩
          rw [show decide (((T : Nat) : Int) + ((n : Nat) : Int) ≤ ((M : Nat) : Int)) = decide (T + n ≤ M) from decide_eq_decide.mpr (by omega)]
          by_cases hf : decide (T + n ≤ M) = true
          · refine iteT' hf ?_
            have hll : ((ss.take j).filter fun s => decide (T + s ≤ M)).length ≤ 3 := by
              have := List.length_filter_le (fun s => decide (T + s ≤ M)) (ss.take j)
              rw [List.length_take] at this
              omega
            refine ⟨_, rfl, _, hd, small' (by simp only [iV, List.length_map]; omega), ?_, Same.put hD sx _⟩
            rw [upd_same, filter_more (f := fun s => decide (T + s ≤ M)) hn, if_pos hf, ← iV_app]
            rfl
          · refine iteN' hf ?_
            rw [filter_more (f := fun s => decide (T + s ≤ M)) hn, if_neg hf, List.append_nil]
            exact ⟨hd, sx⟩
        · rintro H5 ⟨hd, s5⟩
          rw [show (iV ss).length = ss.length by simp only [iV, List.length_map], List.take_length] at hd
          have hd : H5 D = some (.lst (iV (fits M ss T))) := hd
          walk_at "nx"
          refine ⟨_, rfl, _, rfl, by show 0 ≤ sizeLine; decide, fun q5 hq5 => ?_⟩
          have s6 := s5.trans (Same.new hq5 (.lst []))
          have n5 : D ≠ q5 := ne_of_none hd hq5
          have hd6 : upd H5 q5 (.lst []) D = some (.lst (iV (fits M ss T))) := by rw [upd_ne n5]; exact hd
          refine ⟨dN (fits M ss T), dN [], dp_dN (SqL.of hd6), .lst (SqL.of upd_same) .nil, shaped_dN _, shaped_dN _, ?_⟩
          refine ⟨_, rfl, ?_⟩
          rw [eqv_nil]
          unfold stepT
          cases hfit : fits M ss T with
          | nil => exact iteN' Bool.false_ne_true ⟨_, _, rfl, rfl, _, _, rfl, s4.trans s6⟩
          | cons a r =>
            rw [hfit] at hd6
            refine iteT' rfl ?_
            exact ⟨_, rfl, D, _, _, _, rfl, rfl, SqL.of hd6, atI0, _, _, rfl, rfl, _, _, rfl, s4.trans s6⟩
      · rintro σ H4 ⟨x9, x10, rfl, s4⟩
        walk_at "nx"
        have sA := (s3.trans s4)
        have hv4 := ObjAt.keep (stillS sA) _ _ ho
        have hq4 := s4 _ _ hq
        have hM := R.le
        have hbig : ∀ t ∈ sums ss M, t < 10 ^ 6 := fun t ht => by have := sums_le ss M t ht; omega
        have hlen : (sums ss M).length ≤ 10000 := by have := sums_len ss M; omega
        refine ⟨_, rfl, _, rfl, v, .again (one x ss), z, 0, rfl, hv4, plain_one x ss hs3 fun s hs => (hss s hs).2, by omega, Nat.zero_le _, fun q6 H6 s6 hq6 => ?_⟩
        · rw [rounds_ends R fun s hs => (hss s hs).1, ← flat_ints] at hq6
          obtain ⟨d1, d2, d3, d4, d5⟩ := dN_ok (sums ss M) hlen hbig
          refine ⟨_, rfl, .inl ⟨dN (sums ss M), dp_dN (SqL.of hq6), d1, d2, d3, d4, d5, ?_⟩⟩
          refine ⟨_, rfl, _, rfl, .inl ⟨dN (sums ss M), dp_dN (SqL.of (s6 _ _ hq4)), d1, d2, d3, d4, d5, ?_⟩⟩
          refine ⟨rfl, _, rfl, ?_⟩
          rw [decide_eq_true rfl]
          refine iteF ?_
          walk_at "nx"
          refine ⟨_, rfl, _, rfl, v, .again (one x ss), z, 0, rfl, ObjAt.keep (stillS s6) _ _ hv4, plain_one x ss hs3 fun s hs => (hss s hs).2, by omega, Nat.zero_le _, fun H7 s7 => ?_⟩
          · rw [rounds_takes R fun s hs => (hss s hs).1]
            have hi : iter M ss M 0 < 10 ^ 6 := by have := iter_le M ss M 0 (Nat.zero_le _); omega
            have et : told (some (iter M ss M 0)) 0 = .int ((iter M ss M 0 : Nat) : Int) := congrArg V.int (by omega)
            rw [et]
            refine ⟨_, rfl, .inr (.inl ⟨_, rfl, log_nat hi, ?_⟩)⟩
            refine ⟨_, rfl, _, rfl, .inr (.inl ⟨_, rfl, log_nat hi, ?_⟩)⟩
            refine ⟨rfl, ?_⟩
            rw [decide_eq_true rfl]
            exact k H7 (((s2.trans sA).trans s6).trans s7)
end
end Su
namespace Su
open PySem PySem.Spec PyProof.Rows L2 Wv
open Tk
def spRow (c : Cs) : Sp := fun vs H Q _ => ∃ (qw qs : Addr) (us : List V) (ss z : List Nat) (x M : Nat), vs = [.ref qw, .ref qs, .str (tx z), .int (M : Nat)] ∧ H qw = some (.lst us) ∧ ObjsAt c H us (ss.map (same x)) ∧ H qs = some (.lst (iV ss)) ∧ 1 < ss.length ∧ ss.length ≤ 3 ∧ (∀ s ∈ ss, 0 < s ∧ s ≤ 9) ∧
  Run z x M ∧ z.length ≤ 200 ∧ ∀ H', Same H H' → Q (.bl true) H'
def rowSN (M : Nat) (ss : List Nat) (j : Nat) : List Nat := rowS M (ss.take j)
def rowTN (M : Nat) (ss : List Nat) (j : Nat) : Nat := rowT M (ss.take j)
theorem rowSN_next {M : Nat} {ss : List Nat} {j s : Nat} (h : ss[j]? = some s) : rowSN M ss (j + 1) = rowSN M ss j ++ ((rowSN M ss j).map (· + s)).filter fun t => decide (t ≤ M) := by
  unfold rowSN
  rw [List.take_add_one, h]
  exact foldl_snoc _ _ _ _
theorem rowTN_next {M : Nat} {ss : List Nat} {j s : Nat} (h : ss[j]? = some s) : rowTN M ss (j + 1) = if rowTN M ss j + s ≤ M then rowTN M ss j + s else rowTN M ss j := by
  unfold rowTN
  rw [List.take_add_one, h]
  exact foldl_snoc _ _ _ _
theorem rowS_len (M : Nat) : ∀ (ss : List Nat) (S : List Nat), (ss.foldl (fun S s => S ++ (S.map (· + s)).filter fun t => decide (t ≤ M)) S).length ≤ 2 ^ ss.length * S.length
  | [], S => by simp
  | s :: ss, S => by
    rw [List.foldl_cons]
    refine Nat.le_trans (rowS_len M ss _) ?_
    rw [List.length_append, List.length_cons, Nat.pow_succ, Nat.mul_assoc]
    refine Nat.mul_le_mul_left _ ?_
    have := List.length_filter_le (fun t => decide (t ≤ M)) (S.map (· + s))
    rw [List.length_map] at this
    omega
theorem rowSN_len (M : Nat) (ss : List Nat) (j : Nat) (h : ss.length ≤ 3) : (rowSN M ss j).length ≤ 8 := by
  have h1 := rowS_len M (ss.take j) [0]
  have h2 : 2 ^ (ss.take j).length ≤ 2 ^ 3 := Nat.pow_le_pow_right (by decide) (by rw [List.length_take]; omega)
  have h3 : (rowSN M ss j).length ≤ 2 ^ (ss.take j).length * 1 := h1
  omega
theorem rounds_row (x : Nat) : ∀ ss : List Nat, W.roundss (rowW x ss) = 0
  | [] => rfl
  | s :: r => by
    show W.roundss (.maybe (same x s) :: rowW x r) = 0
    rw [W.roundss, W.rounds, rounds_same, rounds_row x r]; rfl
theorem called_row (x : Nat) : ∀ ss : List Nat, W.calleds (rowW x ss) = none
  | [] => rfl
  | s :: r => by
    show W.calleds (.maybe (same x s) :: rowW x r) = none
    rw [W.calleds, W.called, called_same, called_row x r]
theorem plain_row (x : Nat) (ss : List Nat) (hl : ss.length ≤ 3) (h : ∀ s ∈ ss, s ≤ 9) : Plain (.row (rowW x ss)) := by
  refine ⟨⟨by unfold rowW; rw [List.length_map]; omega, fun y hy => ?_⟩, ?_, called_row x ss⟩
  · unfold rowW at hy
    obtain ⟨s, hs, rfl⟩ := List.mem_map.mp hy
    exact good_same x s (h s hs)
  · show W.roundss (rowW x ss) ≤ 1
    rw [rounds_row]
    exact Nat.zero_le _
section
variable {P : Program} {w : World} {K : PySem.W.Frag} {mg : Str → Option Value} {base : Heap} {c : Cs}
abbrev s_l_row_right : Stmt := top 63
theorem sc_l_row_right : FnScope ["_law_ways", "_law_sizes", "_law_text", "_law_many", "_law_sums", "_law_taken", "_law_size", "_law_more", "_law_due", "_law_way", "_law_total", "_law_one"] ["_law_ways", "_law_sizes", "_law_text", "_law_many"] (defScope s_l_row_right) := ⟨rfl, rfl, rfl, by decide +kernel, rfl, by decide +kernel, by decide +kernel⟩
theorem d_l_row_right (h : Here K mg "_law_row_right" s_l_row_right ["_law_ways", "_law_sizes", "_law_text", "_law_many"]) (B : Bs mg) (B_repr : mg "repr" = none) (g : Gs P w K mg base c) (GZ_takes : DefZ P w K mg base 5 "takes" ["way", "text", "place"] (spTakes c)) (GZ_ends : DefZ P w K mg base 9 "ends" ["way", "text", "place"] (spEnds c)) :
    Gd.DefG P w K mg base 10 "_law_row_right" ["_law_ways", "_law_sizes", "_law_text", "_law_many"] (spRow c) := by
  have G_Row := g.ro; have G_Maybe := g.ma
  have B_range := B.range; have B_len := B.len
  refine Gd.Here.okG h sc_l_row_right (fun vs H Q E h => by obtain ⟨_, _, _, _, _, _, _, rfl, _⟩ := h; rfl) (fun f cdv A outer s' H vs Q E hgd hr h => ?_)
  obtain ⟨qw, qs, us, ss, z, x, M, rfl, hqw, hus, hqs, hs1, hs3, hss, R, hz, k⟩ := h
  refine ⟨_, (pss_cons (ps_asg (pe_tup (pa_cons (pe_lst (pa_cons pe_int pa_nil)) (pa_cons pe_int pa_nil))) (pg_tup rfl (pgs_cons (pg_name (i := 4) sc_l_row_right.nd rfl (Or.inr rfl)) (pgs_cons (pg_name (i := 5) sc_l_row_right.nd rfl (Or.inl rfl)) pgs_nil))))
  (pss_cons (ps_for PassesOwn.never rfl (pi_list (pv 1)) (pg_name (i := 6) sc_l_row_right.nd rfl (Or.inr rfl))
   (pss_cons (ps_setLc (i := 7) (own := [("_law_total", 10)]) (g := (gName 10)) (tt := tYes) rfl sc_l_row_right.nd rfl rfl (sw_true rfl rfl rfl (by decide +kernel)) (pi_list (pv 4)) (blkOk_by (own := [("_law_total", 10)]) (N := ["_law_ways", "_law_sizes", "_law_text", "_law_many", "_law_sums", "_law_taken", "_law_size", "_law_more", "_law_due", "_law_way", "_law_total", "_law_one"]) (sc := defScope s_l_row_right) (by decide +kernel)) (fun _ _ _ _ _ => pg_name (i := 10) sc_l_row_right.nd rfl (Or.inl rfl)) (fun _ _ _ _ _ => pts_nil) (fun _ _ _ _ _ => (pe_op op_add (pv 10) (pv 6))))
  (pss_cons (ps_set (i := 4) sc_l_row_right.nd rfl (Or.inr rfl) (pe_op op_cat (pv 4) (pe_lc (own := [("_law_total", 10)]) (g := (gName 10)) rfl sc_l_row_right.nd (pi_list (pv 7)) (blkOk_by (own := [("_law_total", 10)]) (N := ["_law_ways", "_law_sizes", "_law_text", "_law_many", "_law_sums", "_law_taken", "_law_size", "_law_more", "_law_due", "_law_way", "_law_total", "_law_one"]) (sc := defScope s_l_row_right) (by decide +kernel)) (fun _ _ _ _ _ => pg_name (i := 10) sc_l_row_right.nd rfl (Or.inl rfl)) (fun _ _ _ _ _ => pts_one (pt_cmpR op_le (pv 10) (pv 3) (nomark _))) (fun _ _ _ _ _ => (pv 10)))))
  (pss_one (ps_set (i := 5) sc_l_row_right.nd rfl (Or.inl rfl) (pe_op op_add (pv 5) (pe_ifExp (pt_cmpR op_le (pe_op op_add (pv 5) (pv 6)) (pv 3) (nomark _)) (pv 6) pe_int)))))))
  (pss_cons (ps_setLc (i := 8) (own := [("_law_total", 10)]) (g := (gName 10)) rfl sc_l_row_right.nd rfl rfl (sw_true rfl rfl rfl (by decide +kernel)) (pi_range1 rfl B_range (pa_cons (pe_op op_add (pv 3) pe_int) pa_nil)) (blkOk_by (own := [("_law_total", 10)]) (N := ["_law_ways", "_law_sizes", "_law_text", "_law_many", "_law_sums", "_law_taken", "_law_size", "_law_more", "_law_due", "_law_way", "_law_total", "_law_one"]) (sc := defScope s_l_row_right) (by decide +kernel)) (fun _ _ _ _ _ => pg_name (i := 10) sc_l_row_right.nd rfl (Or.inl rfl)) (fun _ _ _ _ _ => pts_one (pt_cmpR (Gd.op_in_seqK (K := K) rfl) (pv 10) (pv 4) (by rfl))) (fun _ _ _ _ _ => (pv 10)))
  (pss_cons (ps_set (i := 9) sc_l_row_right.nd rfl (Or.inl rfl) (pe_makeD G_Row (hr.mono (by first | decide | omega)) rfl (pa_cons (pe_lc (own := [("_law_one", 11)]) (g := (gName 11)) (tt := tYes) rfl sc_l_row_right.nd (pi_list (pv 0)) (blkOk_by (own := [("_law_one", 11)]) (N := ["_law_ways", "_law_sizes", "_law_text", "_law_many", "_law_sums", "_law_taken", "_law_size", "_law_more", "_law_due", "_law_way", "_law_total", "_law_one"]) (sc := defScope s_l_row_right) (by decide +kernel)) (fun _ _ _ _ _ => pg_name (i := 11) sc_l_row_right.nd rfl (Or.inl rfl)) (fun _ _ _ _ _ => pts_nil) (fun _ _ _ _ _ => (pe_makeD G_Maybe (hr.mono (by first | decide | omega)) rfl (pa_cons (pv 11) pa_nil)))) pa_nil)))
  (pss_cons (ps_if (pt_cmpR op_ne (pe_callB (Gd.call_repr hgd hr) rfl B_repr (by decide +kernel) (pa_cons (pe_callZ GZ_ends (hr.mono (by first | decide | omega)) rfl (pa_cons (pv 9) (pa_cons (pv 2) pa_nil))) pa_nil)) (pe_callB (Gd.call_repr hgd hr) rfl B_repr (by decide +kernel) (pa_cons (pv 8) pa_nil)) (nomark _)) (pss_one (ps_ret pe_bl)) pss_nil)
  (pss_one (ps_ret (pe_cmpR op_eq (pe_callB (Gd.call_repr hgd hr) rfl B_repr (by decide +kernel) (pa_cons (pe_callZ GZ_takes (hr.mono (by first | decide | omega)) rfl (pa_cons (pv 9) (pa_cons (pv 2) pa_nil))) pa_nil)) (pe_callB (Gd.call_repr hgd hr) rfl B_repr (by decide +kernel) (pa_cons (pv 5) pa_nil)) (nomark _))))))))), ?_⟩
  have hl := ObjsAt.len _ _ hus
  rw [List.length_map] at hl
  have hM := R.le
  refine ⟨by show 1 ≤ sizeLine; decide, fun q0 hq0 => ?_⟩
  have s1 := Same.new hq0 (.lst [.int 0])
  have hq1 : upd H q0 (.lst [.int 0]) q0 = some (.lst (iV (rowSN M ss 0))) := upd_same
  generalize upd H q0 (.lst [.int 0]) = H1 at *
  refine ⟨by show 2 ≤ sizeLine; decide, fun qt hqt => ?_⟩
  have s1 := s1.trans (Same.new hqt (.tup [.ref q0, .int 0]))
  have hq1 := Same.new hqt (.tup [.ref q0, .int 0]) _ _ hq1
  have hqt' : upd H1 qt (.tup [.ref q0, .int 0]) qt = some (.tup [.ref q0, .int 0]) := upd_same
  refine ⟨qt, [.ref q0, .int 0], rfl, SqT.of hqt', rfl, .ref q0, [.int 0], rfl, .int 0, [], rfl, rfl, ?_⟩
  generalize upd H1 qt (.tup [.ref q0, .int 0]) = H1 at *
  walk_at "nx"
  have hqs1 := s1 _ _ hqs
  refine ⟨_, rfl, qs, rfl, ⟨_, SqL.of hqs1⟩, ?_⟩
  refine for_list (K := K) (a := qs) (xs := iV ss) (fun i σ H' => ∃ (q : Addr) (x6 x7 : Option V), σ = [some (.ref qw), some (.ref qs), some (.str (tx z)), some (.int (M : Nat)), some (.ref q), some (.int (rowTN M ss i : Nat)), x6, x7, none, none, none, none] ∧ H' q = some (.lst (iV (rowSN M ss i))) ∧ Same H1 H') ?_ ?_ ?_ ?_
  · exact ⟨q0, none, none, rfl, hq1, Same.refl _⟩
  · rintro i σ H2 _ ⟨q, x6, x7, rfl, hq, s2⟩
    exact SqL.of (s2 _ _ hqs1)
  · rintro i e σ H2 he ⟨q, x6, x7, rfl, hq, s2⟩
    obtain ⟨n, hn, rfl⟩ := iV_back he
    have hSl := rowSN_len M ss i hs3
    rw [rowSN_next hn, rowTN_next hn]
    generalize rowSN M ss i = S at *
    generalize rowTN M ss i = T at *
    walk_at "nx"
    refine ⟨_, rfl, q, rfl, ⟨_, SqL.of hq⟩, fun D hD => ?_⟩
    refine lc_list (K := K) (a := q) (xs := iV S) (fun j Hx => Hx D = some (.lst (iV ((S.take j).map (· + n)))) ∧ Same H2 Hx) ?_ ?_ ?_ ?_
    · exact ⟨upd_same, Same.new hD _⟩
    · rintro j Hx _ ⟨_, sx⟩
      exact SqL.of (sx _ _ hq)
    · rintro j e Hx he ⟨hd, sx⟩
      obtain ⟨m, hm, rfl⟩ := iV_back he
      refine ⟨rfl, _, rfl, _, rfl, _, _, rfl, rfl, _, hd, small' (by simp only [iV, List.length_map, List.length_take]; omega), ?_, Same.put hD sx _⟩
      rw [upd_same, List.take_add_one, hm, List.map_append, ← iV_app]
      rfl
    · rintro H3 ⟨hd, s3⟩
      rw [show (iV S).length = S.length by simp only [iV, List.length_map], List.take_length] at hd
      have hSm : (S.map (· + n)).length = S.length := List.length_map ..
      have hq3 := s3 _ _ hq
      have s23 := s2.trans s3
      generalize S.map (· + n) = Z at *
      walk_at "nx"
      refine ⟨_, rfl, _, rfl, D, rfl, ⟨_, SqL.of hd⟩, fun F hF => ?_⟩
      refine lc_list (K := K) (a := D) (xs := iV Z) (fun j Hx => Hx F = some (.lst (iV ((Z.take j).filter fun t => decide (t ≤ M)))) ∧ Same H3 Hx) ?_ ?_ ?_ ?_
      · exact ⟨upd_same, Same.new hF _⟩
      · rintro j Hx _ ⟨_, sx⟩
        exact SqL.of (sx _ _ hd)
      · rintro j e Hx he ⟨hf, sx⟩
        obtain ⟨m, hm, rfl⟩ := iV_back he
        refine ⟨rfl, _, rfl, _, rfl, _, _, rfl, rfl, _, rfl, ?_⟩
        rw [show decide (((m : Nat) : Int) ≤ ((M : Nat) : Int)) = decide (m ≤ M) from decide_eq_decide.mpr (by omega)]
        by_cases hm2 : decide (m ≤ M) = true
        · refine iteT' hm2 ?_
          have hll : ((Z.take j).filter fun t => decide (t ≤ M)).length ≤ 8 := by
            have := List.length_filter_le (fun t => decide (t ≤ M)) (Z.take j)
            rw [List.length_take] at this
            omega
          refine ⟨_, rfl, _, hf, small' (by simp only [iV, List.length_map]; omega), ?_, Same.put hF sx _⟩
          rw [upd_same, filter_more (f := fun t => decide (t ≤ M)) hm, if_pos hm2, ← iV_app]
          rfl
        · refine iteN' hm2 ?_
          rw [filter_more (f := fun t => decide (t ≤ M)) hm, if_neg hm2, List.append_nil]
          exact ⟨hf, sx⟩
      · rintro H4 ⟨hf, s4⟩
        rw [show (iV Z).length = Z.length by simp only [iV, List.length_map], List.take_length] at hf
        have hll : (Z.filter fun t => decide (t ≤ M)).length ≤ 8 := by
          have := List.length_filter_le (fun t => decide (t ≤ M)) Z
          omega
        refine ⟨q, F, _, _, rfl, rfl, s4 _ _ hq3, hf, Nat.le_of_lt (small' (by simp only [iV, List.length_map]; omega)), fun q7 hq7 => ?_⟩
        have s5 := s4.trans (Same.new hq7 (.lst (iV S ++ iV (Z.filter fun t => decide (t ≤ M)))))
        have h7 : upd H4 q7 (.lst (iV S ++ iV (Z.filter fun t => decide (t ≤ M)))) q7 = some (.lst (iV (S ++ Z.filter fun t => decide (t ≤ M)))) := by rw [upd_same, iV_app]
        generalize upd H4 q7 (.lst (iV S ++ iV (Z.filter fun t => decide (t ≤ M)))) = H5 at *
        walk_at "nx"
        refine ⟨_, rfl, _, rfl, _, rfl, _, _, rfl, rfl, _, rfl, _, _, rfl, rfl, _, rfl, ?_⟩
        rw [show decide (((T : Nat) : Int) + ((n : Nat) : Int) ≤ ((M : Nat) : Int)) = decide (T + n ≤ M) from decide_eq_decide.mpr (by omega)]
        by_cases hm2 : T + n ≤ M
        · rw [decide_eq_true hm2, if_pos hm2]
          exact iteT ⟨_, rfl, _, _, rfl, rfl, q7, _, _, rfl, h7, s23.trans s5⟩
        · rw [decide_eq_false hm2, if_neg hm2]
          exact iteF ⟨_, _, rfl, rfl, q7, _, _, rfl, h7, s23.trans s5⟩
  · rintro σ H2 ⟨q, x6, x7, rfl, hq, s2⟩
    rw [show (iV ss).length = ss.length by simp only [iV, List.length_map]] at hq
    have hSl := rowSN_len M ss ss.length hs3
    have eS : rowSN M ss ss.length = rowS M ss := by unfold rowSN; rw [List.take_length]
    have eT : rowTN M ss (iV ss).length = rowT M ss := by unfold rowTN; rw [show (iV ss).length = ss.length by simp only [iV, List.length_map], List.take_length]
    rw [eS] at hSl hq
    rw [eT]
    walk_at "nx"
    refine ⟨_, rfl, _, _, rfl, rfl, ((M : Nat) : Int) + 1, rfl, by omega, by omega, fun D hD => ?_⟩
    rw [show (((M : Nat) : Int) + 1).toNat = M + 1 by omega]
    refine lc_range (fun i Hx => Hx D = some (.lst (iV ((List.range i).filter fun t => decide (t ∈ rowS M ss)))) ∧ Same H2 Hx) ?_ ?_ ?_
    · exact ⟨upd_same, Same.new hD _⟩
    · rintro i Hx hi ⟨hd, sx⟩
      refine ⟨rfl, _, rfl, _, rfl, q, _, rfl, .inl (SqL.of (sx _ _ hq)), rfl, iV_flat _, ?_⟩
      rw [if_neg Bool.false_ne_true, inV_nat]
      refine ⟨_, rfl, ?_⟩
      rw [show decide (0 ≤ (0 + ((i : Nat) : Int)) ∧ (0 + ((i : Nat) : Int)).toNat ∈ rowS M ss) = decide (i ∈ rowS M ss) from decide_eq_decide.mpr (by rw [show (0 + ((i : Nat) : Int)).toNat = i by omega]; exact ⟨fun h => h.2, fun h => ⟨by omega, h⟩⟩)]
      rw [List.range_succ, List.filter_append]
      by_cases hf : decide (i ∈ rowS M ss) = true
      · refine iteT' hf ?_
        have hll : ((List.range i).filter fun t => decide (t ∈ rowS M ss)).length ≤ i := by
          have := List.length_filter_le (fun t => decide (t ∈ rowS M ss)) (List.range i)
          rw [List.length_range] at this
          exact this
        refine ⟨_, rfl, _, hd, small' (by simp only [iV, List.length_map]; omega), ?_, Same.put hD sx _⟩
        rw [upd_same, List.filter_cons, if_pos hf, List.filter_nil, ← iV_app]
        show some (HO.lst (iV _ ++ [V.int (0 + ((i : Nat) : Int))])) = some (HO.lst (iV _ ++ [V.int ((i : Nat) : Int)]))
        rw [Int.zero_add]
      · refine iteN' hf ?_
        rw [List.filter_cons, if_neg hf, List.filter_nil, List.append_nil]
        exact ⟨hd, sx⟩
    · rintro H3 ⟨hd, s3⟩
      walk_at "nx"
      have s13 := (s1.trans s2).trans s3
      have hqw3 := s13 _ _ hqw
      have hus3 := ObjsAt.keep (stillS s13) _ _ hus
      have hlu : us.length = ss.length := hl
      refine te_cut (S := fun v H1 => Same H3 H1 ∧ ObjAt c H1 v (.row (rowW x ss))) (fun Q' rest => ?_) (fun v H6 hv => ?_)
      · refine ⟨_, rfl, qw, rfl, ⟨_, SqL.of hqw3⟩, fun F hF => ?_⟩
        refine lc_list (K := K) (a := qw) (xs := us) (fun l Hx => ∃ os, Hx F = some (.lst os) ∧ os.length = l ∧ ObjsAt c Hx os ((rowW x ss).take l) ∧ Same H3 Hx) ?_ ?_ ?_ ?_
        · exact ⟨[], upd_same, rfl, rfl, Same.new hF _⟩
        · rintro l Hx _ ⟨_, _, _, _, sx⟩
          exact SqL.of (sx _ _ hqw3)
        · rintro l e Hx he ⟨os, hos, hol, hobj, sx⟩
          have hl : l < us.length := (List.getElem?_eq_some_iff.mp he).1
          obtain ⟨we, hwe⟩ := get_lt (l := ss.map (same x)) (j := l) (by rw [List.length_map]; omega)
          obtain ⟨e', he', hew⟩ := ObjsAt.at_ _ _ _ _ hus3 hwe
          have ee : e = e' := Option.some.inj (he.symm.trans he')
          subst ee
          refine ⟨rfl, _, rfl, ?_⟩
          have hew' := ObjAt.keep (stillS sx) _ _ hew
          intro a dx ha hdx nd
          refine ⟨a, dx, e, we, Hx, rfl, at0 ha hdx, hew', fun H' h s4 => ⟨rfl, ?_⟩⟩
          have hos' := s4 _ _ hos
          have st : Still H' (upd H' F (.lst (os ++ [.ref a]))) := Still.put hos'
          have hwr : (rowW x ss)[l]? = some (.maybe we) := by
            unfold rowW
            rw [List.getElem?_map] at hwe ⊢
            cases hs : ss[l]? with
            | none => rw [hs] at hwe; cases hwe
            | some s => rw [hs] at hwe; cases hwe; rfl
          refine ⟨os, hos', small' (by omega), os ++ [.ref a], upd_same, by rw [List.length_append, hol]; rfl, ?_, Same.put hF (sx.trans s4) _⟩
          rw [take_more' hwr]
          exact ObjsAt.app _ _ (ObjsAt.keep ((stillS s4).trans st) _ _ hobj) ⟨.ref a, [], rfl, ObjAt.keep st _ _ ⟨a, dx, _, .non, rfl, h, ObjAt.keep (stillS s4) _ _ hew'⟩, rfl⟩
        · rintro H4 ⟨os, hos, hol, hobj, s4⟩
          have hlr : us.length = (rowW x ss).length := by unfold rowW; rw [List.length_map]; exact hlu
          rw [hlr, List.take_length] at hobj
          exact makeT (.inl hos) hobj (by unfold rowW; rw [List.length_map]; omega) fun a dx t H' s5 ht h => rest _ H' ⟨s4.trans s5, a, dx, t, os, rfl, h, ht, ObjsAt.keep (stillS s5) _ _ hobj⟩
      · obtain ⟨s6, hv⟩ := hv
        walk_at "nx"
        have hwf := plain_row x ss hs3 fun s hs => (hss s hs).2
        have hdl : ((List.range (M + 1)).filter fun t => decide (t ∈ rowS M ss)).length ≤ M + 1 := by
          have := List.length_filter_le (fun t => decide (t ∈ rowS M ss)) (List.range (M + 1))
          rw [List.length_range] at this
          exact this
        have hdb : ∀ t ∈ (List.range (M + 1)).filter (fun t => decide (t ∈ rowS M ss)), t < 10 ^ 6 := fun t ht => by
          have := (List.mem_filter.mp ht).1
          rw [List.mem_range] at this
          omega
        refine ⟨_, rfl, _, rfl, v, .row (rowW x ss), z, 0, rfl, hv, hwf, by omega, Nat.zero_le _, fun q8 H8 s8 hq8 => ?_⟩
        rw [row_ends R ss, ← flat_ints] at hq8
        obtain ⟨d1, d2, d3, d4, d5⟩ := dN_ok _ (by omega) hdb
        refine ⟨_, rfl, .inl ⟨_, dp_dN (SqL.of hq8), d1, d2, d3, d4, d5, ?_⟩⟩
        refine ⟨_, rfl, _, rfl, .inl ⟨_, dp_dN (SqL.of (s8 _ _ (s6 _ _ hd))), d1, d2, d3, d4, d5, ?_⟩⟩
        refine ⟨rfl, _, rfl, ?_⟩
        rw [decide_eq_true rfl]
        refine iteF ?_
        walk_at "nx"
        refine ⟨_, rfl, _, rfl, v, .row (rowW x ss), z, 0, rfl, ObjAt.keep (stillS s8) _ _ hv, hwf, by omega, Nat.zero_le _, fun H9 s9 => ?_⟩
        rw [row_takes R ss]
        have hT : rowT M ss ≤ M := rowT_le M ss 0 (Nat.zero_le _)
        have hi : rowT M ss < 10 ^ 6 := by omega
        have et : told (some (rowT M ss)) 0 = .int ((rowT M ss : Nat) : Int) := congrArg V.int (by omega)
        rw [et]
        refine ⟨_, rfl, .inr (.inl ⟨_, rfl, log_nat hi, ?_⟩)⟩
        refine ⟨_, rfl, _, rfl, .inr (.inl ⟨_, rfl, log_nat hi, ?_⟩)⟩
        refine ⟨rfl, ?_⟩
        rw [decide_eq_true rfl]
        exact k H9 (((s13.trans s6).trans s8).trans s9)
end
end Su
namespace Su
open PySem PySem.Spec PyProof.Rows L2 Wv
open Tk
/-! ### the law -/
theorem run_all (x M : Nat) (h : M ≤ 200) : Run ((List.replicate M x).take 200) x M := by
  rw [List.take_of_length_le (by rw [List.length_replicate]; exact h)]
  exact ⟨by rw [List.length_replicate]; exact Nat.le_refl _, fun i hi => by rw [List.getElem?_replicate, if_pos hi], by rw [List.getElem?_replicate, if_neg (Nat.lt_irrefl _)]; exact fun q => nomatch q⟩
theorem run_part (x d R M : Nat) (h : R ≤ 200) (hd : d ≠ x) : Run (((List.replicate R x ++ [d]) ++ List.replicate M x).take 200) x R := by
  have hlen : (((List.replicate R x ++ [d]) ++ List.replicate M x)).length = R + 1 + M := by rw [List.length_append, List.length_append, List.length_replicate, List.length_replicate]; rfl
  refine ⟨by rw [List.length_take, hlen]; omega, fun i hi => ?_, ?_⟩
  · rw [List.getElem?_take, if_pos (by omega), List.append_assoc, List.getElem?_append_left (by rw [List.length_replicate]; exact hi), List.getElem?_replicate, if_pos hi]
  · rw [List.getElem?_take]
    by_cases hR : R < 200
    · rw [if_pos hR, List.append_assoc, List.getElem?_append_right (by rw [List.length_replicate]; exact Nat.le_refl _), List.length_replicate, Nat.sub_self]
      exact fun q => hd (Option.some.inj q)
    · rw [if_neg hR]
      exact fun q => nomatch q
theorem notInV (s : Nat) (ss : List Nat) : (!inV (.int ((s : Nat) : Int)) (iV ss)) = decide (s ∉ ss) := by
  rw [inV_nat, Bool.eq_iff_iff, decide_eq_true_iff, Bool.not_eq_true', decide_eq_false_iff_not, Int.toNat_natCast]
  exact ⟨fun h q => h ⟨by omega, q⟩, fun h q => h q.2⟩
theorem ts_cut {t : TS} {D : Ends} {σ : L2.St} {H : Hp} {S : L2.St → Hp → Prop} (h1 : ∀ N : L2.St → Hp → Prop, (∀ σ H, S σ H → N σ H) → t { D with nx := N } σ H) (h2 : ∀ σ H, S σ H → D.nx σ H) : t D σ H := h1 D.nx h2
section
variable {P : Program} {w : World} {K : PySem.W.Frag} {mg : Str → Option Value} {base : Heap} {c : Cs}
def spLaw (K : PySem.W.Frag) : Sp := fun vs H Q _ => ∃ (a : Addr) (ns : List Int), vs = [.ref a] ∧ SqL K H a (ns.map V.int) ∧ ns.length ≤ 63 ∧ ∀ H', Q (.bl true) H'
abbrev s_law : Stmt := top 64
theorem sc_law : FnScope ["_law_script", "_law_pen_here", "_law_turn", "_law_letters", "_law_sizes", "_law_k", "_law_size", "_law_many", "_law_room", "_law_text", "_law_ways", "_law_found"] ["_law_script"] (defScope s_law) := ⟨rfl, rfl, rfl, by decide +kernel, rfl, by decide +kernel, by decide +kernel⟩
theorem ok_law {f : Addr} {fd : FuncData} (F : Fun K "law" "law" s_law f fd) (B : Bs mg) (G_l_pen : DefOk P w K mg base 1 "_law_pen" ["_law_script"] (spPen K)) (G_l_draw : DefOk P w K mg base 1 "_law_draw" ["_law_pen_here", "_law_many"] (spDraw K))
    (G_l_signs : DefOk P w K mg base 2 "_law_signs" ["_law_pen_here", "_law_many"] (spSigns K)) (G_l_same : DefOk P w K mg base 4 "_law_same" ["_law_letter", "_law_size"] (spSame c))
    (G_l_rounds_right : Gd.DefG P w K mg base 10 "_law_rounds_right" ["_law_ways", "_law_sizes", "_law_text", "_law_many"] (spRound c)) (G_l_row_right : Gd.DefG P w K mg base 10 "_law_row_right" ["_law_ways", "_law_sizes", "_law_text", "_law_many"] (spRow c)) : Gd.FnG P w K mg base 12 f fd ["_law_script"] (spLaw K) := by
  have B_len := B.len; have B_range := B.range; have B_min := B.min
  refine Gd.fnG_of F sc_law (fun vs H Q E h => by obtain ⟨p, v, rfl, _⟩ := h; rfl) (fun cdv A outer s' H vs Q E hgd hr h => ?_)
  obtain ⟨a, ns, rfl, hns, hnl, k⟩ := h
  refine ⟨_, (pss_cons (ps_set (i := 1) sc_law.nd rfl (Or.inl rfl) (pe_callD G_l_pen (hr.mono (by first | decide | omega)) rfl (pa_cons (pv 0) pa_nil)))
  (pss_cons (ps_for PassesOwn.never rfl (pi_range1 rfl B_range (pa_cons (pe_op op_add pe_int (pe_callB (call_min2 rfl) rfl B_min (by decide +kernel) (pa_cons pe_int (pa_cons (pe_callB call_len_seq rfl B_len PySem.boot_len (pa_cons (pv 0) pa_nil)) pa_nil)))) pa_nil)) (pg_name (i := 2) sc_law.nd rfl (Or.inl rfl))
   (pss_cons (ps_asg (pe_tup (pa_cons (pe_callD G_l_signs (hr.mono (by first | decide | omega)) rfl (pa_cons (pv 1) (pa_cons pe_int pa_nil))) (pa_cons (pe_lst pa_nil) pa_nil))) (pg_tup rfl (pgs_cons (pg_name (i := 3) sc_law.nd rfl (Or.inr rfl)) (pgs_cons (pg_name (i := 4) sc_law.nd rfl (Or.inl rfl)) pgs_nil))))
  (pss_cons (ps_for PassesOwn.never rfl (pi_range1 rfl B_range (pa_cons (pe_op op_add pe_int (pe_callD G_l_draw (hr.mono (by first | decide | omega)) rfl (pa_cons (pv 1) (pa_cons pe_int pa_nil)))) pa_nil)) (pg_name (i := 5) sc_law.nd rfl (Or.inl rfl))
   (pss_cons (ps_set (i := 6) sc_law.nd rfl (Or.inr rfl) (pe_op op_add pe_int (pe_callD G_l_draw (hr.mono (by first | decide | omega)) rfl (pa_cons (pv 1) (pa_cons pe_int pa_nil)))))
  (pss_one (ps_set (i := 4) sc_law.nd rfl (Or.inl rfl) (pe_op op_cat (pv 4) (pe_lc (own := [("_law_found", 11)]) (g := (gName 11)) rfl sc_law.nd (pi_list (pe_lst (pa_cons (pv 4) pa_nil))) (blkOk_by (own := [("_law_found", 11)]) (N := ["_law_script", "_law_pen_here", "_law_turn", "_law_letters", "_law_sizes", "_law_k", "_law_size", "_law_many", "_law_room", "_law_text", "_law_ways", "_law_found"]) (sc := defScope s_law) (by decide +kernel)) (fun _ _ _ _ _ => pg_name (i := 11) sc_law.nd rfl (Or.inl rfl)) (fun _ _ _ _ _ => pts_one (pt_cmpR (Gd.op_notIn_seqK (K := K) rfl) (pv 6) (pv 11) (by rfl))) (fun _ _ _ _ _ => (pv 6))))))))
  (pss_cons (ps_set (i := 7) sc_law.nd rfl (Or.inl rfl) (pe_ifExp (pt_cmpR op_eq (pe_callD G_l_draw (hr.mono (by first | decide | omega)) rfl (pa_cons (pv 1) (pa_cons pe_int pa_nil))) pe_int (nomark _)) (pe_callD G_l_draw (hr.mono (by first | decide | omega)) rfl (pa_cons (pv 1) (pa_cons pe_int pa_nil))) (pe_callD G_l_draw (hr.mono (by first | decide | omega)) rfl (pa_cons (pv 1) (pa_cons pe_int pa_nil)))))
  (pss_cons (ps_set (i := 8) sc_law.nd rfl (Or.inl rfl) (pe_callD G_l_draw (hr.mono (by first | decide | omega)) rfl (pa_cons (pv 1) (pa_cons (pe_op op_add (pv 7) pe_int) pa_nil))))
  (pss_cons (ps_set (i := 9) sc_law.nd rfl (Or.inl rfl) (pe_op op_rep_str (pe_ix ix_str (pv 3) pe_int (fun _ _ => rfl)) (pv 7)))
  (pss_cons (ps_if (pt_cmpR op_eq (pe_callD G_l_draw (hr.mono (by first | decide | omega)) rfl (pa_cons (pv 1) (pa_cons pe_int pa_nil))) pe_int (nomark _)) (pss_cons (ps_set (i := 9) sc_law.nd rfl (Or.inl rfl) (pe_op op_add_str (pe_op op_add_str (pe_op op_rep_str (pe_ix ix_str (pv 3) pe_int (fun _ _ => rfl)) (pv 8)) (pe_ix ix_str (pv 3) pe_int (fun _ _ => rfl))) (pe_op op_rep_str (pe_ix ix_str (pv 3) pe_int (fun _ _ => rfl)) (pe_op op_sub (pv 7) (pv 8)))))
  (pss_one (ps_set (i := 7) sc_law.nd rfl (Or.inl rfl) (pv 8)))) pss_nil)
  (pss_cons (ps_setLc (i := 10) (own := [("_law_size", 6)]) (g := (gName 6)) (tt := tYes) rfl sc_law.nd rfl rfl (sw_true rfl rfl rfl (by decide +kernel)) (pi_list (pv 4)) (blkOk_by (own := [("_law_size", 6)]) (N := ["_law_script", "_law_pen_here", "_law_turn", "_law_letters", "_law_sizes", "_law_k", "_law_size", "_law_many", "_law_room", "_law_text", "_law_ways", "_law_found"]) (sc := defScope s_law) (by decide +kernel)) (fun _ _ _ _ _ => pg_name (i := 6) sc_law.nd rfl (Or.inl rfl)) (fun _ _ _ _ _ => pts_nil) (fun _ _ _ _ _ => (pe_callD G_l_same (hr.mono (by first | decide | omega)) rfl (pa_cons (pe_ix ix_str (pv 3) pe_int (fun _ _ => rfl)) (pa_cons (pv 6) pa_nil)))))
  (pss_cons (ps_if (pt_not (pt_truth (Gd.pe_callG G_l_rounds_right hgd (hr.mono (by first | decide | omega)) rfl (pa_cons (pv 10) (pa_cons (pv 4) (pa_cons (pe_slice sl_str (pv 9) po_none (po_some pe_int)) (pa_cons (pv 7) pa_nil))))) (by intro _; rfl))) (pss_one (ps_ret pe_bl)) pss_nil)
  (pss_one (ps_if (PW.pt (pw_and (pt_cmpR op_gt (pe_callB call_len_seq rfl B_len PySem.boot_len (pa_cons (pv 10) pa_nil)) pe_int (nomark _)) (pw_and1 (pt_not (pt_truth (Gd.pe_callG G_l_row_right hgd (hr.mono (by first | decide | omega)) rfl (pa_cons (pv 10) (pa_cons (pv 4) (pa_cons (pe_slice sl_str (pv 9) po_none (po_some pe_int)) (pa_cons (pv 7) pa_nil))))) (by intro _; rfl)))))) (pss_one (ps_ret pe_bl)) pss_nil)))))))))))
  (pss_one (ps_ret pe_bl)))), ?_⟩
  refine ⟨_, rfl, a, ns, rfl, hns, hnl, fun p H0 s0 hP0 => ?_⟩
  walk_at "nx"
  have hm : ∃ n : Nat, n ≤ 3 ∧ 1 + (if (((ns.map V.int).length : Nat) : Int) < 2 then (((ns.map V.int).length : Nat) : Int) else 2) = (n : Int) := by
    by_cases h8 : (((ns.map V.int).length : Nat) : Int) < 2
    · rw [if_pos h8]; exact ⟨(ns.map V.int).length + 1, by omega, by omega⟩
    · rw [if_neg h8]; exact ⟨3, by omega, by omega⟩
  obtain ⟨n, hn, en⟩ := hm
  refine ⟨_, rfl, a, _, rfl, .inl (s0.seq hns), _, _, rfl, _, _, rfl, rfl, (n : Int), ?_, by omega, by omega, ?_⟩
  · exact congrArg (fun z => [V.int z]) en
  refine for_range (lo := 0) (n := (n : Int).toNat) (fun i σ H' => ∃ x2 x3 x4 x5 x6 x7 x8 x9 x10 : Option V, σ = [some (.ref a), some (.ref p.d), x2, x3, x4, x5, x6, x7, x8, x9, x10, none] ∧ PenAt K H' p (20 * i)) ?_ ?_ ?_
  · exact ⟨_, _, _, _, _, _, _, _, _, rfl, hP0⟩
  · rintro i σ H1 hi ⟨x2, x3, x4, x5, x6, x7, x8, x9, x10, rfl, hP1⟩
    have hi' : i < 3 := by omega
    walk_at "nx"
    -- the letters, and the sizes
    refine ⟨_, rfl, p, 2, _, rfl, hP1, by unfold LIM; omega, by omega, fun z H2 hzl hznd hza k2 hP2 => ?_⟩
    obtain ⟨x, d, rfl⟩ : ∃ x d, z = [x, d] := match z, hzl with | [x, d], _ => ⟨x, d, rfl⟩
    have hxd : d ≠ x := fun e => by rw [e] at hznd; simp at hznd
    refine ⟨by show 0 ≤ sizeLine; decide, fun q0 hq0 => ?_⟩
    have s3 := Same.new hq0 (.lst [])
    have hq1 : upd H2 q0 (.lst []) q0 = some (.lst (iV [])) := upd_same
    generalize upd H2 q0 (.lst []) = H3 at *
    refine ⟨by show 2 ≤ sizeLine; decide, fun qt hqt => ?_⟩
    have s4 := s3.trans (Same.new hqt (.tup [.str (tx [x, d]), .ref q0]))
    have hq2 := Same.new hqt (.tup [.str (tx [x, d]), .ref q0]) _ _ hq1
    have hqt' : upd H3 qt (.tup [.str (tx [x, d]), .ref q0]) qt = some (.tup [.str (tx [x, d]), .ref q0]) := upd_same
    refine ⟨qt, [.str (tx [x, d]), .ref q0], rfl, SqT.of hqt', rfl, .str (tx [x, d]), [.ref q0], rfl, .ref q0, [], rfl, rfl, ?_⟩
    generalize upd H3 qt (.tup [.str (tx [x, d]), .ref q0]) = H4 at *
    have hP4 := hP2.same s4
    walk_at "nx"
    refine ⟨_, rfl, p, 3, _, rfl, hP4, by unfold LIM; omega, by decide, by decide, fun e H5 e0 e1 k5 hP5 => ?_⟩
    have hq5 := k5.lst hq2
    obtain ⟨m, rfl⟩ : ∃ m : Nat, e = (m : Int) := ⟨e.toNat, by omega⟩
    refine ⟨_, _, rfl, rfl, 1 + ((m : Nat) : Int), rfl, by omega, by omega, ?_⟩
    rw [show (1 + ((m : Nat) : Int)).toNat = m + 1 by omega]
    have hm3 : m < 3 := by omega
    refine for_range (lo := 0) (n := m + 1) (fun j σ H' => ∃ (q : Addr) (ss : List Nat) (y5 y6 : Option V), σ = [some (.ref a), some (.ref p.d), some (.int (0 + (i : Nat))), some (.str (tx [x, d])), some (.ref q), y5, y6, x7, x8, x9, x10, none] ∧ H' q = some (.lst (iV ss)) ∧ ss.length ≤ j ∧ (0 < j → 0 < ss.length) ∧ (∀ s ∈ ss, 0 < s ∧ s ≤ 9) ∧ PenAt K H' p (20 * i + 3 + j)) ?_ ?_ ?_
    · exact ⟨q0, [], x5, x6, rfl, hq5, Nat.le_refl _, fun h => h, fun s h => (nomatch h), hP5⟩
    · rintro j σ H6 hj ⟨q, ss, y5, y6, rfl, hq, hsl, hs0, hss, hP6⟩
      walk_at "nx"
      refine ⟨_, rfl, p, 9, _, rfl, hP6, by unfold LIM; omega, by decide, by decide, fun e H7 e0 e1 k7 hP7 => ?_⟩
      obtain ⟨s, rfl⟩ : ∃ s : Nat, e = (s : Int) := ⟨e.toNat, by omega⟩
      refine ⟨_, _, rfl, rfl, ?_⟩
      have hq7 := k7.lst hq
      have hs9 : s < 9 := by omega
      refine gset (x := .int ((1 + s : Nat) : Int)) ?_
      generalize hs' : 1 + s = s' at *
      have hs1 : 0 < s' ∧ s' ≤ 9 := by omega
      clear hs' hs9 e0 e1
      walk_at "nx"
      refine ⟨_, rfl, _, rfl, by show 1 ≤ sizeLine; decide, fun b hb => ?_⟩
      have s8 := Same.new hb (.lst [.ref q])
      have hb' : upd H7 b (.lst [.ref q]) b = some (.lst [.ref q]) := upd_same
      generalize upd H7 b (.lst [.ref q]) = H8 at *
      refine ⟨b, rfl, ⟨_, SqL.of hb'⟩, fun D hD => ?_⟩
      refine lc_list (K := K) (a := b) (xs := [.ref q]) (fun l Hx => Hx D = some (.lst (iV (if l = 0 then [] else if s' ∈ ss then [] else [s']))) ∧ Same H8 Hx) ?_ ?_ ?_ ?_
      · exact ⟨upd_same, Same.new hD _⟩
      · rintro l Hx _ ⟨_, sx⟩
        exact SqL.of (sx _ _ hb')
      · rintro l e Hx he ⟨hd, sx⟩
        have hl0 : l = 0 := by have := (List.getElem?_eq_some_iff.mp he).1; simp at this; exact this
        subst hl0
        cases he
        refine ⟨rfl, _, rfl, _, rfl, q, _, rfl, .inl (SqL.of (sx _ _ (s8 _ _ hq7))), rfl, iV_flat _, ?_⟩
        rw [if_pos rfl, notInV]
        refine ⟨_, rfl, ?_⟩
        rw [if_neg (by omega)]
        rw [if_pos rfl] at hd
        by_cases hf : s' ∈ ss
        · rw [if_pos hf]
          refine iteN' (by simp [hf]) ⟨hd, sx⟩
        · rw [if_neg hf]
          exact iteT' (by simp [hf]) ⟨_, rfl, _, hd, small' (by decide), upd_same, Same.put hD sx _⟩
      · rintro H9 ⟨hd, s9⟩
        rw [if_neg (show ¬ ([V.ref q] : List V).length = 0 from Nat.one_ne_zero)] at hd
        have hq9 := s9 _ _ (s8 _ _ hq7)
        have hn1 : (if s' ∈ ss then ([] : List Nat) else [s']).length ≤ 1 := by split <;> simp
        refine ⟨q, D, _, _, rfl, rfl, hq9, hd, Nat.le_of_lt (small' (by simp only [iV, List.length_map]; omega)), fun q7 hq7' => ?_⟩
        refine ⟨q7, ss ++ (if s' ∈ ss then [] else [s']), _, _, rfl, by rw [upd_same, iV_app], by rw [List.length_append]; omega, fun _ => ?_, fun t ht => ?_, ?_⟩
        · rw [List.length_append]
          by_cases hf : s' ∈ ss
          · have := List.length_pos_of_mem hf; omega
          · rw [if_neg hf]; simp
        · rcases List.mem_append.mp ht with ht | ht
          · exact hss t ht
          · by_cases hf : s' ∈ ss
            · rw [if_pos hf] at ht; cases ht
            · rw [if_neg hf, List.mem_singleton] at ht; rw [ht]; exact hs1
        · exact ((hP7.same s8).same s9).same (Same.new hq7' _)
    · rintro σ H6 ⟨q, ss, y5, y6, rfl, hq, hsl, hs0, hss, hP6⟩
      have hs0 := hs0 (by omega)
      have hP6 := hP6.mono (show _ ≤ 20 * i + 6 by omega)
      walk_at "nx"
      refine te_cut (S := fun v H' => ∃ M : Nat, v = .int (M : Nat) ∧ M ≤ 200 ∧ Keep H6 H' ∧ PenAt K H' p (20 * i + 8)) (fun Q' rest => ?_) (fun v H7 hv => ?_)
      · refine ⟨_, rfl, p, 3, _, rfl, hP6, by unfold LIM; omega, by decide, by decide, fun e H7 e0 e1 k7 hP7 => ?_⟩
        walk_at "rd"
        refine ite2 (fun _ => ?_) (fun _ => ?_)
        · refine ⟨_, rfl, p, 201, _, rfl, hP7, by unfold LIM; omega, by decide, by decide, fun e H8 e0 e1 k8 hP8 => ?_⟩
          exact rest _ _ ⟨e.toNat, by rw [Int.toNat_of_nonneg e0], by omega, k7.trans k8, hP8⟩
        · refine ⟨_, rfl, p, 40, _, rfl, hP7, by unfold LIM; omega, by decide, by decide, fun e H8 e0 e1 k8 hP8 => ?_⟩
          exact rest _ _ ⟨e.toNat, by rw [Int.toNat_of_nonneg e0], by omega, k7.trans k8, hP8⟩
      · obtain ⟨M, rfl, hM, k7, hP7⟩ := hv
        walk_at "nx"
        refine ⟨_, rfl, _, rfl, _, _, rfl, rfl, p, ((M : Nat) : Int) + 1, _, rfl, hP7, by unfold LIM; omega, by omega, by omega, fun e H8 e0 e1 k8 hP8 => ?_⟩
        obtain ⟨r, rfl⟩ : ∃ r : Nat, e = (r : Int) := ⟨e.toNat, by omega⟩
        have hr : r ≤ M := by omega
        walk_at "nx"
        refine ⟨_, rfl, tx [x, d], _, x, rfl, rfl, by rw [Wv.tx_len]; exact Nat.le_of_lt (small' (by show 2 ≤ _; decide)), atI_nat (j := 0) rfl, ?_⟩
        refine ⟨_, rfl, x, M, rfl, rfl, by omega, ?_⟩
        walk_at "nx"
        refine ts_cut (S := fun σ' H' => ∃ (zt : List Nat) (N : Nat), σ' = [some (.ref a), some (.ref p.d), some (.int (0 + (i : Nat))), some (.str (tx [x, d])), some (.ref q), y5, y6, some (.int (N : Nat)), some (.int (r : Nat)), some (.str (tx zt)), x10, none] ∧ Run (zt.take 200) x N ∧ zt.length ≤ 1000 ∧ Keep H8 H' ∧ PenAt K H' p (20 * i + 10)) (fun N rest => ?_) (fun σ' H9 hv => ?_)
        · refine ⟨_, rfl, p, 3, _, rfl, hP8, by unfold LIM; omega, by decide, by decide, fun e H9 e0 e1 k9 hP9 => ?_⟩
          walk_at "rd"
          refine ite2 (fun _ => ?_) (fun _ => ?_)
          · walk_at "nx"
            refine ⟨_, rfl, tx [x, d], _, x, rfl, rfl, by rw [Wv.tx_len]; exact Nat.le_of_lt (small' (by show 2 ≤ _; decide)), atI_nat (j := 0) rfl, ?_⟩
            refine ⟨_, rfl, x, r, rfl, rfl, by omega, ?_⟩
            refine ⟨_, rfl, tx [x, d], _, d, rfl, rfl, by rw [Wv.tx_len]; exact Nat.le_of_lt (small' (by show 2 ≤ _; decide)), atI_nat (j := 1) rfl, ?_⟩
            refine ⟨_, _, rfl, rfl, by rw [Wv.tx_len, List.length_replicate]; exact Nat.le_of_lt (small' (by show r + 1 ≤ _; omega)), ?_⟩
            rw [show tx (List.replicate r x) ++ sg d = tx (List.replicate r x ++ [d]) from tx_app _ [d]]
            refine ⟨_, rfl, tx [x, d], _, x, rfl, rfl, by rw [Wv.tx_len]; exact Nat.le_of_lt (small' (by show 2 ≤ _; decide)), atI_nat (j := 0) rfl, ?_⟩
            refine ⟨_, rfl, _, rfl, _, _, rfl, rfl, x, M - r, rfl, congrArg V.int (by omega), by omega, ?_⟩
            refine ⟨_, _, rfl, rfl, ?_, ?_⟩
            · rw [Wv.tx_len, Wv.tx_len, List.length_append, List.length_replicate, List.length_replicate]
              exact Nat.le_of_lt (small' (by show r + 1 + (M - r) ≤ _; omega))
            · rw [tx_app]
              walk_at "nx"
              refine ⟨_, rfl, ?_⟩
              refine rest _ _ ⟨(List.replicate r x ++ [d]) ++ List.replicate (M - r) x, r, rfl, run_part x d r (M - r) (by omega) hxd, ?_, k9, hP9.mono (by omega)⟩
              rw [List.length_append, List.length_append, List.length_replicate, List.length_replicate]
              show r + 1 + (M - r) ≤ 1000
              omega
          · walk_at "nx"
            exact rest _ _ ⟨List.replicate M x, M, rfl, run_all x M hM, by rw [List.length_replicate]; omega, k9, hP9.mono (by omega)⟩
        · obtain ⟨zt, N, rfl, R, hzt, k9, hP9⟩ := hv
          have hq9 := k9.lst (k8.lst (k7.lst hq))
          walk_at "nx"
          refine ⟨_, rfl, q, rfl, ⟨_, SqL.of hq9⟩, fun D hD => ?_⟩
          refine lc_list (K := K) (a := q) (xs := iV ss) (fun l Hx => ∃ us, Hx D = some (.lst us) ∧ us.length = l ∧ ObjsAt c Hx us ((ss.map (same x)).take l) ∧ Same H9 Hx) ?_ ?_ ?_ ?_
          · exact ⟨[], upd_same, rfl, rfl, Same.new hD _⟩
          · rintro l Hx _ ⟨_, _, _, _, sx⟩
            exact SqL.of (sx _ _ hq9)
          · rintro l e Hx he ⟨us, hus, hul, hobj, sx⟩
            obtain ⟨s, hs, rfl⟩ := iV_back he
            have hl := (List.getElem?_eq_some_iff.mp hs).1
            refine ⟨rfl, _, rfl, tx [x, d], _, x, rfl, rfl, by rw [Wv.tx_len]; exact Nat.le_of_lt (small' (by show 2 ≤ _; decide)), atI_nat (j := 0) rfl, ?_⟩
            refine ⟨_, rfl, x, s, rfl, (hss s (List.mem_of_getElem? hs)).2, fun u H' s4 ho => ?_⟩
            have hus' := s4 _ _ hus
            have st : Still H' (upd H' D (.lst (us ++ [u]))) := Still.put hus'
            have hwr : (ss.map (same x))[l]? = some (same x s) := by rw [List.getElem?_map, hs]; rfl
            refine ⟨us, hus', small' (by omega), us ++ [u], upd_same, by rw [List.length_append, hul]; rfl, ?_, Same.put hD (sx.trans s4) _⟩
            rw [take_more' hwr]
            exact ObjsAt.app _ _ (ObjsAt.keep ((stillS s4).trans st) _ _ hobj) ⟨u, [], rfl, ObjAt.keep st _ _ ho, rfl⟩
          · rintro Hx ⟨us, hus, hul, hobj, sx⟩
            rw [show (iV ss).length = (ss.map (same x)).length by simp only [iV, List.length_map], List.take_length] at hobj
            have hqx := sx _ _ hq9
            have hPx := hP9.same sx
            have hz2 : (zt.take 200).length ≤ 200 := by rw [List.length_take]; omega
            have hlu : us.length = ss.length := by rw [ObjsAt.len _ _ hobj, List.length_map]
            walk_at "nx"
            have ecut : cutS (tx zt) none (some 200) = tx (zt.take 200) := tx_take zt 200
            refine ⟨_, rfl, _, rfl, _, rfl, _, rfl, _, rfl, by rw [Wv.tx_len]; exact Nat.le_of_lt (small' (by omega)), ?_⟩
            rw [ecut]
            refine ⟨_, rfl, D, q, us, ss, zt.take 200, [], x, N, rfl, hus, hobj, hqx, hs0, by omega, hss, R, hz2, fun H10 s10 => ?_⟩
            refine ⟨true, rfl, iteF ?_⟩
            walk_at "nx"
            refine ⟨_, rfl, D, _, rfl, .inl (SqL.of (s10 _ _ hus)), ?_⟩
            refine ⟨_, _, rfl, rfl, _, rfl, ?_⟩
            refine ite2 (fun e => ?_) (fun e => ?_)
            · have e1 : 1 < us.length := by
                have q := of_decide_eq_true e
                omega
              refine ⟨_, rfl, _, rfl, _, rfl, _, rfl, _, rfl, by rw [Wv.tx_len]; exact Nat.le_of_lt (small' (by omega)), ?_⟩
              rw [ecut]
              refine ⟨_, rfl, D, q, us, ss, zt.take 200, x, N, rfl, s10 _ _ hus, ObjsAt.keep (stillS s10) _ _ hobj, s10 _ _ hqx, by omega, by omega, hss, R, hz2, fun H11 s11 => ?_⟩
              refine ⟨true, rfl, iteF ?_⟩
              walk_at "nx"
              exact ⟨_, _, _, _, _, _, _, _, _, rfl, ((hPx.same s10).same s11).mono (by omega)⟩
            · refine iteF ?_
              walk_at "nx"
              exact ⟨_, _, _, _, _, _, _, _, _, rfl, (hPx.same s10).mono (by omega)⟩
  · rintro σ H1 ⟨_, _, _, _, _, _, _, _, _, rfl, _⟩
    walk_at "nx"
    exact k H1
end
end Su
namespace Wv
open PySem PySem.Spec PyProof.Rows L2
/-! ### what the program's top leaves -/
section
variable {P : Program} {w : World} {K : PySem.W.Frag} {mg : Str → Option Value} {h : Heap}
theorem here_mk {x : Str} {st : Stmt} {ps : List Str} (X : K.In h) (G : h.Ns mainGlobals mg) {f : Addr} {oc kV dc pm cd ct : Value} {od an : Option Addr} {sl : Array (Option Value)} (a : PySem.W.nsIn K mainGlobals x = some (some (.ref f)))
    (l : K.lookup f = some ⟨oc, od, .func (PySem.W.fnOf x x (defArgs st) (defBody st) (defScope st) .none kV dc pm an cd ct), sl⟩) (c : PySem.W.codeIn K cd x = true) (k : PySem.W.keepIn K (.ref f) = true)
    (b : ∀ (kV doc pm : Value) (an : Option Addr) (cdv ct : Value) (us : List Value), us.length = ps.length → bindArgs (PySem.W.fnOf x x (defArgs st) (defBody st) (defScope st) .none kV doc pm an cdv ct) ⟨us, []⟩ = pure (ps.zip us)) : Here K mg x st ps :=
  ⟨f, _, fun_mk l c k, PySem.W.mg_of X G a, (fun_mk l c k).binds b⟩
/-- a def within a class -/
structure In1 (K : PySem.W.Frag) (m q : Str) (st : Stmt) (ps : List Str) (f : Addr) : Prop where
  fn : PySem.W.isFn K (.ref f) = true
  ex : ∃ fd : FuncData, Fun K m q st f fd ∧ Binds K fd ps []
theorem in_mk {m q : Str} {st : Stmt} {ps : List Str} {f : Addr} {oc kV dc pm cd ct : Value} {od an : Option Addr} {sl : Array (Option Value)} (i : PySem.W.isFn K (.ref f) = true)
    (l : K.lookup f = some ⟨oc, od, .func (PySem.W.fnOf m q (defArgs st) (defBody st) (defScope st) .none kV dc pm an cd ct), sl⟩) (c : PySem.W.codeIn K cd q = true) (k : PySem.W.keepIn K (.ref f) = true)
    (b : ∀ (kV doc pm : Value) (an : Option Addr) (cdv ct : Value) (us : List Value), us.length = ps.length → bindArgs (PySem.W.fnOf m q (defArgs st) (defBody st) (defScope st) .none kV doc pm an cdv ct) ⟨us, []⟩ = pure (ps.zip us)) : In1 K m q st ps f :=
  ⟨i, _, fun_mk l c k, (fun_mk l c k).binds b⟩
/-- a class of ways -/
structure ClT (K : PySem.W.Frag) (mg : Str → Option Value) (x : Str) (C wy at_ eq_ len_ : Addr) : Prop where
  m : mg x = some (.ref C)
  f : ClsF K C
  mks : PySem.W.makesIn K C = true
  kc : PySem.W.keepIn K (.ref C) = true
  ty : PySem.W.typeIn K (.ref C) = some (.type "type")
  cls : ∃ cd, PySem.W.clsIn K C = some cd ∧ cd.mro = [.ref C, .ref wy, .type "object"]
  mat : PySem.W.findIn K (.ref C) "at" = some (some (.ref at_))
  meq : PySem.W.findIn K (.ref C) "__eq__" = some (some (.ref eq_))
  mln : PySem.W.findIn K (.ref C) "__len__" = some (some (.ref len_))
theorem clt_mk {x : Str} {C wy at_ eq_ len_ : Addr} {cd : ClassData} (X : K.In h) (G : h.Ns mainGlobals mg) (a : PySem.W.nsIn K mainGlobals x = some (some (.ref C))) (pg : PySem.W.plainGet K C Str.empty = true) (hd : PySem.W.hasDictIn K C = true) (po : PySem.W.plainOver K C = true)
    (sa : PySem.W.findIn K (.ref C) "__setattr__" = some (some (.builtin "object.__setattr__"))) (nl : PySem.W.findIn K (.ref C) "letter" = some none) (nn : PySem.W.findIn K (.ref C) "name" = some none) (nw : PySem.W.findIn K (.ref C) "ways" = some none) (np : PySem.W.findIn K (.ref C) "part" = some none) (nc : PySem.W.findIn K (.ref C) "called" = some none) (nr : PySem.W.findIn K (.ref C) "rounds" = some none) (nm : PySem.W.findIn K (.ref C) "mark" = some none)
    (ha : PySem.W.findIn K (.ref C) "__class__" = some (some (.builtin "object.__class__"))) (hm : PySem.W.mroIn K C (.type "object") = some true) (mk : PySem.W.makesIn K C = true) (kc : PySem.W.keepIn K (.ref C) = true) (ty : PySem.W.typeIn K (.ref C) = some (.type "type"))
    (cl : PySem.W.clsIn K C = some cd) (cm : cd.mro = [.ref C, .ref wy, .type "object"]) (mat : PySem.W.findIn K (.ref C) "at" = some (some (.ref at_))) (meq : PySem.W.findIn K (.ref C) "__eq__" = some (some (.ref eq_))) (mln : PySem.W.findIn K (.ref C) "__len__" = some (some (.ref len_))) : ClT K mg x C wy at_ eq_ len_ :=
  ⟨PySem.W.mg_of X G a, ⟨⟨pg, hd, po, sa⟩, nl, nn, nw, np, nc, nr, nm, ha, hm⟩, mk, kc, ty, ⟨cd, cl, cm⟩, mat, meq, mln⟩
theorem ClT.kit {x y : Str} {C D wy a1 a2 a3 b1 b2 b3 : Addr} (c : ClT K mg x C wy a1 a2 a3) (d : ClT K mg y D wy b1 b2 b3) (hw : D ≠ wy) : PySem.W.kitOne K (.ref C) (.ref D) = some (decide (C = D)) := by
  obtain ⟨cd, e1, e2⟩ := c.cls
  obtain ⟨dd, g1, _⟩ := d.cls
  by_cases h : C = D
  · subst h
    rw [decide_eq_true rfl]
    unfold PySem.W.kitOne
    rw [if_pos (beq_self_eq_true _)]
  · rw [decide_eq_false h]
    unfold PySem.W.kitOne
    rw [if_neg (by simpa using h)]
    show (if ((PySem.W.clsIn K D).isSome && PySem.W.typeIn K (.ref D) == some (.type "type")) = true then PySem.W.subIn K (.ref C) (.ref D) else none) = _
    rw [g1, d.ty, if_pos (by simp)]
    show PySem.W.mroIn K C (.ref D) = _
    unfold PySem.W.mroIn
    rw [e1, Option.bind_some, e2]
    have h' : D ≠ C := fun e => h e.symm
    simp [h', hw]
theorem ClT.kitWay {x : Str} {C wy a1 a2 a3 : Addr} (c : ClT K mg x C wy a1 a2 a3) (hc : PySem.W.isClsIn K wy = true) (ht : PySem.W.typeIn K (.ref wy) = some (.type "type")) : PySem.W.kitOne K (.ref C) (.ref wy) = some true := by
  obtain ⟨cd, e1, e2⟩ := c.cls
  by_cases h : C = wy
  · subst h
    unfold PySem.W.kitOne
    rw [if_pos (beq_self_eq_true _)]
  · unfold PySem.W.kitOne
    rw [if_neg (by simpa using h)]
    show (if ((PySem.W.clsIn K wy).isSome && PySem.W.typeIn K (.ref wy) == some (.type "type")) = true then PySem.W.subIn K (.ref C) (.ref wy) else none) = _
    rw [show (PySem.W.clsIn K wy).isSome = true from hc, ht, if_pos (by simp)]
    show PySem.W.mroIn K C (.ref wy) = _
    unfold PySem.W.mroIn
    rw [e1, Option.bind_some, e2]
    simp
/-- the classes -/
structure Tops (K : PySem.W.Frag) (mg : Str → Option Value) (c : Cs) (wy at_ eq_ len_ : Addr) : Prop where
  lt : ClT K mg "Letter" c.lt wy at_ eq_ len_
  on : ClT K mg "One" c.on wy at_ eq_ len_
  no : ClT K mg "Nothing" c.no wy at_ eq_ len_
  ro : ClT K mg "Row" c.ro wy at_ eq_ len_
  ch : ClT K mg "Choice" c.ch wy at_ eq_ len_
  ag : ClT K mg "Again" c.ag wy at_ eq_ len_
  ma : ClT K mg "Maybe" c.ma wy at_ eq_ len_
  ah : ClT K mg "Ahead" c.ah wy at_ eq_ len_
  un : ClT K mg "Unless" c.un wy at_ eq_ len_
  ca : ClT K mg "Call" c.ca wy at_ eq_ len_
  nd : [c.lt, c.on, c.no, c.ro, c.ch, c.ag, c.ma, c.ah, c.un, c.ca, wy].Nodup
def W.name : W → Str
  | .letter _ => "Letter" | .one => "One" | .nothing => "Nothing" | .row _ => "Row" | .choice _ => "Choice" | .again _ => "Again" | .maybe _ => "Maybe" | .ahead _ => "Ahead" | .unless _ => "Unless" | .call _ => "Call"
theorem Tops.of {c : Cs} {wy a1 a2 a3 : Addr} (t : Tops K mg c wy a1 a2 a3) : ∀ x : W, ClT K mg x.name (c.of x) wy a1 a2 a3
  | .letter _ => t.lt | .one => t.on | .nothing => t.no | .row _ => t.ro | .choice _ => t.ch | .again _ => t.ag | .maybe _ => t.ma | .ahead _ => t.ah | .unless _ => t.un | .call _ => t.ca
theorem get_inj {α : Type} {l : List α} (n : l.Nodup) {i j : Nat} {x y : α} (h1 : l[i]? = some x) (h2 : l[j]? = some y) : x = y ↔ i = j := by
  obtain ⟨a, e1⟩ := List.getElem?_eq_some_iff.mp h1
  obtain ⟨b, e2⟩ := List.getElem?_eq_some_iff.mp h2
  subst e1 e2
  first
    | exact List.Nodup.getElem_inj_iff n
    | exact List.getElem_inj n
    | exact List.nodup_getElem_inj n
    | (constructor
       · intro e
         rcases Nat.lt_trichotomy i j with q | q | q
         · exact absurd e (List.pairwise_iff_getElem.mp n i j a b q)
         · exact q
         · exact absurd e.symm (List.pairwise_iff_getElem.mp n j i b a q)
       · intro e; subst e; rfl)
theorem W.tag_get (x : W) : [Str.ofString "letter", Str.ofString "one", Str.ofString "nothing", Str.ofString "row", Str.ofString "choice", Str.ofString "again", Str.ofString "maybe", Str.ofString "ahead", Str.ofString "unless", Str.ofString "call"][x.kind]? = some x.tag := by
  cases x <;> rfl
theorem W.tag_kind (x y : W) : x.tag = y.tag ↔ x.kind = y.kind := get_inj (by decide +kernel) x.tag_get y.tag_get
theorem Cs.of_get (c : Cs) (wy : Addr) (x : W) : [c.lt, c.on, c.no, c.ro, c.ch, c.ag, c.ma, c.ah, c.un, c.ca, wy][x.kind]? = some (c.of x) := by
  cases x <;> rfl
theorem Tops.ne {c : Cs} {wy a1 a2 a3 : Addr} (t : Tops K mg c wy a1 a2 a3) (x : W) : c.of x ≠ wy := fun e => by
  have h := (get_inj t.nd (c.of_get wy x) (show _ = some wy from (rfl : [c.lt, c.on, c.no, c.ro, c.ch, c.ag, c.ma, c.ah, c.un, c.ca, wy][10]? = some wy))).mp e
  cases x <;> cases h
theorem Tops.same {c : Cs} {wy a1 a2 a3 : Addr} (t : Tops K mg c wy a1 a2 a3) (x y : W) : decide (c.of x = c.of y) = decide (x.tag = y.tag) := by
  have h := get_inj t.nd (c.of_get wy x) (c.of_get wy y)
  rw [decide_eq_decide, h, W.tag_kind]
theorem Tops.all {c : Cs} {wy a1 a2 a3 : Addr} (t : Tops K mg c wy a1 a2 a3) (hn : PySem.W.specialIn K (.builtin "object.__class__") "__get__" = some (some (.builtin "getset_descriptor.__get__"))) (ht : PySem.W.takesIn K (.builtin "object.__class__") = some true) : AllF K mg c :=
  ⟨fun x => (t.of x).f, hn, ht, fun x y => by rw [← t.same x y]; exact (t.of x).kit (t.of y) (t.ne y), t.lt.m, t.on.m, t.no.m, t.ro.m, t.ch.m, t.ag.m, t.ma.m, t.ah.m, t.un.m, t.ca.m⟩
theorem bs_mk (X : K.In h) (G : h.Ns mainGlobals mg) (z1 : PySem.W.nsIn K mainGlobals "len" = some none) (z2 : PySem.W.nsIn K mainGlobals "int" = some none) (z3 : PySem.W.nsIn K mainGlobals "list" = some none) (z4 : PySem.W.nsIn K mainGlobals "range" = some none)
    (z5 : PySem.W.nsIn K mainGlobals "min" = some none) (z6 : PySem.W.nsIn K mainGlobals "tuple" = some none) (z7 : PySem.W.nsIn K mainGlobals "isinstance" = some none) (z8 : PySem.W.nsIn K mainGlobals "zip" = some none) (z9 : PySem.W.nsIn K mainGlobals "sum" = some none)
    (z10 : PySem.W.nsIn K mainGlobals "max" = some none) (z11 : PySem.W.nsIn K mainGlobals "reversed" = some none) (z12 : PySem.W.nsIn K mainGlobals "enumerate" = some none) (z13 : PySem.W.nsIn K mainGlobals "repr" = some none) : Bs mg :=
  have n := fun {x : Str} (z : PySem.W.nsIn K mainGlobals x = some none) => PySem.W.mg_none_of X G z
  ⟨n z1, n z2, n z3, n z4, n z5, n z6, n z7, n z8, n z9, n z10, n z11, n z12, n z13⟩
theorem kc_mk (X : K.In h) (G : h.Ns mainGlobals mg) {t0 t1 t2 t3 t4 t5 t6 t7 t8 t9 : Tok} (z0 : PySem.W.nsIn K mainGlobals "LETTER" = some (some (.int 0 t0))) (z1 : PySem.W.nsIn K mainGlobals "ONE" = some (some (.int 1 t1))) (z2 : PySem.W.nsIn K mainGlobals "NOTHING" = some (some (.int 2 t2)))
    (z3 : PySem.W.nsIn K mainGlobals "ROW" = some (some (.int 3 t3))) (z4 : PySem.W.nsIn K mainGlobals "CHOICE" = some (some (.int 4 t4))) (z5 : PySem.W.nsIn K mainGlobals "AGAIN" = some (some (.int 5 t5))) (z6 : PySem.W.nsIn K mainGlobals "MAYBE" = some (some (.int 6 t6)))
    (z7 : PySem.W.nsIn K mainGlobals "AHEAD" = some (some (.int 7 t7))) (z8 : PySem.W.nsIn K mainGlobals "UNLESS" = some (some (.int 8 t8))) (z9 : PySem.W.nsIn K mainGlobals "CALL" = some (some (.int 9 t9))) : Kc mg :=
  have n := fun {x : Str} {v : Value} (z : PySem.W.nsIn K mainGlobals x = some (some v)) => PySem.W.mg_of X G z
  ⟨⟨_, n z0⟩, ⟨_, n z1⟩, ⟨_, n z2⟩, ⟨_, n z3⟩, ⟨_, n z4⟩, ⟨_, n z5⟩, ⟨_, n z6⟩, ⟨_, n z7⟩, ⟨_, n z8⟩, ⟨_, n z9⟩⟩
theorem mk0_mk {C : Addr} {x : Str} (X : K.In h) (G : h.Ns mainGlobals mg) (a : PySem.W.nsIn K mainGlobals x = some (some (.ref C))) (mk : PySem.W.makesIn K C = true) (f : PySem.W.findIn K (.ref C) "__init__" = some (some (.builtin "object.__init__"))) (kc : PySem.W.keepIn K (.ref C) = true) : Mk0 K mg x C :=
  ⟨PySem.W.mg_of X G a, mk, f, kc⟩
theorem cls_ok {k : Nat} {x q : Str} {st : Stmt} {C wy a1 a2 a3 f : Addr} {ps : List Str} {sp : Sp} {base : Heap} (t : ClT K mg x C wy a1 a2 a3) (i : PySem.W.findIn K (.ref C) "__init__" = some (some (.ref f))) (j : In1 K "__init__" q st ps f)
    (o : ∀ fd : FuncData, Fun K "__init__" q st f fd → FnOk P w K mg base CX0 k f fd ps sp) : ClsOk P w K mg base k x C ps sp := by
  obtain ⟨fd, F, b⟩ := j.ex
  exact ⟨f, fd, t.m, ⟨t.mks, i, j.fn, t.kc⟩, b, o fd F⟩
end
end Wv
namespace Su
open PySem PySem.Spec PyProof.Rows L2 Wv
open Tk
section
variable {P : Program} {w : World} {K : PySem.W.Frag} {mg : Str → Option Value} {h : Heap} {base : Heap}
abbrev s_Again_known_end : Stmt := inClass (top 27) 2
theorem sc_Again_known_end : FnScope ["self", "text", "place", "known", "ends", "begun", "end", "last", "start"] ["self", "text", "place", "known"] (defScope s_Again_known_end) := ⟨rfl, rfl, rfl, by decide +kernel, rfl, by decide +kernel, by decide +kernel⟩
structure CM (K : PySem.W.Frag) (C : Addr) (m q : Str) (st : Stmt) (ps : List Str) : Prop where
  ex : ∃ f : Addr, PySem.W.findIn K (.ref C) m = some (some (.ref f)) ∧ In1 K m q st ps f
theorem CM.em {C : Addr} {q : Str} {st : Stmt} (j : CM K C "end_at" q st psE) : EM K C q st := by
  obtain ⟨f, a, i⟩ := j.ex
  obtain ⟨fd, F, b⟩ := i.ex
  exact ⟨f, fd, F, ⟨a, i.fn, F.kp⟩, b⟩
theorem CM.never {C : Addr} {m q : Str} {st : Stmt} {ps : List Str} {n : Nat} (j : CM K C m q st ps) (T : Cls K C) : ScOk P w K mg base C n m ps (fun _ _ _ _ => False) := by
  obtain ⟨f, a, i⟩ := j.ex
  obtain ⟨fd, F, b⟩ := i.ex
  exact ⟨T, f, fd, ⟨fun _ _ _ _ q => q.elim, fun _ _ _ _ _ _ _ _ _ _ _ _ _ q => q.elim⟩, ⟨a, i.fn, F.kp⟩, b⟩
theorem cm_mk {C : Addr} {m q : Str} {st : Stmt} {ps : List Str} {f : Addr} (a : PySem.W.findIn K (.ref C) m = some (some (.ref f))) (i : In1 K m q st ps f) : CM K C m q st ps := ⟨f, a, i⟩
theorem kn_mk (X : K.In h) (G : h.Ns mainGlobals mg) {tN : Tok} (c : Kc mg) (z : PySem.W.nsIn K mainGlobals "NOWHERE" = some (some (.int (-1) tN))) : Kn mg := ⟨c, _, PySem.W.mg_of X G z⟩
theorem hz_mk {x : Str} {st : Stmt} {ps : List Str} (X : K.In h) (G : h.Ns mainGlobals mg) {f T : Addr} {oc kV dc pm cd ct : Value} {od an : Option Addr} {sl : Array (Option Value)} {o : Obj} {n : Nat} {tk : Tok} (a : PySem.W.nsIn K mainGlobals x = some (some (.ref f)))
    (l : K.lookup f = some ⟨oc, od, .func (PySem.W.fnOf x x (defArgs st) (defBody st) (defScope st) (.ref T) kV dc pm an cd ct), sl⟩) (c : PySem.W.codeIn K cd x = true) (k : PySem.W.keepIn K (.ref f) = true) (lT : K.lookup T = some o) (oT : o.data = .seq [Value.int 0 tk].toArray n) (hl : ps.length = 3)
    (b3 : ∀ (T : Addr) (kV doc pm : Value) (an : Option Addr) (cdv ct : Value) (us its : List Value), us.length = 3 → its.length = 1 → ∃ k, bindArgs (PySem.W.fnOf x x (defArgs st) (defBody st) (defScope st) (.ref T) kV doc pm an cdv ct) ⟨us, []⟩ = seqItems? (.ref T) >>= k ∧ k (some its.toArray) = pure (ps.zip (us ++ its.drop 1)))
    (b2 : ∀ (T : Addr) (kV doc pm : Value) (an : Option Addr) (cdv ct : Value) (us its : List Value), us.length = 2 → its.length = 1 → ∃ k, bindArgs (PySem.W.fnOf x x (defArgs st) (defBody st) (defScope st) (.ref T) kV doc pm an cdv ct) ⟨us, []⟩ = seqItems? (.ref T) >>= k ∧ k (some its.toArray) = pure (ps.zip (us ++ its.drop 0))) : HereZ K mg x st ps := by
  have F : FunD K x x (defArgs st) (defBody st) (defScope st) [V.int 0] [] f (PySem.W.fnOf x x (defArgs st) (defBody st) (defScope st) (.ref T) kV dc pm an cd ct) :=
    ⟨⟨oc, od, .ref T, kV, dc, pm, an, cd, ct, sl, rfl, l, c, .inr ⟨by simp, T, o, [.int 0 tk], n, rfl, lT, oT, .cons ⟨tk, rfl⟩ .nil⟩, .inl rfl⟩, k⟩
  obtain ⟨d3, v3, B3⟩ := F.binds1 3 1 (by simp) (by rw [hl]; rfl) b3
  obtain ⟨d2, v2, B2⟩ := F.binds1 2 0 (by simp) (by rw [hl]; rfl) b2
  cases v3
  exact ⟨f, _, F, PySem.W.mg_of X G a, B3, d2, v2, B2⟩
theorem fin {fa wy aat aeq aln i1 i2 i3 i4 i5 i6 i7 i8 i9 i10 mkC : Addr} {lt on no ro ch ag ma ah un ca : Addr} (X : K.In h) (G : h.Ns mainGlobals mg) (hfa : mg "law" = some (.ref fa))
    (tLt : ClT K mg "Letter" lt wy aat aeq aln) (tOn : ClT K mg "One" on wy aat aeq aln) (tNo : ClT K mg "Nothing" no wy aat aeq aln) (tRo : ClT K mg "Row" ro wy aat aeq aln) (tCh : ClT K mg "Choice" ch wy aat aeq aln)
    (tAg : ClT K mg "Again" ag wy aat aeq aln) (tMa : ClT K mg "Maybe" ma wy aat aeq aln) (tAh : ClT K mg "Ahead" ah wy aat aeq aln) (tUn : ClT K mg "Unless" un wy aat aeq aln) (tCa : ClT K mg "Call" ca wy aat aeq aln)
    (nd : [lt, on, no, ro, ch, ag, ma, ah, un, ca, wy].Nodup) (hn : PySem.W.specialIn K (.builtin "object.__class__") "__get__" = some (some (.builtin "getset_descriptor.__get__"))) (ht : PySem.W.takesIn K (.builtin "object.__class__") = some true)
    (f1 : PySem.W.findIn K (.ref lt) "__init__" = some (some (.ref i1))) (j1 : In1 K "__init__" "Letter.__init__" s_Letter_init ["self", "letter"] i1)
    (f2 : PySem.W.findIn K (.ref ca) "__init__" = some (some (.ref i2))) (j2 : In1 K "__init__" "Call.__init__" s_Call_init ["self", "name"] i2)
    (f3 : PySem.W.findIn K (.ref ro) "__init__" = some (some (.ref i3))) (j3 : In1 K "__init__" "Row.__init__" s_Row_init ["self", "ways"] i3)
    (f4 : PySem.W.findIn K (.ref ch) "__init__" = some (some (.ref i4))) (j4 : In1 K "__init__" "Choice.__init__" s_Choice_init ["self", "ways"] i4)
    (f5 : PySem.W.findIn K (.ref ag) "__init__" = some (some (.ref i5))) (j5 : In1 K "__init__" "Again.__init__" s_Again_init ["self", "part"] i5)
    (f6 : PySem.W.findIn K (.ref ma) "__init__" = some (some (.ref i6))) (j6 : In1 K "__init__" "Maybe.__init__" s_Maybe_init ["self", "part"] i6)
    (f7 : PySem.W.findIn K (.ref ah) "__init__" = some (some (.ref i7))) (j7 : In1 K "__init__" "Ahead.__init__" s_Ahead_init ["self", "part"] i7)
    (f8 : PySem.W.findIn K (.ref un) "__init__" = some (some (.ref i8))) (j8 : In1 K "__init__" "Unless.__init__" s_Unless_init ["self", "part"] i8)
    (f9 : PySem.W.findIn K (.ref on) "__init__" = some (some (.ref i9))) (j9 : In1 K "__init__" "One.__init__" s_One_init ["self"] i9)
    (f10 : PySem.W.findIn K (.ref no) "__init__" = some (some (.ref i10))) (j10 : In1 K "__init__" "Nothing.__init__" s_Nothing_init ["self"] i10)
    (fM : Mk0 K mg "Mark" mkC) (k1 : Here K mg "first_call" s_first_call ["ways"]) (k2 : Here K mg "most_rounds" s_most_rounds ["ways"])
    (B : Bs mg) (C : Kn mg) (h1 : Here K mg "kind_of" s_kind_of ["way"]) (h3 : Here K mg "made_of" s_made_of ["way"])
    (eL : CM K lt "end_at" "Letter.end_at" s_Letter_end_at psE) (eR : CM K ro "end_at" "Row.end_at" s_Row_end_at psE) (eC : CM K ch "end_at" "Choice.end_at" s_Choice_end_at psE) (eA : CM K ag "end_at" "Again.end_at" s_Again_end_at psE) (eM : CM K ma "end_at" "Maybe.end_at" s_Maybe_end_at psE) (eK : CM K ag "known_end" "Again.known_end" s_Again_known_end psE)
    (h5 : Here K mg "refuse_calls" s_refuse_calls ["ways"]) (h11 : Here K mg "places_of" s_places_of ["bits"]) (h12 : Here K mg "gathered" s_gathered ["spread", "places"]) (h13 : Here K mg "all_ends_of_row" s_all_ends_of_row ["inner", "place"]) (h14 : Here K mg "all_ends_of_choice" s_all_ends_of_choice ["inner", "place"])
    (h15 : Here K mg "all_ends_of_again" s_all_ends_of_again ["spread"]) (h16 : Here K mg "all_ends" s_all_ends ["way", "text", "known"])
    (hZ : HereZ K mg "takes" s_takes ["way", "text", "place"]) (hE : HereZ K mg "ends" s_ends ["way", "text", "place"])
    (g1 : Here K mg "_law_pen" s_l_pen ["_law_script"]) (g2 : Here K mg "_law_draw" s_l_draw ["_law_pen_here", "_law_many"]) (g4 : Here K mg "_law_signs" s_l_signs ["_law_pen_here", "_law_many"])
    (g5 : Here K mg "_law_same" s_l_same ["_law_letter", "_law_size"]) (g6 : Here K mg "_law_rounds_right" s_l_rounds_right ["_law_ways", "_law_sizes", "_law_text", "_law_many"]) (g7 : Here K mg "_law_row_right" s_l_row_right ["_law_ways", "_law_sizes", "_law_text", "_law_many"]) (g11 : Here K mg "law" s_law ["_law_script"]) :
    ∃ fd : FuncData, (∀ (s : Shared) (v : Value), BindsTo s fd ⟨[v], []⟩ [("_law_script", v)]) ∧ ∀ base : Heap, K.In base → base.Ns mainGlobals mg → Gd.FnG P w K mg base 12 fa fd ["_law_script"] (spLaw K) := by
  obtain ⟨f, fd, F, m, b⟩ := g11.ex
  have e := hfa.symm.trans m
  cases e
  have bt : ∀ (s : Shared) (v : Value), BindsTo s fd ⟨[v], []⟩ [("_law_script", v)] := by
    obtain ⟨oc, od, kV, doc, pm, an, cdv, ct, osl, rfl, _, _⟩ := F.ex
    exact fun s v => .of_eq rfl
  refine ⟨fd, bt, fun base _ _ => ?_⟩
  have t : Tops K mg ⟨lt, on, no, ro, ch, ag, ma, ah, un, ca⟩ wy aat aeq aln := ⟨tLt, tOn, tNo, tRo, tCh, tAg, tMa, tAh, tUn, tCa, nd⟩
  have A := t.all hn ht
  have U1 := d_first_call (P := P) (w := w) (base := base) k1 A.f
  have U2 := d_most_rounds (P := P) (w := w) (base := base) k2 B A.f
  have g : Gs P w K mg base ⟨lt, on, no, ro, ch, ag, ma, ah, un, ca⟩ :=
    ⟨cls_ok tLt f1 j1 fun _ F => ok_Letter F tLt.f, cls_ok tCa f2 j2 fun _ F => ok_Call F tCa.f, cls_ok tRo f3 j3 fun _ F => ok_Row F tRo.f B U1 U2, cls_ok tCh f4 j4 fun _ F => ok_Choice F tCh.f B U1 U2, cls_ok tAg f5 j5 fun _ F => ok_Again F tAg.f A.f fM,
      cls_ok tMa f6 j6 fun _ F => ok_Maybe F tMa.f A.f, cls_ok tAh f7 j7 fun _ F => ok_Ahead F tAh.f A.f, cls_ok tUn f8 j8 fun _ F => ok_Unless F tUn.f A.f, cls_ok tOn f9 j9 fun _ F => ok_One F tOn.f, cls_ok tNo f10 j10 fun _ F => ok_Nothing F tNo.f⟩
  have P1 := d_l_pen (P := P) (w := w) (base := base) g1 B
  have P2 := d_l_draw (P := P) (w := w) (base := base) g2 B
  have P4 := d_l_signs g4 B P2
  have Q1 := d_kind_of (P := P) (w := w) (base := base) h1 A B C.c
  have Q3 := d_made_of (P := P) (w := w) (base := base) h3 A B
  have E1 := d_refuse_calls (P := P) (w := w) (base := base) h5 A.f
  have E2 := end_ok (P := P) (w := w) (base := base) eL.em eR.em eC.em eA.em eM.em A.f C (eK.never tAg.f.cl)
  have Z := d_takes hZ C E1 (E2 3)
  have A1 := d_places_of (P := P) (w := w) (base := base) h11
  have A2 := d_gathered h12 A1
  have A3 := fun z => d_all_ends_of_row (z := z) h13 A2
  have A4 := fun z => d_all_ends_of_choice (P := P) (w := w) (base := base) (z := z) h14
  have A5 := fun z => d_all_ends_of_again (z := z) h15 B A2
  have A6 := d_all_ends h16 B C Q1 Q3 A3 A4 A5 (E2 0) 4
  have ZE := d_ends hE E1 A6 A1
  have P5 := d_l_same g5 B g
  have P6 := d_l_rounds_right g6 B B.repr g Z ZE
  have P7 := d_l_row_right g7 B B.repr g Z ZE
  exact ok_law F B P1 P2 P4 P5 P6 P7
end
theorem walk {l : PySem.W.OpenLaw} {q : Program} {loose : List Str} {XP : (Str → Option Value) → Heap → Prop} {YP : World → Heap → Prop} {d : DefRec} {K : Params → PySem.W.Frag} (hn : l.most = some 63) (hdf : d.params.defaults = [])
    (hY : ∀ (w : World) (h : Heap), YP w h → (K w.params).In h)
    (F : ∀ (w : World) (mg : Str → Option Value) (fa : Addr) (h : Heap), (K w.params).In h → h.Ns mainGlobals mg → mg d.name = some (.ref fa) →
      ∃ fd : FuncData, (∀ (s : Shared) (u : Value), BindsTo s fd ⟨[u], []⟩ [("_law_script", u)]) ∧ ∀ base : Heap, (K w.params).In base → base.Ns mainGlobals mg → Gd.FnG l.prog w (K w.params) mg base 12 fa fd ["_law_script"] (spLaw (K w.params))) :
    PySem.W.WalkO q loose XP YP l.row.toRowW d [] (fun f vs => PySem.call f vs) :=
  Gd.walkG (n := 63) (k := 12) (x := "_law_script") (sp := spLaw) hn (by decide) hdf ⟨rfl, by decide, by decide⟩ hY F (fun K H a ns hl hS => ⟨a, ns, rfl, hS, hl, fun _ => rfl⟩)
end Su
open PySem PySem.W PyProof.Rows
set_option maxHeartbeats 0 in
theorem PySem.Challenge.cw_waystaken_k16_sums_going_back_holds : PySem.Challenge.rw_waystaken_k16_sums_going_back.Holds := by
  w_on; o_law; k_head; (case hw => w_witness2)
  k_fill
  refine Su.walk (l := PySem.Challenge.rw_waystaken_k16_sums_going_back) rfl rfl (fun _ _ Y => PySem.W.kIn_of Y) ?F
  case F =>
    intro w mg fa h KX G hmg
    refine' Su.fin KX G hmg ?tLt ?tOn ?tNo ?tRo ?tCh ?tAg ?tMa ?tAh ?tUn ?tCa ?nd ?hn ?ht ?f1 ?j1 ?f2 ?j2 ?f3 ?j3 ?f4 ?j4 ?f5 ?j5 ?f6 ?j6 ?f7 ?j7 ?f8 ?j8 ?f9 ?j9 ?f10 ?j10 ?fM ?k1 ?k2 ?B ?C ?h1 ?h3 ?eL ?eR ?eC ?eA ?eM ?eK ?h5 ?h11 ?h12 ?h13 ?h14 ?h15 ?h16 ?hZ ?hE ?g1 ?g2 ?g4 ?g5 ?g6 ?g7 ?g11
    (case tLt => (refine' Wv.clt_mk KX G ?a ?pg ?hd ?po ?sa ?nl ?nn ?nw ?np ?nc ?nr ?nm ?ha ?hm ?mk ?kc ?ty ?cl ?cm ?mat ?meq ?mln; (case a => k_is); (case pg => k_is); (case hd => k_is); (case po => k_is); (case sa => k_is); (case nl => k_is); (case nn => k_is); (case nw => k_is); (case np => k_is); (case nc => k_is); (case nr => k_is); (case nm => k_is); (case ha => k_is); (case hm => k_is); (case mk => k_is); (case kc => k_is); (case ty => k_is); (case cl => k_is); (case cm => exact rfl); (case mat => k_is); (case meq => k_is); (case mln => k_is)))
    (case tOn => (refine' Wv.clt_mk KX G ?a ?pg ?hd ?po ?sa ?nl ?nn ?nw ?np ?nc ?nr ?nm ?ha ?hm ?mk ?kc ?ty ?cl ?cm ?mat ?meq ?mln; (case a => k_is); (case pg => k_is); (case hd => k_is); (case po => k_is); (case sa => k_is); (case nl => k_is); (case nn => k_is); (case nw => k_is); (case np => k_is); (case nc => k_is); (case nr => k_is); (case nm => k_is); (case ha => k_is); (case hm => k_is); (case mk => k_is); (case kc => k_is); (case ty => k_is); (case cl => k_is); (case cm => exact rfl); (case mat => k_is); (case meq => k_is); (case mln => k_is)))
    (case tNo => (refine' Wv.clt_mk KX G ?a ?pg ?hd ?po ?sa ?nl ?nn ?nw ?np ?nc ?nr ?nm ?ha ?hm ?mk ?kc ?ty ?cl ?cm ?mat ?meq ?mln; (case a => k_is); (case pg => k_is); (case hd => k_is); (case po => k_is); (case sa => k_is); (case nl => k_is); (case nn => k_is); (case nw => k_is); (case np => k_is); (case nc => k_is); (case nr => k_is); (case nm => k_is); (case ha => k_is); (case hm => k_is); (case mk => k_is); (case kc => k_is); (case ty => k_is); (case cl => k_is); (case cm => exact rfl); (case mat => k_is); (case meq => k_is); (case mln => k_is)))
    (case tRo => (refine' Wv.clt_mk KX G ?a ?pg ?hd ?po ?sa ?nl ?nn ?nw ?np ?nc ?nr ?nm ?ha ?hm ?mk ?kc ?ty ?cl ?cm ?mat ?meq ?mln; (case a => k_is); (case pg => k_is); (case hd => k_is); (case po => k_is); (case sa => k_is); (case nl => k_is); (case nn => k_is); (case nw => k_is); (case np => k_is); (case nc => k_is); (case nr => k_is); (case nm => k_is); (case ha => k_is); (case hm => k_is); (case mk => k_is); (case kc => k_is); (case ty => k_is); (case cl => k_is); (case cm => exact rfl); (case mat => k_is); (case meq => k_is); (case mln => k_is)))
    (case tCh => (refine' Wv.clt_mk KX G ?a ?pg ?hd ?po ?sa ?nl ?nn ?nw ?np ?nc ?nr ?nm ?ha ?hm ?mk ?kc ?ty ?cl ?cm ?mat ?meq ?mln; (case a => k_is); (case pg => k_is); (case hd => k_is); (case po => k_is); (case sa => k_is); (case nl => k_is); (case nn => k_is); (case nw => k_is); (case np => k_is); (case nc => k_is); (case nr => k_is); (case nm => k_is); (case ha => k_is); (case hm => k_is); (case mk => k_is); (case kc => k_is); (case ty => k_is); (case cl => k_is); (case cm => exact rfl); (case mat => k_is); (case meq => k_is); (case mln => k_is)))
    (case tAg => (refine' Wv.clt_mk KX G ?a ?pg ?hd ?po ?sa ?nl ?nn ?nw ?np ?nc ?nr ?nm ?ha ?hm ?mk ?kc ?ty ?cl ?cm ?mat ?meq ?mln; (case a => k_is); (case pg => k_is); (case hd => k_is); (case po => k_is); (case sa => k_is); (case nl => k_is); (case nn => k_is); (case nw => k_is); (case np => k_is); (case nc => k_is); (case nr => k_is); (case nm => k_is); (case ha => k_is); (case hm => k_is); (case mk => k_is); (case kc => k_is); (case ty => k_is); (case cl => k_is); (case cm => exact rfl); (case mat => k_is); (case meq => k_is); (case mln => k_is)))
    (case tMa => (refine' Wv.clt_mk KX G ?a ?pg ?hd ?po ?sa ?nl ?nn ?nw ?np ?nc ?nr ?nm ?ha ?hm ?mk ?kc ?ty ?cl ?cm ?mat ?meq ?mln; (case a => k_is); (case pg => k_is); (case hd => k_is); (case po => k_is); (case sa => k_is); (case nl => k_is); (case nn => k_is); (case nw => k_is); (case np => k_is); (case nc => k_is); (case nr => k_is); (case nm => k_is); (case ha => k_is); (case hm => k_is); (case mk => k_is); (case kc => k_is); (case ty => k_is); (case cl => k_is); (case cm => exact rfl); (case mat => k_is); (case meq => k_is); (case mln => k_is)))
    (case tAh => (refine' Wv.clt_mk KX G ?a ?pg ?hd ?po ?sa ?nl ?nn ?nw ?np ?nc ?nr ?nm ?ha ?hm ?mk ?kc ?ty ?cl ?cm ?mat ?meq ?mln; (case a => k_is); (case pg => k_is); (case hd => k_is); (case po => k_is); (case sa => k_is); (case nl => k_is); (case nn => k_is); (case nw => k_is); (case np => k_is); (case nc => k_is); (case nr => k_is); (case nm => k_is); (case ha => k_is); (case hm => k_is); (case mk => k_is); (case kc => k_is); (case ty => k_is); (case cl => k_is); (case cm => exact rfl); (case mat => k_is); (case meq => k_is); (case mln => k_is)))
    (case tUn => (refine' Wv.clt_mk KX G ?a ?pg ?hd ?po ?sa ?nl ?nn ?nw ?np ?nc ?nr ?nm ?ha ?hm ?mk ?kc ?ty ?cl ?cm ?mat ?meq ?mln; (case a => k_is); (case pg => k_is); (case hd => k_is); (case po => k_is); (case sa => k_is); (case nl => k_is); (case nn => k_is); (case nw => k_is); (case np => k_is); (case nc => k_is); (case nr => k_is); (case nm => k_is); (case ha => k_is); (case hm => k_is); (case mk => k_is); (case kc => k_is); (case ty => k_is); (case cl => k_is); (case cm => exact rfl); (case mat => k_is); (case meq => k_is); (case mln => k_is)))
    (case tCa => (refine' Wv.clt_mk KX G ?a ?pg ?hd ?po ?sa ?nl ?nn ?nw ?np ?nc ?nr ?nm ?ha ?hm ?mk ?kc ?ty ?cl ?cm ?mat ?meq ?mln; (case a => k_is); (case pg => k_is); (case hd => k_is); (case po => k_is); (case sa => k_is); (case nl => k_is); (case nn => k_is); (case nw => k_is); (case np => k_is); (case nc => k_is); (case nr => k_is); (case nm => k_is); (case ha => k_is); (case hm => k_is); (case mk => k_is); (case kc => k_is); (case ty => k_is); (case cl => k_is); (case cm => exact rfl); (case mat => k_is); (case meq => k_is); (case mln => k_is)))
    (case hn => k_is)
    (case ht => k_is)
    (case nd => decide)
    (case f1 => k_is)
    (case j1 => (refine' Wv.in_mk ?i ?l ?c ?k ?b; (case i => k_is); (case l => k_is); (case c => k_is); (case k => k_is); (case b => exact fun _ _ _ _ _ _ us hl => match us, hl with | [_, _], _ => rfl)))
    (case f2 => k_is)
    (case j2 => (refine' Wv.in_mk ?i ?l ?c ?k ?b; (case i => k_is); (case l => k_is); (case c => k_is); (case k => k_is); (case b => exact fun _ _ _ _ _ _ us hl => match us, hl with | [_, _], _ => rfl)))
    (case f3 => k_is)
    (case j3 => (refine' Wv.in_mk ?i ?l ?c ?k ?b; (case i => k_is); (case l => k_is); (case c => k_is); (case k => k_is); (case b => exact fun _ _ _ _ _ _ us hl => match us, hl with | [_, _], _ => rfl)))
    (case f4 => k_is)
    (case j4 => (refine' Wv.in_mk ?i ?l ?c ?k ?b; (case i => k_is); (case l => k_is); (case c => k_is); (case k => k_is); (case b => exact fun _ _ _ _ _ _ us hl => match us, hl with | [_, _], _ => rfl)))
    (case f5 => k_is)
    (case j5 => (refine' Wv.in_mk ?i ?l ?c ?k ?b; (case i => k_is); (case l => k_is); (case c => k_is); (case k => k_is); (case b => exact fun _ _ _ _ _ _ us hl => match us, hl with | [_, _], _ => rfl)))
    (case f6 => k_is)
    (case j6 => (refine' Wv.in_mk ?i ?l ?c ?k ?b; (case i => k_is); (case l => k_is); (case c => k_is); (case k => k_is); (case b => exact fun _ _ _ _ _ _ us hl => match us, hl with | [_, _], _ => rfl)))
    (case f7 => k_is)
    (case j7 => (refine' Wv.in_mk ?i ?l ?c ?k ?b; (case i => k_is); (case l => k_is); (case c => k_is); (case k => k_is); (case b => exact fun _ _ _ _ _ _ us hl => match us, hl with | [_, _], _ => rfl)))
    (case f8 => k_is)
    (case j8 => (refine' Wv.in_mk ?i ?l ?c ?k ?b; (case i => k_is); (case l => k_is); (case c => k_is); (case k => k_is); (case b => exact fun _ _ _ _ _ _ us hl => match us, hl with | [_, _], _ => rfl)))
    (case f9 => k_is)
    (case j9 => (refine' Wv.in_mk ?i ?l ?c ?k ?b; (case i => k_is); (case l => k_is); (case c => k_is); (case k => k_is); (case b => exact fun _ _ _ _ _ _ us hl => match us, hl with | [_], _ => rfl)))
    (case f10 => k_is)
    (case j10 => (refine' Wv.in_mk ?i ?l ?c ?k ?b; (case i => k_is); (case l => k_is); (case c => k_is); (case k => k_is); (case b => exact fun _ _ _ _ _ _ us hl => match us, hl with | [_], _ => rfl)))
    (case fM => (refine' Wv.mk0_mk KX G ?a ?mk ?f ?kc; (case a => k_is); (case mk => k_is); (case f => k_is); (case kc => k_is)))
    (case k1 => (refine' Wv.here_mk KX G ?a ?l ?c ?k ?b; (case a => k_is); (case l => k_is); (case c => k_is); (case k => k_is); (case b => exact fun _ _ _ _ _ _ us hl => match us, hl with | [_], _ => rfl)))
    (case k2 => (refine' Wv.here_mk KX G ?a ?l ?c ?k ?b; (case a => k_is); (case l => k_is); (case c => k_is); (case k => k_is); (case b => exact fun _ _ _ _ _ _ us hl => match us, hl with | [_], _ => rfl)))
    (case B => (refine' Wv.bs_mk KX G ?z1 ?z2 ?z3 ?z4 ?z5 ?z6 ?z7 ?z8 ?z9 ?z10 ?z11 ?z12 ?z13; (case z1 => k_is); (case z2 => k_is); (case z3 => k_is); (case z4 => k_is); (case z5 => k_is); (case z6 => k_is); (case z7 => k_is); (case z8 => k_is); (case z9 => k_is); (case z10 => k_is); (case z11 => k_is); (case z12 => k_is); (case z13 => k_is)))
    (case C => (refine' Su.kn_mk KX G (Wv.kc_mk KX G ?z0 ?z1 ?z2 ?z3 ?z4 ?z5 ?z6 ?z7 ?z8 ?z9) ?zN; (case z0 => k_is); (case z1 => k_is); (case z2 => k_is); (case z3 => k_is); (case z4 => k_is); (case z5 => k_is); (case z6 => k_is); (case z7 => k_is); (case z8 => k_is); (case z9 => k_is); (case zN => k_is)))
    (case eL => (refine' Su.cm_mk ?a (Wv.in_mk ?i ?l ?c ?k ?b); (case a => k_is); (case i => k_is); (case l => k_is); (case c => k_is); (case k => k_is); (case b => exact fun _ _ _ _ _ _ us hl => match us, hl with | [_, _, _, _], _ => rfl)))
    (case eR => (refine' Su.cm_mk ?a (Wv.in_mk ?i ?l ?c ?k ?b); (case a => k_is); (case i => k_is); (case l => k_is); (case c => k_is); (case k => k_is); (case b => exact fun _ _ _ _ _ _ us hl => match us, hl with | [_, _, _, _], _ => rfl)))
    (case eC => (refine' Su.cm_mk ?a (Wv.in_mk ?i ?l ?c ?k ?b); (case a => k_is); (case i => k_is); (case l => k_is); (case c => k_is); (case k => k_is); (case b => exact fun _ _ _ _ _ _ us hl => match us, hl with | [_, _, _, _], _ => rfl)))
    (case eA => (refine' Su.cm_mk ?a (Wv.in_mk ?i ?l ?c ?k ?b); (case a => k_is); (case i => k_is); (case l => k_is); (case c => k_is); (case k => k_is); (case b => exact fun _ _ _ _ _ _ us hl => match us, hl with | [_, _, _, _], _ => rfl)))
    (case eM => (refine' Su.cm_mk ?a (Wv.in_mk ?i ?l ?c ?k ?b); (case a => k_is); (case i => k_is); (case l => k_is); (case c => k_is); (case k => k_is); (case b => exact fun _ _ _ _ _ _ us hl => match us, hl with | [_, _, _, _], _ => rfl)))
    (case eK => (refine' Su.cm_mk ?a (Wv.in_mk ?i ?l ?c ?k ?b); (case a => k_is); (case i => k_is); (case l => k_is); (case c => k_is); (case k => k_is); (case b => exact fun _ _ _ _ _ _ us hl => match us, hl with | [_, _, _, _], _ => rfl)))
    (case h1 => (refine' Wv.here_mk KX G ?a ?l ?c ?k ?b; (case a => k_is); (case l => k_is); (case c => k_is); (case k => k_is); (case b => exact fun _ _ _ _ _ _ us hl => match us, hl with | [_], _ => rfl)))
    (case h3 => (refine' Wv.here_mk KX G ?a ?l ?c ?k ?b; (case a => k_is); (case l => k_is); (case c => k_is); (case k => k_is); (case b => exact fun _ _ _ _ _ _ us hl => match us, hl with | [_], _ => rfl)))
    (case h5 => (refine' Wv.here_mk KX G ?a ?l ?c ?k ?b; (case a => k_is); (case l => k_is); (case c => k_is); (case k => k_is); (case b => exact fun _ _ _ _ _ _ us hl => match us, hl with | [_], _ => rfl)))
    (case h11 => (refine' Wv.here_mk KX G ?a ?l ?c ?k ?b; (case a => k_is); (case l => k_is); (case c => k_is); (case k => k_is); (case b => exact fun _ _ _ _ _ _ us hl => match us, hl with | [_], _ => rfl)))
    (case h12 => (refine' Wv.here_mk KX G ?a ?l ?c ?k ?b; (case a => k_is); (case l => k_is); (case c => k_is); (case k => k_is); (case b => exact fun _ _ _ _ _ _ us hl => match us, hl with | [_, _], _ => rfl)))
    (case h13 => (refine' Wv.here_mk KX G ?a ?l ?c ?k ?b; (case a => k_is); (case l => k_is); (case c => k_is); (case k => k_is); (case b => exact fun _ _ _ _ _ _ us hl => match us, hl with | [_, _], _ => rfl)))
    (case h14 => (refine' Wv.here_mk KX G ?a ?l ?c ?k ?b; (case a => k_is); (case l => k_is); (case c => k_is); (case k => k_is); (case b => exact fun _ _ _ _ _ _ us hl => match us, hl with | [_, _], _ => rfl)))
    (case h15 => (refine' Wv.here_mk KX G ?a ?l ?c ?k ?b; (case a => k_is); (case l => k_is); (case c => k_is); (case k => k_is); (case b => exact fun _ _ _ _ _ _ us hl => match us, hl with | [_], _ => rfl)))
    (case h16 => (refine' Wv.here_mk KX G ?a ?l ?c ?k ?b; (case a => k_is); (case l => k_is); (case c => k_is); (case k => k_is); (case b => exact fun _ _ _ _ _ _ us hl => match us, hl with | [_, _, _], _ => rfl)))
    (case hZ => (refine' Su.hz_mk KX G ?a ?l ?c ?k ?lT ?oT rfl ?b3 ?b2; (case a => k_is); (case l => k_is); (case c => k_is); (case k => k_is); (case lT => k_is); (case oT => exact rfl); (case b3 => exact fun _ _ _ _ _ _ _ us its h1 h2 => match us, its, h1, h2 with | [_, _, _], [_], _, _ => ⟨_, rfl, rfl⟩); (case b2 => exact fun _ _ _ _ _ _ _ us its h1 h2 => match us, its, h1, h2 with | [_, _], [_], _, _ => ⟨_, rfl, rfl⟩)))
    (case hE => (refine' Su.hz_mk KX G ?a ?l ?c ?k ?lT ?oT rfl ?b3 ?b2; (case a => k_is); (case l => k_is); (case c => k_is); (case k => k_is); (case lT => k_is); (case oT => exact rfl); (case b3 => exact fun _ _ _ _ _ _ _ us its h1 h2 => match us, its, h1, h2 with | [_, _, _], [_], _, _ => ⟨_, rfl, rfl⟩); (case b2 => exact fun _ _ _ _ _ _ _ us its h1 h2 => match us, its, h1, h2 with | [_, _], [_], _, _ => ⟨_, rfl, rfl⟩)))
    (case g1 => (refine' Wv.here_mk KX G ?a ?l ?c ?k ?b; (case a => k_is); (case l => k_is); (case c => k_is); (case k => k_is); (case b => exact fun _ _ _ _ _ _ us hl => match us, hl with | [_], _ => rfl)))
    (case g2 => (refine' Wv.here_mk KX G ?a ?l ?c ?k ?b; (case a => k_is); (case l => k_is); (case c => k_is); (case k => k_is); (case b => exact fun _ _ _ _ _ _ us hl => match us, hl with | [_, _], _ => rfl)))
    (case g4 => (refine' Wv.here_mk KX G ?a ?l ?c ?k ?b; (case a => k_is); (case l => k_is); (case c => k_is); (case k => k_is); (case b => exact fun _ _ _ _ _ _ us hl => match us, hl with | [_, _], _ => rfl)))
    (case g5 => (refine' Wv.here_mk KX G ?a ?l ?c ?k ?b; (case a => k_is); (case l => k_is); (case c => k_is); (case k => k_is); (case b => exact fun _ _ _ _ _ _ us hl => match us, hl with | [_, _], _ => rfl)))
    (case g6 => (refine' Wv.here_mk KX G ?a ?l ?c ?k ?b; (case a => k_is); (case l => k_is); (case c => k_is); (case k => k_is); (case b => exact fun _ _ _ _ _ _ us hl => match us, hl with | [_, _, _, _], _ => rfl)))
    (case g7 => (refine' Wv.here_mk KX G ?a ?l ?c ?k ?b; (case a => k_is); (case l => k_is); (case c => k_is); (case k => k_is); (case b => exact fun _ _ _ _ _ _ us hl => match us, hl with | [_, _, _, _], _ => rfl)))
    (case g11 => (refine' Wv.here_mk KX G ?a ?l ?c ?k ?b; (case a => k_is); (case l => k_is); (case c => k_is); (case k => k_is); (case b => exact fun _ _ _ _ _ _ us hl => match us, hl with | [_], _ => rfl)))
