import PyProof.Rows.All
import Wide.All
import OpenK.AllK
import Wide.FinOn
import HandS.ForMost
import HandS.IsInst
import HandS.Style
import HandS.RevRange
import HandS.OwnEq
import HandS.SortKw
import KE.DataMinMax
import HandS.Deep
import HandS.Zip
import HandS.ListItems
import KE.KDictZip
import KE.KCallOwn
import HandS.Star
import HandS.ClsMeth
import PySem.Challenge.RW_waystaken_k04_texts_of_ways
set_option Elab.async false
set_option linter.all false
set_option maxRecDepth 100000
set_option maxHeartbeats 4000000
namespace Wv
open PySem PySem.Spec PyProof.Rows L2
/-! ### a def of the module, called by its name -/
section
variable {P : Program} {w : World} {K : PySem.W.Frag} {mg : Str → Option Value} {base : Heap}
structure DefOk (P : Program) (w : World) (K : PySem.W.Frag) (mg : Str → Option Value) (base : Heap) (k : Nat) (x : Str) (ps : List Str) (sp : Sp) : Prop where
  ex : ∃ (f : Addr) (fd : FuncData), mg x = some (.ref f) ∧ PySem.W.keepIn K (.ref f) = true ∧ Binds K fd ps [] ∧ FnOk P w K mg base CX0 k f fd ps sp
theorem DefOk.mono {j k : Nat} {x : Str} {ps : List Str} {sp : Sp} (h : DefOk P w K mg base j x ps sp) (q : j ≤ k) : DefOk P w K mg base k x ps sp := by
  obtain ⟨f, fd, a, b, c, d⟩ := h.ex
  exact ⟨f, fd, a, b, c, d.mono q⟩
/-- the def as the top left it -/
structure Here (K : PySem.W.Frag) (mg : Str → Option Value) (x : Str) (st : Stmt) (ps : List Str) : Prop where
  ex : ∃ (f : Addr) (fd : FuncData), Fun K x x st f fd ∧ mg x = some (.ref f) ∧ Binds K fd ps []
theorem Here.ok {x : Str} {st : Stmt} {N ps : List Str} {k : Nat} {sp : Sp} (h : Here K mg x st ps) (S : FnScope N ps (defScope st)) (len : ∀ vs H Q E, sp vs H Q E → vs.length = ps.length)
    (hbody : ∀ (f : Addr) (cdv : Value) (A : Around) (outer : List Env) (s : Shared) (H : Hp) (vs : List V) (Q : VK) (E : XK), Room k (A.deeper (envOfC x (defScope st) s.heap.objs.size f cdv)) → sp vs H Q E →
      ∃ t, PSs (cxOf CX0 P w K mg base N x (defScope st) f cdv A outer s H E).nox (defBody st) t ∧ t { nx := fun _ H' => Q .non H', rt := Q } (start N vs) H) : DefOk P w K mg base (k + 1) x ps sp := by
  obtain ⟨f, fd, F, m, b⟩ := h.ex
  exact ⟨f, fd, m, F.kp, b, F.ok S len fun cdv A outer s H vs Q E hr q => hbody f cdv A outer s H vs Q E hr q⟩
end
section
variable {X : Cx} {k : Nat} {x : Str} {ps : List Str} {sp : Sp} {e : Expr} {es : List Expr} {t : TA} {p pos : Pos}
theorem pe_callD (G : DefOk X.prog X.w X.K X.mg X.base k x ps sp) (hr : Room k X.A) (hg : Gl X x) (ha : PA X (e :: es) t) (hdb : (x == ("__debug__" : Str)) = false := by decide)
    (he : starEach (e :: es) X.env = (false, eval e X.env) :: starEach es X.env := by rfl) (hpl : (backTo pos (starEach es X.env)).any (·.1) = false := by rfl) :
    PE X (.Call (.Name x p) (e :: es) [] pos) (tCall sp [] E0 t) := by
  obtain ⟨f, fd, m, kp, b, F⟩ := G.ex
  exact pe_call F hr hg m kp b .nil pass0 ha hdb he hpl
theorem pe_callD0 (G : DefOk X.prog X.w X.K X.mg X.base k x ps sp) (hr : Room k X.A) (hg : Gl X x) (hdb : (x == ("__debug__" : Str)) = false := by decide) :
    PE X (.Call (.Name x p) [] [] pos) (tCall sp [] E0 tNil) := by
  obtain ⟨f, fd, m, kp, b, F⟩ := G.ex
  exact pe_call0 F hr hg m kp b .nil pass0 hdb
end
/-! ### a class of the module, made by its name -/
structure ClsOk (P : Program) (w : World) (K : PySem.W.Frag) (mg : Str → Option Value) (base : Heap) (k : Nat) (x : Str) (C : Addr) (ps : List Str) (sp : Sp) : Prop where
  ex : ∃ (f : Addr) (fd : FuncData), mg x = some (.ref C) ∧ Mk K C f ∧ Binds K fd ps [] ∧ FnOk P w K mg base CX0 k f fd ps sp
section
variable {X : Cx} {k : Nat} {x : Str} {C : Addr} {ps : List Str} {sp : Sp} {e : Expr} {es : List Expr} {t : TA} {p pos : Pos}
theorem pe_makeD (G : ClsOk X.prog X.w X.K X.mg X.base k x C ps sp) (hr : Room (k + 1) X.A) (hg : Gl X x) (ha : PA X (e :: es) t) (hdb : (x == ("__debug__" : Str)) = false := by decide)
    (he : starEach (e :: es) X.env = (false, eval e X.env) :: starEach es X.env := by rfl) (hpl : (backTo pos (starEach es X.env)).any (·.1) = false := by rfl) :
    PE X (.Call (.Name x p) (e :: es) [] pos) (tMake C sp [] E0 t) := by
  obtain ⟨f, fd, m, M, b, F⟩ := G.ex
  exact pe_make M F hr hg m b .nil pass0 ha hdb he hpl
theorem pe_makeD0 (G : ClsOk X.prog X.w X.K X.mg X.base k x C ps sp) (hr : Room (k + 1) X.A) (hg : Gl X x) (hdb : (x == ("__debug__" : Str)) = false := by decide) :
    PE X (.Call (.Name x p) [] [] pos) (tMake C sp [] E0 tNil) := by
  obtain ⟨f, fd, m, M, b, F⟩ := G.ex
  exact pe_make0 M F hr hg m b .nil pass0 hdb
end
/-! ### a class of the module without an __init__ of its own -/
structure Mk0 (K : PySem.W.Frag) (mg : Str → Option Value) (x : Str) (C : Addr) : Prop where
  m : mg x = some (.ref C)
  makes : PySem.W.makesIn K C = true
  init : PySem.W.findIn K (.ref C) "__init__" = some (some (.builtin "object.__init__"))
  kp : PySem.W.keepIn K (.ref C) = true
def tMake0 (C : Addr) : TE := fun _ H Q => ∀ x dx, H x = none → H dx = none → dx ≠ x → Q (.ref x) (upd (upd H dx (.own x)) x (.ins C dx []))
section
open PySem.W
variable {X : Cx} {C : Addr} {x : Str} {p pos : Pos}
theorem make0_raw {prog : Program} {w : World} {A : Around} {K : Frag} {C : Addr} {s : Shared} {R : Result → Shared → Prop} (X : K.In s.heap) (hm : makesIn K C = true) (hi : findIn K (.ref C) "__init__" = some (some (.builtin "object.__init__")))
    (z : R (.ok (.ret (.ref (s.heap.objs.size + 1)))) { s with heap := (s.heap.push emptyDict).push (instObj C s.heap.objs.size) }) :
    codeAny (model prog w) A (.call (.ref C) ⟨[], []⟩) R s := by
  obtain ⟨hh, g, d, t, os⟩ := s
  have Y := makes_of (M := model prog w) X hm
  have hx : ((hh.push emptyDict).push (instObj C hh.objs.size)).get? (hh.objs.size + 1) = some (instObj C hh.objs.size) := by heap_get
  refine make_core Y (looks_findIn X hi) (fun self => Looks.of_pure (oi_bind self)) (.inr ⟨rfl, rfl⟩) ?_
  have t1 : Looks (model prog w) ((hh.push emptyDict).push (instObj C hh.objs.size)) (typeOf (.ref (hh.objs.size + 1))) (.ref C) := (Looks.ld hx).andThen .now
  have t2 : Looks (model prog w) ((hh.push emptyDict).push (instObj C hh.objs.size)) (isInstance (.ref (hh.objs.size + 1)) (.type "object")) true := t1.andThen (Y.top.keeps fun b o e => Heap.get?_push_of_some _ (Heap.get?_push_of_some _ e))
  refine codeAny_call_builtin oi_plain entry_oi (@check_slot (model prog w) _ _ _ "object.__init__" "object" "__init__" (.ref (hh.objs.size + 1)) [] [] _ oi_kind oi_split t2 (oi_args (.ref (hh.objs.size + 1))) ?_)
  rw [oi_run]
  exact wpAny_pure (And.intro rfl z)
theorem pe_make00 (M : Mk0 X.K X.mg x C) (hg : Gl X x) (hdb : (x == ("__debug__" : Str)) = false := by decide) : PE X (.Call (.Name x p) [] [] pos) (tMake0 C) := by
  refine ⟨fun pins s σ H Q I h => ?_⟩
  refine wpAny_Call_Name_kw (ld_glob I hg M.m ?_ hdb)
  refine PySem.W.callWith_K0 I.kIn M.kp ?_
  have hq := h (s.heap.objs.size + 1) s.heap.objs.size (I.hok.fresh (Nat.le_succ _)) (I.hok.fresh (Nat.le_refl _)) (Nat.ne_of_lt (Nat.lt_succ_self _))
  have I2 := Inv.made (C := C) I
  exact wpAny_call (make0_raw I.kIn M.makes M.init ⟨.ref _, _, I2, rfl, hq⟩)
end
/-- the built-ins' names that the text leaves as they are -/
structure Bs (mg : Str → Option Value) : Prop where
  len : mg "len" = none
  int : mg "int" = none
  list : mg "list" = none
  range : mg "range" = none
  min : mg "min" = none
  tuple : mg "tuple" = none
  isinstance : mg "isinstance" = none
  zip : mg "zip" = none
  sum : mg "sum" = none
  max : mg "max" = none
  reversed : mg "reversed" = none
  enumerate : mg "enumerate" = none
  repr : mg "repr" = none
/-! ### a part of a reading by itself: what it gives, whatever follows -/
theorem withQ {E : TE} {σ : L2.St} {H : Hp} {Q : VK} (C : V → Hp → Prop) (h : ∀ Q' : VK, (∀ x H', C x H' → Q' x H') → E σ H Q') (g : ∀ x H', C x H' → Q x H') : E σ H Q := h Q g
theorem withB {E : TT} {σ : L2.St} {H : Hp} {Q : Bool → Hp → Prop} (C : Bool → Hp → Prop) (h : ∀ Q' : Bool → Hp → Prop, (∀ x H', C x H' → Q' x H') → E σ H Q') (g : ∀ x H', C x H' → Q x H') : E σ H Q := h Q g
theorem gset {i : Nat} {x : V} {σ : L2.St} {H : Hp} {Q : L2.St → Hp → Prop} (h : Q (σ.set i (some x)) H) : gName i x σ H Q := h
theorem st_seq {t u : TS} {D : Ends} {σ : L2.St} {H : Hp} (h : t { D with nx := u D } σ H) : tSeq t u D σ H := h
theorem st_asg {te : TE} {g : TG} {D : Ends} {σ : L2.St} {H : Hp} (h : te σ H fun x H1 => g x σ H1 D.nx) : tAsg te g D σ H := h
theorem st_next {D : Ends} {σ : L2.St} {H : Hp} (h : D.nx σ H) : tNext D σ H := h
theorem st_drop {te : TE} {D : Ends} {σ : L2.St} {H : Hp} (h : te σ H fun _ H1 => D.nx σ H1) : tDrop te D σ H := h
theorem st_ret {te : TE} {D : Ends} {σ : L2.St} {H : Hp} (h : te σ H D.rt) : tRet te D σ H := h
/-! ### heaps: all but the dicts stay -/
def Keep (H H' : Hp) : Prop := ∀ b o, H b = some o → H' b = some o ∨ ∃ kvs kvs', o = .dK kvs ∧ H' b = some (.dK kvs')
theorem Keep.refl (H : Hp) : Keep H H := fun _ _ h => .inl h
theorem Keep.trans {H H1 H2 : Hp} (a : Keep H H1) (b : Keep H1 H2) : Keep H H2 := fun c o h => by
  rcases a c o h with h1 | ⟨k1, k2, e, h1⟩
  · exact b c o h1
  · rcases b c _ h1 with h2 | ⟨k3, k4, e2, h2⟩
    · exact .inr ⟨k1, k2, e, h2⟩
    · exact .inr ⟨k1, k4, e, h2⟩
theorem Keep.of {H H' : Hp} (s : Same H H') : Keep H H' := fun b o h => .inl (s b o h)
theorem Keep.at_ {H H' : Hp} {a : Addr} {o : HO} (k : Keep H H') (h : H a = some o) (n : ∀ kvs, o ≠ .dK kvs) : H' a = some o := by
  rcases k a o h with q | ⟨k1, _, e, _⟩
  · exact q
  · exact absurd e (n k1)
theorem Keep.free {H H' : Hp} {a : Addr} (k : Keep H H') (h : H' a = none) : H a = none := by
  cases e : H a with
  | none => rfl
  | some o =>
    rcases k a o e with q | ⟨_, _, _, q⟩
    · rw [h] at q; cases q
    · rw [h] at q; cases q
theorem Keep.lst {H H' : Hp} {a : Addr} {xs : List V} (k : Keep H H') (h : H a = some (.lst xs)) : H' a = some (.lst xs) := k.at_ h (fun _ z => by cases z)
theorem Keep.tup {H H' : Hp} {a : Addr} {xs : List V} (k : Keep H H') (h : H a = some (.tup xs)) : H' a = some (.tup xs) := k.at_ h (fun _ z => by cases z)
theorem Keep.ins {H H' : Hp} {a C d : Addr} {fs : List (Str × V)} (k : Keep H H') (h : H a = some (.ins C d fs)) : H' a = some (.ins C d fs) := k.at_ h (fun _ z => by cases z)
theorem Keep.seq {K : PySem.W.Frag} {H H' : Hp} {a : Addr} {xs : List V} (k : Keep H H') (h : SqL K H a xs) : SqL K H' a xs := by
  rcases h with (h | ⟨o, h⟩) | h
  · exact .inl (.inl (k.lst h))
  · exact .inl (.inr ⟨o, k.at_ h (fun _ z => by cases z)⟩)
  · exact .inr h
theorem Keep.seqT {K : PySem.W.Frag} {H H' : Hp} {a : Addr} {xs : List V} (k : Keep H H') (h : SqT K H a xs) : SqT K H' a xs := by
  rcases h with (h | ⟨o, h⟩) | h
  · exact .inl (.inl (k.tup h))
  · exact .inl (.inr ⟨o, k.at_ h (fun _ z => by cases z)⟩)
  · exact .inr h
theorem Same.new {H : Hp} {p : Addr} (h : H p = none) (o : HO) : Same H (upd H p o) := fun b u q => by rw [upd_ne (ne_of_none q h)]; exact q
theorem Same.put {H H' : Hp} {p : Addr} (h : H p = none) (s : Same H H') (o : HO) : Same H (upd H' p o) := fun b u q => by rw [upd_ne (ne_of_none q h)]; exact s b u q
theorem Keep.new {H : Hp} {p : Addr} (h : H p = none) (o : HO) : Keep H (upd H p o) := .of (Same.new h o)
theorem Keep.put {H H' : Hp} {p : Addr} (h : H p = none) (s : Keep H H') (o : HO) : Keep H (upd H' p o) := fun b u q => by rw [upd_ne (ne_of_none q h)]; exact s b u q
/-! ### what is new in a heap -/
def newer (H H' : Hp) : Hp := fun a => if (H a).isSome = true then none else H' a
theorem newer_at {H H' : Hp} {a : Addr} (h : H a = none) : newer H H' a = H' a := by unfold newer; rw [h]; exact if_neg (by decide)
theorem newer_old {H H' : Hp} {a : Addr} {o : HO} (h : H a = some o) : newer H H' a = none := by unfold newer; rw [h]; exact if_pos rfl
theorem newer_of {H H' : Hp} {a : Addr} {o : HO} (h : newer H H' a = some o) : H a = none ∧ H' a = some o := by
  cases e : H a with
  | none => rw [newer_at e] at h; exact ⟨rfl, h⟩
  | some u => rw [newer_old e] at h; cases h
theorem newer_le {H H' : Hp} : Keep (newer H H') H' := fun _ _ h => .inl (newer_of h).2
theorem newer_up {H H' H'' : Hp} (k : Keep H' H'') : Keep (newer H H') (newer H H'') := fun a o h => by
  obtain ⟨h1, h2⟩ := newer_of h
  rw [newer_at h1]
  exact k a o h2
theorem newer_down {H H0 H' : Hp} (k : Keep H H0) : Keep (newer H0 H') (newer H H') := fun a o h => by
  obtain ⟨h1, h2⟩ := newer_of h
  rw [newer_at (k.free h1)]
  exact .inl h2
def Sub (H H' : Hp) : Prop := ∀ a, H' a = none → H a = none
theorem Keep.sub {H H' : Hp} (k : Keep H H') : Sub H H' := fun _ h => k.free h
theorem Sub.trans {H H1 H2 : Hp} (a : Sub H H1) (b : Sub H1 H2) : Sub H H2 := fun c h => a c (b c h)
theorem Sub.put {H H' : Hp} (s : Sub H H') (p : Addr) (o : HO) : Sub H (upd H' p o) := fun a h => by
  by_cases e : a = p
  · rw [e, upd_same] at h; cases h
  · rw [upd_ne e] at h; exact s a h
theorem newer_sub {H H0 H' : Hp} (k : Sub H H0) : Keep (newer H0 H') (newer H H') := fun a o h => by
  obtain ⟨h1, h2⟩ := newer_of h
  rw [newer_at (k a h1)]
  exact .inl h2
theorem newer_put {H H' : Hp} {p : Addr} {o u : HO} (h : H p = some u) : newer H (upd H' p o) = newer H H' := by
  funext a
  unfold newer
  by_cases e : a = p
  · rw [e, h]; rfl
  · rw [upd_ne e]
/-! ### arithmetic -/
theorem fmod_in (x : Int) {m : Int} (h : 0 < m) : 0 ≤ x.fmod m ∧ x.fmod m < m := ⟨Int.fmod_nonneg_of_pos x h, Int.fmod_lt_of_pos x h⟩
theorem small' {n : Nat} (h : n ≤ 1000000) : n < sizeLine := Nat.lt_of_le_of_lt h (by decide)
theorem atI_of {xs : List V} {i : Int} (h0 : 0 ≤ i) (h1 : i < (xs.length : Int)) : ∃ v, xs[i.toNat]? = some v ∧ atI xs i = some v := by
  have hk : i.toNat < xs.length := by omega
  have ek : i = ((i.toNat : Nat) : Int) := by omega
  refine ⟨xs[i.toNat], List.getElem?_eq_getElem hk, ?_⟩
  have q : atI xs ((i.toNat : Nat) : Int) = some xs[i.toNat] := atI_nat (List.getElem?_eq_getElem hk)
  rw [← ek] at q
  exact q
/-- a text of one sign -/
abbrev sg (c : Nat) : Str := ⟨#[c]⟩
/-- a text by its codes -/
def tx (l : List Nat) : Str := ⟨l.toArray⟩
end Wv
local macro_rules | `(tactic| walk_at "rd") => `(tactic| (repeat (first | refine ⟨_, rfl, ?_⟩ | refine ⟨_, _, rfl, rfl, ?_⟩ | refine ⟨rfl, ?_⟩ | refine Or.inl ⟨_, rfl, ?_⟩)))
local macro_rules | `(tactic| walk_at "nx") => `(tactic| (repeat (first | (with_reducible refine Wv.gset ?_) | (with_reducible refine Wv.st_seq ?_) | (with_reducible refine Wv.st_asg ?_) | (with_reducible refine Wv.st_next ?_) | (with_reducible refine Wv.st_drop ?_) | (with_reducible refine Wv.st_ret ?_))))
/-! max([..], default=d) of integers -/
namespace Wv
open PySem PySem.Spec PyProof.Rows L2
/-- the greatest one, d if there is none -/
def mx (d : Int) : List Int → Int
  | [] => d
  | n :: r => r.foldl max n
def rMaxDef (K : PySem.W.Frag) : List V → List V → Hp → VK → Prop := fun xs zs H Q => ∃ (a : Addr) (ns : List Int) (d : Int), xs = [.ref a] ∧ zs = [.int d] ∧ SqL K H a (ns.map V.int) ∧
  Q (.int (mx d ns)) H
theorem ints_alike (ns : List Int) : PySem.W.AlikeAll (ns.map PyData.int) := by
  refine ⟨fun x hx y hy => ?_, fun x hx => ?_⟩
  · obtain ⟨n, _, rfl⟩ := List.mem_map.mp hx
    obtain ⟨m, _, rfl⟩ := List.mem_map.mp hy
    rfl
  · obtain ⟨n, _, rfl⟩ := List.mem_map.mp hx
    intro e; cases e
theorem depth_ints0 : ∀ ns : List Int, PyData.depthAll (ns.map PyData.int) = 0
  | [] => rfl
  | n :: r => by
    rw [List.map_cons, PyData.depthAll, depth_ints0 r]; rfl
theorem cr_maxDef {X : Cx} (hc : X.calm = true) (hu : X.A.units + 1 < cLine) : CallRK X (.builtin "max") [Str.ofString "default"] (rMaxDef X.K) := by
  intro pins s σ H vs zs us ws Q I r1 r2 h
  obtain ⟨a, ns, d, rfl, rfl, hs, q⟩ := h
  obtain ⟨its, rv, hl, _⟩ := I.list hs
  rw [Vals.ref1 r1]
  obtain ⟨u, rfl, ru⟩ := r2.one
  obtain ⟨t, rfl⟩ := ru
  have hi := rv.ints
  obtain ⟨as, hr⟩ : ∃ as, ReadsAll s.heap its (ns.map PyData.int) as := ⟨_, hi.reads s.heap⟩
  show wpAny _ X.A (call (.builtin "max") [.ref a] [(Str.ofString "default", .int d t)]) _ _ s
  refine PySem.W.max_list_default (xs := ns.map PyData.int) (I.ok.hd hc) hl.isList (by simpa using hr) (ints_alike ns) (by rw [depth_ints0]; exact hu) (fun e h' tk hk => ?_) (fun y ys i v h' tk bs e hv hr' hk => ?_)
  · have : ns = [] := by simpa using e
    subst this
    exact ⟨.int d, H, I.kept hk, ⟨_, rfl⟩, q⟩
  · cases ns with
    | nil => cases e
    | cons n r =>
      rw [List.map_cons] at e
      obtain ⟨rfl, rfl⟩ := List.cons.inj e
      rw [PySem.W.maxD_ints] at hr'
      cases hr'
      exact ⟨.int _, H, I.kept hk, ⟨_, rfl⟩, q⟩
/-- an attribute, where K is told by itself -/
theorem pe_fldK {X : Cx} {K : PySem.W.Frag} {e : Expr} {f : Str} {pos : Pos} {ta : TE} (q : X.K = K) (he : PE X e ta) (hb : attributeBase e f X.env (eval e X.env) = eval e X.env) : PE X (.Attribute e f pos) (tFld K ta f) := q ▸ pe_fld he hb
end Wv
namespace Wv
open PySem PySem.Spec PyProof.Rows L2
/-! ### ways as data -/
inductive W where
  | nothing | one | letter (c : Nat) | call (x : Str)
  | row (ws : List W) | choice (ws : List W)
  | again (w : W) | maybe (w : W) | ahead (w : W) | unless (w : W)
mutual
def W.size : W → Nat
  | .nothing => 1 | .one => 1 | .letter _ => 1 | .call _ => 1
  | .row ws => 1 + W.sizes ws | .choice ws => 1 + W.sizes ws
  | .again w => 1 + W.size w | .maybe w => 1 + W.size w | .ahead w => 1 + W.size w | .unless w => 1 + W.size w
def W.sizes : List W → Nat
  | [] => 0
  | w :: ws => W.size w + W.sizes ws
end
theorem W.size_pos (w : W) : 0 < w.size := by cases w <;> simp only [W.size] <;> omega
theorem W.sizes_app : ∀ (a b : List W), W.sizes (a ++ b) = W.sizes a + W.sizes b
  | [], b => by simp [W.sizes]
  | x :: a, b => by simp only [List.cons_append, W.sizes, W.sizes_app a b]; omega
theorem W.sizes_len : ∀ ws : List W, ws.length ≤ W.sizes ws
  | [] => Nat.le_refl _
  | w :: ws => by
    have h := W.sizes_len ws
    have h2 := w.size_pos
    simp only [List.length_cons, W.sizes]
    omega
-- letters among these codes, rows and choices of two or more, no calls
mutual
def W.wf (z : List Nat) : W → Prop
  | .nothing => True | .one => True | .letter c => c ∈ z | .call _ => False
  | .row ws => 2 ≤ ws.length ∧ W.wfs z ws | .choice ws => 2 ≤ ws.length ∧ W.wfs z ws
  | .again w => W.wf z w | .maybe w => W.wf z w | .ahead w => W.wf z w | .unless w => W.wf z w
def W.wfs (z : List Nat) : List W → Prop
  | [] => True
  | w :: ws => W.wf z w ∧ W.wfs z ws
end
theorem W.wfs_app (z : List Nat) : ∀ (a b : List W), W.wfs z (a ++ b) ↔ W.wfs z a ∧ W.wfs z b
  | [], b => by simp [W.wfs]
  | x :: a, b => by simp only [List.cons_append, W.wfs, W.wfs_app z a b, and_assoc]
mutual

def W.data : W → PyData
  | .nothing => .tuple [.str (Str.ofString "nothing")]
  | .one => .tuple [.str (Str.ofString "one")]
  | .letter c => .tuple [.str (Str.ofString "letter"), .str (sg c)]
  | .call x => .tuple [.str (Str.ofString "call"), .str x]
  | .row ws => .tuple [.str (Str.ofString "row"), .list (W.datas ws)]
  | .choice ws => .tuple [.str (Str.ofString "choice"), .list (W.datas ws)]
  | .again w => .tuple [.str (Str.ofString "again"), W.data w]
  | .maybe w => .tuple [.str (Str.ofString "maybe"), W.data w]
  | .ahead w => .tuple [.str (Str.ofString "ahead"), W.data w]
  | .unless w => .tuple [.str (Str.ofString "unless"), W.data w]
def W.datas : List W → List PyData
  | [] => []
  | w :: ws => W.data w :: W.datas ws
end
mutual
theorem W.depth_data : ∀ w : W, (W.data w).depth ≤ 2 * w.size
  | .nothing => by simp only [W.data, W.size, PyData.depth, PyData.depthAll]; omega
  | .one => by simp only [W.data, W.size, PyData.depth, PyData.depthAll]; omega
  | .letter c => by simp only [W.data, W.size, PyData.depth, PyData.depthAll]; omega
  | .call x => by simp only [W.data, W.size, PyData.depth, PyData.depthAll]; omega
  | .row ws => by
    have h := W.depth_datas ws
    simp only [W.data, W.size, PyData.depth, PyData.depthAll]; omega
  | .choice ws => by
    have h := W.depth_datas ws
    simp only [W.data, W.size, PyData.depth, PyData.depthAll]; omega
  | .again w => by
    have h := W.depth_data w
    simp only [W.data, W.size, PyData.depth, PyData.depthAll]; omega
  | .maybe w => by
    have h := W.depth_data w
    simp only [W.data, W.size, PyData.depth, PyData.depthAll]; omega
  | .ahead w => by
    have h := W.depth_data w
    simp only [W.data, W.size, PyData.depth, PyData.depthAll]; omega
  | .unless w => by
    have h := W.depth_data w
    simp only [W.data, W.size, PyData.depth, PyData.depthAll]; omega
theorem W.depth_datas : ∀ ws : List W, PyData.depthAll (W.datas ws) ≤ 2 * W.sizes ws
  | [] => by simp [W.datas, PyData.depthAll]
  | w :: ws => by
    have h := W.depth_data w
    have h2 := W.depth_datas ws
    simp only [W.datas, W.sizes, PyData.depthAll]; omega
end
def W.tag : W → Str
  | .nothing => Str.ofString "nothing"
  | .one => Str.ofString "one"
  | .again _ => Str.ofString "again"
  | .maybe _ => Str.ofString "maybe"
  | .ahead _ => Str.ofString "ahead"
  | .unless _ => Str.ofString "unless"
  | .letter _ => Str.ofString "letter"
  | .call _ => Str.ofString "call"
  | .row _ => Str.ofString "row"
  | .choice _ => Str.ofString "choice"
mutual
def WayAt (H : Hp) : V → W → Prop
  | v, .nothing => ∃ a, v = .ref a ∧ H a = some (.tup [.str (Str.ofString "nothing")])
  | v, .one => ∃ a, v = .ref a ∧ H a = some (.tup [.str (Str.ofString "one")])
  | v, .letter c => ∃ a, v = .ref a ∧ H a = some (.tup [.str (Str.ofString "letter"), .str (sg c)])
  | v, .call x => ∃ a, v = .ref a ∧ H a = some (.tup [.str (Str.ofString "call"), .str x])
  | v, .row ws => ∃ a l vs, v = .ref a ∧ H a = some (.tup [.str (Str.ofString "row"), .ref l]) ∧ H l = some (.lst vs) ∧ WaysAt H vs ws
  | v, .choice ws => ∃ a l vs, v = .ref a ∧ H a = some (.tup [.str (Str.ofString "choice"), .ref l]) ∧ H l = some (.lst vs) ∧ WaysAt H vs ws
  | v, .again w => ∃ a u, v = .ref a ∧ H a = some (.tup [.str (Str.ofString "again"), u]) ∧ WayAt H u w
  | v, .maybe w => ∃ a u, v = .ref a ∧ H a = some (.tup [.str (Str.ofString "maybe"), u]) ∧ WayAt H u w
  | v, .ahead w => ∃ a u, v = .ref a ∧ H a = some (.tup [.str (Str.ofString "ahead"), u]) ∧ WayAt H u w
  | v, .unless w => ∃ a u, v = .ref a ∧ H a = some (.tup [.str (Str.ofString "unless"), u]) ∧ WayAt H u w
def WaysAt (H : Hp) : List V → List W → Prop
  | vs, [] => vs = []
  | vs, w :: ws => ∃ u us, vs = u :: us ∧ WayAt H u w ∧ WaysAt H us ws
end
theorem WaysAt.len {H : Hp} : ∀ (ws : List W) (vs : List V), WaysAt H vs ws → vs.length = ws.length
  | [], vs, h => by rw [show vs = [] from h]; rfl
  | w :: ws, vs, ⟨u, us, e, _, h⟩ => by rw [e, List.length_cons, List.length_cons, WaysAt.len ws us h]
theorem WaysAt.app {H : Hp} : ∀ (ws : List W) (vs : List V) {us : List V} {xs : List W}, WaysAt H vs ws → WaysAt H us xs → WaysAt H (vs ++ us) (ws ++ xs)
  | [], vs, us, xs, h, h2 => by rw [show vs = [] from h]; exact h2
  | w :: ws, vs, us, xs, ⟨u, r, e, hu, h⟩, h2 => by rw [e]; exact ⟨u, r ++ us, rfl, hu, WaysAt.app ws r h h2⟩
theorem WaysAt.at_ {H : Hp} : ∀ (ws : List W) (vs : List V) (i : Nat) (w : W), WaysAt H vs ws → ws[i]? = some w → ∃ v, vs[i]? = some v ∧ WayAt H v w
  | [], vs, i, w, h, e => by simp at e
  | x :: ws, vs, 0, w, ⟨u, us, ev, hu, h⟩, e => by
    have q : x = w := by simpa using e
    subst q
    exact ⟨u, by rw [ev]; rfl, hu⟩
  | x :: ws, vs, i + 1, w, ⟨u, us, ev, hu, h⟩, e => by
    obtain ⟨v, h1, h2⟩ := WaysAt.at_ ws us i w h (by simpa using e)
    exact ⟨v, by rw [ev]; simpa using h1, h2⟩
mutual
theorem WayAt.keep {H H' : Hp} (k : Keep H H') : ∀ (w : W) (v : V), WayAt H v w → WayAt H' v w
  | .nothing, v, ⟨a, e, h⟩ => ⟨a, e, k.tup h⟩
  | .one, v, ⟨a, e, h⟩ => ⟨a, e, k.tup h⟩
  | .letter _, v, ⟨a, e, h⟩ => ⟨a, e, k.tup h⟩
  | .call _, v, ⟨a, e, h⟩ => ⟨a, e, k.tup h⟩
  | .row ws, v, ⟨a, l, vs, e, h, h2, h3⟩ => ⟨a, l, vs, e, k.tup h, k.lst h2, WaysAt.keep k ws vs h3⟩
  | .choice ws, v, ⟨a, l, vs, e, h, h2, h3⟩ => ⟨a, l, vs, e, k.tup h, k.lst h2, WaysAt.keep k ws vs h3⟩
  | .again w, v, ⟨a, u, e, h, h2⟩ => ⟨a, u, e, k.tup h, WayAt.keep k w u h2⟩
  | .maybe w, v, ⟨a, u, e, h, h2⟩ => ⟨a, u, e, k.tup h, WayAt.keep k w u h2⟩
  | .ahead w, v, ⟨a, u, e, h, h2⟩ => ⟨a, u, e, k.tup h, WayAt.keep k w u h2⟩
  | .unless w, v, ⟨a, u, e, h, h2⟩ => ⟨a, u, e, k.tup h, WayAt.keep k w u h2⟩
theorem WaysAt.keep {H H' : Hp} (k : Keep H H') : ∀ (ws : List W) (vs : List V), WaysAt H vs ws → WaysAt H' vs ws
  | [], _, h => h
  | w :: ws, vs, ⟨u, us, e, h, h2⟩ => ⟨u, us, e, WayAt.keep k w u h, WaysAt.keep k ws us h2⟩
end
mutual
theorem WayAt.dp {K : PySem.W.Frag} {H : Hp} : ∀ (w : W) (v : V), WayAt H v w → Dp K H v (W.data w)
  | .nothing, v, ⟨a, e, h⟩ => by rw [e]; exact .tup (SqT.of h) (.cons (.str _) .nil)
  | .one, v, ⟨a, e, h⟩ => by rw [e]; exact .tup (SqT.of h) (.cons (.str _) .nil)
  | .letter _, v, ⟨a, e, h⟩ => by rw [e]; exact .tup (SqT.of h) (.cons (.str _) (.cons (.str _) .nil))
  | .call _, v, ⟨a, e, h⟩ => by rw [e]; exact .tup (SqT.of h) (.cons (.str _) (.cons (.str _) .nil))
  | .row ws, v, ⟨a, l, vs, e, h, h2, h3⟩ => by rw [e]; exact .tup (SqT.of h) (.cons (.str _) (.cons (.lst (SqL.of h2) (WaysAt.dp ws vs h3)) .nil))
  | .choice ws, v, ⟨a, l, vs, e, h, h2, h3⟩ => by rw [e]; exact .tup (SqT.of h) (.cons (.str _) (.cons (.lst (SqL.of h2) (WaysAt.dp ws vs h3)) .nil))
  | .again w, v, ⟨a, u, e, h, h2⟩ => by rw [e]; exact .tup (SqT.of h) (.cons (.str _) (.cons (WayAt.dp w u h2) .nil))
  | .maybe w, v, ⟨a, u, e, h, h2⟩ => by rw [e]; exact .tup (SqT.of h) (.cons (.str _) (.cons (WayAt.dp w u h2) .nil))
  | .ahead w, v, ⟨a, u, e, h, h2⟩ => by rw [e]; exact .tup (SqT.of h) (.cons (.str _) (.cons (WayAt.dp w u h2) .nil))
  | .unless w, v, ⟨a, u, e, h, h2⟩ => by rw [e]; exact .tup (SqT.of h) (.cons (.str _) (.cons (WayAt.dp w u h2) .nil))
theorem WaysAt.dp {K : PySem.W.Frag} {H : Hp} : ∀ (ws : List W) (vs : List V), WaysAt H vs ws → DpAll K H vs (W.datas ws)
  | [], vs, h => by rw [show vs = [] from h]; exact .nil
  | w :: ws, vs, ⟨u, us, e, h, h2⟩ => by rw [e]; exact .cons (WayAt.dp w u h) (WaysAt.dp ws us h2)
end
-- letters that are letters
abbrev Az (z : List Nat) : Prop := ∀ c ∈ z, 97 ≤ c ∧ c ≤ 122
theorem strOk_sg {c : Nat} (h : c ≤ 122) : PyData.strOk (sg c) = true := by
  show (#[c] : Array Nat).all (fun x => decide (x < 0x110000)) = true
  simp
  omega
mutual
theorem W.lay {z : List Nat} (hz : Az z) : ∀ w : W, w.wf z → (W.data w).canLay0 = true
  | .nothing, _ => by decide +kernel
  | .one, _ => by decide +kernel
  | .letter c, h => by
    have q := strOk_sg (hz c h).2
    simp only [W.data, PyData.canLay0, PyData.canLayAll0, q, Bool.and_true, Bool.and_eq_true, and_true]
    decide +kernel
  | .call x, h => by cases h
  | .row ws, h => by
    have q := W.lays hz ws h.2
    simp only [W.data, PyData.canLay0, PyData.canLayAll0, q, Bool.and_true, Bool.and_eq_true, and_true]
    decide +kernel
  | .choice ws, h => by
    have q := W.lays hz ws h.2
    simp only [W.data, PyData.canLay0, PyData.canLayAll0, q, Bool.and_true, Bool.and_eq_true, and_true]
    decide +kernel
  | .again w, h => by
    have q := W.lay hz w h
    simp only [W.data, PyData.canLay0, PyData.canLayAll0, q, Bool.and_true, Bool.and_eq_true, and_true]
    decide +kernel
  | .maybe w, h => by
    have q := W.lay hz w h
    simp only [W.data, PyData.canLay0, PyData.canLayAll0, q, Bool.and_true, Bool.and_eq_true, and_true]
    decide +kernel
  | .ahead w, h => by
    have q := W.lay hz w h
    simp only [W.data, PyData.canLay0, PyData.canLayAll0, q, Bool.and_true, Bool.and_eq_true, and_true]
    decide +kernel
  | .unless w, h => by
    have q := W.lay hz w h
    simp only [W.data, PyData.canLay0, PyData.canLayAll0, q, Bool.and_true, Bool.and_eq_true, and_true]
    decide +kernel
theorem W.lays {z : List Nat} (hz : Az z) : ∀ ws : List W, W.wfs z ws → PyData.canLayAll0 (W.datas ws) = true
  | [], _ => rfl
  | w :: ws, h => by
    simp only [W.datas, PyData.canLayAll0, W.lay hz w h.1, W.lays hz ws h.2, Bool.and_self]
end
theorem W.shaped_list {z : List Nat} (hz : Az z) {ws : List W} (h : W.wfs z ws) (hs : W.sizes ws ≤ 31) : SeqAt.shaped (.list (W.datas ws)) = true := by
  unfold SeqAt.shaped
  have d := W.depth_datas ws
  rw [Bool.and_eq_true]
  refine ⟨W.lays hz ws h, decide_eq_true ?_⟩
  simp only [PyData.depth]
  omega
theorem datas_empty (ws : List W) : (W.datas ws).isEmpty = ws.isEmpty := by cases ws <;> rfl
end Wv
namespace Wv
open PySem PySem.Spec PyProof.Rows L2
def top (i : Nat) : Stmt := PySem.Challenge.pw_waystaken_k04_texts_of_ways.main.body.getD i (.Pass ⟨0, 0, 0, 0⟩)
/-! ### the source of draws: what holds of it, whatever it draws -/
abbrev kC : Key := .inr (Str.ofString "cells")
abbrev kA : Key := .inr (Str.ofString "at")
abbrev kL : Key := .inr (Str.ofString "left")
def penF (l : Addr) (a b : Int) : List (Key × V) := [(kC, .ref l), (kA, .int a), (kL, .int b)]
theorem k12 : ¬ (kC = kA) := by decide
theorem k13 : ¬ (kC = kL) := by decide
theorem k23 : ¬ (kA = kL) := by decide
theorem k32 : ¬ (kL = kA) := by decide
theorem pen_cells (l : Addr) (a b : Int) : valV (penF l a b) kC = some (.ref l) := by
  unfold penF; rw [valV_pos rfl]
theorem pen_at (l : Addr) (a b : Int) : valV (penF l a b) kA = some (.int a) := by
  unfold penF; rw [valV_neg k12, valV_pos rfl]
theorem pen_left (l : Addr) (a b : Int) : valV (penF l a b) kL = some (.int b) := by
  unfold penF; rw [valV_neg k13, valV_neg k23, valV_pos rfl]
theorem put_at (l : Addr) (a b c : Int) : putK (penF l a b) kA (.int c) = penF l c b := by
  unfold putK
  rw [valV_any, pen_at, if_pos (show (some (V.int a)).isSome = true from rfl)]
  have h1 := k12; have h2 := k32
  unfold penF
  rw [List.map_cons, List.map_cons, List.map_cons, List.map_nil, if_neg h1, if_pos rfl, if_neg h2]
theorem put_left (l : Addr) (a b c : Int) : putK (penF l a b) kL (.int c) = penF l a c := by
  unfold putK
  rw [valV_any, pen_left, if_pos (show (some (V.int b)).isSome = true from rfl)]
  have h1 := k13; have h2 := k23
  unfold penF
  rw [List.map_cons, List.map_cons, List.map_cons, List.map_nil, if_neg h1, if_neg h2, if_pos rfl]
theorem get_cells {H : Hp} {p l : Addr} {a b : Int} (h : H p = some (.dK (penF l a b))) : DGet H p (.str "cells") (some (.ref l)) := by
  rw [← pen_cells l a b]; exact DGet.k (k := kC) h
theorem get_at {H : Hp} {p l : Addr} {a b : Int} (h : H p = some (.dK (penF l a b))) : DGet H p (.str "at") (some (.int a)) := by
  rw [← pen_at l a b]; exact DGet.k (k := kA) h
theorem get_left {H : Hp} {p l : Addr} {a b : Int} (h : H p = some (.dK (penF l a b))) : DGet H p (.str "left") (some (.int b)) := by
  rw [← pen_left l a b]; exact DGet.k (k := kL) h
theorem dput_at {H : Hp} {p l : Addr} {a b : Int} (c : Int) (h : H p = some (.dK (penF l a b))) : DPut H p (.str "at") (.int c) (upd H p (.dK (penF l c b))) := by
  rw [← put_at l a b c]; exact DPut.k (k := kA) h (by show 3 < sizeLine; decide)
theorem dput_left {H : Hp} {p l : Addr} {a b : Int} (c : Int) (h : H p = some (.dK (penF l a b))) : DPut H p (.str "left") (.int c) (upd H p (.dK (penF l a c))) := by
  rw [← put_left l a b c]; exact DPut.k (k := kL) h (by show 3 < sizeLine; decide)
/-- a pen: its dict, the list of its cells -/
structure Pen where
  d : Addr
  l : Addr
/-- the pen p, of which at most n draws have been made -/
structure PenAt (K : PySem.W.Frag) (H : Hp) (p : Pen) (n : Nat) : Prop where
  ex : ∃ (a b : Int) (cs : List Int), H p.d = some (.dK (penF p.l a b)) ∧ SqL K H p.l (cs.map V.int) ∧ cs.length ≤ 63 ∧ 0 ≤ a ∧ a ≤ (n : Int)
theorem PenAt.same {K : PySem.W.Frag} {H H' : Hp} {p : Pen} {n : Nat} (h : PenAt K H p n) (s : Same H H') : PenAt K H' p n := by
  obtain ⟨a, b, cs, h1, h2, h3, h4⟩ := h.ex
  exact ⟨a, b, cs, s _ _ h1, s.seq h2, h3, h4⟩
theorem PenAt.mono {K : PySem.W.Frag} {H : Hp} {p : Pen} {n m : Nat} (h : PenAt K H p n) (q : n ≤ m) : PenAt K H p m := by
  obtain ⟨a, b, cs, h1, h2, h3, h4, h5⟩ := h.ex
  exact ⟨a, b, cs, h1, h2, h3, h4, by omega⟩
theorem Keep.pen {H : Hp} {p l : Addr} {a b a' b' : Int} (h : H p = some (.dK (penF l a b))) : Keep H (upd H p (.dK (penF l a' b'))) := fun c o e => by
  by_cases z : c = p
  · rw [z, h] at e
    exact .inr ⟨_, _, (Option.some.inj e).symm, by rw [z]; exact upd_same⟩
  · rw [upd_ne z]; exact .inl e
theorem PenAt.mk' {K : PySem.W.Frag} {H : Hp} {p : Pen} {a b a' b' : Int} {cs : List Int} {n : Nat} (h : H p.d = some (.dK (penF p.l a b))) (hs : SqL K H p.l (cs.map V.int)) (hl : cs.length ≤ 63) (h0 : 0 ≤ a') (h1 : a' ≤ (n : Int)) :
    PenAt K (upd H p.d (.dK (penF p.l a' b'))) p n := ⟨a', b', cs, upd_same, (Keep.pen h).seq hs, hl, h0, h1⟩
/-- a list that was new is written -/
theorem PenAt.put {K : PySem.W.Frag} {H H' : Hp} {p : Pen} {n m : Nat} {q : Addr} {xs ys : List V} (h0 : PenAt K H p m) (hq : H q = none) (h : PenAt K H' p n) (k : Keep H H') (e : H' q = some (.lst xs)) : PenAt K (upd H' q (.lst ys)) p n := by
  obtain ⟨_, _, cs, _, h2, h3, _⟩ := h0.ex
  obtain ⟨a, b, _, h1, _, _, h4, h5⟩ := h.ex
  have hpq : p.d ≠ q := ne_of h1 e (by intro z; cases z)
  exact ⟨a, b, cs, by rw [upd_ne hpq]; exact h1, (Keep.put hq k _).seq h2, h3, h4, h5⟩
/-! ### their promises -/
def LIM : Nat := 1000000000000
def spPen (K : PySem.W.Frag) : Sp := fun vs H Q _ => ∃ (a : Addr) (ns : List Int), vs = [.ref a] ∧ SqL K H a (ns.map V.int) ∧ ns.length ≤ 63 ∧ ∀ (p : Pen) (H' : Hp), Same H H' → PenAt K H' p 0 → Q (.ref p.d) H'
def spDraw (K : PySem.W.Frag) : Sp := fun vs H Q _ => ∃ (p : Pen) (m : Int) (n : Nat), vs = [.ref p.d, .int m] ∧ PenAt K H p n ∧ n < LIM ∧ 0 < m ∧ m < 1073741824 ∧
  ∀ (d : Int) (H' : Hp), 0 ≤ d → d < m → Keep H H' → PenAt K H' p (n + 1) → Q (.int d) H'
def spPick (K : PySem.W.Frag) : Sp := fun vs H Q _ => ∃ (p : Pen) (y : V) (n : Nat), vs = [.ref p.d, y] ∧ PenAt K H p n ∧ n < LIM ∧
  ((∃ (q : Addr) (xs : List V), y = .ref q ∧ SqL K H q xs ∧ 0 < xs.length ∧ xs.length ≤ 1000 ∧ ∀ (v : V) (H' : Hp), v ∈ xs → Keep H H' → PenAt K H' p (n + 1) → Q v H') ∨
   (∃ (z : List Nat), y = .str (tx z) ∧ 0 < z.length ∧ z.length ≤ 1000 ∧ ∀ (c : Nat) (H' : Hp), c ∈ z → Keep H H' → PenAt K H' p (n + 1) → Q (.str (sg c)) H'))
section
variable {P : Program} {w : World} {K : PySem.W.Frag} {mg : Str → Option Value} {base : Heap}
theorem dpAll_ints {H : Hp} : ∀ ns : List Int, DpAll K H (ns.map V.int) (ns.map PyData.int)
  | [] => .nil
  | n :: r => .cons (.int n) (dpAll_ints r)
theorem canLay_ints : ∀ ns : List Int, PyData.canLayAll0 (ns.map PyData.int) = true
  | [] => rfl
  | n :: r => by
    show (PyData.canLay0 (.int n) && PyData.canLayAll0 (r.map PyData.int)) = true
    rw [canLay_ints r]; rfl
theorem depth_ints : ∀ ns : List Int, PyData.depthAll (ns.map PyData.int) ≤ 1
  | [] => by decide
  | n :: r => by
    have h := depth_ints r
    simp only [List.map_cons, PyData.depthAll, PyData.depth]
    omega
theorem shaped_ints (ns : List Int) : SeqAt.shaped (.list (ns.map PyData.int)) = true := by
  unfold SeqAt.shaped
  have h := depth_ints ns
  rw [Bool.and_eq_true]
  refine ⟨?_, decide_eq_true ?_⟩
  · show PyData.canLayAll0 (ns.map PyData.int) = true
    exact canLay_ints ns
  · simp only [PyData.depth]
    omega
theorem eqv_nil (ds : List PyData) : PyData.eqv (.list ds) (.list []) = ds.isEmpty := by
  cases ds <;> simp [PyData.eqv, PyData.eqvAll]
theorem ints_get {ns : List Int} {i : Nat} {v : V} (h : (ns.map V.int)[i]? = some v) : ∃ z, v = .int z := by
  rw [List.getElem?_map] at h
  cases e : ns[i]? with
  | none => rw [e] at h; cases h
  | some z => rw [e] at h; exact ⟨z, (Option.some.inj h).symm⟩
theorem cmul_fmod (x : Int) {m : Int} (h0 : 0 < m) (h1 : m < 18446744073709551616) (j : Int) : CMul (x.fmod m) j := by
  have h := fmod_in x h0
  exact .inl ⟨by omega, by omega⟩
abbrev s_l_pen : Stmt := top 45
theorem sc_l_pen : FnScope ["_law_script"] ["_law_script"] (defScope s_l_pen) := ⟨rfl, rfl, rfl, by decide +kernel, rfl, by decide +kernel, by decide +kernel⟩
theorem cutV_len (xs : List V) (lo hi : Option Int) : (cutV xs lo hi).length ≤ xs.length := by
  unfold cutV
  rw [List.length_take, List.length_drop]
  omega
theorem cutV_ints (ns : List Int) (lo hi : Option Int) : ∃ cs : List Int, cutV (ns.map V.int) lo hi = cs.map V.int ∧ cs.length ≤ ns.length := by
  unfold cutV
  refine ⟨(ns.drop (HT.sIx (ns.map V.int).length 0 lo)).take (HT.sIx (ns.map V.int).length (ns.map V.int).length hi - HT.sIx (ns.map V.int).length 0 lo), by rw [List.map_take, List.map_drop], ?_⟩
  rw [List.length_take, List.length_drop]
  omega
theorem mergePen (l : Addr) : mergeK [] (penF l 0 0) = penF l 0 0 := by
  have e1 : putK ([] : List (Key × V)) kC (.ref l) = [(kC, V.ref l)] := putK_new _ rfl
  have e2 : putK ([(kC, V.ref l)] : List (Key × V)) kA (.int 0) = [(kC, V.ref l), (kA, V.int 0)] := putK_new _ (by rw [valV_neg k12]; rfl)
  have e3 : putK ([(kC, V.ref l), (kA, V.int 0)] : List (Key × V)) kL (.int 0) = penF l 0 0 := putK_new _ (by rw [valV_neg k13, valV_neg k23]; rfl)
  show putK (putK (putK ([] : List (Key × V)) kC (.ref l)) kA (.int 0)) kL (.int 0) = _
  rw [e1, e2, e3]
theorem d_l_pen (h : Here K mg "_law_pen" s_l_pen ["_law_script"]) (B : Bs mg) : DefOk P w K mg base 1 "_law_pen" ["_law_script"] (spPen K) := by
  have B_list := B.list
  refine h.ok sc_l_pen (fun vs H Q E h => by obtain ⟨a, ns, rfl, _⟩ := h; rfl) (fun f cdv A outer s H vs Q E hr h => ?_)
  obtain ⟨a, ns, rfl, hS, hl, k⟩ := h
  refine ⟨_, (pss_one (ps_ret (pe_disp (pps_cons pe_str (pe_callTy call_list_of rfl B_list (by decide +kernel) (pa_cons (pe_slice sl_list (pv 0) po_none (po_some pe_int)) pa_nil)) (pps_cons pe_str pe_int (pps_cons pe_str pe_int pps_nil))) (by rfl) (by rfl) (fun z => by cases z) (by decide)))), ?_⟩
  intro p hp
  have s0 : Same H (upd H p (.dK [])) := Same.new hp _
  refine ⟨_, rfl, _, rfl, a, _, rfl, s0.seq hS, fun q hq => ?_⟩
  obtain ⟨cs, ec, hc⟩ := cutV_ints ns none (some 63)
  have npq : p ≠ q := ne_of_none upd_same hq
  refine ⟨q, _, rfl, .inl (SqL.of upd_same), fun l hl' => ?_⟩
  have npl : p ≠ l := ne_of_none (by rw [upd_ne npq]; exact upd_same) hl'
  refine ⟨by rw [upd_ne npl, upd_ne npq, upd_same], penF l 0 0, rfl, by show 3 ≤ 15; decide, ?_⟩
  rw [mergePen]
  refine k ⟨p, l⟩ _ ?_ ⟨0, 0, cs, upd_same, ?_, by omega, by omega, by omega⟩
  · exact Same.put hp ((s0.trans (Same.new hq _)).trans (Same.new hl' _)) _
  · refine SqL.of ?_
    rw [upd_ne (Ne.symm npl), upd_same, ec]
abbrev s_l_draw : Stmt := top 46
theorem sc_l_draw : FnScope ["_law_pen_here", "_law_many", "_law_digit", "_law_at", "_law_cell", "_law_mixed"] ["_law_pen_here", "_law_many"] (defScope s_l_draw) := ⟨rfl, rfl, rfl, by decide +kernel, rfl, by decide +kernel, by decide +kernel⟩
theorem d_l_draw (h : Here K mg "_law_draw" s_l_draw ["_law_pen_here", "_law_many"]) (B : Bs mg) : DefOk P w K mg base 1 "_law_draw" ["_law_pen_here", "_law_many"] (spDraw K) := by
  have B_int := B.int
  have B_len := B.len
  refine h.ok sc_l_draw (fun vs H Q E h => by obtain ⟨a, ns, n, rfl, _⟩ := h; rfl) (fun f cdv A outer s H vs Q E hr h => ?_)
  obtain ⟨p, m, n, rfl, hP, hn, hm0, hm1, k⟩ := h
  obtain ⟨a, b, cs, hp, hS, hc, ha0, ha1⟩ := hP.ex
  have hu := hu_of hr
  have hnl : (n : Int) < 1000000000000 := by unfold LIM at hn; omega
  have hmn : m ≠ 0 := by omega
  have hdiv : CDivN b m := ⟨hmn, by omega⟩
  refine ⟨_, (pss_cons (ps_if (pt_cmpR op_ge (pe_dget hu (pv 0) pe_str (fun _ _ => rfl)) (pv 1) (nomark _)) (pss_cons (ps_set (i := 2) sc_l_draw.nd rfl (Or.inl rfl) (pe_op op_modN (pe_callTy call_int1 rfl B_int (by decide +kernel) (pa_cons (pe_dget hu (pv 0) pe_str (fun _ _ => rfl)) pa_nil)) (pv 1)))
  (pss_cons (ps_dput hu (pv 0) pe_str (pe_op op_fdivN (pe_dget hu (pv 0) pe_str (fun _ _ => rfl)) (pv 1)) rfl)
  (pss_one (ps_ret (pv 2))))) pss_nil)
  (pss_cons (ps_set (i := 3) sc_l_draw.nd rfl (Or.inl rfl) (pe_dget hu (pv 0) pe_str (fun _ _ => rfl)))
  (pss_cons (ps_dput hu (pv 0) pe_str (pe_op op_add (pv 3) pe_int) rfl)
  (pss_cons (ps_set (i := 4) sc_l_draw.nd rfl (Or.inl rfl) (pe_op op_add (pe_op op_mul pe_int (pv 3)) pe_int))
  (pss_cons (ps_if (pt_cmpR (op_neD hr.units) (pe_dget hu (pv 0) pe_str (fun _ _ => rfl)) (pe_lst pa_nil) (nomark _)) (pss_one (ps_set (i := 4) sc_l_draw.nd rfl (Or.inl rfl) (pe_ix ix_list (pe_dget hu (pv 0) pe_str (fun _ _ => rfl)) (pe_op op_modN (pe_callTy call_int1 rfl B_int (by decide +kernel) (pa_cons (pv 3) pa_nil)) (pe_callB call_len_seq rfl B_len PySem.boot_len (pa_cons (pe_dget hu (pv 0) pe_str (fun _ _ => rfl)) pa_nil))) (fun _ _ => rfl)))) pss_nil)
  (pss_cons (ps_if (PW.pt (pw_and (pt_cmpR op_lt (pv 3) (pe_callB call_len_seq rfl B_len PySem.boot_len (pa_cons (pe_dget hu (pv 0) pe_str (fun _ _ => rfl)) pa_nil)) (nomark _)) (pw_and1 (pt_cmpR op_ge (pv 4) (pe_op op_pow pe_int pe_int) (nomark _))))) (pss_cons (ps_dput hu (pv 0) pe_str (pe_op op_fdivN (pe_op op_sub (pv 4) (pe_op op_pow pe_int pe_int)) (pv 1)) rfl)
  (pss_one (ps_ret (pe_op op_modN (pe_callTy call_int1 rfl B_int (by decide +kernel) (pa_cons (pe_op op_sub (pv 4) (pe_op op_pow pe_int pe_int)) pa_nil)) (pv 1))))) pss_nil)
  (pss_cons (ps_set (i := 5) sc_l_draw.nd rfl (Or.inl rfl) (pe_op op_add (pe_op op_add (pe_op op_add (pe_op op_mul (pe_op op_modN (pe_callTy call_int1 rfl B_int (by decide +kernel) (pa_cons (pv 4) pa_nil)) pe_int) pe_int) (pe_op op_mul (pe_op op_mul pe_int (pv 3)) (pv 3))) (pe_op op_mul pe_int (pv 3))) pe_int))
  (pss_cons (ps_set (i := 5) sc_l_draw.nd rfl (Or.inl rfl) (pe_op op_modN (pe_callTy call_int1 rfl B_int (by decide +kernel) (pa_cons (pv 5) pa_nil)) pe_int))
  (pss_cons (ps_set (i := 5) sc_l_draw.nd rfl (Or.inl rfl) (pe_op op_modN (pe_callTy call_int1 rfl B_int (by decide +kernel) (pa_cons (pe_op op_mul (pv 5) (pe_op op_add (pv 5) pe_int)) pa_nil)) pe_int))
  (pss_one (ps_ret (pe_op op_modN (pe_callTy call_int1 rfl B_int (by decide +kernel) (pa_cons (pe_op op_fdivN (pe_op op_modN (pe_callTy call_int1 rfl B_int (by decide +kernel) (pa_cons (pe_op op_mul (pv 5) (pv 5)) pa_nil)) pe_int) pe_int) pa_nil)) (pv 1))))))))))))), ?_⟩
  -- if pen["left"] >= many
  refine ⟨_, rfl, p.d, _, rfl, get_left hp, _, rfl, _, _, rfl, rfl, _, rfl, ?_⟩
  refine ite2 (fun _ => ?_) (fun _ => ?_)
  · refine ⟨_, rfl, p.d, _, rfl, get_left hp, .inl ⟨_, rfl, _, rfl, _, _, rfl, rfl, hmn, ?_⟩⟩
    refine ⟨_, rfl, p.d, _, rfl, get_left hp, _, rfl, _, _, rfl, rfl, ⟨hmn, by omega⟩, _, rfl, p.d, _, rfl, dput_left _ hp, _, rfl, ?_⟩
    exact k _ _ (fmod_in _ hm0).1 (fmod_in _ hm0).2 (Keep.pen hp) (.mk' hp hS hc ha0 (by omega))
  · refine ⟨_, rfl, p.d, _, rfl, get_at hp, ?_⟩
    refine ⟨_, rfl, _, _, rfl, rfl, _, rfl, p.d, _, rfl, dput_at _ hp, ?_⟩
    have hp1 : upd H p.d (.dK (penF p.l (a + 1) b)) p.d = some (.dK (penF p.l (a + 1) b)) := upd_same
    have hS1 := (Keep.pen (a' := a + 1) (b' := b) hp).seq hS
    refine ⟨_, rfl, _, _, rfl, rfl, .inl ⟨by decide, by decide⟩, _, _, rfl, rfl, ?_⟩
    refine ⟨_, rfl, p.d, _, rfl, get_cells hp1, ?_⟩
    refine ⟨by show 0 ≤ sizeLine; decide, fun q hq => ?_⟩
    have s1 := Same.new hq (.lst [])
    have npq : p.d ≠ q := ne_of_none hp1 hq
    have hp2 := s1 _ _ hp1
    have hS2 := s1.seq hS1
    refine ⟨.list (cs.map PyData.int), .list [], .lst hS2 (dpAll_ints cs), .lst (SqL.of upd_same) .nil, shaped_ints cs, by decide, _, rfl, ?_⟩
    rw [eqv_nil]
    have hk : Keep H (upd (upd H p.d (.dK (penF p.l (a + 1) b))) q (.lst [])) := (Keep.pen hp).trans (.of s1)
    have hP2 : PenAt K (upd (upd H p.d (.dK (penF p.l (a + 1) b))) q (.lst [])) p (n + 1) := ⟨a + 1, b, cs, hp2, hS2, hc, by omega, by omega⟩
    have hlen : ((cs.map V.int).length : Int) ≤ 63 := by rw [List.length_map]; omega
    refine ite2 (fun e => ?_) (fun _ => ?_)
    · have hpos : 0 < ((cs.map V.int).length : Int) := by
        cases cs with
        | nil => simp at e
        | cons c r => rw [List.length_map, List.length_cons]; omega
      have hb := fmod_in a hpos
      obtain ⟨v, hv1, hv2⟩ := atI_of (xs := cs.map V.int) hb.1 hb.2
      obtain ⟨z, rfl⟩ := ints_get hv1
      refine ⟨_, rfl, p.d, _, rfl, get_cells hp2, ?_⟩
      walk_at "rd"
      refine ⟨p.d, _, rfl, get_cells hp2, _, _, rfl, .inl hS2, ?_⟩
      walk_at "rd"
      refine ⟨by omega, _, _, _, _, rfl, rfl, hS2, hv2, ?_⟩
      walk_at "rd"
      refine ⟨p.d, _, rfl, get_cells hp2, _, _, rfl, .inl hS2, ?_⟩
      walk_at "rd"
      refine ite2 (fun _ => ?_) (fun _ => ?_)
      · walk_at "rd"
        refine ⟨⟨by decide, by decide, by decide⟩, ?_⟩
        walk_at "rd"
        refine ite2 (fun _ => ?_) (fun _ => ?_)
        · walk_at "rd"
          refine ⟨⟨by decide, by decide, by decide⟩, ?_⟩
          walk_at "rd"
          refine ⟨⟨hmn, by omega⟩, ?_⟩
          walk_at "rd"
          refine ⟨p.d, _, rfl, dput_left _ hp2, ?_⟩
          walk_at "rd"
          refine ⟨⟨by decide, by decide, by decide⟩, ?_⟩
          walk_at "rd"
          refine ⟨hmn, ?_⟩
          exact k _ _ (fmod_in _ hm0).1 (fmod_in _ hm0).2 (hk.trans (Keep.pen hp2)) (.mk' hp2 hS2 hc (by omega) (by omega))
        · walk_at "rd"
          refine ⟨show (2147483587 : Int) ≠ 0 by decide, ?_⟩
          walk_at "rd"
          refine ⟨.inr ⟨by decide, by decide⟩, ?_⟩
          walk_at "rd"
          refine ⟨.inl ⟨by decide, by decide⟩, ?_⟩
          walk_at "rd"
          refine ⟨.inr ⟨by omega, by omega⟩, ?_⟩
          walk_at "rd"
          refine ⟨.inl ⟨by decide, by decide⟩, ?_⟩
          walk_at "rd"
          refine ⟨show (2147483629 : Int) ≠ 0 by decide, ?_⟩
          walk_at "rd"
          refine ⟨cmul_fmod _ (by decide) (by decide) _, ?_⟩
          walk_at "rd"
          refine ⟨show (2147483549 : Int) ≠ 0 by decide, ?_⟩
          walk_at "rd"
          refine ⟨cmul_fmod _ (by decide) (by decide) _, ?_⟩
          walk_at "rd"
          refine ⟨show (2147483579 : Int) ≠ 0 by decide, ?_⟩
          walk_at "rd"
          refine ⟨⟨by decide, by decide⟩, ?_⟩
          walk_at "rd"
          refine ⟨hmn, ?_⟩
          exact k _ _ (fmod_in _ hm0).1 (fmod_in _ hm0).2 hk hP2
      · walk_at "rd"
        refine ⟨show (2147483587 : Int) ≠ 0 by decide, ?_⟩
        walk_at "rd"
        refine ⟨.inr ⟨by decide, by decide⟩, ?_⟩
        walk_at "rd"
        refine ⟨.inl ⟨by decide, by decide⟩, ?_⟩
        walk_at "rd"
        refine ⟨.inr ⟨by omega, by omega⟩, ?_⟩
        walk_at "rd"
        refine ⟨.inl ⟨by decide, by decide⟩, ?_⟩
        walk_at "rd"
        refine ⟨show (2147483629 : Int) ≠ 0 by decide, ?_⟩
        walk_at "rd"
        refine ⟨cmul_fmod _ (by decide) (by decide) _, ?_⟩
        walk_at "rd"
        refine ⟨show (2147483549 : Int) ≠ 0 by decide, ?_⟩
        walk_at "rd"
        refine ⟨cmul_fmod _ (by decide) (by decide) _, ?_⟩
        walk_at "rd"
        refine ⟨show (2147483579 : Int) ≠ 0 by decide, ?_⟩
        walk_at "rd"
        refine ⟨⟨by decide, by decide⟩, ?_⟩
        walk_at "rd"
        refine ⟨hmn, ?_⟩
        exact k _ _ (fmod_in _ hm0).1 (fmod_in _ hm0).2 hk hP2
    · walk_at "rd"
      refine ⟨p.d, _, rfl, get_cells hp2, _, _, rfl, .inl hS2, ?_⟩
      walk_at "rd"
      refine ite2 (fun _ => ?_) (fun _ => ?_)
      · walk_at "rd"
        refine ⟨⟨by decide, by decide, by decide⟩, ?_⟩
        walk_at "rd"
        refine ite2 (fun _ => ?_) (fun _ => ?_)
        · walk_at "rd"
          refine ⟨⟨by decide, by decide, by decide⟩, ?_⟩
          walk_at "rd"
          refine ⟨⟨hmn, by omega⟩, ?_⟩
          walk_at "rd"
          refine ⟨p.d, _, rfl, dput_left _ hp2, ?_⟩
          walk_at "rd"
          refine ⟨⟨by decide, by decide, by decide⟩, ?_⟩
          walk_at "rd"
          refine ⟨hmn, ?_⟩
          exact k _ _ (fmod_in _ hm0).1 (fmod_in _ hm0).2 (hk.trans (Keep.pen hp2)) (.mk' hp2 hS2 hc (by omega) (by omega))
        · walk_at "rd"
          refine ⟨show (2147483587 : Int) ≠ 0 by decide, ?_⟩
          walk_at "rd"
          refine ⟨.inr ⟨by decide, by decide⟩, ?_⟩
          walk_at "rd"
          refine ⟨.inl ⟨by decide, by decide⟩, ?_⟩
          walk_at "rd"
          refine ⟨.inr ⟨by omega, by omega⟩, ?_⟩
          walk_at "rd"
          refine ⟨.inl ⟨by decide, by decide⟩, ?_⟩
          walk_at "rd"
          refine ⟨show (2147483629 : Int) ≠ 0 by decide, ?_⟩
          walk_at "rd"
          refine ⟨cmul_fmod _ (by decide) (by decide) _, ?_⟩
          walk_at "rd"
          refine ⟨show (2147483549 : Int) ≠ 0 by decide, ?_⟩
          walk_at "rd"
          refine ⟨cmul_fmod _ (by decide) (by decide) _, ?_⟩
          walk_at "rd"
          refine ⟨show (2147483579 : Int) ≠ 0 by decide, ?_⟩
          walk_at "rd"
          refine ⟨⟨by decide, by decide⟩, ?_⟩
          walk_at "rd"
          refine ⟨hmn, ?_⟩
          exact k _ _ (fmod_in _ hm0).1 (fmod_in _ hm0).2 hk hP2
      · walk_at "rd"
        refine ⟨show (2147483587 : Int) ≠ 0 by decide, ?_⟩
        walk_at "rd"
        refine ⟨.inr ⟨by decide, by decide⟩, ?_⟩
        walk_at "rd"
        refine ⟨.inl ⟨by decide, by decide⟩, ?_⟩
        walk_at "rd"
        refine ⟨.inr ⟨by omega, by omega⟩, ?_⟩
        walk_at "rd"
        refine ⟨.inl ⟨by decide, by decide⟩, ?_⟩
        walk_at "rd"
        refine ⟨show (2147483629 : Int) ≠ 0 by decide, ?_⟩
        walk_at "rd"
        refine ⟨cmul_fmod _ (by decide) (by decide) _, ?_⟩
        walk_at "rd"
        refine ⟨show (2147483549 : Int) ≠ 0 by decide, ?_⟩
        walk_at "rd"
        refine ⟨cmul_fmod _ (by decide) (by decide) _, ?_⟩
        walk_at "rd"
        refine ⟨show (2147483579 : Int) ≠ 0 by decide, ?_⟩
        walk_at "rd"
        refine ⟨⟨by decide, by decide⟩, ?_⟩
        walk_at "rd"
        refine ⟨hmn, ?_⟩
        exact k _ _ (fmod_in _ hm0).1 (fmod_in _ hm0).2 hk hP2
end
end Wv
namespace Wv
open PySem PySem.Spec PyProof.Rows L2
/-! ### texts as codes -/
theorem tx_len (l : List Nat) : (tx l).length = l.length := by simp [tx, Str.length]
theorem tx_app (a b : List Nat) : tx a ++ tx b = tx (a ++ b) := by
  show Str.mk (a.toArray ++ b.toArray) = Str.mk (a ++ b).toArray
  simp
theorem tx_list (l : List Nat) : (tx l).cps.toList = l := rfl
theorem tx_take (l : List Nat) (k : Nat) : cutS (tx l) none (some (k : Int)) = tx (l.take k) := by
  unfold cutS
  rw [tx_len, tx_list, HT.sIx_none, HT.sIx_nat, List.drop_zero, Nat.sub_zero]
  unfold tx
  congr 2
  rw [List.take_eq_take_iff]
  omega
theorem tx_drop (l : List Nat) (k : Nat) : cutS (tx l) (some (k : Int)) none = tx (l.drop k) := by
  unfold cutS
  rw [tx_len, tx_list, HT.sIx_none, HT.sIx_nat]
  unfold tx
  congr 2
  by_cases h : k ≤ l.length
  · rw [Nat.min_eq_left h, List.take_of_length_le (by rw [List.length_drop]; omega)]
  · rw [Nat.min_eq_right (by omega), Nat.sub_self, List.take_zero, List.drop_eq_nil_of_le (by omega)]
abbrev alpha : List Nat := [97, 98, 99, 100, 101, 102, 103, 104, 105, 106, 107, 108, 109, 110, 111, 112, 113, 114, 115, 116, 117, 118, 119, 120, 121, 122]
theorem alpha_tx : Str.ofString "abcdefghijklmnopqrstuvwxyz" = tx alpha := by decide +kernel
theorem empty_tx : Str.ofString "" = tx [] := by decide +kernel
theorem alpha_az : Az alpha := by decide
theorem alpha_nd : alpha.Nodup := by decide
theorem perm_move {l fd : List Nat} {k : Nat} (h : k < l.length) (q : (fd ++ l).Perm alpha) : ((fd ++ [l[k]]) ++ (l.take k ++ l.drop (k + 1))).Perm alpha := by
  refine List.Perm.trans ?_ q
  rw [List.append_assoc]
  refine List.Perm.append_left fd ?_
  have e : l = l.take k ++ (l[k] :: l.drop (k + 1)) := by rw [← List.drop_eq_getElem_cons h, List.take_append_drop]
  refine List.Perm.trans ?_ (List.Perm.of_eq e.symm)
  exact (List.perm_middle (a := l[k]) (l₁ := l.take k) (l₂ := l.drop (k + 1))).symm
def spSigns (K : PySem.W.Frag) : Sp := fun vs H Q _ => ∃ (p : Pen) (m n : Nat), vs = [.ref p.d, .int (m : Int)] ∧ PenAt K H p n ∧ n + 30 < LIM ∧ m ≤ 20 ∧
  ∀ (z : List Nat) (H' : Hp), z.length = m → z.Nodup → Az z → Keep H H' → PenAt K H' p (n + m) → Q (.str (tx z)) H'
/-- leaves: the draws that they may make are counted -/
def spLeaf (K : PySem.W.Frag) : Sp := fun vs H Q _ => ∃ (p : Pen) (z : List Nat) (n : Nat), vs = [.ref p.d, .str (tx z)] ∧ PenAt K H p n ∧ n + 30 < LIM ∧ 0 < z.length ∧ z.length ≤ 100 ∧
  ∀ (v : V) (w : W) (H' : Hp), w.size = 1 → w.wf z → WayAt (newer H H') v w → Keep H H' → PenAt K H' p (n + 2) → Q v H'
def spWayOf (K : PySem.W.Frag) (s : Nat) : Sp := fun vs H Q _ => ∃ (p : Pen) (z : List Nat) (m n : Nat), vs = [.ref p.d, .str (tx z), .int (m : Int)] ∧ PenAt K H p n ∧ n + 4 * m + 30 < LIM ∧ 0 < z.length ∧ z.length ≤ 100 ∧ Az z ∧ 0 < m ∧ m ≤ s ∧ m ≤ 30 ∧
  ∀ (v : V) (w : W) (H' : Hp), w.size = m → w.wf z → WayAt (newer H H') v w → Keep H H' → PenAt K H' p (n + (4 * m - 2)) → Q v H'
def spWay (K : PySem.W.Frag) : Sp := fun vs H Q _ => ∃ (p : Pen) (z : List Nat) (m n : Nat), vs = [.ref p.d, .str (tx z), .int (m : Int)] ∧ PenAt K H p n ∧ n + 300 < LIM ∧ 0 < z.length ∧ z.length ≤ 100 ∧ Az z ∧ 0 < m ∧ m ≤ 30 ∧
  ∀ (v : V) (w : W) (H' : Hp), w.size ≤ m → w.wf z → WayAt (newer H H') v w → Keep H H' → PenAt K H' p (n + 200) → Q v H'
section
variable {P : Program} {w : World} {K : PySem.W.Frag} {mg : Str → Option Value} {base : Heap}
abbrev s_l_pick : Stmt := top 47
theorem sc_l_pick : FnScope ["_law_pen_here", "_law_items"] ["_law_pen_here", "_law_items"] (defScope s_l_pick) := ⟨rfl, rfl, rfl, by decide +kernel, rfl, by decide +kernel, by decide +kernel⟩
theorem d_l_pick (h : Here K mg "_law_pick" s_l_pick ["_law_pen_here", "_law_items"]) (B : Bs mg) (G_l_draw : DefOk P w K mg base 1 "_law_draw" ["_law_pen_here", "_law_many"] (spDraw K)) : DefOk P w K mg base 2 "_law_pick" ["_law_pen_here", "_law_items"] (spPick K) := by
  have B_len := B.len
  refine h.ok sc_l_pick (fun vs H Q E h => by obtain ⟨a, q, n, rfl, _⟩ := h; rfl) (fun f cdv A outer s H vs Q E hr h => ?_)
  obtain ⟨p, y, n, rfl, hP, hn, ⟨q, xs, rfl, hS, h0, h1, k⟩ | ⟨z, rfl, h0, h1, k⟩⟩ := h
  · refine ⟨_, (pss_one (ps_ret (pe_ix (IxR.or ix_list (IxR.or ix_str ix_tup)) (pv 1) (pe_callD G_l_draw (hr.mono (by first | decide | omega)) rfl (pa_cons (pv 0) (pa_cons (pe_callB (CallR.or call_len_seq call_len_str) rfl B_len PySem.boot_len (pa_cons (pv 1) pa_nil)) pa_nil))) (fun _ _ => rfl)))), ?_⟩
    refine ⟨_, rfl, _, rfl, _, rfl, .inl ⟨q, _, rfl, .inl hS, ?_⟩⟩
    refine ⟨p, _, n, rfl, hP, hn, by omega, by omega, fun d H' d0 d1 kp hP' => ?_⟩
    obtain ⟨v, hv1, hv2⟩ := atI_of d0 d1
    exact .inl ⟨q, _, _, _, rfl, rfl, kp.seq hS, hv2, k v H' (List.mem_of_getElem? hv1) kp hP'⟩
  · have hl : (tx z).length = z.length := tx_len z
    have hz : (tx z).length ≤ sizeLine := by rw [hl]; exact Nat.le_of_lt (small' (by omega))
    refine ⟨_, (pss_one (ps_ret (pe_ix (IxR.or ix_list (IxR.or ix_str ix_tup)) (pv 1) (pe_callD G_l_draw (hr.mono (by first | decide | omega)) rfl (pa_cons (pv 0) (pa_cons (pe_callB (CallR.or call_len_seq call_len_str) rfl B_len PySem.boot_len (pa_cons (pv 1) pa_nil)) pa_nil))) (fun _ _ => rfl)))), ?_⟩
    refine ⟨_, rfl, _, rfl, _, rfl, .inr ⟨_, rfl, hz, ?_⟩⟩
    refine ⟨p, _, n, rfl, hP, hn, by rw [hl]; omega, by rw [hl]; omega, fun d H' d0 d1 kp hP' => ?_⟩
    rw [hl] at d1
    obtain ⟨j, rfl⟩ : ∃ j : Nat, d = (j : Int) := ⟨d.toNat, by omega⟩
    have hj : j < z.length := by omega
    exact .inr (.inl ⟨tx z, _, z[j], rfl, rfl, hz, atI_nat (by rw [tx_list]; exact List.getElem?_eq_getElem hj), k _ H' (List.getElem_mem hj) kp hP'⟩)
abbrev s_l_signs : Stmt := top 48
theorem sc_l_signs : FnScope ["_law_pen_here", "_law_many", "_law_left", "_law_found", "_law_turn", "_law_at"] ["_law_pen_here", "_law_many"] (defScope s_l_signs) := ⟨rfl, rfl, rfl, by decide +kernel, rfl, by decide +kernel, by decide +kernel⟩
theorem d_l_signs (h : Here K mg "_law_signs" s_l_signs ["_law_pen_here", "_law_many"]) (B : Bs mg) (G_l_draw : DefOk P w K mg base 1 "_law_draw" ["_law_pen_here", "_law_many"] (spDraw K)) : DefOk P w K mg base 2 "_law_signs" ["_law_pen_here", "_law_many"] (spSigns K) := by
  have B_len := B.len
  have B_range := B.range
  refine h.ok sc_l_signs (fun vs H Q E h => by obtain ⟨a, q, n, rfl, _⟩ := h; rfl) (fun f cdv A outer s H vs Q E hr h => ?_)
  obtain ⟨p, m, n, rfl, hP, hn, hm, k⟩ := h
  refine ⟨_, (pss_cons (ps_asg (pe_tup (pa_cons pe_str (pa_cons pe_str pa_nil))) (pg_tup rfl (pgs_cons (pg_name (i := 2) sc_l_signs.nd rfl (Or.inl rfl)) (pgs_cons (pg_name (i := 3) sc_l_signs.nd rfl (Or.inl rfl)) pgs_nil))))
  (pss_cons (ps_for PassesOwn.never rfl (pi_range1 rfl B_range (pa_cons (pv 1) pa_nil)) (pg_name (i := 4) sc_l_signs.nd rfl (Or.inl rfl))
   (pss_cons (ps_set (i := 5) sc_l_signs.nd rfl (Or.inl rfl) (pe_callD G_l_draw (hr.mono (by first | decide | omega)) rfl (pa_cons (pv 0) (pa_cons (pe_callB call_len_str rfl B_len PySem.boot_len (pa_cons (pv 2) pa_nil)) pa_nil))))
  (pss_one (ps_par (i := 3) (j := 2) rfl sc_l_signs.nd rfl rfl (by decide) rfl rfl (pa_cons (pe_op op_add_str (pv 3) (pe_ix ix_str (pv 2) (pv 5) (fun _ _ => rfl))) (pa_cons (pe_op op_add_str (pe_slice sl_str (pv 2) po_none (po_some (pv 5))) (pe_slice sl_str (pv 2) (po_some (pe_op op_add (pv 5) pe_int)) po_none)) pa_nil)) (by rfl)))))
  (pss_one (ps_ret (pv 3))))), ?_⟩
  refine ⟨by show 2 ≤ sizeLine; decide, fun t ht => ?_⟩
  have st := Same.new ht (.tup [.str (Str.ofString "abcdefghijklmnopqrstuvwxyz"), .str (Str.ofString "")])
  refine ⟨t, _, rfl, SqT.of upd_same, rfl, ?_⟩
  refine ⟨_, _, rfl, _, _, rfl, rfl, _, rfl, (m : Int), rfl, by omega, by omega, ?_⟩
  refine for_range (lo := 0) (n := (m : Int).toNat) (fun i σ H' => ∃ (lf fd : List Nat) (v4 v5 : Option V), σ = [some (.ref p.d), some (.int m), some (.str (tx lf)), some (.str (tx fd)), v4, v5] ∧ fd.length = i ∧ (fd ++ lf).Perm alpha ∧ Keep H H' ∧ PenAt K H' p (n + i)) ?_ ?_ ?_
  · exact ⟨alpha, [], none, none, by rw [← alpha_tx, ← empty_tx]; rfl, rfl, .refl _, .of st, hP.same st⟩
  · rintro i σ H1 hi ⟨lf, fd, v4, v5, rfl, hl, hp, hk, hP1⟩
    have e26 : fd.length + lf.length = 26 := by rw [← List.length_append, hp.length_eq]; rfl
    have hsz : (tx lf).length = lf.length := tx_len lf
    refine ⟨_, rfl, _, rfl, _, rfl, by rw [hsz]; exact Nat.le_of_lt (small' (by omega)), p, _, _, rfl, hP1, by omega, by rw [hsz]; omega, by rw [hsz]; omega, fun d H2 d0 d1 k2 hP2 => ?_⟩
    rw [hsz] at d1
    obtain ⟨j, rfl⟩ : ∃ j : Nat, d = (j : Int) := ⟨d.toNat, by omega⟩
    have hj : j < lf.length := by omega
    have g1 : (tx fd).length + (sg lf[j]).length ≤ sizeLine := by rw [tx_len]; exact Nat.le_of_lt (small' (by show fd.length + 1 ≤ _; omega))
    walk_at "rd"
    have hz : (tx lf).length ≤ sizeLine := by rw [tx_len]; exact Nat.le_of_lt (small' (by omega))
    refine ⟨tx lf, _, lf[j], rfl, rfl, hz, atI_nat (by rw [tx_list]; exact List.getElem?_eq_getElem hj), ?_⟩
    walk_at "rd"
    refine ⟨g1, ?_⟩
    walk_at "rd"
    refine ⟨hz, ?_⟩
    walk_at "rd"
    refine ⟨hz, ?_⟩
    walk_at "rd"
    have ej : ((j : Int) + 1) = ((j + 1 : Nat) : Int) := by omega
    have g2 : (cutS (tx lf) none (some (j : Int))).length + (cutS (tx lf) (some ((j : Int) + 1)) none).length ≤ sizeLine := by
      rw [ej, tx_take, tx_drop, tx_len, tx_len, List.length_take, List.length_drop]
      exact Nat.le_of_lt (small' (by omega))
    refine ⟨g2, ?_⟩
    walk_at "rd"
    refine ⟨_, _, rfl, lf.take j ++ lf.drop (j + 1), fd ++ [lf[j]], some (.int (0 + i)), some (.int j), ?_, by rw [List.length_append, hl]; rfl, perm_move hj hp, hk.trans k2, hP2⟩
    show [some (V.ref p.d), some (V.int m), some (V.str (cutS (tx lf) none (some (j : Int)) ++ cutS (tx lf) (some ((j : Int) + 1)) none)), some (V.str (tx fd ++ sg lf[j])), some (V.int (0 + i)), some (V.int j)] = _
    rw [ej, tx_take, tx_drop, tx_app, show sg lf[j] = tx [lf[j]] from rfl, tx_app]
  · rintro σ H1 ⟨lf, fd, v4, v5, rfl, hl, hp, hk, hP1⟩
    refine ⟨_, rfl, ?_⟩
    have nd : (fd ++ lf).Nodup := hp.nodup_iff.mpr alpha_nd
    exact k fd H1 (by omega) (List.nodup_append.mp nd).1 (fun c hc => alpha_az c (hp.mem_iff.mp (List.mem_append_left _ hc))) hk (by rw [Int.toNat_natCast] at hP1; exact hP1)
abbrev s_l_leaf : Stmt := top 49
theorem sc_l_leaf : FnScope ["_law_pen_here", "_law_signs_here", "_law_sort"] ["_law_pen_here", "_law_signs_here"] (defScope s_l_leaf) := ⟨rfl, rfl, rfl, by decide +kernel, rfl, by decide +kernel, by decide +kernel⟩
theorem d_l_leaf (h : Here K mg "_law_leaf" s_l_leaf ["_law_pen_here", "_law_signs_here"]) (B : Bs mg) (G_l_draw : DefOk P w K mg base 1 "_law_draw" ["_law_pen_here", "_law_many"] (spDraw K)) (G_l_pick : DefOk P w K mg base 2 "_law_pick" ["_law_pen_here", "_law_items"] (spPick K)) : DefOk P w K mg base 3 "_law_leaf" ["_law_pen_here", "_law_signs_here"] (spLeaf K) := by
  refine h.ok sc_l_leaf (fun vs H Q E h => by obtain ⟨a, q, n, rfl, _⟩ := h; rfl) (fun f cdv A outer s H vs Q E hr h => ?_)
  obtain ⟨p, z, n, rfl, hP, hn, hz0, hz1, k⟩ := h
  refine ⟨_, (pss_cons (ps_set (i := 2) sc_l_leaf.nd rfl (Or.inl rfl) (pe_callD G_l_draw (hr.mono (by first | decide | omega)) rfl (pa_cons (pv 0) (pa_cons pe_int pa_nil))))
  (pss_cons (ps_if (pt_cmpR op_eq (pv 2) pe_int (nomark _)) (pss_one (ps_ret (pe_tup (pa_cons pe_str pa_nil)))) pss_nil)
  (pss_one (ps_ret (pe_ifExp (pt_cmpR op_lt (pv 2) pe_int (nomark _)) (pe_tup (pa_cons pe_str pa_nil)) (pe_tup (pa_cons pe_str (pa_cons (pe_callD G_l_pick (hr.mono (by first | decide | omega)) rfl (pa_cons (pv 0) (pa_cons (pv 1) pa_nil))) pa_nil)))))))), ?_⟩
  refine ⟨_, rfl, p, 8, n, rfl, hP, by omega, by decide, by decide, fun d H1 d0 d1 k1 hP1 => ?_⟩
  walk_at "rd"
  refine ite2 (fun _ => ?_) (fun _ => ?_)
  · refine ⟨by show 1 ≤ sizeLine; decide, fun t ht => ?_⟩
    have s1 := Same.new ht (.tup [.str (Str.ofString "nothing")])
    exact k _ .nothing _ rfl trivial ⟨t, rfl, by rw [newer_at (k1.free ht)]; exact upd_same⟩ (k1.trans (.of s1)) ((hP1.same s1).mono (by omega))
  · walk_at "rd"
    refine ite2 (fun _ => ?_) (fun _ => ?_)
    · refine ⟨by show 1 ≤ sizeLine; decide, fun t ht => ?_⟩
      have s1 := Same.new ht (.tup [.str (Str.ofString "one")])
      exact k _ .one _ rfl trivial ⟨t, rfl, by rw [newer_at (k1.free ht)]; exact upd_same⟩ (k1.trans (.of s1)) ((hP1.same s1).mono (by omega))
    · walk_at "rd"
      refine ⟨p, _, n + 1, rfl, hP1, by omega, .inr ⟨z, rfl, hz0, by omega, fun c H2 hc k2 hP2 => ?_⟩⟩
      refine ⟨by show 2 ≤ sizeLine; decide, fun t ht => ?_⟩
      have s1 := Same.new ht (.tup [.str (Str.ofString "letter"), .str (sg c)])
      exact k _ (.letter c) _ rfl hc ⟨t, rfl, by rw [newer_at ((k1.trans k2).free ht)]; exact upd_same⟩ ((k1.trans k2).trans (.of s1)) (hP2.same s1)
/-- the number in a slot -/
def slotN (k : Nat) (σ : L2.St) : Nat := match σ[k]? with
  | some (some (V.int i)) => i.toNat
  | _ => 0
theorem dec_t {a b : Int} (h : decide (V.int a = V.int b) = true) : a = b := V.int.inj (of_decide_eq_true h)
theorem dec_f {a b : Int} (h : ¬ decide (V.int a = V.int b) = true) : a ≠ b := fun e => h (decide_eq_true (by rw [e]))
abbrev s_l_way_of : Stmt := top 51
theorem sc_l_way_of : FnScope ["_law_pen_here", "_law_signs_here", "_law_size", "_law_word", "_law_left", "_law_found", "_law_rest", "_law_share"] ["_law_pen_here", "_law_signs_here", "_law_size"] (defScope s_l_way_of) := ⟨rfl, rfl, rfl, by decide +kernel, rfl, by decide +kernel, by decide +kernel⟩
theorem none_way_of {f : Addr} {fd : FuncData} : FnOk P w K mg base CX0 3 f fd ["_law_pen_here", "_law_signs_here", "_law_size"] (spWayOf K 0) := by
  have no : ∀ vs H Q E, ¬ spWayOf K 0 vs H Q E := fun vs H Q E h => by
    obtain ⟨p, z, m, n, _, _, _, _, _, _, h1, h2, _⟩ := h
    omega
  exact ⟨fun vs H Q E h => absurd h (no vs H Q E), fun A outer s H args us vs Q E _ _ _ _ h => absurd h (no vs H Q E)⟩
theorem step_l_way_of (s : Nat) (h : Here K mg "_law_way_of" s_l_way_of ["_law_pen_here", "_law_signs_here", "_law_size"]) (B : Bs mg) (G_l_draw : DefOk P w K mg base 1 "_law_draw" ["_law_pen_here", "_law_many"] (spDraw K)) (G_l_pick : DefOk P w K mg base 2 "_law_pick" ["_law_pen_here", "_law_items"] (spPick K))
    (G_l_leaf : DefOk P w K mg base 3 "_law_leaf" ["_law_pen_here", "_law_signs_here"] (spLeaf K)) (G_l_way_of : DefOk P w K mg base (3 + s) "_law_way_of" ["_law_pen_here", "_law_signs_here", "_law_size"] (spWayOf K s)) : DefOk P w K mg base (3 + s + 1) "_law_way_of" ["_law_pen_here", "_law_signs_here", "_law_size"] (spWayOf K (s + 1)) := by
  refine h.ok sc_l_way_of (fun vs H Q E h => by obtain ⟨a, q, m, n, rfl, _⟩ := h; rfl) (fun f cdv A outer s' H vs Q E hr h => ?_)
  obtain ⟨p, z, m, n, rfl, hP, hn, hz0, hz1, hz, hm0, hm1, hm2, k⟩ := h
  refine ⟨_, (pss_cons (ps_if (pt_cmpR op_eq (pv 2) pe_int (nomark _)) (pss_one (ps_ret (pe_callD G_l_leaf (hr.mono (by first | decide | omega)) rfl (pa_cons (pv 0) (pa_cons (pv 1) pa_nil))))) pss_nil)
  (pss_cons (ps_if (PW.pt (pw_or (pt_cmpR op_eq (pv 2) pe_int (nomark _)) (pw_or1 (pt_cmpR op_eq (pe_callD G_l_draw (hr.mono (by first | decide | omega)) rfl (pa_cons (pv 0) (pa_cons pe_int pa_nil))) pe_int (nomark _))))) (pss_cons (ps_set (i := 3) sc_l_way_of.nd rfl (Or.inl rfl) (pe_callD G_l_pick (hr.mono (by first | decide | omega)) rfl (pa_cons (pv 0) (pa_cons (pe_lst (pa_cons pe_str (pa_cons pe_str (pa_cons pe_str (pa_cons pe_str (pa_cons pe_str pa_nil)))))) pa_nil))))
  (pss_one (ps_ret (pe_tup (pa_cons (pv 3) (pa_cons (pe_callD G_l_way_of (hr.mono (by first | decide | omega)) rfl (pa_cons (pv 0) (pa_cons (pv 1) (pa_cons (pe_op op_sub (pv 2) pe_int) pa_nil)))) pa_nil)))))) pss_nil)
  (pss_cons (ps_par3 (i := 3) (j := 4) (l := 5) rfl sc_l_way_of.nd rfl rfl rfl (by decide) (by decide) (by decide) rfl rfl rfl (pa_cons (pe_callD G_l_pick (hr.mono (by first | decide | omega)) rfl (pa_cons (pv 0) (pa_cons (pe_lst (pa_cons pe_str (pa_cons pe_str (pa_cons pe_str pa_nil)))) pa_nil))) (pa_cons (pe_op op_sub (pv 2) pe_int) (pa_cons (pe_lst pa_nil) pa_nil))) (by rfl))
  (pss_cons (ps_while PassesOwn.never (pt_cmpR op_gt (pv 4) pe_int (nomark _)) (pss_cons (ps_set (i := 6) sc_l_way_of.nd rfl (Or.inl rfl) (pe_and (pe_cmpR (op_neD hr.units) (pv 5) (pe_lst pa_nil) (nomark _)) (pe_one (pe_cmpR op_eq (pe_callD G_l_draw (hr.mono (by first | decide | omega)) rfl (pa_cons (pv 0) (pa_cons pe_int pa_nil))) pe_int (nomark _)))))
  (pss_cons (ps_set (i := 7) sc_l_way_of.nd rfl (Or.inl rfl) (pe_ifExp (pt_val (pv 6)) (pv 4) (pe_op op_add pe_int (pe_callD G_l_draw (hr.mono (by first | decide | omega)) rfl (pa_cons (pv 0) (pa_cons (pv 4) pa_nil))))))
  (pss_cons (ps_set (i := 7) sc_l_way_of.nd rfl (Or.inl rfl) (pe_ifExp (PW.pt (pw_and (pt_cmpR (op_eqD hr.units) (pv 5) (pe_lst pa_nil) (nomark _)) (pw_and1 (pt_cmpR op_eq (pv 7) (pv 4) (nomark _))))) (pe_op op_sub (pv 4) pe_int) (pv 7)))
  (pss_cons (ps_expr (pe_bm PySem.F.plainAttrs_list PySem.F.slot_list_append PySem.F.type_list_append mt_append (pv 5) (pa_cons (pe_callD G_l_way_of (hr.mono (by first | decide | omega)) rfl (pa_cons (pv 0) (pa_cons (pv 1) (pa_cons (pv 7) pa_nil)))) pa_nil)))
  (pss_one (ps_set (i := 4) sc_l_way_of.nd rfl (Or.inl rfl) (pe_op op_sub (pv 4) (pv 7)))))))))
  (pss_one (ps_ret (pe_tup (pa_cons (pv 3) (pa_cons (pv 5) pa_nil))))))))), ?_⟩
  walk_at "rd"
  refine ite2 (fun e1 => ?_) (fun e1 => ?_)
  · have e1 := dec_t e1
    walk_at "rd"
    refine ⟨p, z, n, rfl, hP, by omega, hz0, hz1, fun v w' H' hs hw hv kk hP' => k v w' H' (by omega) hw hv kk (hP'.mono (by omega))⟩
  · have e1 := dec_f e1
    walk_at "rd"
    refine ite2 (fun e2 => ?_) (fun e2 => ?_)
    · have e2 := dec_t e2
      obtain ⟨n1, hn1, en1⟩ : ∃ n1, n1 ≤ n + 1 ∧ n1 = n := ⟨n, by omega, rfl⟩
      have hP1 : PenAt K H p n1 := by rw [en1]; exact hP
      have k1 : Keep H H := .refl H
      refine iteT ?_
      walk_at "rd"
      refine ⟨by show 5 ≤ sizeLine; decide, fun q hq => ?_⟩
      have s2 := Same.new hq (.lst [.str (Str.ofString "again"), .str (Str.ofString "again"), .str (Str.ofString "maybe"), .str (Str.ofString "ahead"), .str (Str.ofString "unless")])
      refine ⟨p, _, n1, rfl, hP1.same s2, by omega, .inl ⟨q, _, rfl, SqL.of upd_same, by decide, by decide, fun v H2 hv k2 hP2 => ?_⟩⟩
      walk_at "rd"
      have em : ((m : Int) - 1) = ((m - 1 : Nat) : Int) := by omega
      have k12 := (k1.trans (.of s2)).trans k2
      refine ⟨p, z, m - 1, n1 + 1, by rw [← em]; rfl, hP2, by omega, hz0, hz1, hz, by omega, by omega, by omega, fun u wu H3 hs hw hu k3 hP3 => ?_⟩
      refine ⟨by show 2 ≤ sizeLine; decide, fun t ht => ?_⟩
      have s4 := Same.new ht (.tup [v, u])
      have k13 := k12.trans k3
      have hu' : WayAt (newer H (upd H3 t (.tup [v, u]))) u wu := WayAt.keep ((newer_down k12).trans (newer_up (.of s4))) _ _ hu
      have ht' : newer H (upd H3 t (.tup [v, u])) t = some (.tup [v, u]) := by rw [newer_at (k13.free ht)]; exact upd_same
      have kf := k13.trans (.of s4)
      have pf := (hP3.same s4).mono (show n1 + 1 + (4 * (m - 1) - 2) ≤ n + (4 * m - 2) by omega)
      simp only [List.mem_cons, List.not_mem_nil, or_false] at hv
      rcases hv with rfl | rfl | rfl | rfl | rfl
      · exact k _ (.again wu) _ (by simp only [W.size]; omega) hw ⟨t, u, rfl, ht', hu'⟩ kf pf
      · exact k _ (.again wu) _ (by simp only [W.size]; omega) hw ⟨t, u, rfl, ht', hu'⟩ kf pf
      · exact k _ (.maybe wu) _ (by simp only [W.size]; omega) hw ⟨t, u, rfl, ht', hu'⟩ kf pf
      · exact k _ (.ahead wu) _ (by simp only [W.size]; omega) hw ⟨t, u, rfl, ht', hu'⟩ kf pf
      · exact k _ (.unless wu) _ (by simp only [W.size]; omega) hw ⟨t, u, rfl, ht', hu'⟩ kf pf
    · have e2 := dec_f e2
      refine ⟨_, rfl, p, 3, n, rfl, hP, by omega, by decide, by decide, fun d H1 d0 d1 k1 hP1 => ?_⟩
      walk_at "rd"
      obtain ⟨n1, hn1, en1⟩ : ∃ n1, n1 ≤ n + 1 ∧ n1 = n + 1 := ⟨n + 1, by omega, rfl⟩
      rw [← en1] at hP1
      refine ite2 (fun e3 => ?_) (fun e3 => ?_)
      · walk_at "rd"
        refine ⟨by show 5 ≤ sizeLine; decide, fun q hq => ?_⟩
        have s2 := Same.new hq (.lst [.str (Str.ofString "again"), .str (Str.ofString "again"), .str (Str.ofString "maybe"), .str (Str.ofString "ahead"), .str (Str.ofString "unless")])
        refine ⟨p, _, n1, rfl, hP1.same s2, by omega, .inl ⟨q, _, rfl, SqL.of upd_same, by decide, by decide, fun v H2 hv k2 hP2 => ?_⟩⟩
        walk_at "rd"
        have em : ((m : Int) - 1) = ((m - 1 : Nat) : Int) := by omega
        have k12 := (k1.trans (.of s2)).trans k2
        refine ⟨p, z, m - 1, n1 + 1, by rw [← em]; rfl, hP2, by omega, hz0, hz1, hz, by omega, by omega, by omega, fun u wu H3 hs hw hu k3 hP3 => ?_⟩
        refine ⟨by show 2 ≤ sizeLine; decide, fun t ht => ?_⟩
        have s4 := Same.new ht (.tup [v, u])
        have k13 := k12.trans k3
        have hu' : WayAt (newer H (upd H3 t (.tup [v, u]))) u wu := WayAt.keep ((newer_down k12).trans (newer_up (.of s4))) _ _ hu
        have ht' : newer H (upd H3 t (.tup [v, u])) t = some (.tup [v, u]) := by rw [newer_at (k13.free ht)]; exact upd_same
        have kf := k13.trans (.of s4)
        have pf := (hP3.same s4).mono (show n1 + 1 + (4 * (m - 1) - 2) ≤ n + (4 * m - 2) by omega)
        simp only [List.mem_cons, List.not_mem_nil, or_false] at hv
        rcases hv with rfl | rfl | rfl | rfl | rfl
        · exact k _ (.again wu) _ (by simp only [W.size]; omega) hw ⟨t, u, rfl, ht', hu'⟩ kf pf
        · exact k _ (.again wu) _ (by simp only [W.size]; omega) hw ⟨t, u, rfl, ht', hu'⟩ kf pf
        · exact k _ (.maybe wu) _ (by simp only [W.size]; omega) hw ⟨t, u, rfl, ht', hu'⟩ kf pf
        · exact k _ (.ahead wu) _ (by simp only [W.size]; omega) hw ⟨t, u, rfl, ht', hu'⟩ kf pf
        · exact k _ (.unless wu) _ (by simp only [W.size]; omega) hw ⟨t, u, rfl, ht', hu'⟩ kf pf
      · walk_at "rd"
        refine ⟨by show 3 ≤ sizeLine; decide, fun q0 hq0 => ?_⟩
        have s2 := Same.new hq0 (.lst [.str (Str.ofString "row"), .str (Str.ofString "row"), .str (Str.ofString "choice")])
        refine ⟨p, _, n1, rfl, hP1.same s2, by omega, .inl ⟨q0, _, rfl, SqL.of upd_same, by decide, by decide, fun v H2 hv k2 hP2 => ?_⟩⟩
        walk_at "rd"
        refine ⟨Nat.zero_le _, fun q hq => ?_⟩
        have s3 := Same.new hq (.lst [])
        have k13 := (k1.trans (.of s2)).trans k2
        have k14 := k13.trans (.of s3)
        have hqH := k13.free hq
        have hP4 := hP2.same s3
        generalize hH4 : upd H2 q (.lst []) = H4 at *
        have hq4 : H4 q = some (.lst []) := by rw [← hH4]; exact upd_same
        refine ⟨_, _, _, rfl, ?_⟩
        refine while_by (fun σ H' => ∃ (lf : Nat) (ws : List W) (vs : List V) (v6 v7 : Option V), σ = [some (.ref p.d), some (.str (tx z)), some (.int m), some v, some (.int lf), some (.ref q), v6, v7] ∧ H' q = some (.lst vs) ∧ WaysAt (newer H4 H') vs ws ∧ W.wfs z ws ∧
            W.sizes ws + lf + 1 = m ∧ (lf = 0 → 2 ≤ ws.length) ∧ Keep H H' ∧ Sub H4 H' ∧ PenAt K H' p (n + 2 + 4 * W.sizes ws)) (fun σ _ => slotN 4 σ) ?_ ?_ (fun σ H Q Q' hq ⟨v, e, i, j, e1, e2, k, e3, h⟩ => ⟨v, e, i, j, e1, e2, k, e3, hq _ _ h⟩)
        · refine ⟨m - 1, [], [], none, none, ?_, hq4, rfl, trivial, by simp only [W.sizes]; omega, fun _ => by omega, k14, fun _ h => h, hP4.mono (by simp only [W.sizes]; omega)⟩
          have em : ((m : Int) - 1) = ((m - 1 : Nat) : Int) := by omega
          rw [← em]
          rfl
        · rintro σ H5 ⟨lf, ws, vs, v6, v7, rfl, hq5, hws, hwf, hsum, h0, k5, k45, hP5⟩
          walk_at "rd"
          refine ite2 (fun e4 => ?_) (fun e4 => ?_)
          · have e4 : (0 : Int) < lf := of_decide_eq_true e4
            have hlen := WaysAt.len _ _ hws
            have hll := W.sizes_len ws
            have hshape := W.shaped_list hz hwf (show W.sizes ws ≤ 31 by omega)
            -- whether the last one takes all that is left
            refine withQ (E := tAndV _ _) (fun x H6 => ∃ b : Bool, x = .bl b ∧ (b = true → ws ≠ []) ∧ Keep H5 H6 ∧ PenAt K H6 p (n + 2 + 4 * W.sizes ws + 1)) (fun Q' go => ?_) ?_
            · walk_at "rd"
              refine ⟨Nat.zero_le _, fun qe hqe => ?_⟩
              have se := Same.new hqe (.lst [])
              refine ⟨.list (W.datas ws), .list [], .lst (SqL.of (se _ _ hq5)) (WaysAt.dp _ _ (WaysAt.keep (newer_le.trans (.of se)) _ _ hws)), .lst (SqL.of upd_same) .nil, hshape, by decide, ?_⟩
              rw [eqv_nil, datas_empty]
              refine ⟨_, rfl, ?_⟩
              refine ite2 (fun e5 => ?_) (fun e5 => ?_)
              · refine ⟨_, rfl, p, 2, _, rfl, hP5.same se, by omega, by decide, by decide, fun d H6 d0 d1 k6 hP6 => ?_⟩
                refine ⟨rfl, go _ _ ⟨_, rfl, fun _ e => ?_, (Keep.of se).trans k6, hP6⟩⟩
                rw [e] at e5
                cases e5
              · exact go _ _ ⟨false, rfl, fun e => Bool.noConfusion e, Keep.of se, (hP5.same se).mono (by omega)⟩
            rintro x H6 ⟨b, rfl, hb, k6, hP6⟩
            -- the share
            walk_at "nx"
            refine withQ (E := tIf _ _ _) (fun x H7 => ∃ sh : Nat, x = .int sh ∧ 0 < sh ∧ sh ≤ lf ∧ Keep H5 H7 ∧ PenAt K H7 p (n + 2 + 4 * W.sizes ws + 2)) (fun Q' go => ?_) ?_
            · walk_at "rd"
              refine ite2 (fun e5 => ?_) (fun e5 => ?_)
              · walk_at "rd"
                exact go _ _ ⟨lf, rfl, by omega, Nat.le_refl _, k6, hP6.mono (by omega)⟩
              · refine ⟨_, rfl, _, rfl, p, lf, _, rfl, hP6, by omega, e4, by omega, fun d H7 d0 d1 k7 hP7 => ?_⟩
                walk_at "rd"
                exact go _ _ ⟨d.toNat + 1, by show V.int (1 + d) = _; congr 1; omega, by omega, by omega, k6.trans k7, hP7⟩
            rintro x H7 ⟨sh, rfl, hs0, hs1, k7, hP7⟩
            walk_at "nx"
            refine withQ (E := tIf _ _ _) (fun x H8 => ∃ sh : Nat, x = .int sh ∧ 0 < sh ∧ sh ≤ lf ∧ (ws = [] → sh < lf) ∧ Keep H5 H8 ∧ PenAt K H8 p (n + 2 + 4 * W.sizes ws + 2)) (fun Q' go => ?_) ?_
            · refine withB (E := tAnd _ _) (fun b H8 => (b = true ↔ (ws = [] ∧ sh = lf)) ∧ Keep H5 H8 ∧ PenAt K H8 p (n + 2 + 4 * W.sizes ws + 2)) (fun Q' go => ?_) ?_
              · walk_at "rd"
                refine ⟨Nat.zero_le _, fun qe hqe => ?_⟩
                have se := Same.new hqe (.lst [])
                have k75 : Keep H5 (upd H7 qe (.lst [])) := k7.trans (.of se)
                refine ⟨.list (W.datas ws), .list [], .lst (SqL.of (k75.lst hq5)) (WaysAt.dp _ _ (WaysAt.keep (newer_le.trans k75) _ _ hws)), .lst (SqL.of upd_same) .nil, hshape, by decide, _, rfl, ?_⟩
                rw [eqv_nil, datas_empty]
                refine ite2 (fun e5 => ?_) (fun e5 => ?_)
                · walk_at "rd"
                  refine go _ _ ⟨⟨fun e => ⟨List.isEmpty_iff.mp e5, ?_⟩, fun e => decide_eq_true (by rw [e.2])⟩, k75, hP7.same se⟩
                  have := dec_t e
                  omega
                · exact go _ _ ⟨⟨fun e => Bool.noConfusion e, fun e => absurd (List.isEmpty_iff.mpr e.1) e5⟩, k75, hP7.same se⟩
              · rintro b' H8 ⟨hb', k8, hP8⟩
                refine ite2 (fun e5 => ?_) (fun e5 => ?_)
                · obtain ⟨e6, e7⟩ := hb'.mp e5
                  walk_at "rd"
                  have hz0 : W.sizes ws = 0 := by rw [e6]; rfl
                  refine go _ _ ⟨lf - 1, ?_, by omega, by omega, fun _ => by omega, k8, hP8⟩
                  show V.int ((lf : Int) - 1) = _
                  congr 1
                  omega
                · walk_at "rd"
                  refine go _ _ ⟨sh, rfl, hs0, hs1, fun e => ?_, k8, hP8⟩
                  by_cases e7 : sh = lf
                  · exact absurd (hb'.mpr ⟨e, e7⟩) e5
                  · omega
            rintro x H8 ⟨sh', rfl, hs0', hs1', hne, k8, hP8⟩
            walk_at "nx"
            refine ⟨_, rfl, .inl ⟨rfl, _, SqL.of (k8.lst hq5)⟩, _, rfl, _, rfl, _, rfl, ?_⟩
            refine ⟨p, z, sh', _, rfl, hP8, by omega, hz0, hz1, hz, hs0', by omega, by omega, fun u wu H9 hs hw hu k9 hP9 => ?_⟩
            have k59 := k8.trans k9
            refine ⟨q, vs, u, rfl, rfl, k59.lst hq5, small' (by omega), ?_⟩
            walk_at "rd"
            have esz : W.sizes (ws ++ [wu]) = W.sizes ws + sh' := by rw [W.sizes_app]; simp only [W.sizes]; omega
            have elf : ((lf : Int) - sh') = ((lf - sh' : Nat) : Int) := by omega
            refine ⟨⟨lf - sh', ws ++ [wu], vs ++ [u], some (.bl b), some (.int sh'), ?_, upd_same, ?_, (W.wfs_app _ _ _).mpr ⟨hwf, hw, trivial⟩, by rw [esz]; omega, fun e => ?_, Keep.put hqH (k5.trans k59) _, (k45.trans k59.sub).put _ _, ?_⟩, ?_⟩
            · show [some (V.ref p.d), some (V.str (tx z)), some (V.int m), some v, some (V.int ((lf : Int) - sh')), some (V.ref q), some (V.bl b), some (V.int sh')] = _
              rw [elf]
            · rw [newer_put hq4]
              exact WaysAt.app _ _ (WaysAt.keep (newer_up k59) _ _ hws) ⟨u, [], rfl, WayAt.keep (newer_sub (k45.trans k8.sub)) _ _ hu, rfl⟩
            · have : ws ≠ [] := fun e' => by have := hne e'; omega
              have : 0 < ws.length := List.length_pos_iff.mpr this
              rw [List.length_append]
              show 2 ≤ ws.length + 1
              omega
            · rw [esz]
              exact hP.put hqH (hP9.mono (by omega)) (k5.trans k59) (k59.lst hq5)
            · show slotN 4 _ < slotN 4 _
              have e1 : slotN 4 [some (V.ref p.d), some (V.str (tx z)), some (V.int m), some v, some (V.int ((lf : Int) - sh')), some (V.ref q), some (V.bl b), some (V.int sh')] = ((lf : Int) - sh').toNat := rfl
              have e2 : slotN 4 [some (V.ref p.d), some (V.str (tx z)), some (V.int m), some v, some (V.int lf), some (V.ref q), v6, v7] = (lf : Int).toNat := rfl
              rw [show slotN 4 _ = _ from e2]
              refine Nat.lt_of_le_of_lt (Nat.le_of_eq e1) ?_
              omega
          · have e4 : lf = 0 := by
              by_cases h : lf = 0
              · exact h
              · exact absurd (decide_eq_true (show (0 : Int) < lf by omega)) e4
            walk_at "nx"
            walk_at "rd"
            refine ⟨by show 2 ≤ sizeLine; decide, fun t ht => ?_⟩
            have s6 := Same.new ht (.tup [v, .ref q])
            have kf := k5.trans (.of s6)
            have ht' : newer H (upd H5 t (.tup [v, .ref q])) t = some (.tup [v, .ref q]) := by rw [newer_at (k5.free ht)]; exact upd_same
            have hq' : newer H (upd H5 t (.tup [v, .ref q])) q = some (.lst vs) := by rw [newer_at hqH]; exact s6 _ _ hq5
            have hw' : WaysAt (newer H (upd H5 t (.tup [v, .ref q]))) vs ws := WaysAt.keep ((newer_up (.of s6)).trans (newer_down k14)) _ _ hws
            have pf := (hP5.same s6).mono (show n + 2 + 4 * W.sizes ws ≤ n + (4 * m - 2) by omega)
            simp only [List.mem_cons, List.not_mem_nil, or_false] at hv
            rcases hv with rfl | rfl | rfl
            · exact k _ (.row ws) _ (by simp only [W.size]; omega) ⟨h0 e4, hwf⟩ ⟨t, q, vs, rfl, ht', hq', hw'⟩ kf pf
            · exact k _ (.row ws) _ (by simp only [W.size]; omega) ⟨h0 e4, hwf⟩ ⟨t, q, vs, rfl, ht', hq', hw'⟩ kf pf
            · exact k _ (.choice ws) _ (by simp only [W.size]; omega) ⟨h0 e4, hwf⟩ ⟨t, q, vs, rfl, ht', hq', hw'⟩ kf pf
theorem d_l_way_of (h : Here K mg "_law_way_of" s_l_way_of ["_law_pen_here", "_law_signs_here", "_law_size"]) (B : Bs mg) (G_l_draw : DefOk P w K mg base 1 "_law_draw" ["_law_pen_here", "_law_many"] (spDraw K)) (G_l_pick : DefOk P w K mg base 2 "_law_pick" ["_law_pen_here", "_law_items"] (spPick K))
    (G_l_leaf : DefOk P w K mg base 3 "_law_leaf" ["_law_pen_here", "_law_signs_here"] (spLeaf K)) : ∀ s, DefOk P w K mg base (3 + s) "_law_way_of" ["_law_pen_here", "_law_signs_here", "_law_size"] (spWayOf K s)
  | 0 => by
    obtain ⟨f, fd, F, m, b⟩ := h.ex
    exact ⟨f, fd, m, F.kp, b, none_way_of⟩
  | s + 1 => step_l_way_of s h B G_l_draw G_l_pick G_l_leaf (d_l_way_of h B G_l_draw G_l_pick G_l_leaf s)
end
end Wv
namespace Wv
open PySem PySem.Spec PyProof.Rows L2
/-! ### ways as objects of the program -/
structure Cs where
  lt : Addr
  on : Addr
  no : Addr
  ro : Addr
  ch : Addr
  ag : Addr
  ma : Addr
  ah : Addr
  un : Addr
  ca : Addr
/-- the class of a way -/
def Cs.of (c : Cs) : W → Addr
  | .one => c.on
  | .nothing => c.no
  | .letter _ => c.lt
  | .call _ => c.ca
  | .row _ => c.ro
  | .choice _ => c.ch
  | .again _ => c.ag
  | .maybe _ => c.ma
  | .ahead _ => c.ah
  | .unless _ => c.un
/-- what a way notes of itself: the name of its first call, how many Agains stand within one another -/
def fV : Option Str → V
  | none => .non
  | some x => .str x
mutual
def W.called : W → Option Str
  | .call x => some x
  | .row ws => W.calleds ws | .choice ws => W.calleds ws
  | .again w => w.called | .maybe w => w.called | .ahead w => w.called | .unless w => w.called
  | _ => none
def W.calleds : List W → Option Str
  | [] => none
  | w :: ws => match w.called with
    | some x => some x
    | none => W.calleds ws
end
mutual
def W.rounds : W → Nat
  | .row ws => W.roundss ws | .choice ws => W.roundss ws
  | .again w => w.rounds + 1 | .maybe w => w.rounds | .ahead w => w.rounds | .unless w => w.rounds
  | _ => 0
def W.roundss : List W → Nat
  | [] => 0
  | w :: ws => max w.rounds (W.roundss ws)
end
def nts (o : Option Str) (n : Nat) (r : List (Str × V)) : List (Str × V) := (Str.ofString "called", fV o) :: (Str.ofString "rounds", .int (n : Nat)) :: r
mutual
def ObjAt (c : Cs) (H : Hp) : V → W → Prop
  | v, .one => ∃ a d, v = .ref a ∧ H a = some (.ins c.on d (nts none 0 []))
  | v, .nothing => ∃ a d, v = .ref a ∧ H a = some (.ins c.no d (nts none 0 []))
  | v, .letter x => ∃ a d, v = .ref a ∧ H a = some (.ins c.lt d ((Str.ofString "letter", .str (sg x)) :: nts none 0 []))
  | v, .call x => ∃ a d, v = .ref a ∧ H a = some (.ins c.ca d ((Str.ofString "name", .str x) :: nts (some x) 0 []))
  | v, .row ws => ∃ a d t vs, v = .ref a ∧ H a = some (.ins c.ro d ((Str.ofString "ways", .ref t) :: nts (W.calleds ws) (W.roundss ws) [])) ∧ H t = some (.tup vs) ∧ ObjsAt c H vs ws
  | v, .choice ws => ∃ a d t vs, v = .ref a ∧ H a = some (.ins c.ch d ((Str.ofString "ways", .ref t) :: nts (W.calleds ws) (W.roundss ws) [])) ∧ H t = some (.tup vs) ∧ ObjsAt c H vs ws
  | v, .again w => ∃ a d u mk, v = .ref a ∧ H a = some (.ins c.ag d ((Str.ofString "part", u) :: nts w.called (w.rounds + 1) [(Str.ofString "mark", mk)])) ∧ ObjAt c H u w
  | v, .maybe w => ∃ a d u, ∃ _ : V, v = .ref a ∧ H a = some (.ins c.ma d ((Str.ofString "part", u) :: nts w.called w.rounds [])) ∧ ObjAt c H u w
  | v, .ahead w => ∃ a d u, ∃ _ : V, v = .ref a ∧ H a = some (.ins c.ah d ((Str.ofString "part", u) :: nts w.called w.rounds [])) ∧ ObjAt c H u w
  | v, .unless w => ∃ a d u, ∃ _ : V, v = .ref a ∧ H a = some (.ins c.un d ((Str.ofString "part", u) :: nts w.called w.rounds [])) ∧ ObjAt c H u w
def ObjsAt (c : Cs) (H : Hp) : List V → List W → Prop
  | vs, [] => vs = []
  | vs, w :: ws => ∃ u us, vs = u :: us ∧ ObjAt c H u w ∧ ObjsAt c H us ws
end
theorem ObjsAt.len {c : Cs} {H : Hp} : ∀ (ws : List W) (vs : List V), ObjsAt c H vs ws → vs.length = ws.length
  | [], vs, h => by rw [show vs = [] from h]; rfl
  | w :: ws, vs, ⟨u, us, e, _, h⟩ => by rw [e, List.length_cons, List.length_cons, ObjsAt.len ws us h]
theorem ObjsAt.app {c : Cs} {H : Hp} : ∀ (ws : List W) (vs : List V) {us : List V} {xs : List W}, ObjsAt c H vs ws → ObjsAt c H us xs → ObjsAt c H (vs ++ us) (ws ++ xs)
  | [], vs, us, xs, h, h2 => by rw [show vs = [] from h]; exact h2
  | w :: ws, vs, us, xs, ⟨u, r, e, hu, h⟩, h2 => by rw [e]; exact ⟨u, r ++ us, rfl, hu, ObjsAt.app ws r h h2⟩
theorem ObjsAt.at_ {c : Cs} {H : Hp} : ∀ (ws : List W) (vs : List V) (i : Nat) (w : W), ObjsAt c H vs ws → ws[i]? = some w → ∃ v, vs[i]? = some v ∧ ObjAt c H v w
  | [], vs, i, w, h, e => by simp at e
  | x :: ws, vs, 0, w, ⟨u, us, ev, hu, h⟩, e => by
    have q : x = w := by simpa using e
    subst q
    exact ⟨u, by rw [ev]; rfl, hu⟩
  | x :: ws, vs, i + 1, w, ⟨u, us, ev, hu, h⟩, e => by
    obtain ⟨v, h1, h2⟩ := ObjsAt.at_ ws us i w h (by simpa using e)
    exact ⟨v, by rw [ev]; simpa using h1, h2⟩
theorem ObjsAt.rev {c : Cs} {H : Hp} : ∀ (ws : List W) (vs : List V), ObjsAt c H vs ws → ObjsAt c H vs.reverse ws.reverse
  | [], vs, h => by rw [show vs = [] from h]; rfl
  | w :: ws, vs, ⟨u, us, e, hu, h⟩ => by
    rw [e, List.reverse_cons, List.reverse_cons]
    exact ObjsAt.app _ _ (ObjsAt.rev ws us h) ⟨u, [], rfl, hu, rfl⟩
/-- tuples and instances stay -/
structure Still (H H' : Hp) : Prop where
  tup : ∀ {a : Addr} {xs : List V}, H a = some (.tup xs) → H' a = some (.tup xs)
  ins : ∀ {a C d : Addr} {fs : List (Str × V)}, H a = some (.ins C d fs) → H' a = some (.ins C d fs)
theorem Still.refl (H : Hp) : Still H H := ⟨fun h => h, fun h => h⟩
theorem Still.trans {H H1 H2 : Hp} (a : Still H H1) (b : Still H1 H2) : Still H H2 := ⟨fun h => b.tup (a.tup h), fun h => b.ins (a.ins h)⟩
theorem Keep.still {H H' : Hp} (k : Keep H H') : Still H H' := ⟨fun h => k.tup h, fun h => k.ins h⟩
theorem stillS {H H' : Hp} (k : Same H H') : Still H H' := (Keep.of k).still
theorem Still.put {H : Hp} {q : Addr} {xs ys : List V} (h : H q = some (.lst xs)) : Still H (upd H q (.lst ys)) :=
  ⟨fun {a} _ e => by rw [upd_ne (ne_of e h (by intro z; cases z))]; exact e, fun {a} _ _ _ e => by rw [upd_ne (ne_of e h (by intro z; cases z))]; exact e⟩
mutual
theorem ObjAt.keep {c : Cs} {H H' : Hp} (k : Still H H') : ∀ (w : W) (v : V), ObjAt c H v w → ObjAt c H' v w
  | .one, v, ⟨a, d, e, h⟩ => ⟨a, d, e, k.ins h⟩
  | .nothing, v, ⟨a, d, e, h⟩ => ⟨a, d, e, k.ins h⟩
  | .letter _, v, ⟨a, d, e, h⟩ => ⟨a, d, e, k.ins h⟩
  | .call _, v, ⟨a, d, e, h⟩ => ⟨a, d, e, k.ins h⟩
  | .row ws, v, ⟨a, d, t, vs, e, h, h2, h3⟩ => ⟨a, d, t, vs, e, k.ins h, k.tup h2, ObjsAt.keep k ws vs h3⟩
  | .choice ws, v, ⟨a, d, t, vs, e, h, h2, h3⟩ => ⟨a, d, t, vs, e, k.ins h, k.tup h2, ObjsAt.keep k ws vs h3⟩
  | .again w, v, ⟨a, d, u, m, e, h, h2⟩ => ⟨a, d, u, m, e, k.ins h, ObjAt.keep k w u h2⟩
  | .maybe w, v, ⟨a, d, u, m, e, h, h2⟩ => ⟨a, d, u, m, e, k.ins h, ObjAt.keep k w u h2⟩
  | .ahead w, v, ⟨a, d, u, m, e, h, h2⟩ => ⟨a, d, u, m, e, k.ins h, ObjAt.keep k w u h2⟩
  | .unless w, v, ⟨a, d, u, m, e, h, h2⟩ => ⟨a, d, u, m, e, k.ins h, ObjAt.keep k w u h2⟩
theorem ObjsAt.keep {c : Cs} {H H' : Hp} (k : Still H H') : ∀ (ws : List W) (vs : List V), ObjsAt c H vs ws → ObjsAt c H' vs ws
  | [], _, h => h
  | w :: ws, vs, ⟨u, us, e, h, h2⟩ => ⟨u, us, e, ObjAt.keep k w u h, ObjsAt.keep k ws us h2⟩
end
/-- the ways of which a way is made -/
def W.inner : W → List W
  | .row ws => ws
  | .choice ws => ws
  | .again w => [w]
  | .maybe w => [w]
  | .ahead w => [w]
  | .unless w => [w]
  | _ => []
theorem W.size_inner (w : W) : w.size = 1 + W.sizes w.inner := by
  cases w <;> simp [W.size, W.inner, W.sizes]
theorem W.size_mem : ∀ {ws : List W} {i : Nat} {w : W}, ws[i]? = some w → w.size ≤ W.sizes ws
  | [], i, w, h => by simp at h
  | x :: ws, 0, w, h => by
    have q : x = w := by simpa using h
    subst q
    simp only [W.sizes]; omega
  | x :: ws, i + 1, w, h => by
    have q := W.size_mem (ws := ws) (i := i) (w := w) (by simpa using h)
    simp only [W.sizes]; omega
theorem take_more' {α : Type} : ∀ {l : List α} {i : Nat} {x : α}, l[i]? = some x → l.take (i + 1) = l.take i ++ [x]
  | [], i, x, h => by simp at h
  | a :: l, 0, x, h => by
    have e : a = x := Option.some.inj h
    subst e
    rfl
  | a :: l, i + 1, x, h => by
    have ih := take_more' (l := l) (i := i) (x := x) h
    show a :: l.take (i + 1) = a :: l.take i ++ [x]
    rw [ih]
    rfl
/-! ### tests by the tag -/
def W.is_lc : W → Bool
  | .letter _ => true
  | .call _ => true
  | _ => false
theorem in_lc (w : W) : inV (.str w.tag) [.str (Str.ofString "letter"), .str (Str.ofString "call")] = w.is_lc := by cases w <;> (simp only [W.tag, W.is_lc]; decide +kernel)
def W.is_on : W → Bool
  | .one => true
  | .nothing => true
  | _ => false
theorem in_on (w : W) : inV (.str w.tag) [.str (Str.ofString "one"), .str (Str.ofString "nothing")] = w.is_on := by cases w <;> (simp only [W.tag, W.is_on]; decide +kernel)
def W.is_rc : W → Bool
  | .row _ => true
  | .choice _ => true
  | _ => false
theorem in_rc (w : W) : inV (.str w.tag) [.str (Str.ofString "row"), .str (Str.ofString "choice")] = w.is_rc := by cases w <;> (simp only [W.tag, W.is_rc]; decide +kernel)
def W.is_am : W → Bool
  | .again _ => true
  | .maybe _ => true
  | _ => false
theorem in_am (w : W) : inV (.str w.tag) [.str (Str.ofString "again"), .str (Str.ofString "maybe")] = w.is_am := by cases w <;> (simp only [W.tag, W.is_am]; decide +kernel)
def W.is_un : W → Bool
  | .again _ => true
  | .maybe _ => true
  | .ahead _ => true
  | .unless _ => true
  | _ => false
theorem in_un (w : W) : inV (.str w.tag) [.str (Str.ofString "again"), .str (Str.ofString "maybe"), .str (Str.ofString "ahead"), .str (Str.ofString "unless")] = w.is_un := by cases w <;> (simp only [W.tag, W.is_un]; decide +kernel)
def W.is_nothing' : W → Bool
  | .nothing => true
  | _ => false
theorem eq_nothing (w : W) : decide (V.str w.tag = V.str (Str.ofString "nothing")) = w.is_nothing' := by
  cases w <;> first
    | exact decide_eq_true rfl
    | exact decide_eq_false (fun h => absurd (V.str.inj h) (by simp only [W.tag]; decide +kernel))
def W.is_one' : W → Bool
  | .one => true
  | _ => false
theorem eq_one (w : W) : decide (V.str w.tag = V.str (Str.ofString "one")) = w.is_one' := by
  cases w <;> first
    | exact decide_eq_true rfl
    | exact decide_eq_false (fun h => absurd (V.str.inj h) (by simp only [W.tag]; decide +kernel))
def W.is_letter' : W → Bool
  | .letter _ => true
  | _ => false
theorem eq_letter (w : W) : decide (V.str w.tag = V.str (Str.ofString "letter")) = w.is_letter' := by
  cases w <;> first
    | exact decide_eq_true rfl
    | exact decide_eq_false (fun h => absurd (V.str.inj h) (by simp only [W.tag]; decide +kernel))
def W.is_call' : W → Bool
  | .call _ => true
  | _ => false
theorem eq_call (w : W) : decide (V.str w.tag = V.str (Str.ofString "call")) = w.is_call' := by
  cases w <;> first
    | exact decide_eq_true rfl
    | exact decide_eq_false (fun h => absurd (V.str.inj h) (by simp only [W.tag]; decide +kernel))
def W.is_row' : W → Bool
  | .row _ => true
  | _ => false
theorem eq_row (w : W) : decide (V.str w.tag = V.str (Str.ofString "row")) = w.is_row' := by
  cases w <;> first
    | exact decide_eq_true rfl
    | exact decide_eq_false (fun h => absurd (V.str.inj h) (by simp only [W.tag]; decide +kernel))
def W.is_choice' : W → Bool
  | .choice _ => true
  | _ => false
theorem eq_choice (w : W) : decide (V.str w.tag = V.str (Str.ofString "choice")) = w.is_choice' := by
  cases w <;> first
    | exact decide_eq_true rfl
    | exact decide_eq_false (fun h => absurd (V.str.inj h) (by simp only [W.tag]; decide +kernel))
def W.is_again' : W → Bool
  | .again _ => true
  | _ => false
theorem eq_again (w : W) : decide (V.str w.tag = V.str (Str.ofString "again")) = w.is_again' := by
  cases w <;> first
    | exact decide_eq_true rfl
    | exact decide_eq_false (fun h => absurd (V.str.inj h) (by simp only [W.tag]; decide +kernel))
def W.is_maybe' : W → Bool
  | .maybe _ => true
  | _ => false
theorem eq_maybe (w : W) : decide (V.str w.tag = V.str (Str.ofString "maybe")) = w.is_maybe' := by
  cases w <;> first
    | exact decide_eq_true rfl
    | exact decide_eq_false (fun h => absurd (V.str.inj h) (by simp only [W.tag]; decide +kernel))
def W.is_ahead' : W → Bool
  | .ahead _ => true
  | _ => false
theorem eq_ahead (w : W) : decide (V.str w.tag = V.str (Str.ofString "ahead")) = w.is_ahead' := by
  cases w <;> first
    | exact decide_eq_true rfl
    | exact decide_eq_false (fun h => absurd (V.str.inj h) (by simp only [W.tag]; decide +kernel))
def W.is_unless' : W → Bool
  | .unless _ => true
  | _ => false
theorem eq_unless (w : W) : decide (V.str w.tag = V.str (Str.ofString "unless")) = w.is_unless' := by
  cases w <;> first
    | exact decide_eq_true rfl
    | exact decide_eq_false (fun h => absurd (V.str.inj h) (by simp only [W.tag]; decide +kernel))
theorem WayAt.head {H : Hp} {v : V} {w : W} (h : WayAt H v w) : ∃ a rest, v = .ref a ∧ H a = some (.tup (.str w.tag :: rest)) := by
  cases w <;> first
    | (obtain ⟨a, e, h⟩ := h; exact ⟨a, _, e, h⟩)
    | (obtain ⟨a, u, e, h, _⟩ := h; exact ⟨a, _, e, h⟩)
    | (obtain ⟨a, l, vs, e, h, _⟩ := h; exact ⟨a, _, e, h⟩)
theorem atI0 {x : V} {r : List V} : atI (x :: r) 0 = some x := atI_nat (j := 0) rfl
theorem atI1 {x y : V} {r : List V} : atI (x :: y :: r) 1 = some y := atI_nat (j := 1) rfl
/-! ### what the written part says of a class of ways -/
structure ClsF (K : PySem.W.Frag) (C : Addr) : Prop where
  cl : Cls K C
  nl : NoAttr K C "letter"
  nn : NoAttr K C "name"
  nw : NoAttr K C "ways"
  np : NoAttr K C "part"
  nc : NoAttr K C "called"
  nr : NoAttr K C "rounds"
  nm : NoAttr K C "mark"
  ha : PySem.W.findIn K (.ref C) "__class__" = some (some (.builtin "object.__class__"))
  hm : PySem.W.mroIn K C (.type "object") = some true
/-- what kind_of asks of the classes -/
structure AllF (K : PySem.W.Frag) (mg : Str → Option Value) (c : Cs) : Prop where
  f : ∀ w : W, ClsF K (c.of w)
  hn : PySem.W.specialIn K (.builtin "object.__class__") "__get__" = some (some (.builtin "getset_descriptor.__get__"))
  ht : PySem.W.takesIn K (.builtin "object.__class__") = some true
  kit : ∀ w u : W, PySem.W.kitOne K (.ref (c.of w)) (.ref (c.of u)) = some (decide (w.tag = u.tag))
  mLt : mg "Letter" = some (.ref c.lt)
  mOn : mg "One" = some (.ref c.on)
  mNo : mg "Nothing" = some (.ref c.no)
  mRo : mg "Row" = some (.ref c.ro)
  mCh : mg "Choice" = some (.ref c.ch)
  mAg : mg "Again" = some (.ref c.ag)
  mMa : mg "Maybe" = some (.ref c.ma)
  mAh : mg "Ahead" = some (.ref c.ah)
  mUn : mg "Unless" = some (.ref c.un)
  mCa : mg "Call" = some (.ref c.ca)
theorem ObjAt.head {c : Cs} {H : Hp} {v : V} {w : W} (h : ObjAt c H v w) : ∃ a d fs, v = .ref a ∧ H a = some (.ins (c.of w) d fs) := by
  cases w <;> first
    | (obtain ⟨a, d, e, h⟩ := h; exact ⟨a, d, _, e, h⟩)
    | (obtain ⟨a, d, u, m, e, h, _⟩ := h; exact ⟨a, d, _, e, h⟩)
/-- no attribute of a way has another name -/
def Names7 (m : Str) : Prop := m ≠ Str.ofString "letter" ∧ m ≠ Str.ofString "name" ∧ m ≠ Str.ofString "ways" ∧ m ≠ Str.ofString "part" ∧ m ≠ Str.ofString "called" ∧ m ≠ Str.ofString "rounds" ∧ m ≠ Str.ofString "mark"
theorem look_cons {f m : Str} {v : V} {r : List (Str × V)} (h : m ≠ f) : List.lookup m ((f, v) :: r) = List.lookup m r := by
  have q : (m == f) = false := by simpa using h
  simp [List.lookup, q]
theorem look_nts {o : Option Str} {n : Nat} {r : List (Str × V)} {m : Str} (h1 : m ≠ Str.ofString "called") (h2 : m ≠ Str.ofString "rounds") : List.lookup m (nts o n r) = List.lookup m r := by
  unfold nts
  rw [look_cons h1, look_cons h2]
theorem ObjAt.head' {c : Cs} {H : Hp} {v : V} {w : W} (h : ObjAt c H v w) : ∃ a d fs, v = .ref a ∧ H a = some (.ins (c.of w) d fs) ∧ ∀ m : Str, Names7 m → fs.lookup m = none := by
  cases w <;> first
    | (obtain ⟨a, d, e, h⟩ := h; exact ⟨a, d, _, e, h, fun m ⟨h1, h2, h3, h4, h5, h6, h7⟩ => by first | (rw [look_nts h5 h6]; rfl) | (rw [look_cons h1, look_nts h5 h6]; rfl) | (rw [look_cons h2, look_nts h5 h6]; rfl)⟩)
    | (obtain ⟨a, d, t, vs, e, h, _⟩ := h; exact ⟨a, d, _, e, h, fun m ⟨h1, h2, h3, h4, h5, h6, h7⟩ => by first | (rw [look_cons h3, look_nts h5 h6]; rfl) | (rw [look_cons h4, look_nts h5 h6]; rfl) | (rw [look_cons h4, look_nts h5 h6, look_cons h7]; rfl)⟩)
/-- what a way notes of itself, whatever its kind -/
theorem ObjAt.notes {c : Cs} {H : Hp} {v : V} {w : W} (h : ObjAt c H v w) : ∃ a d fs, v = .ref a ∧ H a = some (.ins (c.of w) d fs) ∧ fs.lookup (Str.ofString "called") = some (fV w.called) ∧ fs.lookup (Str.ofString "rounds") = some (.int (w.rounds : Nat)) := by
  cases w <;> first
    | (obtain ⟨a, d, e, h⟩ := h; exact ⟨a, d, _, e, h, rfl, rfl⟩)
    | (obtain ⟨a, d, t, vs, e, h, _⟩ := h; exact ⟨a, d, _, e, h, rfl, rfl⟩)
end Wv
namespace Wv
open PySem PySem.Spec PyProof.Rows L2
/-! ### the classes' __init__ -/
/-- what an __init__ leaves: the fields of the object at p; what was there ahead of the object stays -/
def Left (C p dx : Addr) (H0 : Hp) (fs : List (Str × V)) (Q : VK) : Prop := ∀ H' : Hp, H' p = some (.ins C dx fs) → Same H0 H' → Q .non H'
def At0 (C p dx : Addr) (H0 H : Hp) : Prop := H p = some (.ins C dx []) ∧ H0 p = none ∧ Same H0 H
def spInit0 (C : Addr) : Sp := fun vs H Q _ => ∃ (p dx : Addr) (H0 : Hp), vs = [.ref p] ∧ At0 C p dx H0 H ∧ Left C p dx H0 (nts none 0 []) Q
def spInitL (C : Addr) : Sp := fun vs H Q _ => ∃ (p dx : Addr) (v : V) (H0 : Hp), vs = [.ref p, v] ∧ At0 C p dx H0 H ∧ Left C p dx H0 ((Str.ofString "letter", v) :: nts none 0 []) Q
def spInitC (C : Addr) : Sp := fun vs H Q _ => ∃ (p dx : Addr) (v : V) (H0 : Hp), vs = [.ref p, v] ∧ At0 C p dx H0 H ∧ Left C p dx H0 ((Str.ofString "name", v) :: (Str.ofString "called", v) :: (Str.ofString "rounds", .int 0) :: []) Q
def spInitP (c : Cs) (C : Addr) : Sp := fun vs H Q _ => ∃ (p dx : Addr) (u : V) (w : W) (H0 : Hp), vs = [.ref p, u] ∧ At0 C p dx H0 H ∧ ObjAt c H0 u w ∧ Left C p dx H0 ((Str.ofString "part", u) :: nts w.called w.rounds []) Q
def spInitA (c : Cs) (C : Addr) : Sp := fun vs H Q _ => ∃ (p dx : Addr) (u : V) (w : W) (H0 : Hp), vs = [.ref p, u] ∧ At0 C p dx H0 H ∧ ObjAt c H0 u w ∧ ∀ mk : V, Left C p dx H0 ((Str.ofString "part", u) :: nts w.called (w.rounds + 1) [(Str.ofString "mark", mk)]) Q
def spInitT (K : PySem.W.Frag) (c : Cs) (C : Addr) : Sp := fun vs H Q _ => ∃ (p dx q : Addr) (xs : List V) (ws : List W) (H0 : Hp), vs = [.ref p, .ref q] ∧ At0 C p dx H0 H ∧ (H0 q = some (.lst xs) ∨ H0 q = some (.tup xs)) ∧ ObjsAt c H0 xs ws ∧ ws.length ≤ 1000000 ∧
  ∀ (t : Addr) (H' : Hp), H' t = some (.tup xs) → H' p = some (.ins C dx ((Str.ofString "ways", .ref t) :: nts (W.calleds ws) (W.roundss ws) [])) → Same H0 H' → Q .non H'
theorem at0 {H : Hp} {x dx C : Addr} (hx : H x = none) (hd : H dx = none) : At0 C x dx H (upd (upd H dx (.own x)) x (.ins C dx [])) :=
  ⟨upd_same, hx, fun b o e => by rw [upd_ne (ne_of_none e hx), upd_ne (ne_of_none e hd)]; exact e⟩
section
variable {c : Cs} {K : PySem.W.Frag} {C : Addr} {H : Hp} {Q : VK} {E : XK}
theorem make0 (h : ∀ x dx H', Same H H' → H' x = some (.ins C dx (nts none 0 [])) → Q (.ref x) H') :
    ∀ x dx, H x = none → H dx = none → dx ≠ x → spInit0 C (.ref x :: []) (upd (upd H dx (.own x)) x (.ins C dx [])) (fun v H2 => v = .non ∧ Q (.ref x) H2) E := fun x dx hx hd _ =>
  ⟨x, dx, H, rfl, at0 hx hd, fun H' e s => ⟨rfl, h x dx H' s e⟩⟩
theorem makeL {v : V} (h : ∀ x dx H', Same H H' → H' x = some (.ins C dx ((Str.ofString "letter", v) :: nts none 0 [])) → Q (.ref x) H') :
    ∀ x dx, H x = none → H dx = none → dx ≠ x → spInitL C (.ref x :: ([v] ++ [])) (upd (upd H dx (.own x)) x (.ins C dx [])) (fun v H2 => v = .non ∧ Q (.ref x) H2) E := fun x dx hx hd _ =>
  ⟨x, dx, v, H, rfl, at0 hx hd, fun H' e s => ⟨rfl, h x dx H' s e⟩⟩
theorem makeC {y : Str} (h : ∀ x dx H', Same H H' → H' x = some (.ins C dx ((Str.ofString "name", .str y) :: nts (some y) 0 [])) → Q (.ref x) H') :
    ∀ x dx, H x = none → H dx = none → dx ≠ x → spInitC C (.ref x :: ([.str y] ++ [])) (upd (upd H dx (.own x)) x (.ins C dx [])) (fun v H2 => v = .non ∧ Q (.ref x) H2) E := fun x dx hx hd _ =>
  ⟨x, dx, .str y, H, rfl, at0 hx hd, fun H' e s => ⟨rfl, h x dx H' s e⟩⟩
theorem makeP {u : V} {w : W} (hu : ObjAt c H u w) (h : ∀ x dx H', Same H H' → H' x = some (.ins C dx ((Str.ofString "part", u) :: nts w.called w.rounds [])) → Q (.ref x) H') :
    ∀ x dx, H x = none → H dx = none → dx ≠ x → spInitP c C (.ref x :: ([u] ++ [])) (upd (upd H dx (.own x)) x (.ins C dx [])) (fun v H2 => v = .non ∧ Q (.ref x) H2) E := fun x dx hx hd _ =>
  ⟨x, dx, u, w, H, rfl, at0 hx hd, hu, fun H' e s => ⟨rfl, h x dx H' s e⟩⟩
theorem makeA {u : V} {w : W} (hu : ObjAt c H u w) (h : ∀ x dx mk H', Same H H' → H' x = some (.ins C dx ((Str.ofString "part", u) :: nts w.called (w.rounds + 1) [(Str.ofString "mark", mk)])) → Q (.ref x) H') :
    ∀ x dx, H x = none → H dx = none → dx ≠ x → spInitA c C (.ref x :: ([u] ++ [])) (upd (upd H dx (.own x)) x (.ins C dx [])) (fun v H2 => v = .non ∧ Q (.ref x) H2) E := fun x dx hx hd _ =>
  ⟨x, dx, u, w, H, rfl, at0 hx hd, hu, fun mk H' e s => ⟨rfl, h x dx mk H' s e⟩⟩
theorem makeT {q : Addr} {xs : List V} {ws : List W} (hq : H q = some (.lst xs) ∨ H q = some (.tup xs)) (hw : ObjsAt c H xs ws) (hl : ws.length ≤ 1000000) (h : ∀ x dx t H', Same H H' → H' t = some (.tup xs) → H' x = some (.ins C dx ((Str.ofString "ways", .ref t) :: nts (W.calleds ws) (W.roundss ws) [])) → Q (.ref x) H') :
    ∀ x dx, H x = none → H dx = none → dx ≠ x → spInitT K c C (.ref x :: ([.ref q] ++ [])) (upd (upd H dx (.own x)) x (.ins C dx [])) (fun v H2 => v = .non ∧ Q (.ref x) H2) E := fun x dx hx hd _ =>
  ⟨x, dx, q, xs, ws, H, rfl, at0 hx hd, hq, hw, hl, fun t H' ht e s => ⟨rfl, h x dx t H' s ht e⟩⟩
end
def spFirst (c : Cs) : Sp := fun vs H Q _ => ∃ (t : Addr) (xs : List V) (ws : List W), vs = [.ref t] ∧ H t = some (.tup xs) ∧ ObjsAt c H xs ws ∧ ws.length ≤ 1000000 ∧ ∀ H', Same H H' → Q (fV (W.calleds ws)) H'
def spMost (c : Cs) : Sp := fun vs H Q _ => ∃ (t : Addr) (xs : List V) (ws : List W), vs = [.ref t] ∧ H t = some (.tup xs) ∧ ObjsAt c H xs ws ∧ ws.length ≤ 1000000 ∧ ∀ H', Same H H' → Q (.int (W.roundss ws : Nat)) H'
section
variable {P : Program} {w : World} {K : PySem.W.Frag} {mg : Str → Option Value} {base : Heap}
theorem calleds_map : ∀ ws : List W, W.calleds ws = (ws.filterMap W.called).head?
  | [] => rfl
  | w :: ws => by
    rw [W.calleds, List.filterMap_cons]
    cases h : w.called with
    | none => exact calleds_map ws
    | some x => rfl
theorem rounds_max : ∀ (ws : List W) (n : Nat), (ws.map fun w => ((w.rounds : Nat) : Int)).foldl max ((n : Nat) : Int) = ((max n (W.roundss ws) : Nat) : Int)
  | [], n => by rw [W.roundss, Nat.max_zero]; rfl
  | w :: ws, n => by
    rw [List.map_cons, List.foldl_cons, W.roundss]
    have e : max ((n : Nat) : Int) ((w.rounds : Nat) : Int) = ((max n w.rounds : Nat) : Int) := by omega
    rw [e, rounds_max ws, Nat.max_assoc]
theorem rounds_fold (ws : List W) : mx 0 (ws.map fun w => ((w.rounds : Nat) : Int)) = ((W.roundss ws : Nat) : Int) := by
  cases ws with
  | nil => rfl
  | cons w ws => exact rounds_max ws w.rounds
abbrev s_first_call : Stmt := top 31
theorem sc_first_call : FnScope ["ways", "calls", "way"] ["ways"] (defScope s_first_call) := ⟨rfl, rfl, rfl, by decide +kernel, rfl, by decide +kernel, by decide +kernel⟩
theorem d_first_call (h : Here K mg "first_call" s_first_call ["ways"]) {c : Cs} (hf : ∀ w : W, ClsF K (c.of w)) : DefOk P w K mg base 1 "first_call" ["ways"] (spFirst c) := by
  refine h.ok sc_first_call (fun vs H Q E h => by obtain ⟨_, _, _, rfl, _⟩ := h; rfl) (fun f cdv A outer s H vs Q E hr h => ?_)
  obtain ⟨t, xs, ws, rfl, ht, hw, hl, k⟩ := h
  refine ⟨_, (pss_cons (ps_setLc (i := 1) (own := [("way", 2)]) (g := (gName 2)) rfl sc_first_call.nd rfl rfl (sw_true rfl rfl rfl (by decide +kernel)) (pi_tup (pv 0)) (blkOk_by (own := [("way", 2)]) (N := ["ways", "calls", "way"]) (sc := defScope s_first_call) (by decide +kernel)) (fun _ _ _ _ _ => pg_name (i := 2) sc_first_call.nd rfl (Or.inl rfl)) (fun _ _ _ _ _ => pts_one (pt_cmpR op_notN (pe_fldK (K := K) rfl (pv 2) rfl) pe_non (nomark _))) (fun _ _ _ _ _ => (pe_fldK (K := K) rfl (pv 2) rfl)))
  (pss_one (ps_ret (pe_ifExp (pt_truth (pv 1) (by intro _; rfl)) (pe_ix ix_list (pv 1) pe_int (fun _ _ => rfl)) pe_non)))), ?_⟩
  have elen := ObjsAt.len _ _ hw
  refine ⟨_, rfl, t, rfl, ⟨xs, SqT.of ht⟩, fun D hD => ?_⟩
  refine lc_tup (K := K) (a := t) (xs := xs) (fun i H' => H' D = some (.lst (((ws.take i).filterMap W.called).map V.str)) ∧ Same H H') ?_ ?_ ?_ ?_
  · exact ⟨upd_same, Same.new hD _⟩
  · rintro i H' _ ⟨_, s1⟩
    exact SqT.of (s1 _ _ ht)
  · rintro i x H' hx ⟨hD', s1⟩
    have hi : i < xs.length := (List.getElem?_eq_some_iff.mp hx).1
    obtain ⟨wi, hwi⟩ : ∃ wi, ws[i]? = some wi := ⟨ws[i]'(by omega), List.getElem?_eq_getElem (by omega)⟩
    obtain ⟨x', hx', hxw⟩ := ObjsAt.at_ _ _ _ _ hw hwi
    have ex : x = x' := Option.some.inj (hx.symm.trans hx')
    subst ex
    obtain ⟨a, d, fs, ea, ha, l1, l2⟩ := (ObjAt.keep (stillS s1) _ _ hxw).notes
    refine ⟨rfl, _, rfl, a, _, d, fs, _, ea, ha, (hf wi).cl, (hf wi).nc, l1, rfl, _, rfl, ?_⟩
    rw [take_more' hwi, List.filterMap_append, List.map_append]
    cases hc : wi.called with
    | none =>
      rw [hc] at l1
      have e9 : (!decide (fV none = V.non)) = false := rfl
      rw [e9]
      refine iteF ⟨?_, s1⟩
      rw [List.filterMap_cons, hc, List.filterMap_nil, List.map_nil, List.append_nil]
      exact hD'
    | some y =>
      rw [hc] at l1
      have e9 : (!decide (fV (some y) = V.non)) = true := rfl
      rw [e9]
      have hlen := List.length_filterMap_le W.called (ws.take i)
      have hlen2 : (ws.take i).length ≤ ws.length := by rw [List.length_take]; omega
      refine iteT ⟨_, rfl, a, _, d, fs, _, ea, ha, (hf wi).cl, (hf wi).nc, l1, _, hD', small' (by rw [List.length_map]; omega), ?_, Same.put hD s1 _⟩
      rw [upd_same, List.filterMap_cons, hc, List.filterMap_nil]
      rfl
  · rintro H1 ⟨hD1, s1⟩
    rw [elen, List.take_length] at hD1
    walk_at "nx"
    refine ⟨_, rfl, _, .inl ⟨_, SqL.of hD1, rfl⟩, ?_⟩
    have e := calleds_map ws
    cases hl : ws.filterMap W.called with
    | nil =>
      rw [hl] at e hD1
      refine iteF ?_
      have k' := k H1 s1
      rw [e] at k'
      exact k'
    | cons y ys =>
      rw [hl] at e hD1
      refine iteT ⟨_, rfl, D, _, _, _, rfl, rfl, SqL.of hD1, atI0, ?_⟩
      have k' := k H1 s1
      rw [e] at k'
      exact k'
abbrev s_most_rounds : Stmt := top 32
theorem sc_most_rounds : FnScope ["ways", "way"] ["ways"] (defScope s_most_rounds) := ⟨rfl, rfl, rfl, by decide +kernel, rfl, by decide +kernel, by decide +kernel⟩
theorem d_most_rounds (h : Here K mg "most_rounds" s_most_rounds ["ways"]) (B : Bs mg) {c : Cs} (hf : ∀ w : W, ClsF K (c.of w)) : DefOk P w K mg base 1 "most_rounds" ["ways"] (spMost c) := by
  have B_max := B.max
  refine h.ok sc_most_rounds (fun vs H Q E h => by obtain ⟨_, _, _, rfl, _⟩ := h; rfl) (fun f cdv A outer s H vs Q E hr h => ?_)
  obtain ⟨t, xs, ws, rfl, ht, hw, hl, k⟩ := h
  refine ⟨_, (pss_one (ps_ret (pe_callBK (cr_maxDef rfl (Nat.lt_of_le_of_lt (Nat.add_le_add_left (by decide) _) hr.units)) rfl B_max (by decide +kernel) (pa_cons (pe_lc (own := [("way", 1)]) (g := (gName 1)) (tt := tYes) rfl sc_most_rounds.nd (pi_tup (pv 0)) (blkOk_by (own := [("way", 1)]) (N := ["ways", "way"]) (sc := defScope s_most_rounds) (by decide +kernel)) (fun _ _ _ _ _ => pg_name (i := 1) sc_most_rounds.nd rfl (Or.inl rfl)) (fun _ _ _ _ _ => pts_nil) (fun _ _ _ _ _ => (pe_fldK (K := K) rfl (pv 1) rfl))) pa_nil) (pk_cons pe_int pk_nil)))), ?_⟩
  have elen := ObjsAt.len _ _ hw
  refine ⟨_, rfl, t, rfl, ⟨xs, SqT.of ht⟩, fun D hD => ?_⟩
  refine lc_tup (K := K) (a := t) (xs := xs) (fun i H' => H' D = some (.lst ((ws.take i).map fun w => V.int ((w.rounds : Nat) : Int))) ∧ Same H H') ?_ ?_ ?_ ?_
  · exact ⟨upd_same, Same.new hD _⟩
  · rintro i H' _ ⟨_, s1⟩
    exact SqT.of (s1 _ _ ht)
  · rintro i x H' hx ⟨hD', s1⟩
    have hi : i < xs.length := (List.getElem?_eq_some_iff.mp hx).1
    obtain ⟨wi, hwi⟩ : ∃ wi, ws[i]? = some wi := ⟨ws[i]'(by omega), List.getElem?_eq_getElem (by omega)⟩
    obtain ⟨x', hx', hxw⟩ := ObjsAt.at_ _ _ _ _ hw hwi
    have ex : x = x' := Option.some.inj (hx.symm.trans hx')
    subst ex
    obtain ⟨a, d, fs, ea, ha, l1, l2⟩ := (ObjAt.keep (stillS s1) _ _ hxw).notes
    refine ⟨rfl, _, rfl, a, _, d, fs, _, ea, ha, (hf wi).cl, (hf wi).nr, l2, _, hD', small' (by rw [List.length_map, List.length_take]; omega), ?_, Same.put hD s1 _⟩
    rw [upd_same, take_more' hwi, List.map_append]
    rfl
  · rintro H1 ⟨hD1, s1⟩
    rw [elen, List.take_length] at hD1
    refine ⟨D, ws.map fun w => ((w.rounds : Nat) : Int), 0, rfl, rfl, SqL.of (by rw [List.map_map]; exact hD1), ?_⟩
    rw [rounds_fold]
    exact k H1 s1
abbrev s_One_init : Stmt := inClass (top 22) 0
theorem sc_One_init : FnScope ["self"] ["self"] (defScope s_One_init) := ⟨rfl, rfl, rfl, by decide +kernel, rfl, by decide +kernel, by decide +kernel⟩
theorem ok_One {f C : Addr} {fd : FuncData} (F : Fun K "__init__" "One.__init__" s_One_init f fd) (T : ClsF K C) : FnOk P w K mg base CX0 1 f fd ["self"] (spInit0 C) := by
  refine F.ok sc_One_init (fun vs H Q E h => by obtain ⟨_, _, _, rfl, _⟩ := h; rfl) (fun cdv A outer s H vs Q E hr h => ?_)
  obtain ⟨p, dx, H0, rfl, ⟨hp, h0, s0⟩, k⟩ := h
  refine ⟨_, (pss_cons (ps_fld (pv 0) pe_non rfl)
  (pss_one (ps_fld (pv 0) pe_int rfl))), ?_⟩
  refine ⟨_, rfl, p, C, dx, [], rfl, hp, T.cl, T.nc, (by show 0 < 1000; decide), ?_⟩
  refine ⟨_, rfl, p, C, dx, _, rfl, upd_same, T.cl, T.nr, (by show 1 < 1000; decide), ?_⟩
  exact k _ upd_same (Same.put h0 (Same.put h0 s0 _) _)
abbrev s_Nothing_init : Stmt := inClass (top 23) 0
theorem sc_Nothing_init : FnScope ["self"] ["self"] (defScope s_Nothing_init) := ⟨rfl, rfl, rfl, by decide +kernel, rfl, by decide +kernel, by decide +kernel⟩
theorem ok_Nothing {f C : Addr} {fd : FuncData} (F : Fun K "__init__" "Nothing.__init__" s_Nothing_init f fd) (T : ClsF K C) : FnOk P w K mg base CX0 1 f fd ["self"] (spInit0 C) := by
  refine F.ok sc_Nothing_init (fun vs H Q E h => by obtain ⟨_, _, _, rfl, _⟩ := h; rfl) (fun cdv A outer s H vs Q E hr h => ?_)
  obtain ⟨p, dx, H0, rfl, ⟨hp, h0, s0⟩, k⟩ := h
  refine ⟨_, (pss_cons (ps_fld (pv 0) pe_non rfl)
  (pss_one (ps_fld (pv 0) pe_int rfl))), ?_⟩
  refine ⟨_, rfl, p, C, dx, [], rfl, hp, T.cl, T.nc, (by show 0 < 1000; decide), ?_⟩
  refine ⟨_, rfl, p, C, dx, _, rfl, upd_same, T.cl, T.nr, (by show 1 < 1000; decide), ?_⟩
  exact k _ upd_same (Same.put h0 (Same.put h0 s0 _) _)
abbrev s_Letter_init : Stmt := inClass (top 21) 0
theorem sc_Letter_init : FnScope ["self", "letter"] ["self", "letter"] (defScope s_Letter_init) := ⟨rfl, rfl, rfl, by decide +kernel, rfl, by decide +kernel, by decide +kernel⟩
theorem ok_Letter {f C : Addr} {fd : FuncData} (F : Fun K "__init__" "Letter.__init__" s_Letter_init f fd) (T : ClsF K C) : FnOk P w K mg base CX0 1 f fd ["self", "letter"] (spInitL C) := by
  refine F.ok sc_Letter_init (fun vs H Q E h => by obtain ⟨_, _, _, _, rfl, _⟩ := h; rfl) (fun cdv A outer s H vs Q E hr h => ?_)
  obtain ⟨p, dx, v, H0, rfl, ⟨hp, h0, s0⟩, k⟩ := h
  refine ⟨_, (pss_cons (ps_fld (pv 0) (pv 1) rfl)
  (pss_cons (ps_fld (pv 0) pe_non rfl)
  (pss_one (ps_fld (pv 0) pe_int rfl)))), ?_⟩
  refine ⟨_, rfl, _, rfl, p, C, dx, [], rfl, hp, T.cl, T.nl, (by show 0 < 1000; decide), ?_⟩
  refine ⟨_, rfl, p, C, dx, _, rfl, upd_same, T.cl, T.nc, (by show 1 < 1000; decide), ?_⟩
  refine ⟨_, rfl, p, C, dx, _, rfl, upd_same, T.cl, T.nr, (by show 2 < 1000; decide), ?_⟩
  exact k _ upd_same (Same.put h0 (Same.put h0 (Same.put h0 s0 _) _) _)
abbrev s_Call_init : Stmt := inClass (top 30) 0
theorem sc_Call_init : FnScope ["self", "name"] ["self", "name"] (defScope s_Call_init) := ⟨rfl, rfl, rfl, by decide +kernel, rfl, by decide +kernel, by decide +kernel⟩
theorem ok_Call {f C : Addr} {fd : FuncData} (F : Fun K "__init__" "Call.__init__" s_Call_init f fd) (T : ClsF K C) : FnOk P w K mg base CX0 1 f fd ["self", "name"] (spInitC C) := by
  refine F.ok sc_Call_init (fun vs H Q E h => by obtain ⟨_, _, _, _, rfl, _⟩ := h; rfl) (fun cdv A outer s H vs Q E hr h => ?_)
  obtain ⟨p, dx, v, H0, rfl, ⟨hp, h0, s0⟩, k⟩ := h
  refine ⟨_, (pss_cons (ps_fld (pv 0) (pv 1) rfl)
  (pss_cons (ps_fld (pv 0) (pv 1) rfl)
  (pss_one (ps_fld (pv 0) pe_int rfl)))), ?_⟩
  refine ⟨_, rfl, _, rfl, p, C, dx, [], rfl, hp, T.cl, T.nn, (by show 0 < 1000; decide), ?_⟩
  refine ⟨_, rfl, _, rfl, p, C, dx, _, rfl, upd_same, T.cl, T.nc, (by show 1 < 1000; decide), ?_⟩
  refine ⟨_, rfl, p, C, dx, _, rfl, upd_same, T.cl, T.nr, (by show 2 < 1000; decide), ?_⟩
  exact k _ upd_same (Same.put h0 (Same.put h0 (Same.put h0 s0 _) _) _)
abbrev s_Maybe_init : Stmt := inClass (top 27) 0
theorem sc_Maybe_init : FnScope ["self", "part"] ["self", "part"] (defScope s_Maybe_init) := ⟨rfl, rfl, rfl, by decide +kernel, rfl, by decide +kernel, by decide +kernel⟩
theorem ok_Maybe {f C : Addr} {fd : FuncData} {c : Cs} (F : Fun K "__init__" "Maybe.__init__" s_Maybe_init f fd) (T : ClsF K C) (hf : ∀ w : W, ClsF K (c.of w)) : FnOk P w K mg base CX0 1 f fd ["self", "part"] (spInitP c C) := by
  refine F.ok sc_Maybe_init (fun vs H Q E h => by obtain ⟨_, _, _, _, _, rfl, _⟩ := h; rfl) (fun cdv A outer s H vs Q E hr h => ?_)
  obtain ⟨p, dx, u, w, H0, rfl, ⟨hp, h0, s0⟩, hu, k⟩ := h
  refine ⟨_, (pss_cons (ps_fld (pv 0) (pv 1) rfl)
  (pss_cons (ps_fld (pv 0) (pe_fld (pv 1) rfl) rfl)
  (pss_one (ps_fld (pv 0) (pe_fld (pv 1) rfl) rfl)))), ?_⟩
  refine ⟨_, rfl, _, rfl, p, C, dx, [], rfl, hp, T.cl, T.np, (by show 0 < 1000; decide), ?_⟩
  have s1 := Same.put h0 s0 (HO.ins C dx (putF (Str.ofString "part") u []))
  have g1 : upd H p (HO.ins C dx (putF (Str.ofString "part") u [])) p = some (HO.ins C dx (putF (Str.ofString "part") u [])) := upd_same
  generalize upd H p (HO.ins C dx (putF (Str.ofString "part") u [])) = H1 at *
  obtain ⟨a, d, fs, ea, ha, l1, l2⟩ := (ObjAt.keep (stillS s1) _ _ hu).notes
  refine ⟨_, rfl, a, _, d, fs, _, ea, ha, (hf w).cl, (hf w).nc, l1, _, rfl, p, C, dx, _, rfl, g1, T.cl, T.nc, (by show 1 < 1000; decide), ?_⟩
  have s2 := Same.put h0 s1 (HO.ins C dx (putF (Str.ofString "called") (fV w.called) (putF (Str.ofString "part") u [])))
  have g2 : upd H1 p (HO.ins C dx (putF (Str.ofString "called") (fV w.called) (putF (Str.ofString "part") u []))) p = some _ := upd_same
  generalize upd H1 p (HO.ins C dx (putF (Str.ofString "called") (fV w.called) (putF (Str.ofString "part") u []))) = H2 at *
  obtain ⟨a, d, fs, ea, ha, l1, l2⟩ := (ObjAt.keep (stillS s2) _ _ hu).notes
  refine ⟨_, rfl, a, _, d, fs, _, ea, ha, (hf w).cl, (hf w).nr, l2, _, rfl, p, C, dx, _, rfl, g2, T.cl, T.nr, (by show 2 < 1000; decide), ?_⟩
  exact k _ upd_same (Same.put h0 s2 _)
abbrev s_Ahead_init : Stmt := inClass (top 28) 0
theorem sc_Ahead_init : FnScope ["self", "part"] ["self", "part"] (defScope s_Ahead_init) := ⟨rfl, rfl, rfl, by decide +kernel, rfl, by decide +kernel, by decide +kernel⟩
theorem ok_Ahead {f C : Addr} {fd : FuncData} {c : Cs} (F : Fun K "__init__" "Ahead.__init__" s_Ahead_init f fd) (T : ClsF K C) (hf : ∀ w : W, ClsF K (c.of w)) : FnOk P w K mg base CX0 1 f fd ["self", "part"] (spInitP c C) := by
  refine F.ok sc_Ahead_init (fun vs H Q E h => by obtain ⟨_, _, _, _, _, rfl, _⟩ := h; rfl) (fun cdv A outer s H vs Q E hr h => ?_)
  obtain ⟨p, dx, u, w, H0, rfl, ⟨hp, h0, s0⟩, hu, k⟩ := h
  refine ⟨_, (pss_cons (ps_fld (pv 0) (pv 1) rfl)
  (pss_cons (ps_fld (pv 0) (pe_fld (pv 1) rfl) rfl)
  (pss_one (ps_fld (pv 0) (pe_fld (pv 1) rfl) rfl)))), ?_⟩
  refine ⟨_, rfl, _, rfl, p, C, dx, [], rfl, hp, T.cl, T.np, (by show 0 < 1000; decide), ?_⟩
  have s1 := Same.put h0 s0 (HO.ins C dx (putF (Str.ofString "part") u []))
  have g1 : upd H p (HO.ins C dx (putF (Str.ofString "part") u [])) p = some (HO.ins C dx (putF (Str.ofString "part") u [])) := upd_same
  generalize upd H p (HO.ins C dx (putF (Str.ofString "part") u [])) = H1 at *
  obtain ⟨a, d, fs, ea, ha, l1, l2⟩ := (ObjAt.keep (stillS s1) _ _ hu).notes
  refine ⟨_, rfl, a, _, d, fs, _, ea, ha, (hf w).cl, (hf w).nc, l1, _, rfl, p, C, dx, _, rfl, g1, T.cl, T.nc, (by show 1 < 1000; decide), ?_⟩
  have s2 := Same.put h0 s1 (HO.ins C dx (putF (Str.ofString "called") (fV w.called) (putF (Str.ofString "part") u [])))
  have g2 : upd H1 p (HO.ins C dx (putF (Str.ofString "called") (fV w.called) (putF (Str.ofString "part") u []))) p = some _ := upd_same
  generalize upd H1 p (HO.ins C dx (putF (Str.ofString "called") (fV w.called) (putF (Str.ofString "part") u []))) = H2 at *
  obtain ⟨a, d, fs, ea, ha, l1, l2⟩ := (ObjAt.keep (stillS s2) _ _ hu).notes
  refine ⟨_, rfl, a, _, d, fs, _, ea, ha, (hf w).cl, (hf w).nr, l2, _, rfl, p, C, dx, _, rfl, g2, T.cl, T.nr, (by show 2 < 1000; decide), ?_⟩
  exact k _ upd_same (Same.put h0 s2 _)
abbrev s_Unless_init : Stmt := inClass (top 29) 0
theorem sc_Unless_init : FnScope ["self", "part"] ["self", "part"] (defScope s_Unless_init) := ⟨rfl, rfl, rfl, by decide +kernel, rfl, by decide +kernel, by decide +kernel⟩
theorem ok_Unless {f C : Addr} {fd : FuncData} {c : Cs} (F : Fun K "__init__" "Unless.__init__" s_Unless_init f fd) (T : ClsF K C) (hf : ∀ w : W, ClsF K (c.of w)) : FnOk P w K mg base CX0 1 f fd ["self", "part"] (spInitP c C) := by
  refine F.ok sc_Unless_init (fun vs H Q E h => by obtain ⟨_, _, _, _, _, rfl, _⟩ := h; rfl) (fun cdv A outer s H vs Q E hr h => ?_)
  obtain ⟨p, dx, u, w, H0, rfl, ⟨hp, h0, s0⟩, hu, k⟩ := h
  refine ⟨_, (pss_cons (ps_fld (pv 0) (pv 1) rfl)
  (pss_cons (ps_fld (pv 0) (pe_fld (pv 1) rfl) rfl)
  (pss_one (ps_fld (pv 0) (pe_fld (pv 1) rfl) rfl)))), ?_⟩
  refine ⟨_, rfl, _, rfl, p, C, dx, [], rfl, hp, T.cl, T.np, (by show 0 < 1000; decide), ?_⟩
  have s1 := Same.put h0 s0 (HO.ins C dx (putF (Str.ofString "part") u []))
  have g1 : upd H p (HO.ins C dx (putF (Str.ofString "part") u [])) p = some (HO.ins C dx (putF (Str.ofString "part") u [])) := upd_same
  generalize upd H p (HO.ins C dx (putF (Str.ofString "part") u [])) = H1 at *
  obtain ⟨a, d, fs, ea, ha, l1, l2⟩ := (ObjAt.keep (stillS s1) _ _ hu).notes
  refine ⟨_, rfl, a, _, d, fs, _, ea, ha, (hf w).cl, (hf w).nc, l1, _, rfl, p, C, dx, _, rfl, g1, T.cl, T.nc, (by show 1 < 1000; decide), ?_⟩
  have s2 := Same.put h0 s1 (HO.ins C dx (putF (Str.ofString "called") (fV w.called) (putF (Str.ofString "part") u [])))
  have g2 : upd H1 p (HO.ins C dx (putF (Str.ofString "called") (fV w.called) (putF (Str.ofString "part") u []))) p = some _ := upd_same
  generalize upd H1 p (HO.ins C dx (putF (Str.ofString "called") (fV w.called) (putF (Str.ofString "part") u []))) = H2 at *
  obtain ⟨a, d, fs, ea, ha, l1, l2⟩ := (ObjAt.keep (stillS s2) _ _ hu).notes
  refine ⟨_, rfl, a, _, d, fs, _, ea, ha, (hf w).cl, (hf w).nr, l2, _, rfl, p, C, dx, _, rfl, g2, T.cl, T.nr, (by show 2 < 1000; decide), ?_⟩
  exact k _ upd_same (Same.put h0 s2 _)
abbrev s_Again_init : Stmt := inClass (top 26) 0
theorem sc_Again_init : FnScope ["self", "part"] ["self", "part"] (defScope s_Again_init) := ⟨rfl, rfl, rfl, by decide +kernel, rfl, by decide +kernel, by decide +kernel⟩
theorem ok_Again {f C : Addr} {fd : FuncData} {c : Cs} {mkC : Addr} (F : Fun K "__init__" "Again.__init__" s_Again_init f fd) (T : ClsF K C) (hf : ∀ w : W, ClsF K (c.of w)) (G_Mark : Mk0 K mg "Mark" mkC) : FnOk P w K mg base CX0 1 f fd ["self", "part"] (spInitA c C) := by
  refine F.ok sc_Again_init (fun vs H Q E h => by obtain ⟨_, _, _, _, _, rfl, _⟩ := h; rfl) (fun cdv A outer s H vs Q E hr h => ?_)
  obtain ⟨p, dx, u, w, H0, rfl, ⟨hp, h0, s0⟩, hu, k⟩ := h
  refine ⟨_, (pss_cons (ps_fld (pv 0) (pv 1) rfl)
  (pss_cons (ps_fld (pv 0) (pe_fld (pv 1) rfl) rfl)
  (pss_cons (ps_fld (pv 0) (pe_op op_add (pe_fld (pv 1) rfl) pe_int) rfl)
  (pss_one (ps_fld (pv 0) (pe_make00 G_Mark rfl) rfl))))), ?_⟩
  refine ⟨_, rfl, _, rfl, p, C, dx, [], rfl, hp, T.cl, T.np, (by show 0 < 1000; decide), ?_⟩
  have s1 := Same.put h0 s0 (HO.ins C dx (putF (Str.ofString "part") u []))
  have g1 : upd H p (HO.ins C dx (putF (Str.ofString "part") u [])) p = some (HO.ins C dx (putF (Str.ofString "part") u [])) := upd_same
  generalize upd H p (HO.ins C dx (putF (Str.ofString "part") u [])) = H1 at *
  obtain ⟨a, d, fs, ea, ha, l1, l2⟩ := (ObjAt.keep (stillS s1) _ _ hu).notes
  refine ⟨_, rfl, a, _, d, fs, _, ea, ha, (hf w).cl, (hf w).nc, l1, _, rfl, p, C, dx, _, rfl, g1, T.cl, T.nc, (by show 1 < 1000; decide), ?_⟩
  have s2 := Same.put h0 s1 (HO.ins C dx (putF (Str.ofString "called") (fV w.called) (putF (Str.ofString "part") u [])))
  have g2 : upd H1 p (HO.ins C dx (putF (Str.ofString "called") (fV w.called) (putF (Str.ofString "part") u []))) p = some _ := upd_same
  generalize upd H1 p (HO.ins C dx (putF (Str.ofString "called") (fV w.called) (putF (Str.ofString "part") u []))) = H2 at *
  obtain ⟨a, d, fs, ea, ha, l1, l2⟩ := (ObjAt.keep (stillS s2) _ _ hu).notes
  refine ⟨_, rfl, a, _, d, fs, _, ea, ha, (hf w).cl, (hf w).nr, l2, _, _, rfl, rfl, _, rfl, p, C, dx, _, rfl, g2, T.cl, T.nr, (by show 2 < 1000; decide), ?_⟩
  generalize e3 : putF (Str.ofString "rounds") (V.int ((w.rounds : Nat) + 1)) (putF (Str.ofString "called") (fV w.called) (putF (Str.ofString "part") u [])) = f3
  have s3 := Same.put h0 s2 (HO.ins C dx f3)
  have g3 : upd H2 p (HO.ins C dx f3) p = some (HO.ins C dx f3) := upd_same
  generalize upd H2 p (HO.ins C dx f3) = H3 at *
  intro m dm hm hdm hne
  have s4 := (at0 (C := mkC) hm hdm).2.2
  refine ⟨_, rfl, p, C, dx, _, rfl, s4 _ _ g3, T.cl, T.nm, (by rw [← e3]; show 3 < 1000; decide), ?_⟩
  refine k (.ref m) _ ?_ (Same.put h0 (s3.trans s4) _)
  rw [upd_same, ← e3]
  rfl
abbrev s_Row_init : Stmt := inClass (top 24) 0
theorem sc_Row_init : FnScope ["self", "ways"] ["self", "ways"] (defScope s_Row_init) := ⟨rfl, rfl, rfl, by decide +kernel, rfl, by decide +kernel, by decide +kernel⟩
theorem ok_Row {f C : Addr} {fd : FuncData} {c : Cs} (F : Fun K "__init__" "Row.__init__" s_Row_init f fd) (T : ClsF K C) (B : Bs mg) (G_first_call : DefOk P w K mg base 1 "first_call" ["ways"] (spFirst c)) (G_most_rounds : DefOk P w K mg base 1 "most_rounds" ["ways"] (spMost c)) : FnOk P w K mg base CX0 2 f fd ["self", "ways"] (spInitT K c C) := by
  have B_tuple := B.tuple
  refine F.ok sc_Row_init (fun vs H Q E h => by obtain ⟨_, _, _, _, _, _, rfl, _⟩ := h; rfl) (fun cdv A outer s H vs Q E hr h => ?_)
  obtain ⟨p, dx, q, xs, ws, H0, rfl, ⟨hp, h0, s0⟩, hq, hw, hl, k⟩ := h
  refine ⟨_, (pss_cons (ps_fld (pv 0) (pe_callTy call_tuple_of rfl B_tuple (by decide +kernel) (pa_cons (pv 1) pa_nil)) rfl)
  (pss_cons (ps_fld (pv 0) (pe_callD G_first_call (hr.mono (by first | decide | omega)) rfl (pa_cons (pe_fld (pv 0) rfl) pa_nil)) rfl)
  (pss_one (ps_fld (pv 0) (pe_callD G_most_rounds (hr.mono (by first | decide | omega)) rfl (pa_cons (pe_fld (pv 0) rfl) pa_nil)) rfl)))), ?_⟩
  have elen := ObjsAt.len _ _ hw
  have hq' := hq.imp (s0 _ _) (s0 _ _)
  refine ⟨_, rfl, q, xs, rfl, ?_⟩
  rcases hq' with hq' | hq'
  · refine .inl ⟨SqL.of hq', fun t ht0 => ?_⟩
    have npt : p ≠ t := ne_of_none hp ht0
    have s1 := s0.trans (Same.new ht0 (.tup xs))
    have ht : upd H t (.tup xs) t = some (.tup xs) := upd_same
    have hp1 : upd H t (.tup xs) p = some (.ins C dx []) := by rw [upd_ne npt]; exact hp
    generalize upd H t (.tup xs) = H1 at *
    refine ⟨_, rfl, p, C, dx, [], rfl, hp1, T.cl, T.nw, (by show 0 < 1000; decide), ?_⟩
    have s2 := Same.put h0 s1 (HO.ins C dx (putF (Str.ofString "ways") (.ref t) []))
    have g2 : upd H1 p (HO.ins C dx (putF (Str.ofString "ways") (.ref t) [])) p = some (HO.ins C dx (putF (Str.ofString "ways") (.ref t) [])) := upd_same
    have t2 : upd H1 p (HO.ins C dx (putF (Str.ofString "ways") (.ref t) [])) t = some (.tup xs) := by rw [upd_ne npt.symm]; exact ht
    generalize upd H1 p (HO.ins C dx (putF (Str.ofString "ways") (.ref t) [])) = H2 at *
    refine ⟨_, rfl, p, C, dx, _, _, rfl, g2, T.cl, T.nw, rfl, t, xs, ws, rfl, t2, ObjsAt.keep (stillS s2) _ _ hw, hl, fun H3 s3 => ?_⟩
    refine ⟨_, rfl, p, C, dx, _, rfl, s3 _ _ g2, T.cl, T.nc, (by show 1 < 1000; decide), ?_⟩
    generalize e4 : putF (Str.ofString "called") (fV (W.calleds ws)) (putF (Str.ofString "ways") (.ref t) []) = f4
    have s4 := Same.put h0 (s2.trans s3) (HO.ins C dx f4)
    have g4 : upd H3 p (HO.ins C dx f4) p = some (HO.ins C dx f4) := upd_same
    have t4 : upd H3 p (HO.ins C dx f4) t = some (.tup xs) := by rw [upd_ne npt.symm]; exact s3 _ _ t2
    generalize upd H3 p (HO.ins C dx f4) = H4 at *
    refine ⟨_, rfl, p, C, dx, _, _, rfl, g4, T.cl, T.nw, (by rw [← e4]; rfl), t, xs, ws, rfl, t4, ObjsAt.keep (stillS s4) _ _ hw, hl, fun H5 s5 => ?_⟩
    refine ⟨_, rfl, p, C, dx, _, rfl, s5 _ _ g4, T.cl, T.nr, (by rw [← e4]; show 2 < 1000; decide), ?_⟩
    refine k t _ (by rw [upd_ne npt.symm]; exact s5 _ _ t4) ?_ (Same.put h0 (s4.trans s5) _)
    rw [upd_same, ← e4]
    rfl
  · refine .inr ⟨SqT.of hq', ?_⟩
    have npt : p ≠ q := (ne_of hq' hp (by intro z; cases z)).symm
    have s1 := s0
    have ht := hq'
    have hp1 := hp
    refine ⟨_, rfl, p, C, dx, [], rfl, hp1, T.cl, T.nw, (by show 0 < 1000; decide), ?_⟩
    have s2 := Same.put h0 s1 (HO.ins C dx (putF (Str.ofString "ways") (.ref q) []))
    have g2 : upd H p (HO.ins C dx (putF (Str.ofString "ways") (.ref q) [])) p = some (HO.ins C dx (putF (Str.ofString "ways") (.ref q) [])) := upd_same
    have t2 : upd H p (HO.ins C dx (putF (Str.ofString "ways") (.ref q) [])) q = some (.tup xs) := by rw [upd_ne npt.symm]; exact ht
    generalize upd H p (HO.ins C dx (putF (Str.ofString "ways") (.ref q) [])) = H2 at *
    refine ⟨_, rfl, p, C, dx, _, _, rfl, g2, T.cl, T.nw, rfl, q, xs, ws, rfl, t2, ObjsAt.keep (stillS s2) _ _ hw, hl, fun H3 s3 => ?_⟩
    refine ⟨_, rfl, p, C, dx, _, rfl, s3 _ _ g2, T.cl, T.nc, (by show 1 < 1000; decide), ?_⟩
    generalize e4 : putF (Str.ofString "called") (fV (W.calleds ws)) (putF (Str.ofString "ways") (.ref q) []) = f4
    have s4 := Same.put h0 (s2.trans s3) (HO.ins C dx f4)
    have g4 : upd H3 p (HO.ins C dx f4) p = some (HO.ins C dx f4) := upd_same
    have t4 : upd H3 p (HO.ins C dx f4) q = some (.tup xs) := by rw [upd_ne npt.symm]; exact s3 _ _ t2
    generalize upd H3 p (HO.ins C dx f4) = H4 at *
    refine ⟨_, rfl, p, C, dx, _, _, rfl, g4, T.cl, T.nw, (by rw [← e4]; rfl), q, xs, ws, rfl, t4, ObjsAt.keep (stillS s4) _ _ hw, hl, fun H5 s5 => ?_⟩
    refine ⟨_, rfl, p, C, dx, _, rfl, s5 _ _ g4, T.cl, T.nr, (by rw [← e4]; show 2 < 1000; decide), ?_⟩
    refine k q _ (by rw [upd_ne npt.symm]; exact s5 _ _ t4) ?_ (Same.put h0 (s4.trans s5) _)
    rw [upd_same, ← e4]
    rfl
abbrev s_Choice_init : Stmt := inClass (top 25) 0
theorem sc_Choice_init : FnScope ["self", "ways"] ["self", "ways"] (defScope s_Choice_init) := ⟨rfl, rfl, rfl, by decide +kernel, rfl, by decide +kernel, by decide +kernel⟩
theorem ok_Choice {f C : Addr} {fd : FuncData} {c : Cs} (F : Fun K "__init__" "Choice.__init__" s_Choice_init f fd) (T : ClsF K C) (B : Bs mg) (G_first_call : DefOk P w K mg base 1 "first_call" ["ways"] (spFirst c)) (G_most_rounds : DefOk P w K mg base 1 "most_rounds" ["ways"] (spMost c)) : FnOk P w K mg base CX0 2 f fd ["self", "ways"] (spInitT K c C) := by
  have B_tuple := B.tuple
  refine F.ok sc_Choice_init (fun vs H Q E h => by obtain ⟨_, _, _, _, _, _, rfl, _⟩ := h; rfl) (fun cdv A outer s H vs Q E hr h => ?_)
  obtain ⟨p, dx, q, xs, ws, H0, rfl, ⟨hp, h0, s0⟩, hq, hw, hl, k⟩ := h
  refine ⟨_, (pss_cons (ps_fld (pv 0) (pe_callTy call_tuple_of rfl B_tuple (by decide +kernel) (pa_cons (pv 1) pa_nil)) rfl)
  (pss_cons (ps_fld (pv 0) (pe_callD G_first_call (hr.mono (by first | decide | omega)) rfl (pa_cons (pe_fld (pv 0) rfl) pa_nil)) rfl)
  (pss_one (ps_fld (pv 0) (pe_callD G_most_rounds (hr.mono (by first | decide | omega)) rfl (pa_cons (pe_fld (pv 0) rfl) pa_nil)) rfl)))), ?_⟩
  have elen := ObjsAt.len _ _ hw
  have hq' := hq.imp (s0 _ _) (s0 _ _)
  refine ⟨_, rfl, q, xs, rfl, ?_⟩
  rcases hq' with hq' | hq'
  · refine .inl ⟨SqL.of hq', fun t ht0 => ?_⟩
    have npt : p ≠ t := ne_of_none hp ht0
    have s1 := s0.trans (Same.new ht0 (.tup xs))
    have ht : upd H t (.tup xs) t = some (.tup xs) := upd_same
    have hp1 : upd H t (.tup xs) p = some (.ins C dx []) := by rw [upd_ne npt]; exact hp
    generalize upd H t (.tup xs) = H1 at *
    refine ⟨_, rfl, p, C, dx, [], rfl, hp1, T.cl, T.nw, (by show 0 < 1000; decide), ?_⟩
    have s2 := Same.put h0 s1 (HO.ins C dx (putF (Str.ofString "ways") (.ref t) []))
    have g2 : upd H1 p (HO.ins C dx (putF (Str.ofString "ways") (.ref t) [])) p = some (HO.ins C dx (putF (Str.ofString "ways") (.ref t) [])) := upd_same
    have t2 : upd H1 p (HO.ins C dx (putF (Str.ofString "ways") (.ref t) [])) t = some (.tup xs) := by rw [upd_ne npt.symm]; exact ht
    generalize upd H1 p (HO.ins C dx (putF (Str.ofString "ways") (.ref t) [])) = H2 at *
    refine ⟨_, rfl, p, C, dx, _, _, rfl, g2, T.cl, T.nw, rfl, t, xs, ws, rfl, t2, ObjsAt.keep (stillS s2) _ _ hw, hl, fun H3 s3 => ?_⟩
    refine ⟨_, rfl, p, C, dx, _, rfl, s3 _ _ g2, T.cl, T.nc, (by show 1 < 1000; decide), ?_⟩
    generalize e4 : putF (Str.ofString "called") (fV (W.calleds ws)) (putF (Str.ofString "ways") (.ref t) []) = f4
    have s4 := Same.put h0 (s2.trans s3) (HO.ins C dx f4)
    have g4 : upd H3 p (HO.ins C dx f4) p = some (HO.ins C dx f4) := upd_same
    have t4 : upd H3 p (HO.ins C dx f4) t = some (.tup xs) := by rw [upd_ne npt.symm]; exact s3 _ _ t2
    generalize upd H3 p (HO.ins C dx f4) = H4 at *
    refine ⟨_, rfl, p, C, dx, _, _, rfl, g4, T.cl, T.nw, (by rw [← e4]; rfl), t, xs, ws, rfl, t4, ObjsAt.keep (stillS s4) _ _ hw, hl, fun H5 s5 => ?_⟩
    refine ⟨_, rfl, p, C, dx, _, rfl, s5 _ _ g4, T.cl, T.nr, (by rw [← e4]; show 2 < 1000; decide), ?_⟩
    refine k t _ (by rw [upd_ne npt.symm]; exact s5 _ _ t4) ?_ (Same.put h0 (s4.trans s5) _)
    rw [upd_same, ← e4]
    rfl
  · refine .inr ⟨SqT.of hq', ?_⟩
    have npt : p ≠ q := (ne_of hq' hp (by intro z; cases z)).symm
    have s1 := s0
    have ht := hq'
    have hp1 := hp
    refine ⟨_, rfl, p, C, dx, [], rfl, hp1, T.cl, T.nw, (by show 0 < 1000; decide), ?_⟩
    have s2 := Same.put h0 s1 (HO.ins C dx (putF (Str.ofString "ways") (.ref q) []))
    have g2 : upd H p (HO.ins C dx (putF (Str.ofString "ways") (.ref q) [])) p = some (HO.ins C dx (putF (Str.ofString "ways") (.ref q) [])) := upd_same
    have t2 : upd H p (HO.ins C dx (putF (Str.ofString "ways") (.ref q) [])) q = some (.tup xs) := by rw [upd_ne npt.symm]; exact ht
    generalize upd H p (HO.ins C dx (putF (Str.ofString "ways") (.ref q) [])) = H2 at *
    refine ⟨_, rfl, p, C, dx, _, _, rfl, g2, T.cl, T.nw, rfl, q, xs, ws, rfl, t2, ObjsAt.keep (stillS s2) _ _ hw, hl, fun H3 s3 => ?_⟩
    refine ⟨_, rfl, p, C, dx, _, rfl, s3 _ _ g2, T.cl, T.nc, (by show 1 < 1000; decide), ?_⟩
    generalize e4 : putF (Str.ofString "called") (fV (W.calleds ws)) (putF (Str.ofString "ways") (.ref q) []) = f4
    have s4 := Same.put h0 (s2.trans s3) (HO.ins C dx f4)
    have g4 : upd H3 p (HO.ins C dx f4) p = some (HO.ins C dx f4) := upd_same
    have t4 : upd H3 p (HO.ins C dx f4) q = some (.tup xs) := by rw [upd_ne npt.symm]; exact s3 _ _ t2
    generalize upd H3 p (HO.ins C dx f4) = H4 at *
    refine ⟨_, rfl, p, C, dx, _, _, rfl, g4, T.cl, T.nw, (by rw [← e4]; rfl), q, xs, ws, rfl, t4, ObjsAt.keep (stillS s4) _ _ hw, hl, fun H5 s5 => ?_⟩
    refine ⟨_, rfl, p, C, dx, _, rfl, s5 _ _ g4, T.cl, T.nr, (by rw [← e4]; show 2 < 1000; decide), ?_⟩
    refine k q _ (by rw [upd_ne npt.symm]; exact s5 _ _ t4) ?_ (Same.put h0 (s4.trans s5) _)
    rw [upd_same, ← e4]
    rfl
end
end Wv
namespace Wv
open PySem PySem.Spec PyProof.Rows L2
/-! ### the law's inner, made, way -/
def spInner : Sp := fun vs H Q _ => ∃ (v : V) (w : W), vs = [v] ∧ WayAt H v w ∧ ∀ (q : Addr) (us : List V) (H' : Hp), Same H H' → H' q = some (.lst us) → WaysAt H' us w.inner → Q (.ref q) H'
def spMade (c : Cs) (s : Nat) : Sp := fun vs H Q _ => ∃ (v : V) (w : W), vs = [v] ∧ WayAt H v w ∧ w.size ≤ s ∧ w.size ≤ 1000 ∧ ∀ (u : V) (H' : Hp), Same H H' → ObjAt c H' u w → Q u H'
section
variable {P : Program} {w : World} {K : PySem.W.Frag} {mg : Str → Option Value} {base : Heap}
/-- the classes as they are made -/
structure Gs (P : Program) (w : World) (K : PySem.W.Frag) (mg : Str → Option Value) (base : Heap) (c : Cs) : Prop where
  lt : ClsOk P w K mg base 1 "Letter" c.lt ["self", "letter"] (spInitL c.lt)
  ca : ClsOk P w K mg base 1 "Call" c.ca ["self", "name"] (spInitC c.ca)
  ro : ClsOk P w K mg base 2 "Row" c.ro ["self", "ways"] (spInitT K c c.ro)
  ch : ClsOk P w K mg base 2 "Choice" c.ch ["self", "ways"] (spInitT K c c.ch)
  ag : ClsOk P w K mg base 1 "Again" c.ag ["self", "part"] (spInitA c c.ag)
  ma : ClsOk P w K mg base 1 "Maybe" c.ma ["self", "part"] (spInitP c c.ma)
  ah : ClsOk P w K mg base 1 "Ahead" c.ah ["self", "part"] (spInitP c c.ah)
  un : ClsOk P w K mg base 1 "Unless" c.un ["self", "part"] (spInitP c c.un)
  on : ClsOk P w K mg base 1 "One" c.on ["self"] (spInit0 c.on)
  no : ClsOk P w K mg base 1 "Nothing" c.no ["self"] (spInit0 c.no)
abbrev s_l_inner : Stmt := top 52
theorem sc_l_inner : FnScope ["_law_way_here"] ["_law_way_here"] (defScope s_l_inner) := ⟨rfl, rfl, rfl, by decide +kernel, rfl, by decide +kernel, by decide +kernel⟩
theorem d_l_inner (h : Here K mg "_law_inner" s_l_inner ["_law_way_here"]) : DefOk P w K mg base 1 "_law_inner" ["_law_way_here"] spInner := by
  refine h.ok sc_l_inner (fun vs H Q E h => by obtain ⟨p, v, rfl, _⟩ := h; rfl) (fun f cdv A outer s H vs Q E hr h => ?_)
  obtain ⟨v, w, rfl, hv, k⟩ := h
  refine ⟨_, (pss_cons (ps_if (pt_cmpR op_in_seq (pe_ix ix_tup (pv 0) pe_int (fun _ _ => rfl)) (pe_lst (pa_cons pe_str (pa_cons pe_str pa_nil))) (by rfl)) (pss_one (ps_ret (pe_ix ix_tup (pv 0) pe_int (fun _ _ => rfl)))) pss_nil)
  (pss_one (ps_ret (pe_ifExp (pt_cmpR op_in_seq (pe_ix ix_tup (pv 0) pe_int (fun _ _ => rfl)) (pe_lst (pa_cons pe_str (pa_cons pe_str (pa_cons pe_str (pa_cons pe_str pa_nil))))) (by rfl)) (pe_lst (pa_cons (pe_ix ix_tup (pv 0) pe_int (fun _ _ => rfl)) pa_nil)) (pe_lst pa_nil))))), ?_⟩
  obtain ⟨a, rest, rfl, ha⟩ := hv.head
  walk_at "rd"
  refine ⟨a, _, _, _, rfl, rfl, SqT.of ha, atI0, ?_⟩
  refine ⟨by show 2 ≤ sizeLine; decide, fun q hq => ?_⟩
  have s1 := Same.new hq (.lst [.str (Str.ofString "row"), .str (Str.ofString "choice")])
  refine ⟨q, _, rfl, .inl (SqL.of upd_same), rfl, by decide +kernel, ?_⟩
  rw [if_neg Bool.false_ne_true, in_rc]
  walk_at "rd"
  refine ite2 (fun e => ?_) (fun e => ?_)
  · have hv' := WayAt.keep (Keep.of s1) _ _ hv
    walk_at "rd"
    cases w <;> first | exact absurd e Bool.false_ne_true | skip
    all_goals
      obtain ⟨a', l, vs, e', h1, h2, h3⟩ := hv'
      cases e'
      refine ⟨a, _, _, _, rfl, rfl, SqT.of h1, atI1, ?_⟩
      exact k l vs _ s1 h2 h3
  · have hv' := WayAt.keep (Keep.of s1) _ _ hv
    walk_at "nx"
    walk_at "rd"
    refine ⟨a, _, _, _, rfl, rfl, SqT.of (s1 _ _ ha), atI0, ?_⟩
    refine ⟨by show 4 ≤ sizeLine; decide, fun q2 hq2 => ?_⟩
    have s2 := s1.trans (Same.new hq2 (.lst [.str (Str.ofString "again"), .str (Str.ofString "maybe"), .str (Str.ofString "ahead"), .str (Str.ofString "unless")]))
    refine ⟨q2, _, rfl, .inl (SqL.of upd_same), rfl, by decide +kernel, ?_⟩
    rw [if_neg Bool.false_ne_true, in_un]
    walk_at "rd"
    have hv2 := WayAt.keep (Keep.of s2) _ _ hv
    refine ite2 (fun e2 => ?_) (fun e2 => ?_)
    · cases w <;> first | exact absurd e2 Bool.false_ne_true | skip
      all_goals
        obtain ⟨a', u, e', h1, h2⟩ := hv2
        cases e'
        walk_at "rd"
        refine ⟨a, _, _, _, rfl, rfl, SqT.of h1, atI1, by show 1 ≤ sizeLine; decide, fun q3 hq3 => ?_⟩
        have s3 := Same.new hq3 (.lst [u])
        exact k q3 _ _ (s2.trans s3) upd_same ⟨u, [], rfl, WayAt.keep (Keep.of s3) _ _ h2, rfl⟩
    · refine ⟨Nat.zero_le _, fun q3 hq3 => ?_⟩
      have s3 := Same.new hq3 (.lst [])
      cases w <;> first | exact absurd rfl e2 | exact absurd rfl e | exact k q3 _ _ (s2.trans s3) upd_same rfl
abbrev s_l_made : Stmt := top 53
theorem sc_l_made : FnScope ["_law_way_here", "_law_ways", "_law_one"] ["_law_way_here"] (defScope s_l_made) := ⟨rfl, rfl, rfl, by decide +kernel, rfl, by decide +kernel, by decide +kernel⟩
theorem none_made (c : Cs) {f : Addr} {fd : FuncData} : FnOk P w K mg base CX0 3 f fd ["_law_way_here"] (spMade c 0) := by
  have no : ∀ vs H Q E, ¬ spMade c 0 vs H Q E := fun vs H Q E h => by
    obtain ⟨v, w, _, _, h1, _⟩ := h
    have := w.size_pos
    omega
  exact ⟨fun vs H Q E h => absurd h (no vs H Q E), fun A outer s H args us vs Q E _ _ _ _ h => absurd h (no vs H Q E)⟩
theorem step_l_made (c : Cs) (s : Nat) (h : Here K mg "_law_made" s_l_made ["_law_way_here"]) (g : Gs P w K mg base c) (G_l_inner : DefOk P w K mg base 1 "_law_inner" ["_law_way_here"] spInner) (G_l_made : DefOk P w K mg base (3 + s) "_law_made" ["_law_way_here"] (spMade c s)) :
    DefOk P w K mg base (3 + s + 1) "_law_made" ["_law_way_here"] (spMade c (s + 1)) := by
  have G_Letter := g.lt; have G_Call := g.ca; have G_Row := g.ro; have G_Choice := g.ch; have G_Again := g.ag; have G_Maybe := g.ma; have G_Ahead := g.ah; have G_Unless := g.un
  have G_One := g.on; have G_Nothing := g.no
  refine h.ok sc_l_made (fun vs H Q E h => by obtain ⟨p, v, rfl, _⟩ := h; rfl) (fun f cdv A outer s' H vs Q E hr h => ?_)
  obtain ⟨v, w, rfl, hv, hs, hs2, k⟩ := h
  refine ⟨_, (pss_cons (ps_if (pt_cmpR op_in_seq (pe_ix ix_tup (pv 0) pe_int (fun _ _ => rfl)) (pe_lst (pa_cons pe_str (pa_cons pe_str pa_nil))) (by rfl)) (pss_one (ps_ret (pe_ifExp (pt_cmpR op_eq (pe_ix ix_tup (pv 0) pe_int (fun _ _ => rfl)) pe_str (nomark _)) (pe_makeD G_Letter (hr.mono (by first | decide | omega)) rfl (pa_cons (pe_ix ix_tup (pv 0) pe_int (fun _ _ => rfl)) pa_nil)) (pe_makeD G_Call (hr.mono (by first | decide | omega)) rfl (pa_cons (pe_ix ix_tup (pv 0) pe_int (fun _ _ => rfl)) pa_nil))))) pss_nil)
  (pss_cons (ps_if (pt_cmpR op_in_seq (pe_ix ix_tup (pv 0) pe_int (fun _ _ => rfl)) (pe_lst (pa_cons pe_str (pa_cons pe_str pa_nil))) (by rfl)) (pss_one (ps_ret (pe_ifExp (pt_cmpR op_eq (pe_ix ix_tup (pv 0) pe_int (fun _ _ => rfl)) pe_str (nomark _)) (pe_makeD0 G_One (hr.mono (by first | decide | omega)) rfl) (pe_makeD0 G_Nothing (hr.mono (by first | decide | omega)) rfl)))) pss_nil)
  (pss_cons (ps_setLc (i := 1) (own := [("_law_one", 2)]) (g := (gName 2)) (tt := tYes) rfl sc_l_made.nd rfl rfl (sw_true rfl rfl rfl (by decide +kernel)) (pi_list (pe_callD G_l_inner (hr.mono (by first | decide | omega)) rfl (pa_cons (pv 0) pa_nil))) (blkOk_by (own := [("_law_one", 2)]) (N := ["_law_way_here", "_law_ways", "_law_one"]) (sc := defScope s_l_made) (by decide +kernel)) (fun _ _ _ _ _ => pg_name (i := 2) sc_l_made.nd rfl (Or.inl rfl)) (fun _ _ _ _ _ => pts_nil) (fun _ _ _ _ _ => (pe_callD G_l_made (hr.mono (by first | decide | omega)) rfl (pa_cons (pv 2) pa_nil))))
  (pss_cons (ps_if (pt_cmpR op_in_seq (pe_ix ix_tup (pv 0) pe_int (fun _ _ => rfl)) (pe_lst (pa_cons pe_str (pa_cons pe_str pa_nil))) (by rfl)) (pss_one (ps_ret (pe_ifExp (pt_cmpR op_eq (pe_ix ix_tup (pv 0) pe_int (fun _ _ => rfl)) pe_str (nomark _)) (pe_makeD G_Row (hr.mono (by first | decide | omega)) rfl (pa_cons (pv 1) pa_nil)) (pe_makeD G_Choice (hr.mono (by first | decide | omega)) rfl (pa_cons (pv 1) pa_nil))))) pss_nil)
  (pss_cons (ps_if (pt_cmpR op_in_seq (pe_ix ix_tup (pv 0) pe_int (fun _ _ => rfl)) (pe_lst (pa_cons pe_str (pa_cons pe_str pa_nil))) (by rfl)) (pss_one (ps_ret (pe_ifExp (pt_cmpR op_eq (pe_ix ix_tup (pv 0) pe_int (fun _ _ => rfl)) pe_str (nomark _)) (pe_makeD G_Again (hr.mono (by first | decide | omega)) rfl (pa_cons (pe_ix ix_list (pv 1) pe_int (fun _ _ => rfl)) pa_nil)) (pe_makeD G_Maybe (hr.mono (by first | decide | omega)) rfl (pa_cons (pe_ix ix_list (pv 1) pe_int (fun _ _ => rfl)) pa_nil))))) pss_nil)
  (pss_one (ps_ret (pe_ifExp (pt_cmpR op_eq (pe_ix ix_tup (pv 0) pe_int (fun _ _ => rfl)) pe_str (nomark _)) (pe_makeD G_Ahead (hr.mono (by first | decide | omega)) rfl (pa_cons (pe_ix ix_list (pv 1) pe_int (fun _ _ => rfl)) pa_nil)) (pe_makeD G_Unless (hr.mono (by first | decide | omega)) rfl (pa_cons (pe_ix ix_list (pv 1) pe_int (fun _ _ => rfl)) pa_nil)))))))))), ?_⟩
  obtain ⟨a, rest, rfl, ha⟩ := hv.head
  walk_at "rd"
  refine ⟨a, _, _, _, rfl, rfl, SqT.of ha, atI0, ?_⟩
  refine ⟨by show 2 ≤ sizeLine; decide, fun q hq => ?_⟩
  have s1 := Same.new hq (.lst [.str (Str.ofString "letter"), .str (Str.ofString "call")])
  refine ⟨q, _, rfl, .inl (SqL.of upd_same), rfl, by decide +kernel, ?_⟩
  rw [if_neg Bool.false_ne_true, in_lc]
  walk_at "rd"
  refine ite2 (fun e => ?_) (fun e => ?_)
  · have hv' := WayAt.keep (Keep.of s1) _ _ hv
    walk_at "rd"
    refine ⟨a, _, _, _, rfl, rfl, SqT.of (s1 _ _ ha), atI0, rfl, _, rfl, ?_⟩
    rw [eq_letter]
    cases w <;> first | exact absurd e Bool.false_ne_true | skip
    · obtain ⟨a', e', h1⟩ := hv'
      cases e'
      refine iteT ?_
      walk_at "rd"
      refine ⟨a, _, _, _, rfl, rfl, SqT.of h1, atI1, makeL fun x dx H' s2 h => ?_⟩
      exact k _ H' (s1.trans s2) ⟨x, dx, rfl, h⟩
    · obtain ⟨a', e', h1⟩ := hv'
      cases e'
      refine iteF ?_
      walk_at "rd"
      refine ⟨a, _, _, _, rfl, rfl, SqT.of h1, atI1, makeC fun x dx H' s2 h => ?_⟩
      exact k _ H' (s1.trans s2) ⟨x, dx, rfl, h⟩
  · walk_at "nx"
    walk_at "rd"
    refine ⟨a, _, _, _, rfl, rfl, SqT.of (s1 _ _ ha), atI0, ?_⟩
    refine ⟨by show 2 ≤ sizeLine; decide, fun q2 hq2 => ?_⟩
    have s2 := s1.trans (Same.new hq2 (.lst [.str (Str.ofString "one"), .str (Str.ofString "nothing")]))
    refine ⟨q2, _, rfl, .inl (SqL.of upd_same), rfl, by decide +kernel, ?_⟩
    rw [if_neg Bool.false_ne_true, in_on]
    walk_at "rd"
    refine ite2 (fun e2 => ?_) (fun e2 => ?_)
    · walk_at "rd"
      refine ⟨a, _, _, _, rfl, rfl, SqT.of (s2 _ _ ha), atI0, rfl, _, rfl, ?_⟩
      rw [eq_one]
      cases w <;> first | exact absurd e2 Bool.false_ne_true | skip
      · exact iteF (make0 fun x dx H' s3 h => k _ H' (s2.trans s3) ⟨x, dx, rfl, h⟩)
      · exact iteT (make0 fun x dx H' s3 h => k _ H' (s2.trans s3) ⟨x, dx, rfl, h⟩)
    · walk_at "nx"
      refine ⟨_, rfl, .ref a, w, rfl, WayAt.keep (Keep.of s2) _ _ hv, fun qi us Hi si hqi hus => ?_⟩
      have s3 := s2.trans si
      refine ⟨qi, rfl, ⟨us, SqL.of hqi⟩, fun D hD => ?_⟩
      have elen := WaysAt.len _ _ hus
      refine lc_list (K := K) (a := qi) (xs := us) (fun i H' => ∃ os, H' D = some (.lst os) ∧ os.length = i ∧ Same Hi H' ∧ ObjsAt c H' os (w.inner.take i)) ?_ ?_ ?_ ?_
      · exact ⟨[], upd_same, rfl, Same.new hD _, rfl⟩
      · rintro i H' _ ⟨os, _, _, s4, _⟩
        exact SqL.of (s4 _ _ hqi)
      · rintro i x H' hx ⟨os, hD', hlo, s4, hos⟩
        have hi : i < us.length := (List.getElem?_eq_some_iff.mp hx).1
        obtain ⟨wi, hwi⟩ : ∃ wi, w.inner[i]? = some wi := ⟨w.inner[i]'(by omega), List.getElem?_eq_getElem (by omega)⟩
        obtain ⟨x', hx', hxw⟩ := WaysAt.at_ _ _ _ _ hus hwi
        have ex : x = x' := Option.some.inj (hx.symm.trans hx')
        subst ex
        have hsz := W.size_mem hwi
        have hsi := w.size_inner
        refine ⟨rfl, _, rfl, x, wi, rfl, WayAt.keep (Keep.of s4) _ _ hxw, by omega, by omega, fun u H2 s5 hu => ?_⟩
        have hl := W.sizes_len w.inner
        refine ⟨os, s5 _ _ hD', small' (by omega), os ++ [u], upd_same, by rw [List.length_append, hlo]; rfl, Same.put hD (s4.trans s5) _, ?_⟩
        rw [take_more' hwi]
        have st : Still H2 (upd H2 D (.lst (os ++ [u]))) := Still.put (s5 _ _ hD')
        exact ObjsAt.app _ _ (ObjsAt.keep ((stillS s5).trans st) _ _ hos) ⟨u, [], rfl, ObjAt.keep st _ _ hu, rfl⟩
      · rintro H5 ⟨os, hD', hlo, s4, hos⟩
        rw [elen, List.take_length] at hos
        have hwl : w.inner.length ≤ 1000000 := by have := W.sizes_len w.inner; have := w.size_inner; omega
        have s5 := s3.trans s4
        have ha5 := s5 _ _ ha
        walk_at "nx"
        walk_at "rd"
        refine ⟨a, _, _, _, rfl, rfl, SqT.of ha5, atI0, ?_⟩
        refine ⟨by show 2 ≤ sizeLine; decide, fun q3 hq3 => ?_⟩
        have s6 := Same.new hq3 (.lst [.str (Str.ofString "row"), .str (Str.ofString "choice")])
        refine ⟨q3, _, rfl, .inl (SqL.of upd_same), rfl, by decide +kernel, ?_⟩
        rw [if_neg Bool.false_ne_true, in_rc]
        walk_at "rd"
        refine ite2 (fun e3 => ?_) (fun e3 => ?_)
        · walk_at "rd"
          refine ⟨a, _, _, _, rfl, rfl, SqT.of (s6 _ _ ha5), atI0, rfl, _, rfl, ?_⟩
          rw [eq_row]
          cases w <;> first | exact absurd e3 Bool.false_ne_true | skip
          · refine iteT ⟨_, rfl, makeT (.inl (s6 _ _ hD')) (ObjsAt.keep (stillS s6) _ _ hos) (by exact hwl) fun x dx t H' s7 ht h => ?_⟩
            exact k _ H' ((s5.trans s6).trans s7) ⟨x, dx, t, os, rfl, h, ht, ObjsAt.keep (stillS (s6.trans s7)) _ _ hos⟩
          · refine iteF ⟨_, rfl, makeT (.inl (s6 _ _ hD')) (ObjsAt.keep (stillS s6) _ _ hos) (by exact hwl) fun x dx t H' s7 ht h => ?_⟩
            exact k _ H' ((s5.trans s6).trans s7) ⟨x, dx, t, os, rfl, h, ht, ObjsAt.keep (stillS (s6.trans s7)) _ _ hos⟩
        · walk_at "nx"
          walk_at "rd"
          refine ⟨a, _, _, _, rfl, rfl, SqT.of (s6 _ _ ha5), atI0, ?_⟩
          refine ⟨by show 2 ≤ sizeLine; decide, fun q4 hq4 => ?_⟩
          have s7 := s6.trans (Same.new hq4 (.lst [.str (Str.ofString "again"), .str (Str.ofString "maybe")]))
          refine ⟨q4, _, rfl, .inl (SqL.of upd_same), rfl, by decide +kernel, ?_⟩
          rw [if_neg Bool.false_ne_true, in_am]
          walk_at "rd"
          refine ite2 (fun e4 => ?_) (fun e4 => ?_)
          · walk_at "rd"
            refine ⟨a, _, _, _, rfl, rfl, SqT.of (s7 _ _ ha5), atI0, rfl, _, rfl, ?_⟩
            rw [eq_again]
            cases w <;> first | exact absurd e4 Bool.false_ne_true | skip
            · obtain ⟨u, us', rfl, hu, hn⟩ := hos
              refine iteT ⟨_, rfl, D, _, _, _, rfl, rfl, SqL.of (s7 _ _ hD'), atI0, makeA (ObjAt.keep (stillS s7) _ _ hu) fun x dx mk H' s8 h => ?_⟩
              exact k _ H' ((s5.trans s7).trans s8) ⟨x, dx, u, mk, rfl, h, ObjAt.keep (stillS (s7.trans s8)) _ _ hu⟩
            · obtain ⟨u, us', rfl, hu, hn⟩ := hos
              refine iteF ⟨_, rfl, D, _, _, _, rfl, rfl, SqL.of (s7 _ _ hD'), atI0, makeP (ObjAt.keep (stillS s7) _ _ hu) fun x dx H' s8 h => ?_⟩
              exact k _ H' ((s5.trans s7).trans s8) ⟨x, dx, u, .non, rfl, h, ObjAt.keep (stillS (s7.trans s8)) _ _ hu⟩
          · walk_at "nx"
            walk_at "rd"
            refine ⟨a, _, _, _, rfl, rfl, SqT.of (s7 _ _ ha5), atI0, rfl, _, rfl, ?_⟩
            rw [eq_ahead]
            cases w <;> first | exact absurd rfl e | exact absurd rfl e2 | exact absurd rfl e3 | exact absurd rfl e4 | skip
            · obtain ⟨u, us', rfl, hu, hn⟩ := hos
              refine iteT ⟨_, rfl, D, _, _, _, rfl, rfl, SqL.of (s7 _ _ hD'), atI0, makeP (ObjAt.keep (stillS s7) _ _ hu) fun x dx H' s8 h => ?_⟩
              exact k _ H' ((s5.trans s7).trans s8) ⟨x, dx, u, .non, rfl, h, ObjAt.keep (stillS (s7.trans s8)) _ _ hu⟩
            · obtain ⟨u, us', rfl, hu, hn⟩ := hos
              refine iteF ⟨_, rfl, D, _, _, _, rfl, rfl, SqL.of (s7 _ _ hD'), atI0, makeP (ObjAt.keep (stillS s7) _ _ hu) fun x dx H' s8 h => ?_⟩
              exact k _ H' ((s5.trans s7).trans s8) ⟨x, dx, u, .non, rfl, h, ObjAt.keep (stillS (s7.trans s8)) _ _ hu⟩
theorem d_l_made (c : Cs) (h : Here K mg "_law_made" s_l_made ["_law_way_here"]) (g : Gs P w K mg base c) (G_l_inner : DefOk P w K mg base 1 "_law_inner" ["_law_way_here"] spInner) : ∀ s, DefOk P w K mg base (3 + s) "_law_made" ["_law_way_here"] (spMade c s)
  | 0 => by
    obtain ⟨f, fd, F, m, b⟩ := h.ex
    exact ⟨f, fd, m, F.kp, b, none_made c⟩
  | s + 1 => step_l_made c s h g G_l_inner (d_l_made c h g G_l_inner s)
abbrev s_l_way : Stmt := top 50
theorem sc_l_way : FnScope ["_law_pen_here", "_law_signs_here", "_law_most", "_law_size"] ["_law_pen_here", "_law_signs_here", "_law_most"] (defScope s_l_way) := ⟨rfl, rfl, rfl, by decide +kernel, rfl, by decide +kernel, by decide +kernel⟩
theorem d_l_way (h : Here K mg "_law_way" s_l_way ["_law_pen_here", "_law_signs_here", "_law_most"]) (G_l_draw : DefOk P w K mg base 1 "_law_draw" ["_law_pen_here", "_law_many"] (spDraw K)) (G_l_way_of : DefOk P w K mg base (3 + 30) "_law_way_of" ["_law_pen_here", "_law_signs_here", "_law_size"] (spWayOf K 30)) :
    DefOk P w K mg base 34 "_law_way" ["_law_pen_here", "_law_signs_here", "_law_most"] (spWay K) := by
  refine h.ok sc_l_way (fun vs H Q E h => by obtain ⟨p, v, m, n, rfl, _⟩ := h; rfl) (fun f cdv A outer s' H vs Q E hr h => ?_)
  obtain ⟨p, z, m, n, rfl, hP, hn, hz0, hz1, hz, hm0, hm1, k⟩ := h
  refine ⟨_, (pss_cons (ps_set (i := 3) sc_l_way.nd rfl (Or.inl rfl) (pe_op op_add pe_int (pe_callD G_l_draw (hr.mono (by first | decide | omega)) rfl (pa_cons (pv 0) (pa_cons (pv 2) pa_nil)))))
  (pss_one (ps_ret (pe_callD G_l_way_of (hr.mono (by first | decide | omega)) rfl (pa_cons (pv 0) (pa_cons (pv 1) (pa_cons (pv 3) pa_nil))))))), ?_⟩
  refine ⟨_, rfl, _, rfl, p, m, n, rfl, hP, by omega, by omega, by omega, fun d H1 d0 d1 k1 hP1 => ?_⟩
  walk_at "rd"
  have e1 : (1 + d) = ((d.toNat + 1 : Nat) : Int) := by omega
  refine ⟨p, z, d.toNat + 1, n + 1, by rw [← e1]; rfl, hP1, by omega, hz0, hz1, hz, by omega, by omega, by omega, fun v w H2 hs hw hv k2 hP2 => ?_⟩
  exact k v w H2 (by omega) hw (WayAt.keep (newer_down k1) _ _ hv) (k1.trans k2) (hP2.mono (by omega))
end
end Wv
/-! Rules of my own: t[::-1] of a tuple, xs.extend(t) of a tuple, constants of the module. -/
namespace Wv
open PySem PySem.Spec PyProof.Rows L2 HT
section
variable {prog : Program} {w : World} {A : Around} {E : Value → Shared → Prop} {s : Shared}
theorem adj_back (n : Nat) : Builtin.Slice.sliceAdjust none none (-1) (n : Int) = ((n : Int) - 1, -1) := by
  unfold Builtin.Slice.sliceAdjust
  simp
theorem places_back (n : Nat) : Builtin.Slice.slicePlaces ((n : Int) - 1) (-1) (-1) = n := by
  unfold Builtin.Slice.slicePlaces
  simp
  omega
theorem applied_back {sl : Addr} {n : Nat} {t : Tok} {Q : Int × Int × Nat → Shared → Prop} (hs : s.heap.IsSliceOf sl .none .none (.int (-1) t)) (h : Q ((n : Int) - 1, -1, n) s) :
    wpAny (model prog w) A (Builtin.Slice.sliceApplied (.ref sl) (pure (n : Int))) Q E s := by
  obtain ⟨os, hos, hcs, hds⟩ := id hs
  unfold Builtin.Slice.sliceApplied Builtin.Slice.sliceFields
  refine wpAny_bind (wpAny_bind (wpAny_field hos hds (x := Value.none) rfl (wpAny_bind (wpAny_field hos hds (x := Value.none) rfl (wpAny_bind (wpAny_field hos hds (x := Value.int (-1) t) rfl (wpAny_pure ?_)))))))
  refine wpAny_bind (slicePart_int ?_)
  show wpAny _ _ (if ((-1 : Int) == 0) = true then _ else _) _ _ s
  rw [if_neg (by decide)]
  refine wpAny_bind (slicePart_none (wpAny_bind (slicePart_none (wpAny_bind (wpAny_pure ?_)))))
  show wpAny _ _ (match Builtin.Slice.sliceAdjust none none (-1) (n : Int) with | (lo, hi) => pure (lo, (-1 : Int), Builtin.Slice.slicePlaces lo hi (-1))) _ _ s
  rw [adj_back n]
  show wpAny _ _ (pure ((n : Int) - 1, (-1 : Int), Builtin.Slice.slicePlaces ((n : Int) - 1) (-1) (-1))) _ _ s
  rw [places_back]
  exact wpAny_pure h
theorem pick_back (xs : Array Value) : ((List.range xs.size).filterMap fun (m : Nat) => xs[(((xs.size : Int) - 1) + (m : Int) * (-1)).toNat]?).toArray = xs.toList.reverse.toArray := by
  have e : (fun (m : Nat) => xs[(((xs.size : Int) - 1) + (m : Int) * (-1)).toNat]?) = (fun i => xs[i]?) ∘ fun m => xs.size - 1 - m := by
    funext m
    have : (((xs.size : Int) - 1) + (m : Int) * (-1)).toNat = xs.size - 1 - m := by omega
    rw [this]
    rfl
  rw [e, ← List.filterMap_map, PySem.W.krv_range, List.filterMap_reverse, PySem.W.krv_all]
theorem getItem_tuple_back {t sl : Addr} {items : Array Value} {tk : Tok} {Q : Value → Shared → Prop} (ht : IsTup s.heap t items) (hs : s.heap.IsSliceOf sl .none .none (.int (-1) tk))
    (h : Q (.ref s.heap.objs.size) { s with heap := s.heap.push { cls := .type "tuple", data := .seq items.toList.reverse.toArray } }) (hsz : items.size ≤ sizeLine) : wpAny (model prog w) A (getItem (.ref t) (.ref sl)) Q E s := by
  have htake : sizeOk (.seq items.toList.reverse.toArray) := by
    show items.toList.reverse.toArray.size ≤ sizeLine
    rw [List.size_toArray, List.length_reverse, Array.length_toList]
    exact hsz
  obtain ⟨os, hos, hcs, _⟩ := id hs
  have isSl : s.TypeIs (.ref sl) "slice" := ⟨os, hos, hcs⟩
  unfold getItem
  try with_reducible refine wpAny_holding ?_
  first | refine wpAny_bind (wpAny_pure ?_) | skip
  refine wpAny_bind (wpAny_sequenceKey ht.typeIs (by decide) ?_)
  refine wpAny_bind (wpAny_callSpecial?_slot (name := Str.ofString "__getitem__") ht.typeIs slot_tuple_getitem (wpAny_call_entry slot_tuple_getitem ht.typeIs entry_tuple_getitem ?_ (args_tuple_getitem _ _)))
  show wpAny _ _ (Builtin.Tuple.tupleItemsOf (.ref t) >>= _) _ _ s
  refine wpAny_bind (tupleItemsOf_ ht (wpAny_bind (wpAny_typeOf isSl ?_)))
  rw [if_pos (by decide)]
  refine wpAny_bind (applied_back hs ?_)
  show wpAny _ _ (if (((items.size : Int) - 1) == 0 && (-1 : Int) == 1 && items.size == items.size) = true then _ else _) _ _ s
  rw [if_neg (by simp), pick_back]
  first
    | exact wpAny_bind (m := Builtin.Tuple.tupleExact _) (wpAny_newObj_type (wpAny_pure ⟨_, rfl, wpAny_pure h⟩) htake)
    | exact wpAny_bind (wpAny_bind (m := Builtin.Tuple.tupleExact _) (wpAny_newObj_type (wpAny_pure (wpAny_pure ⟨_, rfl, wpAny_pure h⟩)) htake))
    | exact wpAny_bind (wpAny_bind (m := Builtin.Tuple.tupleExact _) (wpAny_newObj_type (wpAny_pure ⟨_, rfl, wpAny_pure h⟩) htake))
    | exact wpAny_bind (m := Builtin.Tuple.tupleExact _) (wpAny_newObj_type (wpAny_bind (wpAny_pure (wpAny_pure ⟨_, rfl, wpAny_pure h⟩))) htake)
end
/-! ### t[::-1] -/
def tRevT (K : PySem.W.Frag) (te : TE) : TE := fun σ H Q => te σ H fun x H1 => ∃ a xs, x = .ref a ∧ SqT K H1 a xs ∧ ∀ p, H1 p = none → Q (.ref p) (upd H1 p (.tup xs.reverse))
section
variable {X : Cx}
theorem pe_revT {e : Expr} {te : TE} {k : Nat} {p1 p2 p3 pos : Pos} (he : PE X e te) : PE X (.Subscript e (.Slice none none (some (.UnaryOp .USub (.Constant (.int 1) k p1) p2)) p3) pos) (tRevT X.K te) := by
  refine ⟨fun pins s σ H Q I h => ?_⟩
  refine Subscript_ (thn (he.run pins s σ H _ I h) fun v s1 ⟨x, H1, I1, r1, q1⟩ => ?_)
  obtain ⟨a, xs, ex, hx, q⟩ := q1
  subst ex
  cases r1
  have hst : PO X (some (.UnaryOp .USub (.Constant (.int 1) k p1) p2)) (tPart (tUn (rU fun i => .int (-i)) (tC (.int 1)))) := po_some (pe_un un_neg pe_int)
  refine wpAny_Slice (thn (po_none.run pins s1 σ H1 (fun o H2 => o = none ∧ H2 = H1) I1 ⟨rfl, rfl⟩) fun vl s2 ⟨l, H2, I2, pl, el, e2⟩ => ?_)
  subst el e2
  refine thn (po_none.run pins s2 σ H2 (fun o H3 => o = none ∧ H3 = H2) I2 ⟨rfl, rfl⟩) fun vu s3 ⟨u, H3, I3, pu, eu, e3⟩ => ?_
  subst eu e3
  refine thn (hst.run pins s3 σ H3 (fun o H4 => o = some (-1) ∧ H4 = H3) I3 ⟨1, rfl, -1, rfl, rfl, rfl⟩) fun vs s4 ⟨o, H4, I4, ps, eo, e4⟩ => ?_
  subst eo e4
  cases pl
  cases pu
  generalize hv : (-1 : Int) = mi at ps
  cases ps with
  | int i tk =>
    subst hv
    have I5 : Inv X pins σ H4 { s4 with heap := s4.heap.push { cls := .type "slice", data := .fields #[.none, .none, .int (-1) tk] } } := I4.kept (t' := s4.toks) fun b ob q => Heap.get?_push_of_some _ q
    obtain ⟨its, r, ht, hz⟩ := I5.tuple hx
    have hlen := r.length
    show wpAny (model X.prog X.w) X.A (subscriptTail e (.Slice none none (some (.UnaryOp .USub (.Constant (.int 1) k p1) p2)) p3) (.ref a) (.ref s4.heap.objs.size)) (EP X pins σ Q) X.xe { s4 with heap := s4.heap.push { cls := .type "slice", data := .fields #[.none, .none, .int (-1) tk] } }
    refine tail_any (ops := [.ref a, .ref s4.heap.objs.size]) ht.typeIs (PyProof.Rows.slot_tuple_getitem.lookup) ?_ (by with_unfolding_all rfl)
    refine getItem_tuple_back ht (Heap.IsSliceOf.new _ .none .none (.int (-1) tk)) ?_ (by rw [List.size_toArray]; omega)
    refine ⟨.ref _, _, I5.laid (t' := s4.toks) (o := .tup xs.reverse) (fun b ob q => Heap.get?_push_of_some _ q) (Nat.le_refl _) ?_, rfl, q _ (I5.hok.fresh (Nat.le_refl _))⟩
    exact ⟨by rw [List.length_reverse]; exact hz, _, r.reverse, IsTup.new _ _⟩
/-! ### xs.extend(t), t a tuple -/
theorem ext_tup (l : Addr) (items : Array Value) (n : Nat) (b : Addr) (items2 : Array Value) (n2 : Nat) (dd : Option Addr) (sl : Array (Option Value)) (hs0 : ¬(!items.isEmpty && Builtin.List.listTooLong (items.size + items2.size)) = true) (hs1 : items.size ≤ sizeLine) (hs2 : items.size + items2.size ≤ sizeLine + 1) :
    Meets (Builtin.«list.extend» ⟨[.ref l, .ref b], []⟩) (fun _ R s => s.heap.get? l = some { cls := .type "list", dict := none, data := .seq items n, slots := #[] } ∧ s.heap.get? b = some { cls := .type "tuple", dict := dd, data := .seq items2 n2, slots := sl } ∧
      R (.ok (.ret Value.none)) { s with heap := s.heap.update l (Obj.mapSeq fun x => x ++ items2), toks := s.toks }) :=
  .of_wp fun prog w A R s h => by
    obtain ⟨hp, g, d, tk, os⟩ := s
    obtain ⟨hl, hb, h⟩ := h
    have f1 := AutoSeq1.idx_int; have f2 := AutoSeq1.sub_tuple_tuple; have f3 := AutoSeq1.sub_list_list; have f4 := AutoSeq1.sub_tuple_list; have f5 := AutoSeq1.sub_list_tuple
    have hz' : (items ++ items2).size ≤ sizeLine + 1 := by rw [Array.size_append]; omega
    wp_walk using (wpAny_updateSeq hl rfl (hz := hs1) (_hz' := hz')), wpAny_loadPart' hl, wpAny_loadPart' hb
    exact ⟨_, rfl, h⟩
def rExtT (K : PySem.W.Frag) : V → List V → Hp → VK → Prop := fun x vs H Q => ∃ l b xs zs, x = .ref l ∧ vs = [.ref b] ∧ H l = some (.lst xs) ∧ SqT K H b zs ∧ xs.length + zs.length ≤ sizeLine ∧ Q .non (upd H l (.lst (xs ++ zs)))
theorem mt_extendT : MtR X "list.extend" (rExtT X.K) := by
  intro pins s σ H x vs v us Q I rx rv h
  obtain ⟨l, b, xs, zs, rfl, rfl, hH, hB, hz, q⟩ := h
  cases rx
  obtain ⟨u, rfl, ru⟩ := rv.one
  cases ru
  obtain ⟨z, its, n, r, hl, e⟩ := I.lstM hH
  obtain ⟨its2, r2, ht2, hl2⟩ := I.tuple hB
  obtain ⟨⟨cls2, dd2, data2, sl2⟩, e2, hc2, n2, hd2⟩ := id ht2
  simp only at hc2 hd2
  subst hc2 hd2
  have hsz : its.toArray.size + its2.toArray.size ≤ sizeLine := by rw [List.size_toArray, List.size_toArray, ← r.length, ← r2.length]; exact hz
  have hlong : ¬ (!its.toArray.isEmpty && Builtin.List.listTooLong (its.toArray.size + its2.toArray.size)) = true := by
    rw [notLongL hsz, Bool.and_false]
    exact Bool.false_ne_true
  refine call_meets PySem.F.slot_list_extend ⟨_, e, rfl⟩ PySem.F.entry_list_extend (PySem.F.args_list_extend_2 _ _) (ext_tup l its.toArray n b its2.toArray n2 dd2 sl2 hlong (by omega) (by omega)) ⟨e, e2, ?_⟩
  refine ⟨.non, _, I.lset (its' := its ++ its2) hH e (by simp) (r.append r2) ?_, rfl, q⟩
  rw [List.length_append]
  exact hz
/-! ### a constant of the module -/
theorem pe_globI {x : Str} {i : Int} {pos : Pos} (hg : Gl X x) (hm : ∃ t, X.mg x = some (.int i t)) (hd : (x == ("__debug__" : Str)) = false := by decide) : PE X (.Name x pos) (tC (.int i)) := by
  obtain ⟨t, e⟩ := hm
  exact pe_glob hg e ⟨t, rfl⟩ hd
/-- a class of the module as a value -/
theorem pe_globC {x : Str} {C : Addr} {pos : Pos} (hg : Gl X x) (hm : X.mg x = some (.ref C)) (hd : (x == ("__debug__" : Str)) = false := by decide) : PE X (.Name x pos) (tC (.ref C)) := pe_glob hg hm rfl hd
/-- t + u, also of empty ones -/
def rCatA (K : PySem.W.Frag) : R2 := fun x y H Q => ∃ a b xs ys, x = .ref a ∧ y = .ref b ∧ SqT K H a xs ∧ SqT K H b ys ∧ xs.length + ys.length ≤ sizeLine ∧
  (xs = [] → Q (.ref b) H) ∧ (xs ≠ [] → ys = [] → Q (.ref a) H) ∧ (xs ≠ [] → ys ≠ [] → ∀ p, H p = none → Q (.ref p) (upd H p (.tup (xs ++ ys))))
theorem op_catA : OpR X (binaryOp .Add) (rCatA X.K) := by
  intro pins s σ H x y v u Q I rx ry h
  obtain ⟨a, b, xs, ys, rfl, rfl, ha, hb, hz, q0, q1, q2⟩ := h
  by_cases hx : xs = []
  · subst hx
    cases rx
    cases ry
    obtain ⟨its, r1, p1, _⟩ := I.tuple ha
    obtain ⟨its2, r2, p2, _⟩ := I.tuple hb
    cases r1
    obtain ⟨⟨cls, dd, data, sl⟩, ho, hc, n, hd⟩ := id p1
    obtain ⟨⟨cls2, dd2, data2, sl2⟩, ho2, hc2, n2, hd2⟩ := id p2
    simp only at hc hd hc2 hd2
    subst hc hd hc2 hd2
    exact concat_meets ⟨_, ho, rfl⟩ ⟨_, ho2, rfl⟩ noFill_tuple_add seq_tuple_add PySem.F.slot_tuple_add PySem.F.entry_tuple_add (PySem.F.args_tuple_add_2 _ _)
      (tuple_addW0 a b #[] its2.toArray n n2 dd dd2 sl sl2 (by rfl)) ⟨ho, ho2, ⟨.ref b, H, I, rfl, q0 rfl⟩⟩
  · exact op_catT pins s σ H _ _ v u Q I rx ry ⟨a, b, xs, ys, rfl, rfl, ha, hb, hx, hz, q1 hx, q2 hx⟩
/-- what does not name the part around it: for a comprehension's block -/
theorem op_catTK {K : PySem.W.Frag} (e : X.K = K) : OpR X (binaryOp .Add) (rCatT K) := e ▸ op_catT
theorem pg_tupK {K : PySem.W.Frag} {es : List Expr} {k : Nat} {t : TGs} {n : Nat} {pos : Pos} (e : X.K = K) (hc : X.calm = true) (h : PGs X es t)
    (hn : (assignEach es X.env).length = n := by rfl) (hst : (assignEach es X.env).findIdx? (·.1) = none := by rfl) : PG X (.Tuple es k pos) (gTup K n t) := e ▸ pg_tup hc h hn hst
end
end Wv
/-! list(zip(s, t)) of two tuples of one length: the pairs are kept, so that each turn makes its own. -/
namespace Wz
open PySem
open Sem (wp)
open PySem.W (kdx_alive)
section
variable {prog : Program} {w : World} {A : Around} {E : Value → Shared → Prop} {s : Shared}
theorem held_item {z TI TO T i1 i2 l1 l2 : Addr} {f : Bool} {oT : Obj} {k1 k2 : Nat} {xs ys : Array Value} {x y : Value} {Q : Value → Shared → Prop} (D : ZipApart z TI TO i1 i2 l1 l2)
    (zh : IsZipHeld s.heap z TI TO T f) (hT : s.heap.get? T = some oT) (hTI : IsPair s.heap TI (.ref i1) (.ref i2)) (t1 : s.heap.IsTupleIter i1 l1 k1) (t2 : s.heap.IsTupleIter i2 l2 k2) (u1 : s.heap.IsTuple l1 xs) (u2 : s.heap.IsTuple l2 ys)
    (hx : xs[k1]? = some x) (hy : ys[k2]? = some y)
    (go : ∀ h', IsZipHeld h' z TI TO T true → h'.IsTupleIter i1 l1 (k1 + 1) → h'.IsTupleIter i2 l2 (k2 + 1) → IsPair h' s.heap.objs.size x y → h'.objs.size = s.heap.objs.size + 1 → (∀ c o, c ≠ z → c ≠ i1 → c ≠ i2 → s.heap.get? c = some o → h'.get? c = some o) →
      Q (.ref s.heap.objs.size) { s with heap := h' }) : wpAny (model prog w) A (Builtin.«zip.__next__» ⟨[.ref z], []⟩) (fun fin s' => ∃ v, fin = .done (.ret v) ∧ Q v s') E s := by
  show wpAny _ _ (field (.ref z) 2 >>= _) _ _ _
  refine wpAny_bind (wpAny_field zh rfl (x := .bool false) rfl ?_); show wpAny _ _ (field (.ref z) 3 >>= _) _ _ _
  refine wpAny_bind (wpAny_field zh rfl (x := .ref TI) rfl (wpAny_bind (wpAny_seqItems hTI rfl ?_)))
  show wpAny _ _ (Builtin.SmallTypes.ownedTupleIsFree (.ref z) >>= _) _ _ _
  refine wpAny_bind (wpAny_tupleHeld_zip zh hT fun ha za sa => ?_)
  simp only [Bool.false_eq_true, if_false]
  refine wpAny_bind ?_
  rw [← Array.forIn_toList]; simp only [List.forIn_cons, List.forIn_nil]
  refine wpAny_bind (wpAny_bind (wpAny_holding ?_)); show wpAny _ _ (Builtin.SmallTypes.nextOf (.ref i1) >>= _) _ _ _
  refine wpAny_bind (RZ.nextOf_tuple_item (s := { s with heap := ha }) (t1.extBut sa.extBut D.i1z) (u1.extBut sa.extBut D.l1z) hx fun hb tb sb => wpAny_pure (wpAny_pure ?_))
  refine wpAny_bind (wpAny_bind (wpAny_holding ?_)); show wpAny _ _ (Builtin.SmallTypes.nextOf (.ref i2) >>= _) _ _ _
  refine wpAny_bind (RZ.nextOf_tuple_item (s := { s with heap := hb }) ((t2.extBut sa.extBut D.i2z).extBut sb.extBut D.i12.symm) ((u2.extBut sa.extBut D.l2z).extBut sb.extBut D.l2i1) hy fun hc tc sc => wpAny_pure (wpAny_pure (wpAny_pure ?_)))
  show wpAny _ _ (newTuple [x, y] >>= _) _ _ _
  refine wpAny_bind (wpAny_newTuple ?_)
  have ez : hc.objs.size = s.heap.objs.size := by rw [sc.1, sb.1, sa.1]
  have zc : IsZipHeld hc z TI TO T true := sc.extBut _ _ D.i2z.symm (sb.extBut _ _ D.i1z.symm za)
  have kc : ∀ c o, c ≠ z → c ≠ i1 → c ≠ i2 → s.heap.get? c = some o → hc.get? c = some o := fun c o c1 c2 c3 e => sc.extBut _ _ c3 (sb.extBut _ _ c2 (sa.extBut _ _ c1 e))
  have td : hc.IsTupleIter i1 l1 (k1 + 1) := tb.extBut sc.extBut D.i12
  refine wpAny_pure ⟨_, rfl, ?_⟩
  show Q (.ref hc.objs.size) _
  have pn : IsPair (hc.push { cls := .type "tuple", data := .seq #[x, y] }) hc.objs.size x y := Heap.get?_push_size _ rfl
  have sn : (hc.push { cls := .type "tuple", data := .seq #[x, y] }).objs.size = hc.objs.size + 1 := Heap.size_push ..
  rw [ez] at pn sn ⊢
  exact go _ (Heap.get?_push_of_some _ zc) (td.at fun o e => Heap.get?_push_of_some _ e) (tc.at fun o e => Heap.get?_push_of_some _ e) pn sn fun c o c1 c2 c3 e => Heap.get?_push_of_some _ (kc c o c1 c2 c3 e)
theorem held_end {z TI TO T i1 i2 l1 l2 : Addr} {f : Bool} {oT : Obj} {k1 : Nat} {xs : Array Value} {Q : Fin → Shared → Prop} (hh : A.handled = none) (D : ZipApart z TI TO i1 i2 l1 l2)
    (zh : IsZipHeld s.heap z TI TO T f) (hT : s.heap.get? T = some oT) (hTI : IsPair s.heap TI (.ref i1) (.ref i2)) (t1 : s.heap.IsTupleIter i1 l1 k1) (u1 : s.heap.IsTuple l1 xs) (hx : xs[k1]? = none)
    (go : ∀ h' e, (∀ c o, c ≠ z → c ≠ i1 → c ≠ i2 → s.heap.get? c = some o → h'.get? c = some o) → (∃ o, h'.get? e = some o ∧ o.cls = .type "StopIteration") → E (.ref e) { s with heap := h' }) :
    wpAny (model prog w) A (Builtin.«zip.__next__» ⟨[.ref z], []⟩) Q E s := by
  show wpAny _ _ (field (.ref z) 2 >>= _) _ _ _
  refine wpAny_bind (wpAny_field zh rfl (x := .bool false) rfl ?_); show wpAny _ _ (field (.ref z) 3 >>= _) _ _ _
  refine wpAny_bind (wpAny_field zh rfl (x := .ref TI) rfl (wpAny_bind (wpAny_seqItems hTI rfl ?_)))
  show wpAny _ _ (Builtin.SmallTypes.ownedTupleIsFree (.ref z) >>= _) _ _ _
  refine wpAny_bind (wpAny_tupleHeld_zip zh hT fun ha za sa => ?_)
  simp only [Bool.false_eq_true, if_false]
  refine wpAny_bind ?_
  rw [← Array.forIn_toList]; simp only [List.forIn_cons, List.forIn_nil]
  refine wpAny_bind (wpAny_bind (wpAny_holding ?_)); show wpAny _ _ (Builtin.SmallTypes.nextOf (.ref i1) >>= _) _ _ _
  refine wpAny_bind (RZ.nextOf_tuple_end (s := { s with heap := ha }) hh (t1.extBut sa.extBut D.i1z) (u1.extBut sa.extBut D.l1z) hx fun hb e sb he => ?_)
  exact go hb e (fun c o c1 c2 _ x => sb _ _ c2 (sa.extBut _ _ c1 x)) he
theorem next_held {z TI TO T i1 i2 l1 l2 : Addr} {f : Bool} {oT : Obj} {k1 k2 : Nat} {xs ys : Array Value} {x y : Value} {Q : Option Value → Shared → Prop} (D : ZipApart z TI TO i1 i2 l1 l2)
    (zh : IsZipHeld s.heap z TI TO T f) (hT : s.heap.get? T = some oT) (hTI : IsPair s.heap TI (.ref i1) (.ref i2)) (t1 : s.heap.IsTupleIter i1 l1 k1) (t2 : s.heap.IsTupleIter i2 l2 k2) (u1 : s.heap.IsTuple l1 xs) (u2 : s.heap.IsTuple l2 ys)
    (hx : xs[k1]? = some x) (hy : ys[k2]? = some y)
    (go : ∀ h', IsZipHeld h' z TI TO T true → h'.IsTupleIter i1 l1 (k1 + 1) → h'.IsTupleIter i2 l2 (k2 + 1) → IsPair h' s.heap.objs.size x y → h'.objs.size = s.heap.objs.size + 1 → (∀ c o, c ≠ z → c ≠ i1 → c ≠ i2 → s.heap.get? c = some o → h'.get? c = some o) →
      Q (some (.ref s.heap.objs.size)) { s with heap := h' }) : wpAny (model prog w) A (pyNext (.ref z)) Q E s := by
  have ty : s.TypeIs (.ref z) "zip" := ⟨_, zh, rfl⟩
  unfold pyNext
  exact wpAny_bind (wpAny_attempt (wpAny_callSpecial?_slot (name := Str.ofString "__next__") ty F.slot_zip_next (wpAny_call_entry F.slot_zip_next ty F.entry_zip_next
    (held_item D zh hT hTI t1 t2 u1 u2 hx hy fun h' a1 a3 a4 a5 a6 a7 => wpAny_pure (go h' a1 a3 a4 a5 a6 a7)) (F.args_zip_next_1 _))))
theorem next_held_end {z TI TO T i1 i2 l1 l2 : Addr} {f : Bool} {oT : Obj} {k1 : Nat} {xs : Array Value} {Q : Option Value → Shared → Prop} (hh : A.handled = none) (D : ZipApart z TI TO i1 i2 l1 l2)
    (zh : IsZipHeld s.heap z TI TO T f) (hT : s.heap.get? T = some oT) (hTI : IsPair s.heap TI (.ref i1) (.ref i2)) (t1 : s.heap.IsTupleIter i1 l1 k1) (u1 : s.heap.IsTuple l1 xs) (hx : xs[k1]? = none)
    (go : ∀ h', (∀ c o, c ≠ z → c ≠ i1 → c ≠ i2 → s.heap.get? c = some o → h'.get? c = some o) → Q none { s with heap := h' }) : wpAny (model prog w) A (pyNext (.ref z)) Q E s := by
  have ty : s.TypeIs (.ref z) "zip" := ⟨_, zh, rfl⟩
  unfold pyNext
  refine wpAny_bind (wpAny_attempt (wpAny_callSpecial?_slot (name := Str.ofString "__next__") ty F.slot_zip_next (wpAny_call_entry F.slot_zip_next ty F.entry_zip_next (held_end hh D zh hT hTI t1 u1 hx fun h' e hk he => ?_) (F.args_zip_next_1 _))))
  obtain ⟨o, ho, hc⟩ := he
  exact wpAny_bind (wpAny_isInstance (T := "StopIteration") (b := true) ⟨o, ho, hc⟩ isSubtype_stop (wpAny_pure (go _ hk)))
end
/-- the five records of a zip and its tuples, the list at S behind them -/
structure Apart (z TI TO i1 i2 l1 l2 S : Addr) : Prop where
  D : ZipApart z TI TO i1 i2 l1 l2
  zS : z < S
  TIS : TI < S
  TOS : TO < S
  i1S : i1 < S
  i2S : i2 < S
  l1S : l1 < S
  l2S : l2 < S
/-- the zip ahead of turn i -/
structure St (h : Heap) (z TI TO i1 i2 l1 l2 S : Addr) (xs ys : Array Value) (i : Nat) : Prop where
  ti : IsPair h TI (.ref i1) (.ref i2)
  t1 : h.IsTupleIter i1 l1 i
  t2 : h.IsTupleIter i2 l2 i
  u1 : h.IsTuple l1 xs
  u2 : h.IsTuple l2 ys
  own : (IsZip h z TI TO .none ∧ ∃ a b, IsPair h TO a b) ∨ ∃ T f oT, IsZipHeld h z TI TO T f ∧ h.get? T = some oT ∧ S < T
theorem St.keep {h h' : Heap} {z TI TO i1 i2 l1 l2 S : Addr} {xs ys : Array Value} {i : Nat} (A : Apart z TI TO i1 i2 l1 l2 S) (st : St h z TI TO i1 i2 l1 l2 S xs ys i) (k : ∀ b o, b ≠ S → h.get? b = some o → h'.get? b = some o) : St h' z TI TO i1 i2 l1 l2 S xs ys i where
  ti := k _ _ (Nat.ne_of_lt A.TIS) st.ti
  t1 := st.t1.at fun o e => k _ o (Nat.ne_of_lt A.i1S) e
  t2 := st.t2.at fun o e => k _ o (Nat.ne_of_lt A.i2S) e
  u1 := let ⟨o, e, r⟩ := st.u1; ⟨o, k _ _ (Nat.ne_of_lt A.l1S) e, r⟩
  u2 := let ⟨o, e, r⟩ := st.u2; ⟨o, k _ _ (Nat.ne_of_lt A.l2S) e, r⟩
  own := by
    rcases st.own with ⟨h1, a, b, h2⟩ | ⟨T, f, oT, h1, h2, h3⟩
    · exact .inl ⟨k _ _ (Nat.ne_of_lt A.zS) h1, a, b, k _ _ (Nat.ne_of_lt A.TOS) h2⟩
    · exact .inr ⟨T, f, oT, k _ _ (Nat.ne_of_lt A.zS) h1, k _ _ (Nat.ne_of_gt h3) h2, h3⟩
section
variable {prog : Program} {w : World} {A : Around} {E : Value → Shared → Prop} {s : Shared}
theorem far_ne {c m S i1 : Nat} (h : c < i1 ∨ S ≤ c) (a : i1 ≤ m) (b : m < S) : c ≠ m := by omega
theorem low_ne {c S i1 : Nat} (h : c < i1) (b : i1 < S) : c ≠ S := by omega
theorem turn_item {z TI TO i1 i2 l1 l2 S : Addr} {i : Nat} {xs ys : Array Value} {x y : Value} {Q : Option Value → Shared → Prop} (B : Apart z TI TO i1 i2 l1 l2 S) (hS : S < s.heap.objs.size) (st : St s.heap z TI TO i1 i2 l1 l2 S xs ys i) (hx : xs[i]? = some x) (hy : ys[i]? = some y)
    (go : ∀ h', St h' z TI TO i1 i2 l1 l2 S xs ys (i + 1) → IsPair h' s.heap.objs.size x y → h'.objs.size = s.heap.objs.size + 1 → (∀ c o, (c < i1 ∨ S ≤ c) → s.heap.get? c = some o → h'.get? c = some o) → Q (some (.ref s.heap.objs.size)) { s with heap := h' })
    (low : i1 ≤ i2 ∧ i1 ≤ TI ∧ i1 ≤ TO ∧ i1 ≤ z ∧ l1 < i1 ∧ l2 < i1) : wpAny (model prog w) A (pyNext (.ref z)) Q E s := by
  obtain ⟨b1, b2, b3, b4, b5, b6⟩ := low
  have D := B.D
  have zS := B.zS; have TOS := B.TOS; have i1S := B.i1S; have i2S := B.i2S; have TIS := B.TIS
  rcases st.own with ⟨h1, a, b, h2⟩ | ⟨T, f, oT, h1, h2, h3⟩
  · refine RZ.pyNext_zipT_item D h1 st.ti h2 st.t1 st.t2 st.u1 st.u2 hx hy fun h' z' TO' t1' t2' pn sz k => ?_
    refine go h' ⟨k _ _ D.TIz D.TITO D.TIi1 D.TIi2 st.ti, t1', t2', ?_, ?_, .inr ⟨_, false, _, z', pn, hS⟩⟩ pn sz fun c o hc e => k c o (far_ne hc b4 zS) (far_ne hc b3 TOS) (far_ne hc (Nat.le_refl _) i1S) (far_ne hc b1 i2S) e
    · obtain ⟨o, e, r⟩ := st.u1; exact ⟨o, k _ _ D.l1z D.l1TO D.l1i1 D.l1i2 e, r⟩
    · obtain ⟨o, e, r⟩ := st.u2; exact ⟨o, k _ _ D.l2z D.l2TO D.l2i1 D.l2i2 e, r⟩
  · refine next_held D h1 h2 st.ti st.t1 st.t2 st.u1 st.u2 hx hy fun h' z' t1' t2' pn sz k => ?_
    refine go h' ⟨k _ _ D.TIz D.TIi1 D.TIi2 st.ti, t1', t2', ?_, ?_, .inr ⟨T, true, oT, z', k _ _ (Nat.ne_of_gt (Nat.lt_trans zS h3)) (Nat.ne_of_gt (Nat.lt_trans i1S h3)) (Nat.ne_of_gt (Nat.lt_trans i2S h3)) h2, h3⟩⟩ pn sz fun c o hc e => k c o (far_ne hc b4 zS) (far_ne hc (Nat.le_refl _) i1S) (far_ne hc b1 i2S) e
    · obtain ⟨o, e, r⟩ := st.u1; exact ⟨o, k _ _ D.l1z D.l1i1 D.l1i2 e, r⟩
    · obtain ⟨o, e, r⟩ := st.u2; exact ⟨o, k _ _ D.l2z D.l2i1 D.l2i2 e, r⟩
theorem turn_end {z TI TO i1 i2 l1 l2 S : Addr} {i : Nat} {xs ys : Array Value} {Q : Option Value → Shared → Prop} (hh : A.handled = none) (B : Apart z TI TO i1 i2 l1 l2 S) (st : St s.heap z TI TO i1 i2 l1 l2 S xs ys i) (hx : xs[i]? = none)
    (go : ∀ h', (∀ c o, (c < i1 ∨ S ≤ c) → s.heap.get? c = some o → h'.get? c = some o) → Q none { s with heap := h' })
    (low : i1 ≤ i2 ∧ i1 ≤ TI ∧ i1 ≤ TO ∧ i1 ≤ z ∧ l1 < i1 ∧ l2 < i1) : wpAny (model prog w) A (pyNext (.ref z)) Q E s := by
  obtain ⟨b1, b2, b3, b4, b5, b6⟩ := low
  have D := B.D
  have zS := B.zS; have TOS := B.TOS; have i1S := B.i1S; have i2S := B.i2S; have TIS := B.TIS
  rcases st.own with ⟨h1, a, b, h2⟩ | ⟨T, f, oT, h1, h2, h3⟩
  · refine RZ.pyNext_zipT_end hh D h1 st.ti h2 st.t1 st.t2 st.u1 st.u2 (.inl hx) fun h' k => go h' fun c o hc e => k c o (far_ne hc b4 zS) (far_ne hc b3 TOS) (far_ne hc (Nat.le_refl _) i1S) (far_ne hc b1 i2S) e
  · refine next_held_end hh D h1 h2 st.ti st.t1 st.u1 hx fun h' k => go h' fun c o hc e => k c o (far_ne hc b4 zS) (far_ne hc (Nat.le_refl _) i1S) (far_ne hc b1 i2S) e
end
/-- the pairs made so far -/
structure Gv (xs ys : Array Value) (lo : Addr) (h : Heap) (as : List Addr) : Prop where
  rise : as.Pairwise (· < ·)
  above : ∀ a ∈ as, lo < a
  pairs : ∀ (j : Nat) (a : Addr), as[j]? = some a → ∃ x y, xs[j]? = some x ∧ ys[j]? = some y ∧ IsPair h a x y
theorem Gv.there {xs ys : Array Value} {lo : Addr} {h : Heap} {as : List Addr} (g : Gv xs ys lo h as) {a : Addr} (ha : a ∈ as) : a < h.objs.size := by
  obtain ⟨j, hj⟩ := List.mem_iff_getElem?.mp ha
  obtain ⟨_, _, _, _, e⟩ := g.pairs j a hj
  exact Heap.lt_size e
theorem Gv.keep {xs ys : Array Value} {lo : Addr} {h h' : Heap} {as : List Addr} (g : Gv xs ys lo h as) (k : ∀ b o, lo < b → h.get? b = some o → h'.get? b = some o) : Gv xs ys lo h' as := ⟨g.rise, g.above, fun j a hj => by
  obtain ⟨x, y, e1, e2, e3⟩ := g.pairs j a hj
  exact ⟨x, y, e1, e2, k a _ (g.above a (List.mem_of_getElem? hj)) e3⟩⟩
section
variable {prog : Program} {w : World} {A : Around} {s : Shared} {R : Result → Shared → Prop}
theorem z_loop {z TI TO i1 i2 l1 l2 S : Addr} {xs ys : Array Value} (hh : A.handled = none) (B : Apart z TI TO i1 i2 l1 l2 S) (low : i1 ≤ i2 ∧ i1 ≤ TI ∧ i1 ≤ TO ∧ i1 ≤ z ∧ l1 < i1 ∧ l2 < i1) (hl : xs.size = ys.size) (hn : xs.size ≤ sizeLine) (res : Value) {h0 : Heap}
    (go : ∀ h' tk acc c as, (∀ b o, b < i1 → h0.get? b = some o → h'.get? b = some o) → h'.get? S = some { cls := .type "list", dict := none, data := .seq acc c, slots := #[] } → as.length = xs.size → Gv xs ys S h' as → acc.toList = as.map Value.ref → R (.ok (.ret res)) { s with heap := h', toks := tk }) :
    ∀ (k i : Nat) (h : Heap) (tk c : Nat) (acc : Array Value) (as : List Addr), xs.size - i = k → i ≤ xs.size → St h z TI TO i1 i2 l1 l2 S xs ys i → (∀ b o, b < i1 → h0.get? b = some o → h.get? b = some o) →
      h.get? S = some { cls := .type "list", dict := none, data := .seq acc c, slots := #[] } → acc.toList = as.map Value.ref → as.length = i → Gv xs ys S h as →
      codeAny (model prog w) A (.builtin "list.extend.loop" ⟨[.ref S, .ref z, res], []⟩) R { s with heap := h, toks := tk } := by
  have i1S := B.i1S
  intro k
  induction k with
  | zero =>
    intro i h tk c acc as hk hi st keep hS hacc hal hG
    refine codeAny_builtin PySem.F.entry_extend_loop ?_
    rw [Around.under_plainId PySem.F.plain_extend_loop _]; show wpAny _ A.in1 (pyNext (.ref z) >>= _) _ _ _
    refine wpAny_bind (turn_end (s := { s with heap := h, toks := tk }) (A := A.in1) hh B st (Array.getElem?_eq_none (by omega)) (fun h' he => ?_) low)
    exact wpAny_pure (go h' tk acc c as (fun b o hb e => he b o (.inl hb) (keep b o hb e)) (he S _ (.inr (Nat.le_refl _)) hS) (by omega) (hG.keep fun b o hb e => he b o (.inr (Nat.le_of_lt hb)) e) hacc)
  | succ k ih =>
    intro i h tk c acc as hk hi st keep hS hacc hal hG
    have hlt : i < xs.size := by omega
    have hx : xs[i]? = some xs[i] := Array.getElem?_eq_getElem hlt
    have hy : ys[i]? = some (ys[i]'(by omega)) := Array.getElem?_eq_getElem (by omega)
    have hsz : acc.size = i := by rw [← Array.length_toList, hacc, List.length_map, hal]
    have hSl : S < h.objs.size := Heap.lt_size hS
    refine codeAny_builtin PySem.F.entry_extend_loop ?_
    rw [Around.under_plainId PySem.F.plain_extend_loop _]; show wpAny _ A.in1 (pyNext (.ref z) >>= _) _ _ _
    refine wpAny_bind (turn_item (s := { s with heap := h, toks := tk }) B hSl st hx hy (fun h' st' pn sz kp => ?_) low)
    dsimp only at pn sz kp ⊢
    have hS' := kp S _ (.inr (Nat.le_refl _)) hS
    have up : ∀ b o, b ≠ S → h'.get? b = some o → (h'.update S (Obj.mapSeq (·.push (Value.ref h.objs.size)))).get? b = some o := fun b o hb e => (Heap.get?_update_other _ _ (Ne.symm hb)).trans e
    show wpAny _ A.in1 (updateSeq S (·.push (Value.ref h.objs.size)) >>= _) _ _ _
    refine wpAny_bind (wpAny_updateSeq hS' rfl (wpAny_pure ⟨plainId_quiet PySem.F.plain_extend_loop _, ih (i + 1) _ tk _ (acc.push (Value.ref h.objs.size)) (as ++ [h.objs.size]) (by omega) hlt (st'.keep B up) (fun b o hb e => up b o (low_ne hb i1S) (kp b o (.inl hb) (keep b o hb e)))
      (Heap.get?_update_self _ hS' rfl) (by rw [Array.toList_push, hacc, List.map_append]; rfl) (by rw [List.length_append, hal]; rfl) ⟨?_, ?_, ?_⟩⟩) (by rw [hsz]; omega) (by show (acc.push (Value.ref h.objs.size)).size ≤ sizeLine + 1; rw [Array.size_push, hsz]; omega))
    · refine List.pairwise_append.mpr ⟨hG.rise, List.pairwise_singleton _ _, fun a ha b hb => ?_⟩
      rw [List.mem_singleton.mp hb]; exact hG.there ha
    · intro a ha
      rcases List.mem_append.mp ha with ha | ha
      · exact hG.above a ha
      · rw [List.mem_singleton.mp ha]; exact hSl
    · intro j b hj
      rcases Nat.lt_trichotomy j as.length with q | q | q
      · rw [List.getElem?_append_left q] at hj
        obtain ⟨x', y', e1, e2, e3⟩ := hG.pairs j b hj
        have hb := hG.above b (List.mem_of_getElem? hj)
        exact ⟨x', y', e1, e2, up b _ (Nat.ne_of_gt hb) (kp b _ (.inr (Nat.le_of_lt hb)) e3)⟩
      · subst q
        have hb : h.objs.size = b := by simpa using hj
        subst hb
        exact ⟨_, _, by rw [hal]; exact hx, by rw [hal]; exact hy, up _ _ (Nat.ne_of_gt hSl) pn⟩
      · have no : (as ++ [h.objs.size])[j]? = none := List.getElem?_eq_none (by rw [List.length_append, List.length_singleton]; omega)
        rw [no] at hj; cases hj
end
theorem zip_no_len : typeLookup (.type "zip") "__len__" = pure none := by rw [typeLookup_type, builtinLookup_eq_fast]; kernel_rfl
theorem zip_no_hint : typeLookup (.type "zip") "__length_hint__" = pure none := by rw [typeLookup_type, builtinLookup_eq_fast]; kernel_rfl
section
variable {prog : Program} {w : World} {A : Around} {E : Value → Shared → Prop} {s : Shared}
theorem z_extend {z TI TO i1 i2 l1 l2 S : Addr} {xs ys : Array Value} {c₀ : Nat} {R : Result → Shared → Prop} (hh : A.handled = none) (B : Apart z TI TO i1 i2 l1 l2 S) (low : i1 ≤ i2 ∧ i1 ≤ TI ∧ i1 ≤ TO ∧ i1 ≤ z ∧ l1 < i1 ∧ l2 < i1) (hl : xs.size = ys.size) (hn : xs.size ≤ sizeLine) (res : Value)
    (st : St s.heap z TI TO i1 i2 l1 l2 S xs ys 0) (hz : IsZip s.heap z TI TO .none) (hS : s.heap.get? S = some { cls := .type "list", data := .seq #[] c₀ })
    (go : ∀ h' tk acc c as, (∀ b o, b < i1 → s.heap.get? b = some o → h'.get? b = some o) → h'.get? S = some { cls := .type "list", dict := none, data := .seq acc c, slots := #[] } → as.length = xs.size → Gv xs ys S h' as → acc.toList = as.map Value.ref → R (.ok (.ret res)) { s with heap := h', toks := tk }) :
    wpAny (model prog w) A.in1 (Builtin.List.listExtendWith (.ref S) (.ref z) res)
      (fun fin s' => match fin with | .done f => R (.ok f) s' | .again c' => c'.quiet = true ∧ codeAny (model prog w) A c' R s') (fun e s' => R (.error e) s') s := by
  have i1S := B.i1S
  have ty : s.TypeIs (.ref z) "zip" := ⟨_, hz, rfl⟩
  have key : ∀ (h : Heap) (c₁ tk : Nat), (∀ b o, b ≠ S → s.heap.get? b = some o → h.get? b = some o) → h.get? S = some { cls := .type "list", data := .seq #[] c₁ } →
      codeAny (model prog w) A (.builtin "list.extend.loop" ⟨[.ref S, .ref z, res], []⟩) R { s with heap := h, toks := tk } := fun h c₁ tk hk hS₁ =>
    z_loop (s := s) (h0 := s.heap) hh B low hl hn res go xs.size 0 h tk c₁ #[] [] (Nat.sub_zero _) (Nat.zero_le _) (st.keep B hk) (fun b o hb e => hk b o (low_ne hb i1S) e) hS₁ rfl rfl ⟨List.Pairwise.nil, (fun _ ha => nomatch ha), (fun j a hj => by simp at hj)⟩
  unfold Builtin.List.listExtendWith
  refine wpAny_bind (wpAny_typeOf (T := "zip") ty ?_)
  have e1 : Builtin.List.listSameRef (.ref S) (.ref z) = false := by simp [Builtin.List.listSameRef, Nat.ne_of_gt B.zS]
  have e2 : (Value.type "zip" == Value.type "list") = false := by decide
  have e3 : (Value.type "zip" == Value.type "tuple") = false := by decide
  simp only [e1, e2, e3, Bool.or_false, Bool.false_eq_true, if_false]
  refine wpAny_bind (wpAny_pyIter_zip hz (wpAny_bind (wpAny_holding ?_)))
  unfold Builtin.List.listLengthHint
  refine wpAny_bind (wpAny_specialOf ty zip_no_len ?_)
  show wpAny _ A.in1 (specialOf (Value.ref z) (Str.ofString "__length_hint__") >>= _) _ _ _
  refine wpAny_bind (wpAny_specialOf ty zip_no_hint (wpAny_pure ?_))
  show wpAny _ A.in1 (rule "list.extend.makes-room" >>= fun _ => Builtin.List.listTouch (.ref S) >>= fun _ => again (.builtin "list.extend.loop" ⟨[.ref S, .ref z, res], []⟩)) _ _ _
  refine wpAny_bind (wpAny_rule (wpAny_bind ?_))
  show wpAny _ A.in1 (updateSeq S (·.push .none) >>= fun _ => updateSeq S (·.pop)) _ _ _
  refine wpAny_bind (wpAny_updateSeq hS rfl ?_)
  have g1 := Heap.get?_update_self (Obj.mapSeq (·.push Value.none)) hS rfl
  refine wpAny_updateSeq (hz := by seq_fits) g1 rfl ?_
  have g2 := Heap.get?_update_self (Obj.mapSeq (·.pop)) g1 rfl
  refine wpAny_pure ⟨plainId_quiet PySem.F.plain_extend_loop _, key _ _ _ (fun b o hb e => ?_) g2⟩
  exact (Heap.get?_update_other _ _ (Ne.symm hb)).trans ((Heap.get?_update_other _ _ (Ne.symm hb)).trans e)
theorem z_init {z TI TO i1 i2 l1 l2 S : Addr} {xs ys : Array Value} {R : Result → Shared → Prop} (hh : A.handled = none) (B : Apart z TI TO i1 i2 l1 l2 S) (low : i1 ≤ i2 ∧ i1 ≤ TI ∧ i1 ≤ TO ∧ i1 ≤ z ∧ l1 < i1 ∧ l2 < i1) (hl : xs.size = ys.size) (hn : xs.size ≤ sizeLine)
    (st : St s.heap z TI TO i1 i2 l1 l2 S xs ys 0) (hz : IsZip s.heap z TI TO .none) (hS : s.heap.get? S = some { cls := .type "list", data := .seq #[] })
    (go : ∀ h' tk acc c as, (∀ b o, b < i1 → s.heap.get? b = some o → h'.get? b = some o) → h'.get? S = some { cls := .type "list", dict := none, data := .seq acc c, slots := #[] } → as.length = xs.size → Gv xs ys S h' as → acc.toList = as.map Value.ref → R (.ok (.ret .none)) { s with heap := h', toks := tk }) :
    wpAny (model prog w) A.in1 (Builtin.«list.__init__» ⟨[.ref S, .ref z], []⟩)
      (fun fin s' => match fin with | .done f => R (.ok f) s' | .again c' => c'.quiet = true ∧ codeAny (model prog w) A c' R s') (fun e s' => R (.error e) s') s := by
  show wpAny _ _ (do let old ← Builtin.List.listItems (.ref S); Builtin.List.listUpdate (.ref S) (fun _ => #[]); letGo old.toList.reverse; Builtin.List.listExtendWith (.ref S) (.ref z) .none) _ _ s
  refine wpAny_bind ?_
  unfold Builtin.List.listItems
  refine wpAny_bind (wpAny_seqItems hS rfl (wpAny_pure ?_))
  show wpAny _ _ (updateSeq S (fun _ => #[]) >>= fun _ => letGo (#[] : Array Value).toList.reverse >>= fun _ => Builtin.List.listExtendWith (.ref S) (.ref z) .none) _ _ s
  refine wpAny_bind (wpAny_updateSeq hS rfl ?_)
  have g2 := Heap.get?_update_self (Obj.mapSeq (fun _ => (#[] : Array Value))) hS rfl
  have oth : ∀ b o, b ≠ S → s.heap.get? b = some o → (s.heap.update S (Obj.mapSeq (fun _ => (#[] : Array Value)))).get? b = some o := fun b o hb e => (Heap.get?_update_other _ _ (Ne.symm hb)).trans e
  refine wpAny_bind (wpAny_letGo ?_)
  exact z_extend hh B low hl hn .none (st.keep B oth) (oth _ _ (Nat.ne_of_lt B.zS) hz) g2 fun h' tk acc c as hk => go h' tk acc c as fun b o hb e => hk b o hb (oth b o (low_ne hb B.i1S) e)
theorem z_call {z TI TO i1 i2 l1 l2 : Addr} {xs ys : Array Value} {Q : Value → Shared → Prop} (hh : A.handled = none) (D : ZipApart z TI TO i1 i2 l1 l2) (low : i1 ≤ i2 ∧ i1 ≤ TI ∧ i1 ≤ TO ∧ i1 ≤ z ∧ l1 < i1 ∧ l2 < i1) (hl : xs.size = ys.size) (hn : xs.size ≤ sizeLine)
    (hz : IsZip s.heap z TI TO .none) (hTI : IsPair s.heap TI (.ref i1) (.ref i2)) (hTO : ∃ a b, IsPair s.heap TO a b) (t1 : s.heap.IsTupleIter i1 l1 0) (t2 : s.heap.IsTupleIter i2 l2 0) (u1 : s.heap.IsTuple l1 xs) (u2 : s.heap.IsTuple l2 ys)
    (go : ∀ h' tk acc c as, (∀ b o, b < i1 → s.heap.get? b = some o → h'.get? b = some o) → h'.get? s.heap.objs.size = some { cls := .type "list", dict := none, data := .seq acc c, slots := #[] } → as.length = xs.size → Gv xs ys s.heap.objs.size h' as → acc.toList = as.map Value.ref →
      Q (.ref s.heap.objs.size) { s with heap := h', toks := tk }) : wpAny (model prog w) A (call (.type "list") [.ref z]) Q E s := by
  refine callType_codes (Q₁ := fun obj s₁ => obj = .ref s.heap.objs.size ∧ s₁ = { s with heap := s.heap.push { cls := .type "list", data := .seq #[] } }) PySem.F.called_list (PySem.F.typeCall_list_1 _) PySem.F.entry_list_init
    (code_list_new _ ⟨rfl, rfl⟩) fun obj s₁ h₁ => ?_
  obtain ⟨rfl, rfl⟩ := h₁
  have hS : (s.heap.push { cls := .type "list", data := .seq #[] }).get? s.heap.objs.size = some { cls := .type "list", data := .seq #[] } := Heap.get?_push_size _ rfl
  have up : ∀ b o, s.heap.get? b = some o → (s.heap.push { cls := .type "list", data := .seq #[] }).get? b = some o := fun b o e => Heap.get?_push_of_some _ e
  obtain ⟨a, b, hTO⟩ := hTO
  have B : Apart z TI TO i1 i2 l1 l2 s.heap.objs.size := ⟨D, Heap.lt_size hz, Heap.lt_size hTI, Heap.lt_size hTO, (let ⟨_, e, _⟩ := t1; Heap.lt_size e), (let ⟨_, e, _⟩ := t2; Heap.lt_size e), (let ⟨_, e, _⟩ := u1; Heap.lt_size e), (let ⟨_, e, _⟩ := u2; Heap.lt_size e)⟩
  refine ⟨⟨_, hS, rfl⟩, PySem.F.args_list_init_2 _ _, z_init (A := A.in1) (xs := xs) (ys := ys) hh B low hl hn ⟨up _ _ hTI, t1.at fun o e => up _ o e, t2.at fun o e => up _ o e, (let ⟨o, e, r⟩ := u1; ⟨o, up _ _ e, r⟩), (let ⟨o, e, r⟩ := u2; ⟨o, up _ _ e, r⟩), .inl ⟨up _ _ hz, a, b, up _ _ hTO⟩⟩ (up _ _ hz) hS
    fun h' tk acc c as hk hS' hl' hG hacc => ?_⟩
  exact ⟨rfl, go h' tk acc c as (fun b o hb e => hk b o hb (up _ _ e)) hS' hl' hG hacc⟩
end
end Wz
namespace Wz
open PySem PySem.Spec PyProof.Rows L2
/-! ### the rule -/
def putP : Hp → List Addr → List (V × V) → Hp
  | H, a :: as, p :: ps => putP (upd H a (.tup [p.1, p.2])) as ps
  | H, _, _ => H
theorem putP_off {b : Addr} : ∀ (as : List Addr) (ps : List (V × V)) (H : Hp), b ∉ as → putP H as ps b = H b
  | [], _, _, _ => rfl
  | _ :: _, [], _, _ => rfl
  | a :: as, p :: ps, H, h => by
    show putP (upd H a (.tup [p.1, p.2])) as ps b = H b
    rw [putP_off as ps _ (fun q => h (List.mem_cons_of_mem _ q)), upd_ne (fun q => h (by rw [q]; exact List.mem_cons_self))]
theorem putP_at : ∀ (as : List Addr) (ps : List (V × V)) (H : Hp), as.length = ps.length → as.Nodup → ∀ (j : Nat) (a : Addr) (p : V × V), as[j]? = some a → ps[j]? = some p → putP H as ps a = some (.tup [p.1, p.2])
  | [], _, _, _, _, j, a, p, h, _ => by simp at h
  | _ :: _, [], _, _, _, j, a, p, _, h => by simp at h
  | b :: as, q :: ps, H, hl, hn, 0, a, p, h1, h2 => by
    have hn' := List.nodup_cons.mp hn
    have e1 : b = a := by simpa using h1
    have e2 : q = p := by simpa using h2
    subst e1 e2
    show putP (upd H b (.tup [q.1, q.2])) as ps b = _
    rw [putP_off as ps _ hn'.1, upd_same]
  | b :: as, q :: ps, H, hl, hn, j + 1, a, p, h1, h2 => putP_at as ps _ (Nat.succ.inj hl) (List.nodup_cons.mp hn).2 j a p (by simpa using h1) (by simpa using h2)
/-- pairs of values at addresses -/
structure PairsAt (H : Hp) (ts : List Addr) (xs ys : List V) : Prop where
  len : ts.length = xs.length
  at_ : ∀ (j : Nat) (t : Addr), ts[j]? = some t → ∃ x y, xs[j]? = some x ∧ ys[j]? = some y ∧ H t = some (.tup [x, y])
def rListZip (K : PySem.W.Frag) : List V → Hp → VK → Prop := fun vs H Q => ∃ (a b : Addr) (xs ys : List V), vs = [.ref a, .ref b] ∧ SqT K H a xs ∧ SqT K H b ys ∧ xs.length = ys.length ∧
  ∀ (H' : Hp) (p : Addr) (ts : List Addr), Same H H' → H p = none → H' p = some (.lst (ts.map V.ref)) → PairsAt H' ts xs ys → Q (.ref p) H'
def tListZip (K : PySem.W.Frag) (ta : TA) : TE := fun σ H Q => ta σ H fun vs H1 => rListZip K vs H1 Q
section
variable {X : Cx}
theorem pairs_laid {pins : List (Addr × Obj)} {σ : L2.St} {H : Hp} {s : Shared} {h' : Heap} {tk S : Nat} {xs ys : List V} {its its2 : List Value} {acc : Array Value} {c : Nat} {as : List Addr} (I : Inv X pins σ H s) (hz : xs.length ≤ sizeLine) (r : Vals xs its) (r2 : Vals ys its2) (el : xs.length = ys.length) (hSz : s.heap.objs.size ≤ S)
    (hk : ∀ b o, s.heap.get? b = some o → h'.get? b = some o) (hS : h'.get? S = some { cls := .type "list", dict := none, data := .seq acc c, slots := #[] }) (hl : as.length = its.length) (hG : Gv its.toArray its2.toArray S h' as) (hacc : acc.toList = as.map Value.ref) :
    ∃ H' : Hp, Same H H' ∧ H S = none ∧ H' S = some (.lst (as.map V.ref)) ∧ PairsAt H' as xs ys ∧ Inv X pins σ H' { s with heap := h', toks := tk } := by
  have l1 := r.length
  have l2 := r2.length
  have hSn : S ∉ as := fun q => Nat.lt_irrefl _ (hG.above _ q)
  have nd : as.Nodup := List.Pairwise.imp (fun {a b} (h : a < b) => Nat.ne_of_lt h) hG.rise
  have fresh : ∀ t ∈ as, H t = none := fun t ht => I.hok.fresh (Nat.le_trans hSz (Nat.le_of_lt (hG.above t ht)))
  have freshS : H S = none := I.hok.fresh hSz
  have lz : as.length = (xs.zip ys).length := by rw [List.length_zip]; omega
  have off : ∀ b, b ∉ as → b ≠ S → putP (upd H S (.lst (as.map V.ref))) as (xs.zip ys) b = H b := fun b h1 h2 => by rw [putP_off as _ _ h1, upd_ne h2]
  have kp : Same H (putP (upd H S (.lst (as.map V.ref))) as (xs.zip ys)) := fun b u e => by
    rw [off b (fun q => by rw [fresh b q] at e; cases e) (fun q => by rw [q, freshS] at e; cases e)]
    exact e
  have eS : putP (upd H S (.lst (as.map V.ref))) as (xs.zip ys) S = some (.lst (as.map V.ref)) := by rw [putP_off as _ _ hSn, upd_same]
  have at2 : ∀ (j : Nat) (t : Addr), as[j]? = some t → ∃ x y, xs[j]? = some x ∧ ys[j]? = some y ∧ putP (upd H S (.lst (as.map V.ref))) as (xs.zip ys) t = some (.tup [x, y]) := fun j t ht => by
    have hj : j < as.length := (List.getElem?_eq_some_iff.mp ht).1
    refine ⟨xs[j]'(by omega), ys[j]'(by omega), List.getElem?_eq_getElem (by omega), List.getElem?_eq_getElem (by omega), ?_⟩
    exact putP_at as (xs.zip ys) _ lz nd j t (xs[j]'(by omega), ys[j]'(by omega)) ht (by rw [List.getElem?_zip_eq_some]; exact ⟨List.getElem?_eq_getElem (by omega), List.getElem?_eq_getElem (by omega)⟩)
  have low : ∀ b o, s.heap.get? b = some o → b ∉ as ∧ b ≠ S := fun b o e => ⟨fun q => absurd (Heap.lt_size e) (Nat.not_lt.mpr (Nat.le_trans hSz (Nat.le_of_lt (hG.above b q)))), Nat.ne_of_lt (Nat.lt_of_lt_of_le (Heap.lt_size e) hSz)⟩
  refine ⟨putP (upd H S (.lst (as.map V.ref))) as (xs.zip ys), kp, freshS, eS, ⟨by omega, at2⟩, ?_⟩
  refine I.call' (ch := []) rfl ⟨fun b o q _ _ _ => hk b o q, fun b o q _ _ _ => ⟨o.slots, hk b o q⟩, fun b o q n _ => ?_, fun b o q _ => ⟨o, hk b o q⟩, fun b xs q => kp b _ q, fun b o u q => kp b _ q, fun b ps q => ⟨#[], by rw [kp b _ q]; simp⟩⟩ (fun b u q => ?_) I.bare fun b q => by simp at q
  · obtain ⟨z1, z2⟩ := low b o q
    rw [off b z1 z2]
    exact n
  · by_cases hb : b ∈ as
    · obtain ⟨j, hj⟩ := List.mem_iff_getElem?.mp hb
      obtain ⟨x, y, e1, e2, e3⟩ := at2 j b hj
      rw [e3] at q
      cases q
      obtain ⟨u, v, f1, f2, f3⟩ := hG.pairs j b hj
      obtain ⟨u', g1, ru⟩ := r.get e1
      obtain ⟨v', g2, rv⟩ := r2.get e2
      have q1 : u = u' := Option.some.inj ((by simpa using f1.symm : some u = its[j]?).trans g1)
      have q2 : v = v' := Option.some.inj ((by simpa using f2.symm : some v = its2[j]?).trans g2)
      subst q1 q2
      exact ⟨by show 2 ≤ sizeLine; decide, [u, v], .cons ru (.cons rv .nil), ⟨_, f3, rfl, _, rfl⟩⟩
    · by_cases hb2 : b = S
      · rw [hb2] at q ⊢
        rw [eS] at q
        cases q
        refine ⟨by rw [List.length_map]; omega, acc.toList, c, by rw [hacc]; exact LiI.vals_refs as, ?_⟩
        rw [Array.toArray_toList]
        exact hS
      · rw [off b hb hb2] at q
        exact (I.hok b u q).stay (fun d v _ y => hk d v y) (fun d y => kp d _ y) fun d xs y => kp d _ y
/-- list(zip(e, e2)) -/
theorem pe_listZip {e e2 : Expr} {ta : TA} {p p2 pos pos2 : Pos} (hc : X.calm = true) (hg : Gl X "list") (hm : X.mg "list" = none) (hg2 : Gl X "zip") (hm2 : X.mg "zip" = none) (ha : PA X [e, e2] ta)
    (hs : starEach [.Call (.Name "zip" p2) [e, e2] [] pos2] X.env = (false, eval (.Call (.Name "zip" p2) [e, e2] [] pos2) X.env) :: starEach [] X.env := by rfl)
    (hs2 : starEach [e, e2] X.env = (false, eval e X.env) :: starEach [e2] X.env := by rfl) (hpl : (backTo pos2 (starEach [e2] X.env)).any (·.1) = false := by rfl) :
    PE X (.Call (.Name "list" p) [.Call (.Name "zip" p2) [e, e2] [] pos2] [] pos) (tListZip X.K ta) := by
  refine ⟨fun pins s σ H Q I hq => ?_⟩
  refine wpAny_Call_Name_kw (ld_blt I hg hm (by decide +kernel : bootBuiltins "list" = some (.type "list")) ?_)
  refine PyProof.Rows.callWith_type1 ?_ hs rfl
  rw [hs]
  show wpAny _ _ (spliced ((false, eval (.Call (.Name "zip" p2) [e, e2] [] pos2) X.env) :: backTo pos (starEach [] X.env))) _ _ s
  refine Calls.spliced_cons ?_
  refine Call_ (ld_blt I hg2 hm2 PyProof.Rows.boot_zip (PyProof.Rows.callWith_type1 (thn (ha.run pos2 pins s σ H _ I hq) fun us s1 ⟨vs, H1, I1, r1, q1⟩ => ?_) hs2 hpl))
  obtain ⟨a, b, xs, ys, ex, hqx, hqy, el, q⟩ := q1
  subst ex
  cases r1 with
  | cons r rr =>
    cases rr with
    | cons r' rr =>
      cases rr
      cases r
      cases r'
      obtain ⟨its, rv, u1, hz1⟩ := I1.tuple hqx
      obtain ⟨its2, rv2, u2, hz2⟩ := I1.tuple hqy
      obtain ⟨o1, ho1, _⟩ := id u1
      obtain ⟨o2, ho2, _⟩ := id u2
      refine RZ.call_zipT (show s1.heap.IsTuple a its.toArray from u1) (show s1.heap.IsTuple b its2.toArray from u2) fun h' hz hTI hTO t1 t2 hsz hk => ?_
      have n1 : a < s1.heap.objs.size := Heap.lt_size ho1
      have n2 : b < s1.heap.objs.size := Heap.lt_size ho2
      refine Calls.spliced_nil ?_
      have e1 := rv.length
      have e2 := rv2.length
      refine z_call (s := { s1 with heap := h' }) (xs := its.toArray) (ys := its2.toArray) (I1.ok.hd hc) (PySem.W.ktu_apart s1.heap.objs.size a b n1 n2) ⟨Nat.le_succ _, Nat.le_add_right _ _, Nat.le_add_right _ _, Nat.le_add_right _ _, n1, n2⟩
        (by rw [List.size_toArray, List.size_toArray]; omega) (by rw [List.size_toArray]; omega) hz hTI ⟨_, _, hTO⟩ t1 t2 (let ⟨o, q1, r⟩ := u1; ⟨o, hk _ _ q1, r⟩) (let ⟨o, q1, r⟩ := u2; ⟨o, hk _ _ q1, r⟩) fun h'' tk acc c as k2 hS hl hG hacc => ?_
      obtain ⟨H', j1, j2, j3, j4, J⟩ := pairs_laid (tk := tk) I1 (by omega) rv rv2 el (show s1.heap.objs.size ≤ h'.objs.size by omega) (fun b o q1 => k2 b o (Heap.lt_size q1) (hk b o q1)) hS (by rw [hl, List.size_toArray]) hG hacc
      exact ⟨.ref _, H', J, rfl, q H' _ as j1 j2 j3 j4⟩
end
end Wz
/-! == and len of ways, by the text's own __eq__ and __len__ -/
namespace Wv
open PySem PySem.Spec PyProof.Rows L2
/-- both are the same way -/
def DW (c : Cs) : Eqv := fun x y H => ∃ w : W, w.size ≤ 1000 ∧ ObjAt c H x w ∧ ObjAt c H y w
structure EqOk (P : Program) (w : World) (K : PySem.W.Frag) (mg : Str → Option Value) (base : Heap) (c : Cs) (n : Nat) : Prop where
  ex : ∃ (f : Addr) (fd : FuncData) (ps : List Str), FnOk P w K mg base CX0 n f fd ps (spEq fun a b H => DW c (.ref a) (.ref b) H) ∧ (∀ u : W, PySem.W.findIn K (.ref (c.of u)) "__eq__" = some (some (.ref f))) ∧ PySem.W.isFn K (.ref f) = true ∧ Binds K fd ps []
structure LenOk (P : Program) (w : World) (K : PySem.W.Frag) (mg : Str → Option Value) (base : Heap) (c : Cs) (n : Nat) (sp : Sp) : Prop where
  ex : ∃ (f : Addr) (fd : FuncData) (ps : List Str), FnOk P w K mg base CX0 n f fd ps sp ∧ (∀ u : W, PySem.W.findIn K (.ref (c.of u)) "__len__" = some (some (.ref f))) ∧ PySem.W.isFn K (.ref f) = true ∧ Binds K fd ps []
section
variable {X : Cx} {c : Cs} {n : Nat} {sp : Sp}
theorem op_way (G : EqOk X.prog X.w X.K X.mg X.base c n) (hr : Room n X.A) : OpR X (compareOp .Eq) (rEqG (DW c)) := by
  obtain ⟨f, fd, ps, F, hs, hf, hb⟩ := G.ex
  refine op_eqG (n := n) (fun A pins s σ H x y u v sb I rx ry d => ?_) hr
  obtain ⟨w, _, hx, hy⟩ := id d
  obtain ⟨a, da, fa, ea, ha⟩ := hx.head
  obtain ⟨b, db, fb, eb, hb'⟩ := hy.head
  subst ea eb
  exact rcG_ins (C := c.of w) (R := fun a b H => DW c (.ref a) (.ref b) H) F (hs w) hf hb pass0 A pins s σ H _ _ u v sb I rx ry ⟨a, b, da, db, fa, fb, rfl, rfl, ha, hb', d⟩
/-- len(x) of a way -/
def rLenW (c : Cs) (sp : Sp) : List V → Hp → VK → Prop := fun xs H Q => ∃ (v : V) (w : W), xs = [v] ∧ ObjAt c H v w ∧ sp [v] H (fun z H' => ∃ i : Int, z = .int i ∧ 0 ≤ i ∧ i < 2 ^ 63 ∧ Q (.int i) H') E0
theorem call_lenW (G : LenOk X.prog X.w X.K X.mg X.base c n sp) (hr : Room (n + 1) X.A) : CallR X (.builtin "len") (rLenW c sp) := by
  obtain ⟨f, fd, ps, F, hs, hf, hb⟩ := G.ex
  intro pins s σ H xs us Q I r h
  obtain ⟨v, w, rfl, hv, hsp⟩ := h
  obtain ⟨u, rfl, ru⟩ := r.one
  obtain ⟨a, d, fs, ev, ha⟩ := hv.head
  subst ev
  cases ru
  obtain ⟨mA, J, _⟩ := ins_get I.hok ha
  obtain ⟨od, J, _⟩ := J.look
  obtain ⟨m, hF⟩ := I.fr
  have hl := F.len _ _ _ _ hsp
  have r2 : Vals [V.ref a] [Value.ref a] := .cons rfl .nil
  refine PySem.W.len_K hF I.ok.mod.kin J (hs w) hf (wpAny_call (codeAny_mono (F.run X.A.in1 X.stack s H ⟨[.ref a], []⟩ [.ref a] [.ref a] _ E0 hr.in1 (I.env0.in1) (by
    have q := hb s [.ref a] I.kIn (by simpa using hl)
    simpa using q) r2 hsp) fun r s' hq => ?_))
  cases r with
  | error e => exact (pass0 (X := X) pins σ H s e s' I hq)
  | ok fl =>
    cases fl with
    | ret x =>
      obtain ⟨z, H', I', rz, i, ez, h0, h1, q⟩ := I.after hq
      subst ez
      obtain ⟨t, ex⟩ := rz
      subst ex
      exact ⟨⟨h0, h1⟩, ⟨.int i, H', I'.tok _, ⟨_, rfl⟩, q⟩⟩
    | next => exact False.elim hq
    | brk => exact False.elim hq
    | cont => exact False.elim hq
/-! ### a method of a way, called -/
structure MethOk (P : Program) (w : World) (K : PySem.W.Frag) (mg : Str → Option Value) (base : Heap) (c : Cs) (n : Nat) (m : Str) (ps : List Str) (sp : Sp) : Prop where
  ex : ∃ (f : Addr) (fd : FuncData), FnOk P w K mg base CX0 n f fd ps sp ∧ (∀ u : W, Meth K (c.of u) m f) ∧ (∀ u : W, Cls K (c.of u)) ∧ Binds K fd ps []
def tMethW (c : Cs) (m : Str) (sp : Sp) (ta : TE) (t : TA) : TE := fun σ H Q => ta σ H fun x H1 => ∃ w, ObjAt c H1 x w ∧ t σ H1 fun vs H2 => sp (x :: vs) H2 Q E0
theorem pe_methW {pl : Sem Bool} {m : Str} {ps : List Str} {o e : Expr} {es : List Expr} {ta : TE} {t : TA} {apos pos : Pos} (G : MethOk X.prog X.w X.K X.mg X.base c n m ps sp) (hr : Room n X.A) (he : PE X o ta) (ha : PA X (e :: es) t)
    (nl : Names7 m := by unfold Names7; decide +kernel)
    (hst : starEach (e :: es) X.env = (false, eval e X.env) :: starEach es X.env := by rfl) (hpl : (backTo pos (starEach es X.env)).any (·.1) = false := by rfl)
    (ht : eval (.Call (.Attribute o m apos) (e :: es) [] pos) X.env = (do
      let ov ← eval o X.env
      standAt apos.atName
      let (f, first) ← holding [ov] (getMethod ov m pl)
      callWith pos f first (backTo pos (starEach (e :: es) X.env)) (backToKw pos (keywordEach [] X.env))) := by rfl) :
    PE X (.Call (.Attribute o m apos) (e :: es) [] pos) (tMethW c m sp ta t) := by
  obtain ⟨f, fd, F, hm, hc, hb⟩ := G.ex
  refine ⟨fun pins s σ H Q I h => ?_⟩
  refine PySem.W.methodCall_KW (pl := pl) (thn (he.run pins s σ H _ I h) fun u s1 ⟨x, H1, I1, rx, w, hx, q⟩ => ?_) ht
  obtain ⟨a, dx, fs, ex, ea, l⟩ := hx.head'
  subst ex
  obtain rfl : u = Value.ref a := rx
  refine getmeth_ok I1 ea (hc w) (hm w) (l m nl) ?_
  refine PySem.W.callWith_K (first := [.ref a]) (h₀ := X.base) I.ok.mod.kin (hm w).kp (thn (ha.run pos pins s1 σ H1 _ I1 q) fun us s2 ⟨vs, H2, I2, r, q2⟩ => ⟨I2.kIn, ?_⟩) hst hpl
  exact run_fn (us := .ref a :: us) (vs := .ref a :: vs) (dvs := []) (ds := []) F hr hb .nil pass0 I2 (.cons rfl r) (by simpa using q2)
end
end Wv
namespace Wv
open PySem PySem.Spec PyProof.Rows L2
/-! ### kind, word and inner ways of a way -/
def W.kind : W → Nat
  | .letter _ => 0 | .one => 1 | .nothing => 2 | .row _ => 3 | .choice _ => 4 | .again _ => 5 | .maybe _ => 6 | .ahead _ => 7 | .unless _ => 8 | .call _ => 9
def W.word : W → Str
  | .letter x => sg x
  | .call x => x
  | _ => Str.ofString ""
def spKind (c : Cs) : Sp := fun vs H Q _ => ∃ (v : V) (w : W), vs = [v] ∧ ObjAt c H v w ∧ Q (.int w.kind) H
def spWord (c : Cs) : Sp := fun vs H Q _ => ∃ (v : V) (w : W), vs = [v] ∧ ObjAt c H v w ∧ Q (.str w.word) H
def spMadeOf (c : Cs) : Sp := fun vs H Q _ => ∃ (v : V) (w : W), vs = [v] ∧ ObjAt c H v w ∧ ∀ (t : Addr) (us : List V) (H' : Hp), Same H H' → H' t = some (.tup us) → ObjsAt c H' us w.inner → Q (.ref t) H'
structure Kc (mg : Str → Option Value) : Prop where
  k0 : ∃ t, mg "LETTER" = some (.int 0 t)
  k1 : ∃ t, mg "ONE" = some (.int 1 t)
  k2 : ∃ t, mg "NOTHING" = some (.int 2 t)
  k3 : ∃ t, mg "ROW" = some (.int 3 t)
  k4 : ∃ t, mg "CHOICE" = some (.int 4 t)
  k5 : ∃ t, mg "AGAIN" = some (.int 5 t)
  k6 : ∃ t, mg "MAYBE" = some (.int 6 t)
  k7 : ∃ t, mg "AHEAD" = some (.int 7 t)
  k8 : ∃ t, mg "UNLESS" = some (.int 8 t)
  k9 : ∃ t, mg "CALL" = some (.int 9 t)
section
variable {P : Program} {w : World} {K : PySem.W.Frag} {mg : Str → Option Value} {base : Heap} {c : Cs} {H : Hp} {v : V} {x : W} {Q : VK}
theorem ObjAt.ty (A : AllF K mg c) (h : ObjAt c H v x) : TyX K H v (.ref (c.of x)) := by
  obtain ⟨a, d, fs, e, ha⟩ := h.head
  subst e
  have f := A.f x
  exact .base (.ins ha f.cl f.ha A.hn A.ht f.hm)
theorem st_isi (A : AllF K mg c) (h : ObjAt c H v x) (u : W) {tb r : TS} {D : Ends} (hy : x.tag = u.tag → tb { D with nx := r D } [some v] H) (hn : x.tag ≠ u.tag → r D [some v] H) :
    (tSeq (tIfS (tB (tCB (rIsi K) (tCons (tVar 0) (tCons (tC (V.ref (c.of u))) tNil)))) tb tNext) r) D [some v] H := by
  refine ⟨v, rfl, v, .ref (c.of u), _, _, _, rfl, .own _, h.ty A, A.kit x u, _, rfl, ?_⟩
  refine ite2 (fun e => hy (of_decide_eq_true e)) (fun e => hn fun e2 => e (decide_eq_true e2))
theorem kitAny2 (A : AllF K mg c) (x : W) : ∀ us : List W, PySem.W.kitAny K (.ref (c.of x)) (us.map fun u => .ref (c.of u)) = some (us.any fun u => decide (x.tag = u.tag))
  | [] => kitAny_nil
  | u :: us => by
    refine kitAny_cons (A.kit x u) (fun e => ?_) (fun e => ?_)
    · rw [List.any_cons, e, Bool.false_or]; exact kitAny2 A x us
    · rw [List.any_cons, e]; rfl
def fRc (t : Str) : Bool := decide (t = Str.ofString "row") || (decide (t = Str.ofString "choice") || false)
def fUn (t : Str) : Bool := decide (t = Str.ofString "again") || (decide (t = Str.ofString "maybe") || (decide (t = Str.ofString "ahead") || (decide (t = Str.ofString "unless") || false)))
theorem any_rc (x : W) : ([W.row [], .choice []].any fun u => decide (x.tag = u.tag)) = x.is_rc := by
  show fRc x.tag = x.is_rc
  cases x <;> (simp only [W.tag, W.is_rc]; decide +kernel)
theorem any_un (x : W) : ([W.again .one, .maybe .one, .ahead .one, .unless .one].any fun u => decide (x.tag = u.tag)) = x.is_un := by
  show fUn x.tag = x.is_un
  cases x <;> (simp only [W.tag, W.is_un]; decide +kernel)
theorem kit_rc (A : AllF K mg c) (x : W) : PySem.W.kitAny K (.ref (c.of x)) [.ref c.ro, .ref c.ch] = some x.is_rc := by rw [← any_rc]; exact kitAny2 A x [.row [], .choice []]
theorem kit_un (A : AllF K mg c) (x : W) : PySem.W.kitAny K (.ref (c.of x)) [.ref c.ag, .ref c.ma, .ref c.ah, .ref c.un] = some x.is_un := by rw [← any_un]; exact kitAny2 A x [.again .one, .maybe .one, .ahead .one, .unless .one]
theorem clsv (c : Cs) : ∀ us : List W, Paired ClsV (us.map fun u => V.ref (c.of u)) (us.map fun u => Value.ref (c.of u))
  | [] => .nil
  | u :: us => .cons (.own _) (clsv c us)
abbrev s_kind_of : Stmt := top 33
theorem sc_kind_of : FnScope ["way"] ["way"] (defScope s_kind_of) := ⟨rfl, rfl, rfl, by decide +kernel, rfl, by decide +kernel, by decide +kernel⟩
theorem d_kind_of (h : Here K mg "kind_of" s_kind_of ["way"]) (A : AllF K mg c) (B : Bs mg) (C : Kc mg) : DefOk P w K mg base 1 "kind_of" ["way"] (spKind c) := by
  have B_isinstance := B.isinstance
  have GK_Letter := A.mLt; have GK_One := A.mOn; have GK_Nothing := A.mNo; have GK_Row := A.mRo; have GK_Choice := A.mCh; have GK_Again := A.mAg; have GK_Maybe := A.mMa; have GK_Ahead := A.mAh; have GK_Unless := A.mUn
  have GC_LETTER := C.k0; have GC_ONE := C.k1; have GC_NOTHING := C.k2; have GC_ROW := C.k3; have GC_CHOICE := C.k4; have GC_AGAIN := C.k5; have GC_MAYBE := C.k6; have GC_AHEAD := C.k7; have GC_UNLESS := C.k8; have GC_CALL := C.k9
  refine h.ok sc_kind_of (fun vs H Q E h => by obtain ⟨v, w, rfl, _⟩ := h; rfl) (fun f cdv A' outer s H vs Q E hr h => ?_)
  obtain ⟨v, x, rfl, hv, k⟩ := h
  refine ⟨_, (pss_cons (ps_if (pt_val (pe_callB call_isi rfl B_isinstance (by decide +kernel) (pa_cons (pv 0) (pa_cons (pe_globC rfl GK_Letter) pa_nil)))) (pss_one (ps_ret (pe_globI rfl GC_LETTER))) pss_nil)
  (pss_cons (ps_if (pt_val (pe_callB call_isi rfl B_isinstance (by decide +kernel) (pa_cons (pv 0) (pa_cons (pe_globC rfl GK_One) pa_nil)))) (pss_one (ps_ret (pe_globI rfl GC_ONE))) pss_nil)
  (pss_cons (ps_if (pt_val (pe_callB call_isi rfl B_isinstance (by decide +kernel) (pa_cons (pv 0) (pa_cons (pe_globC rfl GK_Nothing) pa_nil)))) (pss_one (ps_ret (pe_globI rfl GC_NOTHING))) pss_nil)
  (pss_cons (ps_if (pt_val (pe_callB call_isi rfl B_isinstance (by decide +kernel) (pa_cons (pv 0) (pa_cons (pe_globC rfl GK_Row) pa_nil)))) (pss_one (ps_ret (pe_globI rfl GC_ROW))) pss_nil)
  (pss_cons (ps_if (pt_val (pe_callB call_isi rfl B_isinstance (by decide +kernel) (pa_cons (pv 0) (pa_cons (pe_globC rfl GK_Choice) pa_nil)))) (pss_one (ps_ret (pe_globI rfl GC_CHOICE))) pss_nil)
  (pss_cons (ps_if (pt_val (pe_callB call_isi rfl B_isinstance (by decide +kernel) (pa_cons (pv 0) (pa_cons (pe_globC rfl GK_Again) pa_nil)))) (pss_one (ps_ret (pe_globI rfl GC_AGAIN))) pss_nil)
  (pss_cons (ps_if (pt_val (pe_callB call_isi rfl B_isinstance (by decide +kernel) (pa_cons (pv 0) (pa_cons (pe_globC rfl GK_Maybe) pa_nil)))) (pss_one (ps_ret (pe_globI rfl GC_MAYBE))) pss_nil)
  (pss_cons (ps_if (pt_val (pe_callB call_isi rfl B_isinstance (by decide +kernel) (pa_cons (pv 0) (pa_cons (pe_globC rfl GK_Ahead) pa_nil)))) (pss_one (ps_ret (pe_globI rfl GC_AHEAD))) pss_nil)
  (pss_cons (ps_if (pt_val (pe_callB call_isi rfl B_isinstance (by decide +kernel) (pa_cons (pv 0) (pa_cons (pe_globC rfl GK_Unless) pa_nil)))) (pss_one (ps_ret (pe_globI rfl GC_UNLESS))) pss_nil)
  (pss_one (ps_ret (pe_globI rfl GC_CALL)))))))))))), ?_⟩
  refine st_isi A hv (.letter 0) (fun e => ?_) (fun e0 => ?_)
  · cases x <;> first | exact k | exact absurd e (by simp only [W.tag]; decide +kernel)
  refine st_isi A hv .one (fun e => ?_) (fun e1 => ?_)
  · cases x <;> first | exact k | exact absurd e (by simp only [W.tag]; decide +kernel)
  refine st_isi A hv .nothing (fun e => ?_) (fun e2 => ?_)
  · cases x <;> first | exact k | exact absurd e (by simp only [W.tag]; decide +kernel)
  refine st_isi A hv (.row []) (fun e => ?_) (fun e3 => ?_)
  · cases x <;> first | exact k | exact absurd e (by simp only [W.tag]; decide +kernel)
  refine st_isi A hv (.choice []) (fun e => ?_) (fun e4 => ?_)
  · cases x <;> first | exact k | exact absurd e (by simp only [W.tag]; decide +kernel)
  refine st_isi A hv (.again .one) (fun e => ?_) (fun e5 => ?_)
  · cases x <;> first | exact k | exact absurd e (by simp only [W.tag]; decide +kernel)
  refine st_isi A hv (.maybe .one) (fun e => ?_) (fun e6 => ?_)
  · cases x <;> first | exact k | exact absurd e (by simp only [W.tag]; decide +kernel)
  refine st_isi A hv (.ahead .one) (fun e => ?_) (fun e7 => ?_)
  · cases x <;> first | exact k | exact absurd e (by simp only [W.tag]; decide +kernel)
  refine st_isi A hv (.unless .one) (fun e => ?_) (fun e8 => ?_)
  · cases x <;> first | exact k | exact absurd e (by simp only [W.tag]; decide +kernel)
  cases x <;> first | exact absurd rfl e0 | exact absurd rfl e1 | exact absurd rfl e2 | exact absurd rfl e3 | exact absurd rfl e4 | exact absurd rfl e5 | exact absurd rfl e6 | exact absurd rfl e7 | exact absurd rfl e8 | exact k
abbrev s_word_of : Stmt := top 34
theorem sc_word_of : FnScope ["way"] ["way"] (defScope s_word_of) := ⟨rfl, rfl, rfl, by decide +kernel, rfl, by decide +kernel, by decide +kernel⟩
theorem d_word_of (h : Here K mg "word_of" s_word_of ["way"]) (A : AllF K mg c) (B : Bs mg) : DefOk P w K mg base 1 "word_of" ["way"] (spWord c) := by
  have B_isinstance := B.isinstance
  have GK_Letter := A.mLt; have GK_Call := A.mCa
  refine h.ok sc_word_of (fun vs H Q E h => by obtain ⟨v, w, rfl, _⟩ := h; rfl) (fun f cdv A' outer s H vs Q E hr h => ?_)
  obtain ⟨v, x, rfl, hv, k⟩ := h
  refine ⟨_, (pss_cons (ps_if (pt_val (pe_callB call_isi rfl B_isinstance (by decide +kernel) (pa_cons (pv 0) (pa_cons (pe_globC rfl GK_Letter) pa_nil)))) (pss_one (ps_ret (pe_fld (pv 0) rfl))) pss_nil)
  (pss_cons (ps_if (pt_val (pe_callB call_isi rfl B_isinstance (by decide +kernel) (pa_cons (pv 0) (pa_cons (pe_globC rfl GK_Call) pa_nil)))) (pss_one (ps_ret (pe_fld (pv 0) rfl))) pss_nil)
  (pss_one (ps_ret pe_str)))), ?_⟩
  refine st_isi A hv (.letter 0) (fun e => ?_) (fun e0 => ?_)
  · cases x <;> first | exact absurd e (by simp only [W.tag]; decide +kernel) | skip
    obtain ⟨a, d, ev, ha⟩ := id hv
    exact ⟨_, rfl, a, c.lt, d, _, _, ev, ha, (A.f (.letter 0)).cl, (A.f (.letter 0)).nl, rfl, k⟩
  refine st_isi A hv (.call (Str.ofString "")) (fun e => ?_) (fun e1 => ?_)
  · cases x <;> first | exact absurd e (by simp only [W.tag]; decide +kernel) | skip
    obtain ⟨a, d, ev, ha⟩ := id hv
    exact ⟨_, rfl, a, c.ca, d, _, _, ev, ha, (A.f (.call (Str.ofString ""))).cl, (A.f (.call (Str.ofString ""))).nn, rfl, k⟩
  cases x <;> first | exact absurd rfl e0 | exact absurd rfl e1 | exact k
abbrev s_made_of : Stmt := top 35
theorem sc_made_of : FnScope ["way"] ["way"] (defScope s_made_of) := ⟨rfl, rfl, rfl, by decide +kernel, rfl, by decide +kernel, by decide +kernel⟩
theorem d_made_of (h : Here K mg "made_of" s_made_of ["way"]) (A : AllF K mg c) (B : Bs mg) : DefOk P w K mg base 1 "made_of" ["way"] (spMadeOf c) := by
  have B_isinstance := B.isinstance
  have GK_Row := A.mRo; have GK_Choice := A.mCh; have GK_Again := A.mAg; have GK_Maybe := A.mMa; have GK_Ahead := A.mAh; have GK_Unless := A.mUn
  refine h.ok sc_made_of (fun vs H Q E h => by obtain ⟨v, w, rfl, _⟩ := h; rfl) (fun f cdv A' outer s H vs Q E hr h => ?_)
  obtain ⟨v, x, rfl, hv, k⟩ := h
  refine ⟨_, (pss_cons (ps_if (pt_val (pe_callB call_isiT rfl B_isinstance (by decide +kernel) (pa_cons (pv 0) (pa_cons (pe_tup (pa_cons (pe_globC rfl GK_Row) (pa_cons (pe_globC rfl GK_Choice) pa_nil))) pa_nil)))) (pss_one (ps_ret (pe_fld (pv 0) rfl))) pss_nil)
  (pss_cons (ps_if (pt_val (pe_callB call_isiT rfl B_isinstance (by decide +kernel) (pa_cons (pv 0) (pa_cons (pe_tup (pa_cons (pe_globC rfl GK_Again) (pa_cons (pe_globC rfl GK_Maybe) (pa_cons (pe_globC rfl GK_Ahead) (pa_cons (pe_globC rfl GK_Unless) pa_nil))))) pa_nil)))) (pss_one (ps_ret (pe_tup (pa_cons (pe_fld (pv 0) rfl) pa_nil)))) pss_nil)
  (pss_one (ps_ret (pe_tup pa_nil))))), ?_⟩
  walk_at "rd"
  refine ⟨by show 2 ≤ sizeLine; decide, fun tp htp => ?_⟩
  have s1 := Same.new htp (.tup [.ref c.ro, .ref c.ch])
  have hv1 := ObjAt.keep (stillS s1) _ _ hv
  refine ⟨v, tp, _, _, _, _, rfl, upd_same, clsv c [.row [], .choice []], hv1.ty A, kit_rc A x, _, rfl, ?_⟩
  refine ite2 (fun e => ?_) (fun e0 => ?_)
  · cases x <;> first | exact absurd e Bool.false_ne_true | skip
    all_goals
      obtain ⟨a, d, t, us, ev, ha, ht, hus⟩ := id hv1
      refine ⟨_, rfl, a, _, d, _, _, ev, ha, ?_, ?_, rfl, k t us _ s1 ht hus⟩
      · first | exact (A.f (.row [])).cl | exact (A.f (.choice [])).cl
      · first | exact (A.f (.row [])).nw | exact (A.f (.choice [])).nw
  walk_at "nx"
  walk_at "rd"
  refine ⟨by show 4 ≤ sizeLine; decide, fun tq htq => ?_⟩
  have s2 := s1.trans (Same.new htq (.tup [.ref c.ag, .ref c.ma, .ref c.ah, .ref c.un]))
  have hv2 := ObjAt.keep (stillS s2) _ _ hv
  refine ⟨v, tq, _, _, _, _, rfl, upd_same, clsv c [.again .one, .maybe .one, .ahead .one, .unless .one], hv2.ty A, kit_un A x, _, rfl, ?_⟩
  refine ite2 (fun e => ?_) (fun e1 => ?_)
  · cases x <;> first | exact absurd e Bool.false_ne_true | skip
    all_goals
      obtain ⟨a, d, u, mk, ev, ha, hu⟩ := id hv2
      refine ⟨_, rfl, a, _, d, _, _, ev, ha, ?_, ?_, rfl, by show 1 ≤ sizeLine; decide, fun p hp => ?_⟩
      · first | exact (A.f (.again .one)).cl | exact (A.f (.maybe .one)).cl | exact (A.f (.ahead .one)).cl | exact (A.f (.unless .one)).cl
      · first | exact (A.f (.again .one)).np | exact (A.f (.maybe .one)).np | exact (A.f (.ahead .one)).np | exact (A.f (.unless .one)).np
      have s3 := s2.trans (Same.new hp (.tup [u]))
      exact k p _ _ s3 upd_same ⟨u, [], rfl, ObjAt.keep (stillS (Same.new hp _)) _ _ hu, rfl⟩
  walk_at "nx"
  walk_at "rd"
  refine ⟨Nat.zero_le _, fun p hp => ?_⟩
  have s3 := s2.trans (Same.new hp (.tup []))
  cases x <;> first | exact absurd rfl e0 | exact absurd rfl e1 | exact k p _ _ s3 upd_same rfl
end
end Wv
namespace Wv
open PySem PySem.Spec PyProof.Rows L2
/-! ### the parts of a way, == and len -/
theorem while_m {c : TT} {tb : TS} {D : Ends} {σ : L2.St} {H : Hp} (Pv : Nat → L2.St → Hp → Prop) (m : Nat) (h0 : Pv m σ H)
    (hs : ∀ m σ H, Pv m σ H → c σ H fun b H1 => if b = true then tb { D with nx := fun σ' H' => ∃ m', m' < m ∧ Pv m' σ' H', ct := fun σ' H' => ∃ m', m' < m ∧ Pv m' σ' H', bk := D.nx } σ H1 else D.nx σ H1)
    (mono : ∀ σ H Q Q', (∀ b H1, Q b H1 → Q' b H1) → c σ H Q → c σ H Q') : tWhile c tb D σ H := by
  refine ⟨Pv, ⟨m, h0⟩, fun m σ H p => mono σ H _ _ (fun b H1 q => ?_) (hs m σ H p)⟩
  cases b with
  | true => exact ⟨_, fun _ _ h => h, q⟩
  | false => exact q
theorem ObjsAt.split {c : Cs} {H : Hp} : ∀ (a : List W) (w : W) (vs : List V), ObjsAt c H vs (a ++ [w]) → ∃ us u, vs = us ++ [u] ∧ ObjsAt c H us a ∧ ObjAt c H u w
  | [], w, vs, ⟨u, us, e, h, h2⟩ => ⟨[], u, by rw [e, show us = [] from h2]; rfl, rfl, h⟩
  | x :: a, w, vs, ⟨u, us, e, h, h2⟩ => by
    obtain ⟨us', u', e', h3, h4⟩ := ObjsAt.split a w us h2
    exact ⟨u :: us', u', by rw [e, e']; rfl, ⟨u, us', rfl, h, h3⟩, h4⟩
theorem W.sizes_rev : ∀ ws : List W, W.sizes ws.reverse = W.sizes ws
  | [] => rfl
  | w :: ws => by rw [List.reverse_cons, W.sizes_app, W.sizes_rev ws]; simp only [W.sizes]; omega
theorem last_get {α : Type} (us : List α) (u : α) : (us ++ [u])[(us ++ [u]).length - 1]? = some u := by
  rw [List.length_append, List.length_singleton, Nat.add_sub_cancel, List.getElem?_append_right (Nat.le_refl _), Nat.sub_self]; rfl
theorem tru_lst {K : PySem.W.Frag} {H : Hp} {t : Addr} {xs : List V} (h : H t = some (.lst xs)) : TruV K (.ref t) H (!xs.isEmpty) := .inl ⟨xs, SqL.of h, rfl⟩
theorem iteT' {b : Bool} {T F : Prop} (h : b = true) (t : T) : if b = true then T else F := by rw [h]; exact t
mutual
/-- all parts of a way, one after the other -/
def W.parts : W → List W
  | .nothing => [.nothing] | .one => [.one] | .letter x => [.letter x] | .call x => [.call x]
  | .row ws => .row ws :: W.partss ws
  | .choice ws => .choice ws :: W.partss ws
  | .again w => .again w :: (W.parts w ++ [])
  | .maybe w => .maybe w :: (W.parts w ++ [])
  | .ahead w => .ahead w :: (W.parts w ++ [])
  | .unless w => .unless w :: (W.parts w ++ [])
def W.partss : List W → List W
  | [] => []
  | w :: ws => W.parts w ++ W.partss ws
end
theorem W.parts_eq (w : W) : w.parts = w :: W.partss w.inner := by cases w <;> rfl
theorem W.partss_app : ∀ a b : List W, W.partss (a ++ b) = W.partss a ++ W.partss b
  | [], b => rfl
  | x :: a, b => by rw [List.cons_append, W.partss, W.partss_app a b, W.partss, List.append_assoc]
def spParts (c : Cs) : Sp := fun vs H Q _ => ∃ (v : V) (w : W), vs = [v] ∧ ObjAt c H v w ∧ w.size ≤ 1000 ∧ ∀ (p : Addr) (ps : List V) (H' : Hp), Same H H' → H' p = some (.lst ps) → ps.length = w.size → ObjsAt c H' ps w.parts → Q (.ref p) H'
section
variable {P : Program} {w : World} {K : PySem.W.Frag} {mg : Str → Option Value} {base : Heap} {c : Cs} {H : Hp} {v : V} {x : W} {Q : VK}
abbrev s_parts_of : Stmt := top 36
theorem sc_parts_of : FnScope ["way", "parts", "todo", "part"] ["way"] (defScope s_parts_of) := ⟨rfl, rfl, rfl, by decide +kernel, rfl, by decide +kernel, by decide +kernel⟩
theorem d_parts_of (h : Here K mg "parts_of" s_parts_of ["way"]) (G_made_of : DefOk P w K mg base 1 "made_of" ["way"] (spMadeOf c)) : DefOk P w K mg base 2 "parts_of" ["way"] (spParts c) := by
  refine h.ok sc_parts_of (fun vs H Q E h => by obtain ⟨v, w, rfl, _⟩ := h; rfl) (fun f cdv A' outer s H vs Q E hr h => ?_)
  obtain ⟨v, x, rfl, hv, hx, k⟩ := h
  refine ⟨_, (pss_cons (ps_set (i := 1) sc_parts_of.nd rfl (Or.inl rfl) (pe_lst pa_nil))
  (pss_cons (ps_set (i := 2) sc_parts_of.nd rfl (Or.inl rfl) (pe_lst (pa_cons (pv 0) pa_nil)))
  (pss_cons (ps_while PassesOwn.never (pt_truth (pv 2) (by intro _; rfl)) (pss_cons (ps_set (i := 3) sc_parts_of.nd rfl (Or.inl rfl) (pe_bm0 PySem.F.plainAttrs_list PySem.F.slot_list_pop PySem.F.type_list_pop mt_pop (pv 2)))
  (pss_cons (ps_expr (pe_bm PySem.F.plainAttrs_list PySem.F.slot_list_append PySem.F.type_list_append mt_append (pv 1) (pa_cons (pv 3) pa_nil)))
  (pss_one (ps_expr (pe_bm PySem.F.plainAttrs_list PySem.F.slot_list_extend PySem.F.type_list_extend mt_extendT (pv 2) (pa_cons (pe_revT (pe_callD G_made_of (hr.mono (by first | decide | omega)) rfl (pa_cons (pv 3) pa_nil))) pa_nil)))))))
  (pss_one (ps_ret (pv 1)))))), ?_⟩
  refine ⟨Nat.zero_le _, fun p hp => ?_⟩
  have s1 := Same.new hp (.lst [])
  walk_at "nx"
  walk_at "rd"
  refine ⟨by show 1 ≤ sizeLine; decide, fun t ht => ?_⟩
  have s2 := s1.trans (Same.new ht (.lst [v]))
  have npt : p ≠ t := ne_of_none upd_same ht
  have htH : H t = none := by rw [upd_ne npt.symm] at ht; exact ht
  walk_at "nx"
  refine while_m (fun m σ H' => ∃ (ps ts : List V) (ws : List W) (x3 : Option V), σ = [some v, some (.ref p), some (.ref t), x3] ∧ H' p = some (.lst ps) ∧ H' t = some (.lst ts) ∧ ObjsAt c H' ts ws ∧ W.sizes ws = m ∧ ps.length + m = x.size ∧ (∃ dn : List W, ObjsAt c H' ps dn ∧ dn ++ W.partss ws.reverse = x.parts) ∧ Same H H') x.size ?_ ?_
    (fun σ H Q Q' hq ⟨v, e, b, tv, h⟩ => ⟨v, e, b, tv, hq _ _ h⟩)
  · exact ⟨[], [v], [x], none, rfl, by rw [upd_ne npt]; exact upd_same, upd_same, ⟨v, [], rfl, ObjAt.keep (stillS s2) _ _ hv, rfl⟩, by simp only [W.sizes]; omega, by simp, ⟨[], rfl, by simp [W.partss]⟩, s2⟩
  · rintro m σ H1 ⟨ps, ts, ws, x3, rfl, hp1, ht1, hts, hm, hlen, ⟨dn, hdn, edn⟩, s3⟩
    refine ⟨_, rfl, _, tru_lst ht1, ?_⟩
    rcases List.eq_nil_or_concat ws with e | ⟨wa, wl, e⟩
    · subst e
      have e2 : ts = [] := hts
      subst e2
      refine iteF ?_
      walk_at "nx"
      walk_at "rd"
      have : m = 0 := hm.symm
      exact k p ps H1 s3 hp1 (by omega) (by rw [← edn]; simpa [W.partss] using hdn)
    · have e' : ws = wa ++ [wl] := by rw [e]; simp
      clear e
      subst e'
      obtain ⟨ta, tl, e2, hta, htl⟩ := ObjsAt.split _ _ _ hts
      subst e2
      have hsz : W.sizes wa + wl.size = m := by rw [← hm, W.sizes_app]; simp only [W.sizes]; omega
      have hin := wl.size_inner
      refine iteT' (by simp) ?_
      walk_at "nx"
      refine ⟨_, rfl, .inl ⟨rfl, _, SqL.of ht1⟩, t, _, _, rfl, rfl, ht1, last_get _ _, ?_⟩
      rw [List.dropLast_concat]
      walk_at "nx"
      have hp2 : upd H1 t (.lst ta) p = some (.lst ps) := by rw [upd_ne npt]; exact hp1
      refine ⟨_, rfl, .inl ⟨rfl, _, SqL.of hp2⟩, _, rfl, p, _, _, rfl, rfl, hp2, small' (by omega), ?_⟩
      walk_at "nx"
      have k1 : Still H1 (upd H1 t (.lst ta)) := Still.put ht1
      have k2 : Still (upd H1 t (.lst ta)) (upd (upd H1 t (.lst ta)) p (.lst (ps ++ [tl]))) := Still.put hp2
      have k12 := k1.trans k2
      have ht3 : upd (upd H1 t (.lst ta)) p (.lst (ps ++ [tl])) t = some (.lst ta) := by rw [upd_ne npt.symm]; exact upd_same
      have hp3 : upd (upd H1 t (.lst ta)) p (.lst (ps ++ [tl])) p = some (.lst (ps ++ [tl])) := upd_same
      have s4 : Same H (upd (upd H1 t (.lst ta)) p (.lst (ps ++ [tl]))) := Same.put hp (Same.put htH s3 _) _
      generalize upd (upd H1 t (.lst ta)) p (.lst (ps ++ [tl])) = H2 at *
      refine ⟨_, rfl, .inl ⟨rfl, _, SqL.of ht3⟩, _, rfl, tl, wl, rfl, ObjAt.keep k12 _ _ htl, fun u us H3 s5 hu hus => ?_⟩
      refine ⟨u, us, rfl, SqT.of hu, fun r hr => ?_⟩
      have s6 := Same.new hr (.tup us.reverse)
      have ll := ObjsAt.len _ _ hta
      have l2 := W.sizes_len wa
      have l3 := ObjsAt.len _ _ hus
      have l4 := W.sizes_len wl.inner
      have ht4 := s6 _ _ (s5 _ _ ht3)
      refine ⟨t, r, _, _, rfl, rfl, ht4, SqT.of upd_same, ?_, ?_⟩
      · rw [List.length_reverse]
        exact Nat.le_of_lt (small' (by omega))
      · walk_at "nx"
        have k7 : Still _ (upd (upd H3 r (.tup us.reverse)) t (.lst (ta ++ us.reverse))) := Still.put ht4
        have k36 := (stillS s6).trans k7
        refine ⟨W.sizes (wa ++ wl.inner.reverse), ?_, ps ++ [tl], _, wa ++ wl.inner.reverse, _, rfl, ?_, upd_same, ?_, rfl, ?_, ?_⟩
        · rw [W.sizes_app, W.sizes_rev]; omega
        · rw [upd_ne npt]; exact s6 _ _ (s5 _ _ hp3)
        · exact ObjsAt.app _ _ (ObjsAt.keep ((k12.trans (stillS s5)).trans k36) _ _ hta) (ObjsAt.keep k36 _ _ (ObjsAt.rev _ _ hus))
        · rw [W.sizes_app, W.sizes_rev, List.length_append, List.length_singleton]; omega
        · refine ⟨⟨dn ++ [wl], ?_, ?_⟩, Same.put htH ((s4.trans s5).trans s6) _⟩
          · exact ObjsAt.app _ _ (ObjsAt.keep ((k12.trans (stillS s5)).trans k36) _ _ hdn) ⟨tl, [], rfl, ObjAt.keep ((k12.trans (stillS s5)).trans k36) _ _ htl, rfl⟩
          · rw [← edn, List.reverse_append, List.reverse_append, List.reverse_reverse, W.partss_app, List.reverse_singleton, List.singleton_append, W.partss, W.parts_eq wl]
            simp
/-- pairs of two ways that are the same -/
def TwoAt (c : Cs) (H : Hp) : List V → List W → Prop
  | ts, [] => ts = []
  | ts, w :: ws => ∃ r a b us, ts = V.ref r :: us ∧ H r = some (.tup [a, b]) ∧ ObjAt c H a w ∧ ObjAt c H b w ∧ TwoAt c H us ws
theorem TwoAt.keep {H H' : Hp} (k : Still H H') : ∀ (ws : List W) (ts : List V), TwoAt c H ts ws → TwoAt c H' ts ws
  | [], _, h => h
  | w :: ws, ts, ⟨r, a, b, us, e, h, h1, h2, h3⟩ => ⟨r, a, b, us, e, k.tup h, ObjAt.keep k _ _ h1, ObjAt.keep k _ _ h2, TwoAt.keep k ws us h3⟩
theorem TwoAt.len : ∀ (ws : List W) (ts : List V), TwoAt c H ts ws → ts.length = ws.length
  | [], ts, h => by rw [show ts = [] from h]; rfl
  | w :: ws, ts, ⟨r, a, b, us, e, _, _, _, h3⟩ => by rw [e, List.length_cons, List.length_cons, TwoAt.len ws us h3]
theorem TwoAt.app : ∀ (ws : List W) (ts : List V) {us : List V} {xs : List W}, TwoAt c H ts ws → TwoAt c H us xs → TwoAt c H (ts ++ us) (ws ++ xs)
  | [], ts, us, xs, h, h2 => by rw [show ts = [] from h]; exact h2
  | w :: ws, ts, us, xs, ⟨r, a, b, r', e, h, h1, h3, h4⟩, h2 => by rw [e]; exact ⟨r, a, b, r' ++ us, rfl, h, h1, h3, TwoAt.app ws r' h4 h2⟩
theorem TwoAt.split : ∀ (a : List W) (w : W) (vs : List V), TwoAt c H vs (a ++ [w]) → ∃ us r x y, vs = us ++ [V.ref r] ∧ TwoAt c H us a ∧ H r = some (.tup [x, y]) ∧ ObjAt c H x w ∧ ObjAt c H y w
  | [], w, vs, ⟨r, a, b, us, e, h, h1, h2, h3⟩ => ⟨[], r, a, b, by rw [e, show us = [] from h3]; rfl, rfl, h, h1, h2⟩
  | x :: a, w, vs, ⟨r, y, z, us, e, h, h1, h2, h3⟩ => by
    obtain ⟨us', r', x', y', e', g1, g2, g3, g4⟩ := TwoAt.split a w us h3
    exact ⟨V.ref r :: us', r', x', y', by rw [e, e']; rfl, ⟨r, y, z, us', rfl, h, h1, h2, g1⟩, g2, g3, g4⟩
theorem TwoAt.of : ∀ (ws : List W) (ts : List Addr) (xs ys : List V), Wz.PairsAt H ts xs ys → ObjsAt c H xs ws → ObjsAt c H ys ws → TwoAt c H (ts.map V.ref) ws
  | [], ts, xs, ys, p, hx, hy => by
    have e : xs = [] := hx
    have l := p.len
    rw [e] at l
    rw [List.eq_nil_of_length_eq_zero l]
    rfl
  | w :: ws, ts, xs, ys, p, ⟨u, us, e, hu, hus⟩, ⟨u2, us2, e2, hu2, hus2⟩ => by
    subst e e2
    have l := p.len
    cases ts with
    | nil => cases l
    | cons t ts =>
      obtain ⟨x, y, h1, h2, h3⟩ := p.at_ 0 t rfl
      have e1 : u = x := Option.some.inj h1
      have e2 : u2 = y := Option.some.inj h2
      subst e1 e2
      exact ⟨t, u, u2, _, rfl, h3, hu, hu2, TwoAt.of ws ts us us2 ⟨by simpa using l, fun j t' hj => p.at_ (j + 1) t' (by simpa using hj)⟩ hus hus2⟩
def spSameW (c : Cs) : Sp := fun vs H Q _ => ∃ (a b : V) (w : W), vs = [a, b] ∧ ObjAt c H a w ∧ ObjAt c H b w ∧ w.size ≤ 1000 ∧ ∀ H', Same H H' → Q (.bl true) H'
abbrev s_same_ways : Stmt := top 37
theorem sc_same_ways : FnScope ["one", "other", "todo", "left", "right"] ["one", "other"] (defScope s_same_ways) := ⟨rfl, rfl, rfl, by decide +kernel, rfl, by decide +kernel, by decide +kernel⟩
theorem d_same_ways (h : Here K mg "same_ways" s_same_ways ["one", "other"]) (B : Bs mg) (G_made_of : DefOk P w K mg base 1 "made_of" ["way"] (spMadeOf c)) (G_kind_of : DefOk P w K mg base 1 "kind_of" ["way"] (spKind c)) (G_word_of : DefOk P w K mg base 1 "word_of" ["way"] (spWord c)) :
    DefOk P w K mg base 2 "same_ways" ["one", "other"] (spSameW c) := by
  have B_len := B.len; have B_list := B.list; have B_zip := B.zip
  refine h.ok sc_same_ways (fun vs H Q E h => by obtain ⟨a, b, w, rfl, _⟩ := h; rfl) (fun f cdv A' outer s H vs Q E hr h => ?_)
  obtain ⟨a, b, x, rfl, ha, hb, hx, k⟩ := h
  refine ⟨_, (pss_cons (ps_set (i := 2) sc_same_ways.nd rfl (Or.inl rfl) (pe_lst (pa_cons (pe_tup (pa_cons (pv 0) (pa_cons (pv 1) pa_nil))) pa_nil)))
  (pss_cons (ps_while PassesOwn.never (pt_truth (pv 2) (by intro _; rfl)) (pss_cons (ps_asg (pe_bm0 PySem.F.plainAttrs_list PySem.F.slot_list_pop PySem.F.type_list_pop mt_pop (pv 2)) (pg_tup rfl (pgs_cons (pg_name (i := 3) sc_same_ways.nd rfl (Or.inl rfl)) (pgs_cons (pg_name (i := 4) sc_same_ways.nd rfl (Or.inl rfl)) pgs_nil))))
  (pss_cons (ps_if (PW.pt (pw_or (pt_cmpR op_ne (pe_callD G_kind_of (hr.mono (by first | decide | omega)) rfl (pa_cons (pv 3) pa_nil)) (pe_callD G_kind_of (hr.mono (by first | decide | omega)) rfl (pa_cons (pv 4) pa_nil)) (nomark _)) (pw_or1 (pt_cmpR op_ne (pe_callD G_word_of (hr.mono (by first | decide | omega)) rfl (pa_cons (pv 3) pa_nil)) (pe_callD G_word_of (hr.mono (by first | decide | omega)) rfl (pa_cons (pv 4) pa_nil)) (nomark _))))) (pss_one (ps_ret pe_bl)) pss_nil)
  (pss_cons (ps_if (pt_cmpR op_ne (pe_callB call_len_seq rfl B_len PySem.boot_len (pa_cons (pe_callD G_made_of (hr.mono (by first | decide | omega)) rfl (pa_cons (pv 3) pa_nil)) pa_nil)) (pe_callB call_len_seq rfl B_len PySem.boot_len (pa_cons (pe_callD G_made_of (hr.mono (by first | decide | omega)) rfl (pa_cons (pv 4) pa_nil)) pa_nil)) (nomark _)) (pss_one (ps_ret pe_bl)) pss_nil)
  (pss_one (ps_expr (pe_bm PySem.F.plainAttrs_list PySem.F.slot_list_extend PySem.F.type_list_extend mt_extend (pv 2) (pa_cons (Wz.pe_listZip rfl rfl B_list rfl B_zip (pa_cons (pe_callD G_made_of (hr.mono (by first | decide | omega)) rfl (pa_cons (pv 3) pa_nil)) (pa_cons (pe_callD G_made_of (hr.mono (by first | decide | omega)) rfl (pa_cons (pv 4) pa_nil)) pa_nil))) pa_nil))))))))
  (pss_one (ps_ret pe_bl)))), ?_⟩
  walk_at "rd"
  refine ⟨by show 2 ≤ sizeLine; decide, fun r hr => ?_⟩
  have s1 := Same.new hr (.tup [a, b])
  refine ⟨by show 1 ≤ sizeLine; decide, fun t ht => ?_⟩
  have s2 := s1.trans (Same.new ht (.lst [.ref r]))
  have nrt : r ≠ t := ne_of_none upd_same ht
  have htH : H t = none := by rw [upd_ne nrt.symm] at ht; exact ht
  walk_at "nx"
  refine while_m (fun m σ H' => ∃ (ts : List V) (ws : List W) (x3 x4 : Option V), σ = [some a, some b, some (.ref t), x3, x4] ∧ H' t = some (.lst ts) ∧ TwoAt c H' ts ws ∧ W.sizes ws = m ∧ m ≤ 1000 ∧ Same H H') x.size ?_ ?_
    (fun σ H Q Q' hq ⟨v, e, b, tv, h⟩ => ⟨v, e, b, tv, hq _ _ h⟩)
  · exact ⟨_, [x], none, none, rfl, upd_same, ⟨r, a, b, [], rfl, by rw [upd_ne nrt]; exact upd_same, ObjAt.keep (stillS s2) _ _ ha, ObjAt.keep (stillS s2) _ _ hb, rfl⟩, by simp only [W.sizes]; omega, hx, s2⟩
  · rintro m σ H1 ⟨ts, ws, x3, x4, rfl, ht1, hts, hm, hmx, s3⟩
    refine ⟨_, rfl, _, tru_lst ht1, ?_⟩
    rcases List.eq_nil_or_concat ws with e | ⟨wa, wl, e⟩
    · subst e
      have e2 : ts = [] := hts
      subst e2
      refine iteF ?_
      walk_at "nx"
      walk_at "rd"
      exact k H1 s3
    · have e' : ws = wa ++ [wl] := by rw [e]; simp
      clear e
      subst e'
      obtain ⟨ta, tl, y, z, e2, hta, htl, hy, hz⟩ := TwoAt.split _ _ _ hts
      subst e2
      have hsz : W.sizes wa + wl.size = m := by rw [← hm, W.sizes_app]; simp only [W.sizes]; omega
      have hin := wl.size_inner
      refine iteT' (by simp) ?_
      walk_at "nx"
      refine ⟨_, rfl, .inl ⟨rfl, _, SqL.of ht1⟩, t, _, _, rfl, rfl, ht1, last_get _ _, ?_⟩
      rw [List.dropLast_concat]
      have k1 : Still H1 (upd H1 t (.lst ta)) := Still.put ht1
      have s4 : Same H (upd H1 t (.lst ta)) := Same.put htH s3 _
      have ht2 : upd H1 t (.lst ta) t = some (.lst ta) := upd_same
      generalize upd H1 t (.lst ta) = H2 at *
      refine ⟨tl, [y, z], rfl, SqT.of (k1.tup htl), rfl, ?_⟩
      have hy2 := ObjAt.keep k1 _ _ hy
      have hz2 := ObjAt.keep k1 _ _ hz
      refine ⟨y, [z], rfl, ?_⟩
      walk_at "nx"
      refine ⟨z, [], rfl, ?_⟩
      walk_at "nx"
      refine ⟨rfl, ?_⟩
      walk_at "nx"
      refine ⟨_, rfl, y, wl, rfl, hy2, _, rfl, z, wl, rfl, hz2, rfl, ?_⟩
      rw [decide_eq_true rfl]
      refine ⟨_, rfl, iteF ?_⟩
      refine ⟨_, rfl, y, wl, rfl, hy2, _, rfl, z, wl, rfl, hz2, rfl, ?_⟩
      rw [decide_eq_true rfl]
      refine ⟨_, rfl, iteF ?_⟩
      walk_at "nx"
      refine ⟨_, rfl, y, wl, rfl, hy2, fun u1 us1 H3 s5 hu1 hus1 => ?_⟩
      have hz3 := ObjAt.keep (stillS s5) _ _ hz2
      refine ⟨u1, us1, rfl, .inr (SqT.of hu1), ?_⟩
      refine ⟨_, rfl, z, wl, rfl, hz3, fun u2 us2 H4 s6 hu2 hus2 => ?_⟩
      refine ⟨u2, us2, rfl, .inr (SqT.of hu2), ?_⟩
      have l1 := ObjsAt.len _ _ hus1
      have l2 := ObjsAt.len _ _ hus2
      rw [l1, l2]
      refine ⟨rfl, ?_⟩
      rw [decide_eq_true rfl]
      refine ⟨_, rfl, iteF ?_⟩
      walk_at "nx"
      have s24 := s5.trans s6
      have ht4 := s24 _ _ ht2
      have hy4 := ObjAt.keep (stillS s24) _ _ hy2
      have hz4 := ObjAt.keep (stillS s24) _ _ hz2
      refine ⟨_, rfl, .inl ⟨rfl, _, SqL.of ht4⟩, ?_⟩
      refine ⟨_, rfl, y, wl, rfl, hy4, fun u3 us3 H5 s7 hu3 hus3 => ?_⟩
      have hz5 := ObjAt.keep (stillS s7) _ _ hz4
      refine ⟨_, rfl, z, wl, rfl, hz5, fun u4 us4 H6 s8 hu4 hus4 => ?_⟩
      have l3 := ObjsAt.len _ _ hus3
      have l4 := ObjsAt.len _ _ hus4
      refine ⟨u3, u4, us3, us4, rfl, SqT.of (s8 _ _ hu3), SqT.of hu4, by omega, fun H7 p ts s9 hp7 hl7 hpr => ?_⟩
      have s69 := (s7.trans s8).trans s9
      have s29 := s24.trans s69
      have ht7 := s69 _ _ ht4
      have lp := hpr.len
      have la := TwoAt.len _ _ hta
      have lb := W.sizes_len wa
      have lc := W.sizes_len wl.inner
      refine ⟨t, p, _, _, rfl, rfl, ht7, hl7, by rw [List.length_map]; exact Nat.le_of_lt (small' (by omega)), ?_⟩
      walk_at "nx"
      have k8 : Still H7 (upd H7 t (.lst (ta ++ ts.map V.ref))) := Still.put ht7
      refine ⟨W.sizes (wa ++ wl.inner), by rw [W.sizes_app]; omega, _, wa ++ wl.inner, _, _, rfl, upd_same, ?_, rfl, by rw [W.sizes_app]; omega, Same.put htH (s4.trans s29) _⟩
      have hx7 := ObjsAt.keep (stillS (s8.trans s9)) _ _ hus3
      have hy7 := ObjsAt.keep (stillS s9) _ _ hus4
      exact TwoAt.app _ _ (TwoAt.keep ((k1.trans (stillS s29)).trans k8) _ _ hta) (TwoAt.keep k8 _ _ (TwoAt.of _ _ _ _ hpr hx7 hy7))
end
end Wv
namespace Wv
open PySem PySem.Spec PyProof.Rows L2
/-! ### Way.__len__, Way.__eq__, Way.at -/
def W.at? : W → List Int → Option W
  | w, [] => some w
  | w, i :: is => match w.inner[i.toNat]? with
    | some u => W.at? u is
    | none => none
def Told (c : Cs) (H : Hp) (r : V) : Option W → Prop
  | some u => ObjAt c H r u
  | none => r = .non
def spLenW (c : Cs) : Sp := fun vs H Q _ => ∃ (v : V) (w : W), vs = [v] ∧ ObjAt c H v w ∧ w.size ≤ 1000 ∧ ∀ H', Same H H' → Q (.int w.size) H'
def spAt (c : Cs) : Sp := fun vs H Q _ => ∃ (v : V) (w : W) (pa : Addr) (is : List Int), vs = [v, .ref pa] ∧ ObjAt c H v w ∧ H pa = some (.tup (is.map V.int)) ∧ (∀ i ∈ is, 0 ≤ i) ∧ ∀ (r : V) (H' : Hp), Same H H' → Told c H' r (w.at? is) → Q r H'
section
variable {P : Program} {w : World} {K : PySem.W.Frag} {mg : Str → Option Value} {base : Heap} {c : Cs}
abbrev s_Way_len : Stmt := inClass (top 20) 4
theorem sc_Way_len : FnScope ["self"] ["self"] (defScope s_Way_len) := ⟨rfl, rfl, rfl, by decide +kernel, rfl, by decide +kernel, by decide +kernel⟩
theorem ok_Way_len {f : Addr} {fd : FuncData} (F : Fun K "__len__" "Way.__len__" s_Way_len f fd) (B : Bs mg) (G_parts_of : DefOk P w K mg base 2 "parts_of" ["way"] (spParts c)) : FnOk P w K mg base CX0 3 f fd ["self"] (spLenW c) := by
  have B_len := B.len
  refine F.ok sc_Way_len (fun vs H Q E h => by obtain ⟨v, w, rfl, _⟩ := h; rfl) (fun cdv A outer s H vs Q E hr h => ?_)
  obtain ⟨v, x, rfl, hv, hx, k⟩ := h
  refine ⟨_, (pss_one (ps_ret (pe_callB call_len_seq rfl B_len PySem.boot_len (pa_cons (pe_callD G_parts_of (hr.mono (by first | decide | omega)) rfl (pa_cons (pv 0) pa_nil)) pa_nil)))), ?_⟩
  refine ⟨_, rfl, v, x, rfl, hv, hx, fun p ps H' s1 hp hl _ => ?_⟩
  refine ⟨p, ps, rfl, .inl (SqL.of hp), ?_⟩
  rw [hl]
  exact k H' s1
abbrev s_Way_eq : Stmt := inClass (top 20) 3
theorem sc_Way_eq : FnScope ["self", "other"] ["self", "other"] (defScope s_Way_eq) := ⟨rfl, rfl, rfl, by decide +kernel, rfl, by decide +kernel, by decide +kernel⟩
theorem ok_Way_eq {f wy : Addr} {fd : FuncData} (F : Fun K "__eq__" "Way.__eq__" s_Way_eq f fd) (A : AllF K mg c) (GK_Way : mg "Way" = some (.ref wy)) (hW : ∀ x : W, PySem.W.kitOne K (.ref (c.of x)) (.ref wy) = some true) (B : Bs mg)
    (G_same_ways : DefOk P w K mg base 2 "same_ways" ["one", "other"] (spSameW c)) : FnOk P w K mg base CX0 3 f fd ["self", "other"] (spEq fun a b H => DW c (.ref a) (.ref b) H) := by
  have B_isinstance := B.isinstance
  refine F.ok sc_Way_eq (fun vs H Q E h => by obtain ⟨a, b, rfl, _⟩ := h; rfl) (fun cdv A' outer s H vs Q E hr h => ?_)
  obtain ⟨a, b, rfl, ⟨x, hx, ha, hb⟩, k⟩ := h
  refine ⟨_, (pss_one (ps_ret (pe_and (pe_callB call_isi rfl B_isinstance (by decide +kernel) (pa_cons (pv 1) (pa_cons (pe_globC rfl GK_Way) pa_nil))) (pe_one (pe_callD G_same_ways (hr.mono (by first | decide | omega)) rfl (pa_cons (pv 0) (pa_cons (pv 1) pa_nil))))))), ?_⟩
  refine ⟨_, rfl, .ref b, .ref wy, _, _, _, rfl, .own _, hb.ty A, hW x, _, rfl, ?_⟩
  refine iteT ?_
  exact ⟨_, rfl, _, rfl, .ref a, .ref b, x, rfl, ha, hb, hx, fun H' s => k H' s⟩
abbrev s_Way_at : Stmt := inClass (top 20) 2
theorem sc_Way_at : FnScope ["self", "path", "part", "index", "inner"] ["self", "path"] (defScope s_Way_at) := ⟨rfl, rfl, rfl, by decide +kernel, rfl, by decide +kernel, by decide +kernel⟩
theorem ok_Way_at {f : Addr} {fd : FuncData} (F : Fun K "at" "Way.at" s_Way_at f fd) (B : Bs mg) (G_made_of : DefOk P w K mg base 1 "made_of" ["way"] (spMadeOf c)) : FnOk P w K mg base CX0 2 f fd ["self", "path"] (spAt c) := by
  have B_len := B.len
  refine F.ok sc_Way_at (fun vs H Q E h => by obtain ⟨v, w, pa, is, rfl, _⟩ := h; rfl) (fun cdv A' outer s H vs Q E hr h => ?_)
  obtain ⟨v, x, pa, is, rfl, hv, hp, hn, k⟩ := h
  refine ⟨_, (pss_cons (ps_set (i := 2) sc_Way_at.nd rfl (Or.inl rfl) (pv 0))
  (pss_cons (ps_for PassesOwn.never rfl (pi_tup (pv 1)) (pg_name (i := 3) sc_Way_at.nd rfl (Or.inl rfl))
   (pss_cons (ps_set (i := 4) sc_Way_at.nd rfl (Or.inl rfl) (pe_callD G_made_of (hr.mono (by first | decide | omega)) rfl (pa_cons (pv 2) pa_nil)))
  (pss_cons (ps_if (pt_cmpR op_ge (pv 3) (pe_callB call_len_seq rfl B_len PySem.boot_len (pa_cons (pv 4) pa_nil)) (nomark _)) (pss_one (ps_ret pe_non)) pss_nil)
  (pss_one (ps_set (i := 2) sc_Way_at.nd rfl (Or.inl rfl) (pe_ix ix_tup (pv 4) (pv 3) (fun _ _ => rfl)))))))
  (pss_one (ps_ret (pv 2))))), ?_⟩
  walk_at "rd"
  walk_at "nx"
  refine ⟨⟨_, SqT.of hp⟩, ?_⟩
  refine for_tup (K := K) (a := pa) (xs := is.map V.int) (fun i σ H' => ∃ (part : V) (u : W) (x3 x4 : Option V), σ = [some v, some (.ref pa), some part, x3, x4] ∧ ObjAt c H' part u ∧ u.at? (is.drop i) = x.at? is ∧ Same H H') ?_ ?_ ?_ ?_
  · exact ⟨v, x, none, none, rfl, hv, rfl, fun _ _ h => h⟩
  · rintro i σ H' _ ⟨part, u, x3, x4, rfl, _, _, s1⟩
    exact SqT.of (s1 _ _ hp)
  · rintro i y σ H1 hy ⟨part, u, x3, x4, rfl, hu, ha, s1⟩
    obtain ⟨j, hj, rfl⟩ : ∃ j, is[i]? = some j ∧ V.int j = y := by simpa using hy
    have hj0 : 0 ≤ j := hn j (List.mem_of_getElem? hj)
    have hd : is.drop i = j :: is.drop (i + 1) := by
      obtain ⟨hi, e⟩ := List.getElem?_eq_some_iff.mp hj
      rw [List.drop_eq_getElem_cons hi, e]
    rw [hd] at ha
    walk_at "nx"
    refine ⟨_, rfl, part, u, rfl, hu, fun t us H2 s2 ht hus => ?_⟩
    have hl := ObjsAt.len _ _ hus
    have s12 := s1.trans s2
    walk_at "nx"
    refine ⟨_, rfl, _, rfl, t, us, rfl, .inr (SqT.of ht), _, _, rfl, rfl, _, rfl, ?_⟩
    refine ite2 (fun e => ?_) (fun e => ?_)
    · have e : ((us.length : Nat) : Int) ≤ j := of_decide_eq_true e
      walk_at "nx"
      walk_at "rd"
      refine k _ H2 s12 ?_
      rw [← ha]
      have q : u.inner[j.toNat]? = none := List.getElem?_eq_none (by omega)
      show Told c H2 .non (match u.inner[j.toNat]? with | some u => W.at? u (is.drop (i + 1)) | none => none)
      rw [q]
      rfl
    · have e : j < (us.length : Nat) := by
        by_cases h : j < (us.length : Nat)
        · exact h
        · exact absurd (decide_eq_true (show ((us.length : Nat) : Int) ≤ j by omega)) e
      walk_at "nx"
      have hjn : j.toNat < u.inner.length := by omega
      have q : u.inner[j.toNat]? = some (u.inner[j.toNat]) := List.getElem?_eq_getElem hjn
      obtain ⟨z, hz, hzw⟩ := ObjsAt.at_ _ _ _ _ hus q
      obtain ⟨z', hz', hat⟩ := atI_of (xs := us) hj0 e
      have ez : z = z' := Option.some.inj (hz.symm.trans hz')
      subst ez
      refine ⟨_, rfl, _, rfl, t, _, _, z, rfl, rfl, SqT.of ht, hat, ?_⟩
      refine ⟨z, _, _, _, rfl, hzw, ?_, s12⟩
      rw [← ha]
      show _ = (match u.inner[j.toNat]? with | some u => W.at? u (is.drop (i + 1)) | none => none)
      rw [q]
  · rintro σ H' ⟨part, u, x3, x4, rfl, hu, ha, s1⟩
    rw [List.length_map, List.drop_length] at ha
    walk_at "nx"
    walk_at "rd"
    refine k part H' s1 ?_
    rw [← ha]
    exact hu
end
end Wv
/-! del xs[i:] of a list -/
namespace Wv
open PySem PySem.Spec PyProof.Rows L2 HT
section
variable {prog : Program} {w : World} {A : Around} {E : Value → Shared → Prop} {s : Shared}
theorem fm_congr {α β : Type} {f g : α → Option β} : ∀ {l : List α}, (∀ x ∈ l, f x = g x) → l.filterMap f = l.filterMap g
  | [], _ => rfl
  | x :: l, h => by
    rw [List.filterMap_cons, List.filterMap_cons, h x List.mem_cons_self, fm_congr fun y hy => h y (List.mem_cons_of_mem _ hy)]
theorem cut_from : ∀ (l : List Value) (j m : Nat), (l.zipIdx j).filterMap (fun x => if decide (m ≤ x.2) = true then none else some x.1) = l.take (m - j)
  | [], j, m => by simp
  | x :: l, j, m => by
    rw [List.zipIdx_cons, List.filterMap_cons]
    have ih := cut_from l (j + 1) m
    by_cases h : m ≤ j
    · have e : m - j = 0 := by omega
      have e2 : m - (j + 1) = 0 := by omega
      rw [e2, List.take_zero] at ih
      rw [e, List.take_zero]
      simp only [h, decide_true, if_true]
      exact ih
    · have e : m - j = (m - (j + 1)) + 1 := by omega
      simp only [h, decide_false, Bool.false_eq_true, if_false]
      rw [e, List.take_succ_cons, ih]
theorem delItem_cut {l sl : Addr} {its : Array Value} {n : Nat} {i : Int} {t : Tok} {Q : Unit → Shared → Prop} (hl : s.heap.get? l = some { cls := .type "list", data := .seq its n }) (hs : s.heap.IsSliceOf sl (.int i t) .none .none) (hz : its.size ≤ sizeLine)
    (h : ∀ f : Array Value → Array Value, (0 ≤ i → i ≤ (its.size : Int) → f its = (its.toList.take i.toNat).toArray) → Q () { s with heap := s.heap.update l (Obj.mapSeq f) }) : wpAny (model prog w) A (delItem (.ref l) (.ref sl)) Q E s := by
  have hT : s.TypeIs (.ref l) "list" := ⟨_, hl, rfl⟩
  obtain ⟨os, hos, hcs, hds⟩ := id hs
  have hTs : s.TypeIs (.ref sl) "slice" := ⟨os, hos, hcs⟩
  refine wpAny_delItem_slot hT (by decide) F.slot_list_delitem ?_
  refine wpAny_call_entry F.slot_list_delitem hT F.entry_list_delitem ?_ (F.args_list_delitem_2 _ _)
  show wpAny _ _ (Builtin.List.listSubscript? (.ref sl) >>= _) _ _ s
  refine wpAny_bind ?_
  unfold Builtin.List.listSubscript?
  refine wpAny_bind (wpAny_specialOf hTs slice_no_index ?_)
  simp only [Option.isNone_none, if_true]
  refine wpAny_pure ?_
  show wpAny _ _ (typeOf (.ref sl) >>= _) _ _ s
  refine wpAny_bind (wpAny_typeOf hTs ?_)
  rw [if_neg (by decide)]
  rw [listSliceParts_eq]
  refine wpAny_bind (wpAny_bind (wpAny_field hos hds (x := Value.none) rfl (wpAny_bind (wpAny_listPart .none ?_))))
  have hstep : ¬ ((rawPart none == rawInt 0) = true) := Bool.false_ne_true
  rw [if_neg hstep]
  refine wpAny_bind (wpAny_field hos hds (x := Value.int i t) rfl (wpAny_bind (wpAny_listPart (.int i t) ?_)))
  refine wpAny_bind (wpAny_field hos hds (x := Value.none) rfl (wpAny_bind (wpAny_listPart .none (wpAny_pure ?_))))
  refine wpAny_bind (m := Builtin.List.listItems (.ref l)) ?_
  unfold Builtin.List.listItems
  refine wpAny_bind (wpAny_seqItems hl rfl (wpAny_pure ?_))
  refine wpAny_bind (wpAny_of_eq (sliceIndices_raw (some i) none none its.size (by intro q; cases q)) ?_)
  refine wpAny_bind ?_
  refine wpAny_rule ?_
  refine wpAny_bind (wpAny_updateSeq hl rfl ?_ (hz := hz) (_hz' := ?_))
  · refine wpAny_bind (wpAny_letGo ?_)
    exact wpAny_pure ⟨_, rfl, h _ fun h0 h1 => by
      refine congrArg List.toArray ((fm_congr (g := fun x : Value × Nat => if decide (i.toNat ≤ x.2) = true then none else some x.1) fun x hx => ?_).trans (cut_from its.toList 0 i.toNat))
      have hk : x.2 < its.size := by
        have := List.snd_lt_of_mem_zipIdx hx
        simpa using this
      have e1 : (sliceBounds (some i) none none its.size).1 = i := by
        unfold sliceBounds
        simp only [Option.getD_none]
        rw [if_pos (by decide), if_neg (by omega)]
        omega
      have e2 : (sliceBounds (some i) none none its.size).2.1 = (its.size : Int) := by
        unfold sliceBounds
        simp
      have e3 : (sliceBounds (some i) none none its.size).2.2 = 1 := rfl
      rw [e1, e2, e3]
      have e4 : decide (i ≤ (x.2 : Int)) = decide (i.toNat ≤ x.2) := decide_eq_decide.mpr (by omega)
      have e5 : (if (1 : Int) > 0 then decide (i ≤ (x.2 : Int)) && decide ((x.2 : Int) < (its.size : Int)) && (((x.2 : Int) - i) % 1 == 0) else decide ((its.size : Int) < (x.2 : Int)) && decide ((x.2 : Int) ≤ i) && ((i - (x.2 : Int)) % (-1) == 0)) = decide (i.toNat ≤ x.2) := by
        rw [if_pos (by decide), decide_eq_true (show (x.2 : Int) < (its.size : Int) by omega), Int.emod_one, Bool.and_true, e4]
        simp
      show (if (if (1 : Int) > 0 then decide (i ≤ (x.2 : Int)) && decide ((x.2 : Int) < (its.size : Int)) && (((x.2 : Int) - i) % 1 == 0) else decide ((its.size : Int) < (x.2 : Int)) && decide ((x.2 : Int) ≤ i) && ((i - (x.2 : Int)) % (-1) == 0)) = true then none else some x.1) = _
      rw [e5]⟩
  · refine Nat.le_succ_of_le (Nat.le_trans ?_ hz)
    rw [List.size_toArray]
    refine Nat.le_trans (List.length_filterMap_le _ _) ?_
    simp
end
def tDelS (to ti : TE) : TS := fun D σ H => to σ H fun x H1 => tPart ti σ H1 fun o H2 => ∃ (l : Addr) (xs : List V) (i : Int), o = some i ∧ x = .ref l ∧ H2 l = some (.lst xs) ∧ 0 ≤ i ∧ i ≤ xs.length ∧ D.nx σ (upd H2 l (.lst (xs.take i.toNat)))
section
variable {X : Cx}
/-- del o[lo:] -/
theorem ps_delS {o lo : Expr} {to ti : TE} {tpos pos p2 : Pos} (ho : PE X o to) (hi : PE X lo ti) : PS X (.Delete [.Subscript o (.Slice (some lo) none none p2) tpos] pos) (tDelS to ti) := by
  refine ⟨fun pins s σ H D I h => ?_⟩
  refine wpAny_Delete (wpAny_deleteEach_cons (wpAny_delete_Subscript (thn (ho.run pins s σ H _ I h) fun u s1 ⟨x, H1, I1, rx, q1⟩ => ?_)))
  refine wpAny_Slice (thn ((po_some hi).run pins s1 σ H1 _ I1 q1) fun vl s2 ⟨lo', H2, I2, pl, l, xs, i, e1, e2, hH, h0, h1, q2⟩ => ?_)
  subst e1 e2
  refine thn (po_none.run pins s2 σ H2 (fun o H3 => o = none ∧ H3 = H2) I2 ⟨rfl, rfl⟩) fun vu s3 ⟨u', H3, I3, pu, eu, e3⟩ => ?_
  subst eu e3
  cases pu
  cases (show u = Value.ref l from rx)
  rw [evalPart_none]
  refine wpAny_pure ?_
  generalize hi' : i = i' at pl
  cases pl with
  | int i' t =>
    subst hi'
    have I4 : Inv X pins σ H3 { s3 with heap := s3.heap.push { cls := .type "slice", data := .fields #[.int i t, .none, .none] } } := I3.kept (t' := s3.toks) fun b ob q => Heap.get?_push_of_some _ q
    obtain ⟨z, its, n, r, hl, e⟩ := I4.lstM hH
    have hsz : its.toArray.size ≤ sizeLine := by rw [List.size_toArray, ← r.length]; exact z
    refine delItem_cut e (Heap.IsSliceOf.new ..) hsz fun f hf => ?_
    refine wpAny_deleteEach_nil ⟨σ, _, I4.lset (its' := its.take i.toNat) hH e (hf h0 (by rw [List.size_toArray, ← r.length]; exact h1)) (r.take i.toNat) ?_, q2⟩
    rw [List.length_take]
    have := z
    omega
end
end Wv
/-! str(x) of a way, by the text's own __str__ -/
namespace Wv
open PySem PySem.Spec PyProof.Rows L2
structure StrOk (P : Program) (w : World) (K : PySem.W.Frag) (mg : Str → Option Value) (base : Heap) (c : Cs) (n : Nat) (sp : Sp) : Prop where
  ex : ∃ (f : Addr) (fd : FuncData) (ps : List Str), FnOk P w K mg base CX0 n f fd ps sp ∧ (∀ u : W, PySem.W.findIn K (.ref (c.of u)) "__str__" = some (some (.ref f))) ∧ PySem.W.isFn K (.ref f) = true ∧ Binds K fd ps []
section
variable {X : Cx} {c : Cs} {n : Nat} {sp : Sp}
def rStrW (c : Cs) (sp : Sp) : List V → Hp → VK → Prop := fun xs H Q => ∃ (v : V) (w : W), xs = [v] ∧ ObjAt c H v w ∧ sp [v] H (fun z H' => ∃ y : Str, z = .str y ∧ Q (.str y) H') E0
theorem call_strW (G : StrOk X.prog X.w X.K X.mg X.base c n sp) (hr : Room (n + 2) X.A) : CallR X (.type "str") (rStrW c sp) := by
  obtain ⟨f, fd, ps, F, hs, hf, hb⟩ := G.ex
  intro pins s σ H xs us Q I r h
  obtain ⟨v, w, rfl, hv, hsp⟩ := h
  obtain ⟨u, rfl, ru⟩ := r.one
  obtain ⟨a, d, fs, ev, ha⟩ := hv.head
  subst ev
  cases ru
  obtain ⟨mA, J, _⟩ := ins_get I.hok ha
  obtain ⟨od, J, _⟩ := J.look
  have hl := F.len _ _ _ _ hsp
  have r2 : Vals [V.ref a] [Value.ref a] := .cons rfl .nil
  have hu : X.A.in1.in1.units < cLine := hr.in1.in1.units0
  refine PySem.W.kso_call hu I.kIn J (hs w) hf (wpAny_call (codeAny_mono (F.run X.A.in1.in1 X.stack s H ⟨[.ref a], []⟩ [.ref a] [.ref a] _ E0 hr.in1.in1 (I.env0.in1.in1) (by
    have q := hb s [.ref a] I.kIn (by simpa using hl)
    simpa using q) r2 hsp) fun r s' hq => ?_))
  cases r with
  | error e => exact (pass0 (X := X) pins σ H s e s' I hq)
  | ok fl =>
    cases fl with
    | ret x =>
      obtain ⟨z, H', I', rz, y, ez, q⟩ := I.after hq
      subst ez
      obtain ⟨t, ex⟩ := rz
      subst ex
      exact ⟨.str y, H', I', ⟨_, rfl⟩, q⟩
    | next => exact False.elim hq
    | brk => exact False.elim hq
    | cont => exact False.elim hq
end
end Wv
namespace Ws
open PySem PySem.Spec PyProof.Rows L2 Wv
/-! ### the scanner as data, and as an object -/
structure Sc where
  z : List Nat
  ln : Int
  pl : Nat
  steps : List (Nat × Str × Nat)
  rows : List Nat
  many : List Nat
  looks : List (List Nat)
def Sc.cur (s : Sc) : Option Nat := s.z[s.pl]?
/-- a sign as text -/
def sgn : Option Nat → Str
  | some c => sg c
  | none => Str.ofString ""
def blanks : List Nat → Nat
  | [] => 0
  | c :: r => if c = 32 then blanks r + 1 else 0
def Sc.skip (s : Sc) : Sc := { s with pl := s.pl + blanks (s.z.drop s.pl) }
def Sc.go (s : Sc) : Sc := { s with pl := s.pl + 1 }
/-- all that it keeps -/
def Sc.size (s : Sc) : Nat := s.steps.length + s.rows.length + s.many.length + s.looks.length + s.looks.flatten.length
structure ScF (K : PySem.W.Frag) (C : Addr) : Prop where
  cl : Cls K C
  n1 : NoAttr K C "text"
  n2 : NoAttr K C "line"
  n3 : NoAttr K C "place"
  n4 : NoAttr K C "steps"
  n5 : NoAttr K C "rows"
  n6 : NoAttr K C "many"
  n7 : NoAttr K C "looks"
structure At where
  a : Addr
  st : Addr
  ro : Addr
  ma : Addr
  lo : Addr
  lk : List Addr
def At.fs (p : At) (s : Sc) : List (Str × V) := [(Str.ofString "text", .str (tx s.z)), (Str.ofString "line", .int s.ln), (Str.ofString "place", .int (s.pl : Nat)), (Str.ofString "steps", .ref p.st), (Str.ofString "rows", .ref p.ro), (Str.ofString "many", .ref p.ma), (Str.ofString "looks", .ref p.lo)]
def At.all (p : At) : List Addr := p.a :: p.st :: p.ro :: p.ma :: p.lo :: p.lk
abbrev iV (l : List Nat) : List V := l.map fun n => V.int (n : Nat)
def StepsAt (H : Hp) : List V → List (Nat × Str × Nat) → Prop
  | vs, [] => vs = []
  | vs, x :: xs => ∃ r us, vs = V.ref r :: us ∧ H r = some (.tup [.int (x.1 : Nat), .str x.2.1, .int (x.2.2 : Nat)]) ∧ StepsAt H us xs
def LooksAt (H : Hp) : List Addr → List (List Nat) → Prop
  | as, [] => as = []
  | as, l :: ls => ∃ q us, as = q :: us ∧ H q = some (.lst (iV l)) ∧ LooksAt H us ls
structure ScAt (C : Addr) (H0 H : Hp) (p : At) (s : Sc) : Prop where
  ins : ∃ dx, H p.a = some (.ins C dx (p.fs s))
  steps : ∃ vs, H p.st = some (.lst vs) ∧ StepsAt H vs s.steps
  rows : H p.ro = some (.lst (iV s.rows))
  many : H p.ma = some (.lst (iV s.many))
  looks : H p.lo = some (.lst (p.lk.map V.ref)) ∧ LooksAt H p.lk s.looks
  nd : p.all.Nodup
  fresh : ∀ b ∈ p.all, H0 b = none
  same : Same H0 H
  low : s.z.length ≤ 10000 ∧ s.pl ≤ s.z.length
theorem StepsAt.keep {H H' : Hp} (k : ∀ {a : Addr} {xs : List V}, H a = some (.tup xs) → H' a = some (.tup xs)) : ∀ (xs : List (Nat × Str × Nat)) (vs : List V), StepsAt H vs xs → StepsAt H' vs xs
  | [], _, h => h
  | x :: xs, vs, ⟨r, us, e, h, h2⟩ => ⟨r, us, e, k h, StepsAt.keep k xs us h2⟩
theorem StepsAt.len {H : Hp} : ∀ (xs : List (Nat × Str × Nat)) (vs : List V), StepsAt H vs xs → vs.length = xs.length
  | [], vs, h => by rw [show vs = [] from h]; rfl
  | x :: xs, vs, ⟨r, us, e, _, h2⟩ => by rw [e, List.length_cons, List.length_cons, StepsAt.len xs us h2]
theorem StepsAt.snoc {H : Hp} {r : Addr} {x : Nat × Str × Nat} (hr : H r = some (.tup [.int (x.1 : Nat), .str x.2.1, .int (x.2.2 : Nat)])) : ∀ (xs : List (Nat × Str × Nat)) (vs : List V), StepsAt H vs xs → StepsAt H (vs ++ [.ref r]) (xs ++ [x])
  | [], vs, h => by rw [show vs = [] from h]; exact ⟨r, [], rfl, hr, rfl⟩
  | y :: xs, vs, ⟨q, us, e, h, h2⟩ => by rw [e]; exact ⟨q, us ++ [.ref r], rfl, h, StepsAt.snoc hr xs us h2⟩
theorem LooksAt.keep {H H' : Hp} : ∀ (ls : List (List Nat)) (as : List Addr), (∀ a ∈ as, ∀ o, H a = some o → H' a = some o) → LooksAt H as ls → LooksAt H' as ls
  | [], _, _, h => h
  | l :: ls, as, k, ⟨q, us, e, h, h2⟩ => by
    subst e
    exact ⟨q, us, rfl, k q List.mem_cons_self _ h, LooksAt.keep ls us (fun a ha => k a (List.mem_cons_of_mem _ ha)) h2⟩
theorem LooksAt.len {H : Hp} : ∀ (ls : List (List Nat)) (as : List Addr), LooksAt H as ls → as.length = ls.length
  | [], as, h => by rw [show as = [] from h]; rfl
  | l :: ls, as, ⟨q, us, e, _, h2⟩ => by rw [e, List.length_cons, List.length_cons, LooksAt.len ls us h2]
section
variable {C : Addr} {H0 H H' : Hp} {p : At} {s : Sc}
/-- what an update at one of the lists leaves -/
theorem ScAt.tups (h : ScAt C H0 H p s) {b : Addr} {o : HO} (hb : ∀ xs, H b ≠ some (.tup xs)) {a : Addr} {xs : List V} (e : H a = some (.tup xs)) : upd H b o a = some (.tup xs) := by
  rw [upd_ne (fun q => hb xs (by rw [← q]; exact e))]; exact e
theorem ScAt.of_same (h : ScAt C H0 H p s) (k : Same H H') : ScAt C H0 H' p s := by
  obtain ⟨dx, e⟩ := h.ins
  obtain ⟨vs, e1, e2⟩ := h.steps
  exact ⟨⟨dx, k _ _ e⟩, ⟨vs, k _ _ e1, StepsAt.keep (fun q => k _ _ q) _ _ e2⟩, k _ _ h.rows, k _ _ h.many, ⟨k _ _ h.looks.1, LooksAt.keep _ _ (fun _ _ _ q => k _ _ q) h.looks.2⟩, h.nd, h.fresh, h.same.trans k, h.low⟩
/-- another place -/
theorem ScAt.place (h : ScAt C H0 H p s) (n : Nat) (hn : n ≤ s.z.length) {dx : Addr} : ScAt C H0 (upd H p.a (.ins C dx (p.fs { s with pl := n }))) p { s with pl := n } := by
  obtain ⟨d, e⟩ := h.ins
  have nd := h.nd
  unfold At.all at nd
  rw [List.nodup_cons] at nd
  have ne : ∀ b, b ∈ p.st :: p.ro :: p.ma :: p.lo :: p.lk → b ≠ p.a := fun b hb q => nd.1 (by rw [← q]; exact hb)
  have k : ∀ b, b ∈ p.st :: p.ro :: p.ma :: p.lo :: p.lk → upd H p.a (.ins C dx (p.fs { s with pl := n })) b = H b := fun b hb => upd_ne (ne b hb)
  have tp : ∀ {a : Addr} {xs : List V}, H a = some (.tup xs) → upd H p.a (.ins C dx (p.fs { s with pl := n })) a = some (.tup xs) := fun {a xs} q => h.tups (fun xs q => by rw [e] at q; cases q) q
  obtain ⟨vs, e1, e2⟩ := h.steps
  refine ⟨⟨dx, upd_same⟩, ⟨vs, by rw [k _ (by simp)]; exact e1, StepsAt.keep tp _ _ e2⟩, by rw [k _ (by simp)]; exact h.rows, by rw [k _ (by simp)]; exact h.many, ⟨by rw [k _ (by simp)]; exact h.looks.1, LooksAt.keep _ _ (fun a ha o q => by rw [k _ (by simp [ha])]; exact q) h.looks.2⟩, h.nd, h.fresh, ?_, ⟨h.low.1, hn⟩⟩
  exact Same.put (h.fresh p.a (by simp [At.all])) h.same _
structure Ne (p : At) : Prop where
  a1 : p.a ≠ p.st
  a2 : p.a ≠ p.ro
  a3 : p.a ≠ p.ma
  a4 : p.a ≠ p.lo
  s1 : p.st ≠ p.ro
  s2 : p.st ≠ p.ma
  s3 : p.st ≠ p.lo
  r1 : p.ro ≠ p.ma
  r2 : p.ro ≠ p.lo
  m1 : p.ma ≠ p.lo
  l0 : ∀ q ∈ p.lk, q ≠ p.a
  l1 : ∀ q ∈ p.lk, q ≠ p.st
  l2 : ∀ q ∈ p.lk, q ≠ p.ro
  l3 : ∀ q ∈ p.lk, q ≠ p.ma
  l4 : ∀ q ∈ p.lk, q ≠ p.lo
  nd : p.lk.Nodup
theorem ne_of_nd (h : p.all.Nodup) : Ne p := by
  unfold At.all at h
  simp only [List.nodup_cons, List.mem_cons, not_or] at h
  obtain ⟨⟨a1, a2, a3, a4, a5⟩, ⟨s1, s2, s3, s4⟩, ⟨r1, r2, r3⟩, ⟨m1, m2⟩, l1, nd⟩ := h
  have no : ∀ {x : Addr}, x ∉ p.lk → ∀ q ∈ p.lk, q ≠ x := fun hx q hq e => hx (by rw [← e]; exact hq)
  exact ⟨a1, a2, a3, a4, s1, s2, s3, r1, r2, m1, no a5, no s4, no r3, no m2, no l1, nd⟩
theorem ScAt.listy (h : ScAt C H0 H p s) {b : Addr} (hb : b ∈ p.all) (xs : List V) : H b ≠ some (.tup xs) := by
  obtain ⟨dx, e⟩ := h.ins
  obtain ⟨vs, e1, _⟩ := h.steps
  have lk : ∀ (ls : List (List Nat)) (as : List Addr), LooksAt H as ls → ∀ a ∈ as, ∃ l, H a = some (.lst l) := by
    intro ls
    induction ls with
    | nil => intro as h a ha; rw [show as = [] from h] at ha; cases ha
    | cons l ls ih =>
      rintro as ⟨q, us, e, h, h2⟩ a ha
      rw [e] at ha
      rcases List.mem_cons.mp ha with rfl | ha
      · exact ⟨_, h⟩
      · exact ih us h2 a ha
  unfold At.all at hb
  simp only [List.mem_cons] at hb
  rcases hb with rfl | rfl | rfl | rfl | rfl | hb
  · rw [e]; intro q; cases q
  · rw [e1]; intro q; cases q
  · rw [h.rows]; intro q; cases q
  · rw [h.many]; intro q; cases q
  · rw [h.looks.1]; intro q; cases q
  · obtain ⟨l, q⟩ := lk _ _ h.looks.2 b hb
    rw [q]; intro q; cases q
/-- what is tracked of it is not free -/
theorem ScAt.there (h : ScAt C H0 H p s) {b : Addr} (hb : b ∈ p.all) : H b ≠ none := by
  obtain ⟨dx, e⟩ := h.ins
  obtain ⟨vs, e1, _⟩ := h.steps
  have lk : ∀ (ls : List (List Nat)) (as : List Addr), LooksAt H as ls → ∀ a ∈ as, ∃ l, H a = some (.lst l) := by
    intro ls
    induction ls with
    | nil => intro as h a ha; rw [show as = [] from h] at ha; cases ha
    | cons l ls ih =>
      rintro as ⟨q, us, e, h, h2⟩ a ha
      rw [e] at ha
      rcases List.mem_cons.mp ha with rfl | ha
      · exact ⟨_, h⟩
      · exact ih us h2 a ha
  unfold At.all at hb
  simp only [List.mem_cons] at hb
  rcases hb with rfl | rfl | rfl | rfl | rfl | hb
  · rw [e]; intro q; cases q
  · rw [e1]; intro q; cases q
  · rw [h.rows]; intro q; cases q
  · rw [h.many]; intro q; cases q
  · rw [h.looks.1]; intro q; cases q
  · obtain ⟨l, q⟩ := lk _ _ h.looks.2 b hb
    rw [q]; intro q; cases q
/-- a new list is apart from all of it, and new in the first heap, too -/
theorem ScAt.apart (h : ScAt C H0 H p s) {q : Addr} (hq : H q = none) : H0 q = none ∧ q ∉ p.all := by
  refine ⟨?_, fun hm => h.there hm hq⟩
  cases z : H0 q with
  | none => rfl
  | some o => rw [h.same _ _ z] at hq; cases hq
/-- so it may stand behind the looks -/
theorem ScAt.newLook (h : ScAt C H0 H p s) {q : Addr} (hq : H q = none) {as : List Addr} (hs : ∀ a ∈ as, a ∈ p.lk) (hn : as.Nodup) :
    (as ++ [q]).Nodup ∧ ∀ a ∈ as ++ [q], H0 a = none ∧ a ≠ p.a ∧ a ≠ p.st ∧ a ≠ p.ro ∧ a ≠ p.ma ∧ a ≠ p.lo := by
  obtain ⟨h1, h2⟩ := h.apart hq
  have n := ne_of_nd h.nd
  have fr := h.fresh
  simp only [At.all, List.mem_cons, not_or] at h2
  refine ⟨List.nodup_append.mpr ⟨hn, by simp, fun a ha b hb => by simp at hb; subst hb; exact fun z => h2.2.2.2.2.2 (z ▸ hs a ha)⟩, fun a ha => ?_⟩
  rcases List.mem_append.mp ha with ha | ha
  · have hm := hs a ha
    exact ⟨fr a (by simp [At.all, hm]), n.l0 a hm, n.l1 a hm, n.l2 a hm, n.l3 a hm, n.l4 a hm⟩
  · have e : a = q := by simpa using ha
    subst e
    exact ⟨h1, h2.1, h2.2.1, h2.2.2.1, h2.2.2.2.1, h2.2.2.2.2.1⟩
theorem ScAt.tups' (h : ScAt C H0 H p s) {b : Addr} {o : HO} (hb : b ∈ p.all) {a : Addr} {xs : List V} (e : H a = some (.tup xs)) : upd H b o a = some (.tup xs) := h.tups (h.listy hb) e
theorem ScAt.same' (h : ScAt C H0 H p s) {b : Addr} {o : HO} (hb : b ∈ p.all) : Same H0 (upd H b o) := Same.put (h.fresh b hb) h.same _
/-- one more step -/
theorem ScAt.step (h : ScAt C H0 H p s) {vs : List V} {r : Addr} {x : Nat × Str × Nat} (hv : H p.st = some (.lst vs)) (hr : H r = some (.tup [.int (x.1 : Nat), .str x.2.1, .int (x.2.2 : Nat)])) :
    ScAt C H0 (upd H p.st (.lst (vs ++ [.ref r]))) p { s with steps := s.steps ++ [x] } := by
  have n := ne_of_nd h.nd
  obtain ⟨dx, e⟩ := h.ins
  obtain ⟨us, e1, e2⟩ := h.steps
  have ev : us = vs := by rw [hv] at e1; injection e1 with q; injection q with q; exact q.symm
  subst ev
  have hb : p.st ∈ p.all := by simp [At.all]
  refine ⟨⟨dx, by rw [upd_ne n.a1]; exact e⟩, ⟨_, upd_same, StepsAt.snoc (h.tups' hb hr) _ _ (StepsAt.keep (fun q => h.tups' hb q) _ _ e2)⟩, by rw [upd_ne n.s1.symm]; exact h.rows, by rw [upd_ne n.s2.symm]; exact h.many,
    ⟨by rw [upd_ne n.s3.symm]; exact h.looks.1, LooksAt.keep _ _ (fun a ha o q => by rw [upd_ne (n.l1 a ha)]; exact q) h.looks.2⟩, h.nd, h.fresh, h.same' hb, h.low⟩
theorem ScAt.setRows (h : ScAt C H0 H p s) (l : List Nat) : ScAt C H0 (upd H p.ro (.lst (iV l))) p { s with rows := l } := by
  have n := ne_of_nd h.nd
  obtain ⟨dx, e⟩ := h.ins
  obtain ⟨us, e1, e2⟩ := h.steps
  have hb : p.ro ∈ p.all := by simp [At.all]
  refine ⟨⟨dx, by rw [upd_ne n.a2]; exact e⟩, ⟨us, by rw [upd_ne n.s1]; exact e1, StepsAt.keep (fun q => h.tups' hb q) _ _ e2⟩, upd_same, by rw [upd_ne n.r1.symm]; exact h.many,
    ⟨by rw [upd_ne n.r2.symm]; exact h.looks.1, LooksAt.keep _ _ (fun a ha o q => by rw [upd_ne (n.l2 a ha)]; exact q) h.looks.2⟩, h.nd, h.fresh, h.same' hb, h.low⟩
theorem ScAt.setMany (h : ScAt C H0 H p s) (l : List Nat) : ScAt C H0 (upd H p.ma (.lst (iV l))) p { s with many := l } := by
  have n := ne_of_nd h.nd
  obtain ⟨dx, e⟩ := h.ins
  obtain ⟨us, e1, e2⟩ := h.steps
  have hb : p.ma ∈ p.all := by simp [At.all]
  refine ⟨⟨dx, by rw [upd_ne n.a3]; exact e⟩, ⟨us, by rw [upd_ne n.s2]; exact e1, StepsAt.keep (fun q => h.tups' hb q) _ _ e2⟩, by rw [upd_ne n.r1]; exact h.rows, upd_same,
    ⟨by rw [upd_ne n.m1.symm]; exact h.looks.1, LooksAt.keep _ _ (fun a ha o q => by rw [upd_ne (n.l3 a ha)]; exact q) h.looks.2⟩, h.nd, h.fresh, h.same' hb, h.low⟩
theorem LooksAt.snoc {q : Addr} {l : List Nat} (hq : H q = some (.lst (iV l))) : ∀ (ls : List (List Nat)) (as : List Addr), LooksAt H as ls → LooksAt H (as ++ [q]) (ls ++ [l])
  | [], as, h => by rw [show as = [] from h]; exact ⟨q, [], rfl, hq, rfl⟩
  | y :: ls, as, ⟨r, us, e, h, h2⟩ => by rw [e]; exact ⟨r, us ++ [q], rfl, h, LooksAt.snoc hq ls us h2⟩
theorem LooksAt.split : ∀ (ls : List (List Nat)) (l : List Nat) (as : List Addr), LooksAt H as (ls ++ [l]) → ∃ us q, as = us ++ [q] ∧ LooksAt H us ls ∧ H q = some (.lst (iV l))
  | [], l, as, ⟨r, us, e, h, h2⟩ => ⟨[], r, by rw [e, show us = [] from h2]; rfl, rfl, h⟩
  | y :: ls, l, as, ⟨r, us, e, h, h2⟩ => by
    obtain ⟨us', q, e', h3, h4⟩ := LooksAt.split ls l us h2
    exact ⟨r :: us', q, by rw [e, e']; rfl, ⟨r, us', rfl, h, h3⟩, h4⟩
/-- another list for the last looks, or one more, or one less: the list of lists is written -/
theorem ScAt.setLooks (h : ScAt C H0 H p s) (as : List Addr) (ls : List (List Nat)) (hl : LooksAt H as ls) (hn : as.Nodup) (hf : ∀ a ∈ as, H0 a = none ∧ a ≠ p.a ∧ a ≠ p.st ∧ a ≠ p.ro ∧ a ≠ p.ma ∧ a ≠ p.lo) :
    ScAt C H0 (upd H p.lo (.lst (as.map V.ref))) { p with lk := as } { s with looks := ls } := by
  have n := ne_of_nd h.nd
  obtain ⟨dx, e⟩ := h.ins
  obtain ⟨us, e1, e2⟩ := h.steps
  have hb : p.lo ∈ p.all := by simp [At.all]
  have fr := h.fresh
  simp only [At.all, List.mem_cons] at fr
  refine ⟨⟨dx, by show upd H p.lo _ p.a = _; rw [upd_ne n.a4]; exact e⟩, ⟨us, by show upd H p.lo _ p.st = _; rw [upd_ne n.s3]; exact e1, StepsAt.keep (fun q => h.tups' hb q) _ _ e2⟩, by show upd H p.lo _ p.ro = _; rw [upd_ne n.r2]; exact h.rows, by show upd H p.lo _ p.ma = _; rw [upd_ne n.m1]; exact h.many,
    ⟨upd_same, LooksAt.keep _ _ (fun a ha o q => by rw [upd_ne (hf a ha).2.2.2.2.2]; exact q) hl⟩, ?_, ?_, h.same' hb, h.low⟩
  · have no : ∀ {x : Addr}, (∀ q ∈ as, q ≠ x) → x ∉ as := fun k hx => k _ hx rfl
    simp only [At.all, List.nodup_cons, List.mem_cons, not_or]
    exact ⟨⟨n.a1, n.a2, n.a3, n.a4, no fun q hq => (hf q hq).2.1⟩, ⟨n.s1, n.s2, n.s3, no fun q hq => (hf q hq).2.2.1⟩, ⟨n.r1, n.r2, no fun q hq => (hf q hq).2.2.2.1⟩, ⟨n.m1, no fun q hq => (hf q hq).2.2.2.2.1⟩, no fun q hq => (hf q hq).2.2.2.2.2, hn⟩
  · intro b hb
    simp only [At.all, List.mem_cons] at hb
    rcases hb with rfl | rfl | rfl | rfl | rfl | hb
    · exact fr _ (by simp)
    · exact fr _ (by simp)
    · exact fr _ (by simp)
    · exact fr _ (by simp)
    · exact fr _ (by simp)
    · exact (hf b hb).1
/-- the last looks' list grows -/
theorem ScAt.lastLook (h : ScAt C H0 H p s) {ls : List (List Nat)} {l l' : List Nat} {us : List Addr} {q : Addr} (e : s.looks = ls ++ [l]) (el : p.lk = us ++ [q]) (hu : LooksAt H us ls) :
    ScAt C H0 (upd H q (.lst (iV l'))) p { s with looks := ls ++ [l'] } := by
  have n := ne_of_nd h.nd
  obtain ⟨dx, e0⟩ := h.ins
  obtain ⟨ss, e1, e2⟩ := h.steps
  have hq : q ∈ p.lk := by rw [el]; simp
  have hb : q ∈ p.all := by simp [At.all, hq]
  have nq : ∀ a ∈ us, a ≠ q := by
    intro a ha z
    have := n.nd
    rw [el] at this
    exact (List.nodup_append.mp this).2.2 a ha q (by simp) z
  refine ⟨⟨dx, by rw [upd_ne (n.l0 q hq).symm]; exact e0⟩, ⟨ss, by rw [upd_ne (n.l1 q hq).symm]; exact e1, StepsAt.keep (fun q => h.tups' hb q) _ _ e2⟩, by rw [upd_ne (n.l2 q hq).symm]; exact h.rows, by rw [upd_ne (n.l3 q hq).symm]; exact h.many,
    ⟨by rw [upd_ne (n.l4 q hq).symm]; exact h.looks.1, ?_⟩, h.nd, h.fresh, h.same' hb, h.low⟩
  rw [el]
  exact LooksAt.snoc upd_same _ _ (LooksAt.keep _ _ (fun a ha o k => by rw [upd_ne (nq a ha)]; exact k) hu)
end
/-! ### a method of the scanner -/
structure ScOk (P : Program) (w : World) (K : PySem.W.Frag) (mg : Str → Option Value) (base : Heap) (C : Addr) (n : Nat) (m : Str) (ps : List Str) (sp : Sp) : Prop where
  cl : Cls K C
  ex : ∃ (f : Addr) (fd : FuncData), FnOk P w K mg base CX0 n f fd ps sp ∧ Meth K C m f ∧ Binds K fd ps []
section
variable {X : Cx} {C : Addr} {n : Nat} {sp : Sp} {m : Str} {ps : List Str} {o e : Expr} {es : List Expr} {ta : TE} {t : TA} {apos pos : Pos}
theorem pe_methS {pl : Sem Bool} (G : ScOk X.prog X.w X.K X.mg X.base C n m ps sp) (hr : Room n X.A) (he : PE X o ta) (ha : PA X (e :: es) t)
    (hst : starEach (e :: es) X.env = (false, eval e X.env) :: starEach es X.env := by rfl) (hpl : (backTo pos (starEach es X.env)).any (·.1) = false := by rfl)
    (ht : eval (.Call (.Attribute o m apos) (e :: es) [] pos) X.env = (do
      let ov ← eval o X.env
      standAt apos.atName
      let (f, first) ← holding [ov] (getMethod ov m pl)
      callWith pos f first (backTo pos (starEach (e :: es) X.env)) (backToKw pos (keywordEach [] X.env))) := by rfl) :
    PE X (.Call (.Attribute o m apos) (e :: es) [] pos) (tMeth C m sp [] E0 ta t) := by
  obtain ⟨f, fd, F, hm, hb⟩ := G.ex
  exact pe_meth he G.cl hm F hr hb .nil pass0 ha hst hpl ht
theorem pe_methS0 {pl : Sem Bool} (G : ScOk X.prog X.w X.K X.mg X.base C n m ps sp) (hr : Room n X.A) (he : PE X o ta)
    (ht : eval (.Call (.Attribute o m apos) [] [] pos) X.env = (do
      let ov ← eval o X.env
      standAt apos.atName
      let (f, first) ← holding [ov] (getMethod ov m pl)
      callWith pos f first (backTo pos (starEach [] X.env)) (backToKw pos (keywordEach [] X.env))) := by rfl) :
    PE X (.Call (.Attribute o m apos) [] [] pos) (tMeth C m sp [] E0 ta tNil) := by
  obtain ⟨f, fd, F, hm, hb⟩ := G.ex
  exact pe_meth0 he G.cl hm F hr hb .nil pass0 ht
/-- xs[i] of a list, for an augmented one -/
def rGetL (K : PySem.W.Frag) : V → V → Hp → VK → Prop := fun o i H Q => ∃ p xs k z, o = .ref p ∧ i = .int k ∧ SqL K H p xs ∧ atI xs k = some z ∧ Q z H
theorem get_list : PGet X (rGetL X.K) := by
  intro pins s σ H x y v u Q I rx ry h
  obtain ⟨p, xs, i, z, rfl, rfl, hq, he, q⟩ := h
  cases rx
  obtain ⟨t, rfl⟩ := ry
  obtain ⟨its, r, pl, hz⟩ := I.list hq
  obtain ⟨j, h1, h2, h3, h4, h5⟩ := atI_get he
  obtain ⟨w, ew, rw'⟩ := r.get h2
  have hl := r.length
  have hn := line63
  have fin : EP X pins σ Q w s := ⟨z, H, I, rw', q⟩
  by_cases h0 : 0 ≤ i
  · have hj : i.toNat = j := by
      rw [seqIndex_of h0 h5] at h1
      exact Option.some.inj h1
    exact wpAny_getItem_list pl.isList h0 (by omega) (by rw [hj]; simpa using ew) fin
  · have hj : (i + (its.toArray.size : Int)).toNat = j := by
      rw [seqIndex_neg (by omega) h4] at h1
      rw [List.size_toArray, ← hl]
      exact Option.some.inj h1
    exact wpAny_getItem_list_neg pl.isList (by omega) (by rw [List.size_toArray] <;> omega) (by omega) (by rw [hj]; simpa using ew) fin
end
end Ws
namespace Ws
open PySem PySem.Spec PyProof.Rows L2 Wv
/-! ### the scanner's methods, one by one -/
theorem while_m {c : TT} {tb : TS} {D : Ends} {σ : L2.St} {H : Hp} (Pv : Nat → L2.St → Hp → Prop) (m : Nat) (h0 : Pv m σ H)
    (hs : ∀ m σ H, Pv m σ H → c σ H fun b H1 => if b = true then tb { D with nx := fun σ' H' => ∃ m', m' < m ∧ Pv m' σ' H', ct := fun σ' H' => ∃ m', m' < m ∧ Pv m' σ' H', bk := D.nx } σ H1 else D.nx σ H1)
    (mono : ∀ σ H Q Q', (∀ b H1, Q b H1 → Q' b H1) → c σ H Q → c σ H Q') : tWhile c tb D σ H := by
  refine ⟨Pv, ⟨m, h0⟩, fun m σ H p => mono σ H _ _ (fun b H1 q => ?_) (hs m σ H p)⟩
  cases b with
  | true => exact ⟨_, fun _ _ h => h, q⟩
  | false => exact q
def SA (C : Addr) (H0 H : Hp) (a : Addr) (s : Sc) : Prop := ∃ p : At, p.a = a ∧ ScAt C H0 H p s
theorem cut1 (z : List Nat) (i : Nat) : cutS (tx z) (some ((i : Nat) : Int)) (some ((i : Int) + 1)) = sgn z[i]? := by
  unfold cutS
  have e : ((i : Int) + 1) = ((i + 1 : Nat) : Int) := by omega
  rw [e, HT.sIx_nat, HT.sIx_nat]
  have hl : (tx z).length = z.length := by simp [Str.length, tx]
  rw [hl]
  have ez : (tx z).cps.toList = z := by simp [tx]
  rw [ez]
  by_cases h : i < z.length
  · rw [Nat.min_eq_left (by omega), Nat.min_eq_left (by omega), show i + 1 - i = 1 by omega, List.getElem?_eq_getElem h, List.drop_eq_getElem_cons h]
    rfl
  · rw [Nat.min_eq_right (by omega), Nat.min_eq_right (by omega), List.getElem?_eq_none (by omega), Nat.sub_self]
    rfl
theorem sgn_eq (o : Option Nat) (c : Nat) : decide (V.str (sgn o) = V.str (sg c)) = decide (o = some c) := by
  cases o with
  | none =>
    rw [decide_eq_false (fun h => by have := V.str.inj h; revert this; show ¬ (Str.ofString "" = sg c); intro h; have := congrArg (fun s => s.cps.size) h; revert this; show ¬ ((Str.ofString "").cps.size = 1); decide +kernel), decide_eq_false (fun h => by cases h)]
  | some d =>
    by_cases h : d = c
    · subst h; exact (decide_eq_true rfl).trans (decide_eq_true rfl).symm
    · rw [decide_eq_false (fun e => h (by have := V.str.inj e; have := congrArg (fun s => s.cps[0]?) this; simpa [sgn, sg] using this)), decide_eq_false (fun e => h (Option.some.inj e))]
theorem sgn_nil (o : Option Nat) : decide (V.str (sgn o) = V.str (Str.ofString "")) = decide (o = none) := by
  cases o with
  | none => exact (decide_eq_true rfl).trans (decide_eq_true rfl).symm
  | some d =>
    rw [decide_eq_false (fun h => by have := V.str.inj h; revert this; show ¬ (sg d = Str.ofString ""); intro h; have := congrArg (fun s => s.cps.size) h; revert this; show ¬ (1 = (Str.ofString "").cps.size); decide +kernel), decide_eq_false (fun h => by cases h)]
theorem c32 : Str.ofString " " = sg 32 := by decide +kernel
theorem c40 : Str.ofString "(" = sg 40 := by decide +kernel
theorem c41 : Str.ofString ")" = sg 41 := by decide +kernel
theorem c42 : Str.ofString "*" = sg 42 := by decide +kernel
theorem c63 : Str.ofString "?" = sg 63 := by decide +kernel
theorem c38 : Str.ofString "&" = sg 38 := by decide +kernel
theorem c33 : Str.ofString "!" = sg 33 := by decide +kernel
theorem c46 : Str.ofString "." = sg 46 := by decide +kernel
theorem c60 : Str.ofString "<" = sg 60 := by decide +kernel
theorem c62 : Str.ofString ">" = sg 62 := by decide +kernel
theorem c47 : Str.ofString "/" = sg 47 := by decide +kernel
def isL : Option Nat → Bool
  | some c => decide (97 ≤ c) && decide (c ≤ 122)
  | none => false
def spHere (C : Addr) : Sp := fun vs H Q _ => ∃ (a : Addr) (H0 : Hp) (s : Sc), vs = [.ref a] ∧ SA C H0 H a s ∧ Q (.str (sgn s.cur)) H
def spSign (C : Addr) : Sp := fun vs H Q _ => ∃ (a : Addr) (H0 : Hp) (s : Sc), vs = [.ref a] ∧ SA C H0 H a s ∧ ∀ H', SA C H0 H' a s.skip → Q (.str (sgn s.skip.cur)) H'
def spIsL : Sp := fun vs H Q _ => ∃ (o : Option Nat), vs = [.str (sgn o)] ∧ Q (.bl (isL o)) H
theorem zA : (Str.ofString "a").cps.toList = [97] := by decide +kernel
theorem zZ : (Str.ofString "z").cps.toList = [122] := by decide +kernel
theorem zE : (Str.ofString "").cps.toList = [] := by decide +kernel
theorem sgnL (o : Option Nat) : (sgn o).cps.toList = o.toList := by
  cases o with
  | none => exact zE
  | some c => rfl
theorem isL1 (o : Option Nat) : (!decide ((sgn o).cps.toList < (Str.ofString "a").cps.toList)) = (match o with | some c => decide (97 ≤ c) | none => false) := by
  rw [sgnL, zA]
  cases o with
  | none => rw [decide_eq_true (by simp)]; rfl
  | some c =>
    have e : ([c] < [97]) ↔ c < 97 := by simp [List.cons_lt_cons_iff]
    show (!decide ([c] < [97])) = decide (97 ≤ c)
    by_cases h : 97 ≤ c
    · rw [decide_eq_false (fun q => by have := e.mp q; omega), decide_eq_true h]; rfl
    · rw [decide_eq_true (e.mpr (by omega)), decide_eq_false h]; rfl
theorem isL2 (o : Option Nat) : (!decide ((Str.ofString "z").cps.toList < (sgn o).cps.toList)) = (match o with | some c => decide (c ≤ 122) | none => true) := by
  rw [sgnL, zZ]
  cases o with
  | none => rw [decide_eq_false (by simp)]; rfl
  | some c =>
    have e : ([122] < [c]) ↔ 122 < c := by simp [List.cons_lt_cons_iff]
    show (!decide ([122] < [c])) = decide (c ≤ 122)
    by_cases h : c ≤ 122
    · rw [decide_eq_false (fun q => by have := e.mp q; omega), decide_eq_true h]; rfl
    · rw [decide_eq_true (e.mpr (by omega)), decide_eq_false h]; rfl
theorem blanks_drop : ∀ l : List Nat, blanks (l.drop (blanks l)) = 0
  | [] => rfl
  | c :: r => by
    by_cases h : c = 32
    · have e : blanks (c :: r) = blanks r + 1 := if_pos h
      rw [e, List.drop_succ_cons]
      exact blanks_drop r
    · have e : blanks (c :: r) = 0 := if_neg h
      rw [e, List.drop_zero, e]
theorem Sc.skip_skip (s : Sc) : s.skip.skip = s.skip := by
  have h : blanks (s.z.drop (s.pl + blanks (s.z.drop s.pl))) = 0 := by rw [← List.drop_drop]; exact blanks_drop _
  show ({ s with pl := s.pl + blanks (s.z.drop s.pl) + blanks (s.z.drop (s.pl + blanks (s.z.drop s.pl))) } : Sc) = _
  rw [h]
  rfl
theorem Sc.skip_at (s : Sc) (h : s.cur = some 32) : s.go.skip = s.skip := by
  have h' : s.z[s.pl]? = some 32 := h
  obtain ⟨hl, e⟩ := List.getElem?_eq_some_iff.mp h'
  have e2 : s.z.drop s.pl = 32 :: s.z.drop (s.pl + 1) := by rw [List.drop_eq_getElem_cons hl, e]
  show ({ s with pl := s.pl + 1 + blanks (s.z.drop (s.pl + 1)) } : Sc) = { s with pl := s.pl + blanks (s.z.drop s.pl) }
  rw [e2]
  show _ = ({ s with pl := s.pl + (if (32 : Nat) = 32 then blanks (s.z.drop (s.pl + 1)) + 1 else 0) } : Sc)
  rw [if_pos rfl]
  congr 1
  omega
theorem Sc.skip_no (s : Sc) (h : s.cur ≠ some 32) : s.skip = s := by
  have e : blanks (s.z.drop s.pl) = 0 := by
    cases q : s.z.drop s.pl with
    | nil => rfl
    | cons c r =>
      have hc : s.z[s.pl]? = some c := by
        have : (s.z.drop s.pl)[0]? = some c := by rw [q]; rfl
        rw [List.getElem?_drop] at this
        simpa using this
      have : c ≠ 32 := fun e => h (by show s.z[s.pl]? = _; rw [hc, e])
      exact if_neg this
  show ({ s with pl := s.pl + blanks (s.z.drop s.pl) } : Sc) = s
  rw [e]
  rfl
theorem Sc.cur_lt {s : Sc} {c : Nat} (h : s.cur = some c) : s.pl < s.z.length := (List.getElem?_eq_some_iff.mp h).1
theorem blanks_le : ∀ l : List Nat, blanks l ≤ l.length
  | [] => Nat.le_refl _
  | c :: r => by
    have := blanks_le r
    show (if c = 32 then blanks r + 1 else 0) ≤ r.length + 1
    by_cases h : c = 32
    · rw [if_pos h]; omega
    · rw [if_neg h]; omega
theorem Sc.skip_le (s : Sc) (h : s.pl ≤ s.z.length) : s.skip.pl ≤ s.z.length := by
  have := blanks_le (s.z.drop s.pl)
  rw [List.length_drop] at this
  show s.pl + blanks (s.z.drop s.pl) ≤ _
  omega
section
variable {P : Program} {w : World} {K : PySem.W.Frag} {mg : Str → Option Value} {base : Heap} {C : Addr}
abbrev s_is_letter : Stmt := top 16
theorem sc_is_letter : FnScope ["sign"] ["sign"] (defScope s_is_letter) := ⟨rfl, rfl, rfl, by decide +kernel, rfl, by decide +kernel, by decide +kernel⟩
theorem d_is_letter (h : Here K mg "is_letter" s_is_letter ["sign"]) : DefOk P w K mg base 1 "is_letter" ["sign"] spIsL := by
  refine h.ok sc_is_letter (fun vs H Q E h => by obtain ⟨o, rfl, _⟩ := h; rfl) (fun f cdv A outer s' H vs Q E hr h => ?_)
  obtain ⟨o, rfl, k⟩ := h
  refine ⟨_, (pss_one (ps_ret (pe_chain op_le_str op_le_str pe_str (pv 0) pe_str))), ?_⟩
  walk_at "rd"
  rw [isL1]
  cases o with
  | none => exact iteF k
  | some c =>
    refine ite2 (fun e => ?_) (fun e => ?_)
    · walk_at "rd"
      rw [isL2]
      have e1 : decide (97 ≤ c) = true := e
      have k' : Q (.bl (decide (97 ≤ c) && decide (c ≤ 122))) H := k
      rw [e1, Bool.true_and] at k'
      exact k'
    · have e1 : decide (97 ≤ c) = false := by simpa using e
      have k' : Q (.bl (decide (97 ≤ c) && decide (c ≤ 122))) H := k
      rw [e1, Bool.false_and] at k'
      exact k'
abbrev s_Scan_sign_here : Stmt := inClass (top 17) 1
theorem sc_Scan_sign_here : FnScope ["self"] ["self"] (defScope s_Scan_sign_here) := ⟨rfl, rfl, rfl, by decide +kernel, rfl, by decide +kernel, by decide +kernel⟩
theorem ok_sign_here {f : Addr} {fd : FuncData} (F : Fun K "sign_here" "Scan.sign_here" s_Scan_sign_here f fd) (T : ScF K C) : FnOk P w K mg base CX0 1 f fd ["self"] (spHere C) := by
  refine F.ok sc_Scan_sign_here (fun vs H Q E h => by obtain ⟨a, _, _, rfl, _⟩ := h; rfl) (fun cdv A outer s' H vs Q E hr h => ?_)
  obtain ⟨a, H0, s, rfl, ⟨p, rfl, h⟩, k⟩ := h
  refine ⟨_, (pss_one (ps_ret (pe_slice sl_str (pe_fld (pv 0) rfl) (po_some (pe_fld (pv 0) rfl)) (po_some (pe_op op_add (pe_fld (pv 0) rfl) pe_int))))), ?_⟩
  obtain ⟨dx, e⟩ := h.ins
  refine ⟨_, rfl, p.a, C, dx, _, _, rfl, e, T.cl, T.n1, rfl, ?_⟩
  refine ⟨_, rfl, p.a, C, dx, _, _, rfl, e, T.cl, T.n3, rfl, ?_⟩
  refine ⟨_, rfl, _, rfl, p.a, C, dx, _, _, rfl, e, T.cl, T.n3, rfl, ?_⟩
  refine ⟨_, _, rfl, rfl, _, rfl, _, rfl, ?_, ?_⟩
  · have hl : (tx s.z).length = s.z.length := by simp [Str.length, tx]
    rw [hl]
    exact Nat.le_of_lt (small' (by have := h.low.1; omega))
  · rw [cut1]
    exact k
/-- what a changed place leaves -/
theorem SA.put {H0 H : Hp} {p : At} {s : Sc} (h : ScAt C H0 H p s) (n : Nat) (hn : n ≤ s.z.length) {dx : Addr} {fs : List (Str × V)} (e : fs = p.fs { s with pl := n }) : ScAt C H0 (upd H p.a (.ins C dx fs)) p { s with pl := n } := by
  rw [e]; exact h.place n hn
abbrev s_Scan_sign : Stmt := inClass (top 17) 2
theorem sc_Scan_sign : FnScope ["self"] ["self"] (defScope s_Scan_sign) := ⟨rfl, rfl, rfl, by decide +kernel, rfl, by decide +kernel, by decide +kernel⟩
theorem ok_sign {f : Addr} {fd : FuncData} (F : Fun K "sign" "Scan.sign" s_Scan_sign f fd) (T : ScF K C) (G_sign_here : ScOk P w K mg base C 1 "sign_here" ["self"] (spHere C)) : FnOk P w K mg base CX0 2 f fd ["self"] (spSign C) := by
  refine F.ok sc_Scan_sign (fun vs H Q E h => by obtain ⟨a, _, _, rfl, _⟩ := h; rfl) (fun cdv A outer s' H vs Q E hr h => ?_)
  obtain ⟨a, H0, s, rfl, ⟨p, rfl, h⟩, k⟩ := h
  refine ⟨_, (pss_cons (ps_while PassesOwn.never (pt_cmpR op_eq (pe_methS0 G_sign_here (hr.mono (by first | decide | omega)) (pv 0)) pe_str (nomark _)) (pss_one (ps_fldaug (pv 0) pe_int in_add)))
  (pss_one (ps_ret (pe_methS0 G_sign_here (hr.mono (by first | decide | omega)) (pv 0))))), ?_⟩
  refine while_m (fun m σ H' => ∃ s1 : Sc, σ = [some (.ref p.a)] ∧ ScAt C H0 H' p s1 ∧ s1.skip = s.skip ∧ m = s1.z.length - s1.pl) (s.z.length - s.pl) ?_ ?_ ?_
  · exact ⟨s, rfl, h, rfl, rfl⟩
  · rintro m σ H1 ⟨s1, rfl, h1, e1, rfl⟩
    obtain ⟨dx, e⟩ := h1.ins
    refine ⟨_, rfl, p.a, dx, _, rfl, e, rfl, p.a, H0, s1, rfl, ⟨p, rfl, h1⟩, rfl, _, rfl, ?_⟩
    rw [c32, sgn_eq]
    refine ite2 (fun t => ?_) (fun t => ?_)
    · have t : s1.cur = some 32 := of_decide_eq_true t
      have hl := Sc.cur_lt t
      refine ⟨_, rfl, p.a, C, dx, _, _, rfl, e, T.cl, T.n3, rfl, _, _, rfl, rfl, dx, _, e, by show 7 < 1000; decide, ?_⟩
      have h2 := SA.put (dx := dx) (fs := putF (Str.ofString "place") (.int ((s1.pl : Int) + 1)) (p.fs s1)) h1 (s1.pl + 1) (by omega) (by rfl)
      exact ⟨s1.z.length - (s1.pl + 1), by omega, s1.go, rfl, h2, (Sc.skip_at s1 t).trans e1, rfl⟩
    · have t : s1.cur ≠ some 32 := fun q => t (decide_eq_true q)
      have e2 := Sc.skip_no s1 t
      rw [e2] at e1
      subst e1
      walk_at "nx"
      refine ⟨_, rfl, p.a, dx, _, rfl, e, rfl, p.a, H0, _, rfl, ⟨p, rfl, h1⟩, k H1 ⟨p, rfl, h1⟩⟩
  · rintro σ H Q Q' hq ⟨x, ex, b, dx, fs, eb, hb, hl, a, H0, s1, ev, hs, sc, b', eb', q⟩
    exact ⟨x, ex, b, dx, fs, eb, hb, hl, a, H0, s1, ev, hs, sc, b', eb', hq _ _ q⟩
end
end Ws
namespace Ws
open PySem PySem.Spec PyProof.Rows L2 Wv
/-! ### brackets, rows and choices of the scanner -/
theorem last_get {α : Type} (us : List α) (u : α) : (us ++ [u])[(us ++ [u]).length - 1]? = some u := by
  rw [List.length_append, List.length_singleton, Nat.add_sub_cancel, List.getElem?_append_right (Nat.le_refl _), Nat.sub_self]; rfl
def lastD (l : List Nat) : Nat := l.getLast?.getD 0
def setLast {α : Type} (l : List α) (v : α) : List α := l.dropLast ++ [v]
theorem lastD_snoc (l : List Nat) (v : Nat) : lastD (l ++ [v]) = v := by simp [lastD]
theorem setLast_snoc {α : Type} (l : List α) (v u : α) : setLast (l ++ [v]) u = l ++ [u] := by simp [setLast]
theorem snoc_of {α : Type} {l : List α} (h : l ≠ []) : ∃ a v, l = a ++ [v] := by
  rcases List.eq_nil_or_concat l with e | ⟨a, v, e⟩
  · exact absurd e h
  · exact ⟨a, v, by rw [e]; simp⟩
theorem iV_snoc (l : List Nat) (v : Nat) : iV (l ++ [v]) = iV l ++ [.int (v : Nat)] := by simp [iV]
theorem at_last (l : List V) (v : V) : atI (l ++ [v]) (-1) = some v := by
  unfold atI ixN
  rw [if_neg (by decide), if_pos (by simp; omega), Option.bind_some]
  have e : ((-1 : Int) + ((l ++ [v]).length : Nat)).toNat = l.length := by simp; omega
  rw [e, List.getElem?_append_right (Nat.le_refl _), Nat.sub_self]
  rfl
theorem ix_last (l : List V) (v : V) : ixN (l ++ [v]).length (-1) = some l.length := by
  unfold ixN
  rw [if_neg (by decide), if_pos (by simp; omega)]
  congr 1
  simp; omega
theorem set_last (l : List V) (v u : V) : (l ++ [v]).set l.length u = l ++ [u] := by
  rw [List.set_append_right _ _ (Nat.le_refl _), Nat.sub_self]; rfl
def Sc.add (s : Sc) (k : Nat) (x : Str) (n : Nat) : Sc := { s with steps := s.steps ++ [(k, x, n)] }
def eS : Str := Str.ofString ""
def Sc.enter (s : Sc) : Sc := { s with rows := s.rows ++ [0], many := s.many ++ [0], looks := s.looks ++ [[]] }
def Sc.leave (s : Sc) : Sc := { s with rows := s.rows.dropLast, many := s.many.dropLast, looks := s.looks.dropLast }
def Sc.row1 (s : Sc) : Sc := if 1 < lastD s.many then s.add 3 eS (lastD s.many) else s
def Sc.endRow (s : Sc) : Sc := { s.row1 with many := setLast s.row1.many 0, rows := setLast s.row1.rows (lastD s.row1.rows + 1) }
def Sc.endChoice (s : Sc) : Sc := if 1 < lastD s.endRow.rows then s.endRow.add 4 eS (lastD s.endRow.rows) else s.endRow
theorem st_cut {X Y : TS} {D : Ends} {σ : L2.St} {H : Hp} (Cn : L2.St → Hp → Prop) (h1 : ∀ nx', (∀ σ' H', Cn σ' H' → nx' σ' H') → X { D with nx := nx' } σ H) (h2 : ∀ σ' H', Cn σ' H' → Y D σ' H') : tSeq X Y D σ H := h1 _ h2
structure Kc (mg : Str → Option Value) : Prop where
  k0 : ∃ t, mg "LETTER" = some (.int 0 t)
  k1 : ∃ t, mg "ONE" = some (.int 1 t)
  k2 : ∃ t, mg "NOTHING" = some (.int 2 t)
  k3 : ∃ t, mg "ROW" = some (.int 3 t)
  k4 : ∃ t, mg "CHOICE" = some (.int 4 t)
  k5 : ∃ t, mg "AGAIN" = some (.int 5 t)
  k6 : ∃ t, mg "MAYBE" = some (.int 6 t)
  k7 : ∃ t, mg "AHEAD" = some (.int 7 t)
  k8 : ∃ t, mg "UNLESS" = some (.int 8 t)
  k9 : ∃ t, mg "CALL" = some (.int 9 t)
  kN : ∃ t, mg "LONGEST_NAME" = some (.int 12 t)
structure Sc.Ok (s : Sc) : Prop where
  r : s.rows ≠ []
  m : s.many ≠ []
  l : s.looks ≠ []
  z : s.size ≤ 600000
def spTo (C : Addr) (f : Sc → Sc) : Sp := fun vs H Q _ => ∃ (a : Addr) (H0 : Hp) (s : Sc), vs = [.ref a] ∧ SA C H0 H a s ∧ s.Ok ∧ ∀ H', SA C H0 H' a (f s) → Q .non H'
theorem size_steps (s : Sc) : s.steps.length ≤ s.size := by unfold Sc.size; omega
theorem size_rows (s : Sc) : s.rows.length ≤ s.size := by unfold Sc.size; omega
theorem size_many (s : Sc) : s.many.length ≤ s.size := by unfold Sc.size; omega
theorem size_looks (s : Sc) : s.looks.length ≤ s.size := by unfold Sc.size; omega
/-- a step is told: the tuple, and the list -/
theorem add_step {C : Addr} {H0 H : Hp} {p : At} {s : Sc} (h : ScAt C H0 H p s) (hz : s.steps.length ≤ 900000) (k : Nat) (x : Str) (n : Nat) {r : Addr} (hr : H r = none) :
    ∃ vs, (upd H r (.tup [.int (k : Nat), .str x, .int (n : Nat)])) p.st = some (.lst vs) ∧ vs.length < sizeLine ∧ ScAt C H0 (upd (upd H r (.tup [.int (k : Nat), .str x, .int (n : Nat)])) p.st (.lst (vs ++ [.ref r]))) p (s.add k x n) := by
  have h1 := h.of_same (Same.new hr (.tup [.int (k : Nat), .str x, .int (n : Nat)]))
  obtain ⟨vs, e1, e2⟩ := h1.steps
  have hl := StepsAt.len _ _ e2
  exact ⟨vs, e1, small' (by omega), h1.step (x := (k, x, n)) e1 upd_same⟩
section
variable {P : Program} {w : World} {K : PySem.W.Frag} {mg : Str → Option Value} {base : Heap} {C : Addr}
abbrev s_Scan_enter_bracket : Stmt := inClass (top 17) 12
theorem sc_Scan_enter_bracket : FnScope ["self"] ["self"] (defScope s_Scan_enter_bracket) := ⟨rfl, rfl, rfl, by decide +kernel, rfl, by decide +kernel, by decide +kernel⟩
theorem ok_enter {f : Addr} {fd : FuncData} (F : Fun K "enter_bracket" "Scan.enter_bracket" s_Scan_enter_bracket f fd) (T : ScF K C) : FnOk P w K mg base CX0 1 f fd ["self"] (spTo C Sc.enter) := by
  refine F.ok sc_Scan_enter_bracket (fun vs H Q E h => by obtain ⟨a, _, _, rfl, _⟩ := h; rfl) (fun cdv A outer s' H vs Q E hr h => ?_)
  obtain ⟨a, H0, s, rfl, ⟨p, rfl, h⟩, ok, k⟩ := h
  refine ⟨_, (pss_cons (ps_expr (pe_bm PySem.F.plainAttrs_list PySem.F.slot_list_append PySem.F.type_list_append mt_append (pe_fld (pv 0) rfl) (pa_cons pe_int pa_nil)))
  (pss_cons (ps_expr (pe_bm PySem.F.plainAttrs_list PySem.F.slot_list_append PySem.F.type_list_append mt_append (pe_fld (pv 0) rfl) (pa_cons pe_int pa_nil)))
  (pss_one (ps_expr (pe_bm PySem.F.plainAttrs_list PySem.F.slot_list_append PySem.F.type_list_append mt_append (pe_fld (pv 0) rfl) (pa_cons (pe_lst pa_nil) pa_nil)))))), ?_⟩
  obtain ⟨dx, e⟩ := h.ins
  have hz := ok.z
  have z1 := size_rows s
  have z2 := size_many s
  have z3 := size_looks s
  refine ⟨_, rfl, p.a, C, dx, _, _, rfl, e, T.cl, T.n5, rfl, .inl ⟨rfl, _, SqL.of h.rows⟩, p.ro, _, _, rfl, rfl, h.rows, small' (by simp [iV]; omega), ?_⟩
  have h1 := h.setRows (s.rows ++ [0])
  rw [iV_snoc] at h1
  walk_at "nx"
  obtain ⟨dx1, e1⟩ := h1.ins
  refine ⟨_, rfl, p.a, C, dx1, _, _, rfl, e1, T.cl, T.n6, rfl, .inl ⟨rfl, _, SqL.of h1.many⟩, p.ma, _, _, rfl, rfl, h1.many, small' (by simp [iV]; omega), ?_⟩
  have h2 := h1.setMany (s.many ++ [0])
  rw [iV_snoc] at h2
  walk_at "nx"
  obtain ⟨dx2, e2⟩ := h2.ins
  refine ⟨_, rfl, p.a, C, dx2, _, _, rfl, e2, T.cl, T.n7, rfl, .inl ⟨rfl, _, SqL.of h2.looks.1⟩, Nat.zero_le _, fun q hq => ?_⟩
  have s3 := Same.new hq (.lst [])
  have h3 := h2.of_same s3
  have ll := LooksAt.len _ _ h2.looks.2
  obtain ⟨nd, fr⟩ := h2.newLook hq (fun _ ha => ha) (ne_of_nd h2.nd).nd
  have h4 := h3.setLooks (p.lk ++ [q]) (s.looks ++ [[]]) (LooksAt.snoc (q := q) (l := []) (show _ = some (HO.lst (iV [])) from upd_same) _ _ h3.looks.2) nd fr
  rw [List.map_append] at h4
  refine ⟨p.lo, _, _, rfl, rfl, h3.looks.1, small' (by rw [List.length_map, ll]; show s.looks.length ≤ _; omega), ?_⟩
  exact k _ ⟨{ p with lk := p.lk ++ [q] }, rfl, h4⟩
theorem drop_map {α β : Type} (f : α → β) (l : List α) : (l.map f).dropLast = l.dropLast.map f := by
  induction l with
  | nil => rfl
  | cons x l ih =>
    cases l with
    | nil => rfl
    | cons y l =>
      show f x :: ((y :: l).map f).dropLast = f x :: ((y :: l).dropLast).map f
      rw [ih]
abbrev s_Scan_leave_bracket : Stmt := inClass (top 17) 13
theorem sc_Scan_leave_bracket : FnScope ["self"] ["self"] (defScope s_Scan_leave_bracket) := ⟨rfl, rfl, rfl, by decide +kernel, rfl, by decide +kernel, by decide +kernel⟩
theorem ok_leave {f : Addr} {fd : FuncData} (F : Fun K "leave_bracket" "Scan.leave_bracket" s_Scan_leave_bracket f fd) (T : ScF K C) : FnOk P w K mg base CX0 1 f fd ["self"] (spTo C Sc.leave) := by
  refine F.ok sc_Scan_leave_bracket (fun vs H Q E h => by obtain ⟨a, _, _, rfl, _⟩ := h; rfl) (fun cdv A outer s' H vs Q E hr h => ?_)
  obtain ⟨a, H0, s, rfl, ⟨p, rfl, h⟩, ok, k⟩ := h
  refine ⟨_, (pss_cons (ps_expr (pe_bm0 PySem.F.plainAttrs_list PySem.F.slot_list_pop PySem.F.type_list_pop mt_pop (pe_fld (pv 0) rfl)))
  (pss_cons (ps_expr (pe_bm0 PySem.F.plainAttrs_list PySem.F.slot_list_pop PySem.F.type_list_pop mt_pop (pe_fld (pv 0) rfl)))
  (pss_one (ps_expr (pe_bm0 PySem.F.plainAttrs_list PySem.F.slot_list_pop PySem.F.type_list_pop mt_pop (pe_fld (pv 0) rfl)))))), ?_⟩
  obtain ⟨dx, e⟩ := h.ins
  obtain ⟨rs, r, er⟩ := snoc_of ok.r
  obtain ⟨ms, m, em⟩ := snoc_of ok.m
  obtain ⟨ls, l, el⟩ := snoc_of ok.l
  have hr' := h.rows
  rw [er, iV_snoc] at hr'
  refine ⟨_, rfl, p.a, C, dx, _, _, rfl, e, T.cl, T.n5, rfl, .inl ⟨rfl, _, SqL.of hr'⟩, p.ro, _, _, rfl, rfl, hr', last_get _ _, ?_⟩
  have h1 := h.setRows rs
  rw [List.dropLast_concat]
  walk_at "nx"
  obtain ⟨dx1, e1⟩ := h1.ins
  have hm' := h1.many
  rw [show ({ s with rows := rs } : Sc).many = ms ++ [m] from em, iV_snoc] at hm'
  refine ⟨_, rfl, p.a, C, dx1, _, _, rfl, e1, T.cl, T.n6, rfl, .inl ⟨rfl, _, SqL.of hm'⟩, p.ma, _, _, rfl, rfl, hm', last_get _ _, ?_⟩
  have h2 := h1.setMany ms
  rw [List.dropLast_concat]
  walk_at "nx"
  obtain ⟨dx2, e2⟩ := h2.ins
  have hl2 := h2.looks.2
  rw [show ({ s with rows := rs, many := ms } : Sc).looks = ls ++ [l] from el] at hl2
  obtain ⟨us, q, eu, hu, hq⟩ := LooksAt.split _ _ _ hl2
  have hl' := h2.looks.1
  rw [eu, List.map_append] at hl'
  refine ⟨_, rfl, p.a, C, dx2, _, _, rfl, e2, T.cl, T.n7, rfl, .inl ⟨rfl, _, SqL.of hl'⟩, p.lo, _, _, rfl, rfl, hl', last_get _ _, ?_⟩
  rw [show List.map V.ref [q] = [V.ref q] from rfl, List.dropLast_concat]
  have sub : ∀ a ∈ us, a ∈ p.lk := fun a ha => by rw [eu]; simp [ha]
  have n := ne_of_nd h2.nd
  have h3 := h2.setLooks us ls hu (List.Nodup.sublist (by rw [eu]; exact List.sublist_append_left _ _) n.nd) (fun a ha => ⟨h2.fresh a (by simp [At.all, sub a ha]), n.l0 a (sub a ha), n.l1 a (sub a ha), n.l2 a (sub a ha), n.l3 a (sub a ha), n.l4 a (sub a ha)⟩)
  walk_at "nx"
  refine k _ ⟨{ p with lk := us }, rfl, ?_⟩
  have ef : s.leave = { s with rows := rs, many := ms, looks := ls } := by
    unfold Sc.leave
    rw [er, em, el, List.dropLast_concat, List.dropLast_concat, List.dropLast_concat]
  rw [ef]
  exact h3
abbrev s_Scan_end_row : Stmt := inClass (top 17) 10
theorem sc_Scan_end_row : FnScope ["self"] ["self"] (defScope s_Scan_end_row) := ⟨rfl, rfl, rfl, by decide +kernel, rfl, by decide +kernel, by decide +kernel⟩
theorem ok_end_row {f : Addr} {fd : FuncData} (F : Fun K "end_row" "Scan.end_row" s_Scan_end_row f fd) (T : ScF K C) (CN : Kc mg) : FnOk P w K mg base CX0 1 f fd ["self"] (spTo C Sc.endRow) := by
  have GC_ROW := CN.k3
  refine F.ok sc_Scan_end_row (fun vs H Q E h => by obtain ⟨a, _, _, rfl, _⟩ := h; rfl) (fun cdv A outer s' H vs Q E hr h => ?_)
  obtain ⟨a, H0, s, rfl, ⟨p, rfl, h⟩, ok, k⟩ := h
  refine ⟨_, (pss_cons (ps_if (pt_cmpR op_gt (pe_ix ix_list (pe_fld (pv 0) rfl) (pe_un un_neg pe_int) (fun _ _ => rfl)) pe_int (nomark _)) (pss_one (ps_expr (pe_bm PySem.F.plainAttrs_list PySem.F.slot_list_append PySem.F.type_list_append mt_append (pe_fld (pv 0) rfl) (pa_cons (pe_tup (pa_cons (pe_globI rfl GC_ROW) (pa_cons pe_str (pa_cons (pe_ix ix_list (pe_fld (pv 0) rfl) (pe_un un_neg pe_int) (fun _ _ => rfl)) pa_nil)))) pa_nil)))) pss_nil)
  (pss_cons (ps_asg pe_int (pg_sub (pe_fld (pv 0) rfl) (pe_un un_neg pe_int) set_list))
  (pss_one (ps_augS (pe_fld (pv 0) rfl) (pe_un un_neg pe_int) get_list pe_int ip_add set_list)))), ?_⟩
  obtain ⟨ms, m, em⟩ := snoc_of ok.m
  obtain ⟨rs, r, er⟩ := snoc_of ok.r
  have hz := ok.z
  refine st_cut (fun σ' H1 => σ' = [some (.ref p.a)] ∧ ScAt C H0 H1 p s.row1) (fun nx' go => ?_) ?_
  · obtain ⟨dx, e⟩ := h.ins
    have hm' := h.many
    rw [em, iV_snoc] at hm'
    refine ⟨_, rfl, p.a, C, dx, _, _, rfl, e, T.cl, T.n6, rfl, _, rfl, p.ma, _, _, _, rfl, rfl, SqL.of hm', at_last _ _, _, _, rfl, rfl, _, rfl, ?_⟩
    refine ite2 (fun t => ?_) (fun t => ?_)
    · have t : (1 : Int) < (m : Nat) := of_decide_eq_true t
      have er1 : s.row1 = s.add 3 eS m := by
        unfold Sc.row1
        rw [em, lastD_snoc, if_pos (by omega)]
      refine ⟨_, rfl, p.a, C, dx, _, _, rfl, e, T.cl, T.n4, rfl, ?_⟩
      obtain ⟨vs0, v1, v2⟩ := h.steps
      refine ⟨.inl ⟨rfl, _, SqL.of v1⟩, ?_⟩
      refine ⟨_, rfl, p.a, C, dx, _, _, rfl, e, T.cl, T.n6, rfl, _, rfl, p.ma, _, _, _, rfl, rfl, SqL.of hm', at_last _ _, by show 3 ≤ sizeLine; decide, fun r hr => ?_⟩
      obtain ⟨vs, w1, w2, w3⟩ := add_step h (by have := size_steps s; omega) 3 eS m hr
      refine ⟨p.st, vs, _, rfl, rfl, w1, w2, ?_⟩
      rw [← er1] at w3
      exact go _ _ ⟨rfl, w3⟩
    · have t : ¬ (1 : Int) < (m : Nat) := fun q => t (decide_eq_true q)
      have er1 : s.row1 = s := by
        unfold Sc.row1
        rw [em, lastD_snoc, if_neg (by omega)]
      exact go _ _ ⟨rfl, by rw [er1]; exact h⟩
  · rintro σ' H1 ⟨rfl, h1⟩
    have em1 : s.row1.many = ms ++ [m] := by unfold Sc.row1; split <;> exact em
    have er1 : s.row1.rows = rs ++ [r] := by unfold Sc.row1; split <;> exact er
    have ef : s.endRow = { s.row1 with many := ms ++ [0], rows := rs ++ [r + 1] } := by
      unfold Sc.endRow
      rw [em1, er1, setLast_snoc, setLast_snoc, lastD_snoc]
    generalize s.row1 = s1 at *
    obtain ⟨dx, e⟩ := h1.ins
    have hm' := h1.many
    rw [em1, iV_snoc] at hm'
    refine ⟨_, rfl, p.a, C, dx, _, _, rfl, e, T.cl, T.n6, rfl, _, rfl, p.ma, _, _, _, rfl, rfl, hm', ix_last _ _, ?_⟩
    rw [set_last]
    have h2 := h1.setMany (ms ++ [0])
    rw [iV_snoc] at h2
    obtain ⟨dx2, e2⟩ := h2.ins
    have hr' := h2.rows
    rw [show ({ s1 with many := ms ++ [0] } : Sc).rows = rs ++ [r] from er1, iV_snoc] at hr'
    refine ⟨_, rfl, p.a, C, dx2, _, _, rfl, e2, T.cl, T.n5, rfl, _, rfl, p.ro, _, _, _, rfl, rfl, SqL.of hr', at_last _ _, _, _, rfl, rfl, p.ro, _, _, _, rfl, rfl, hr', ix_last _ _, ?_⟩
    rw [set_last]
    have h3 := h2.setRows (rs ++ [r + 1])
    rw [iV_snoc] at h3
    refine k _ ⟨p, rfl, ?_⟩
    rw [ef]
    exact h3
abbrev s_Scan_end_choice : Stmt := inClass (top 17) 11
theorem sc_Scan_end_choice : FnScope ["self"] ["self"] (defScope s_Scan_end_choice) := ⟨rfl, rfl, rfl, by decide +kernel, rfl, by decide +kernel, by decide +kernel⟩
theorem ok_end_choice {f : Addr} {fd : FuncData} (F : Fun K "end_choice" "Scan.end_choice" s_Scan_end_choice f fd) (T : ScF K C) (CN : Kc mg) (G_end_row : ScOk P w K mg base C 1 "end_row" ["self"] (spTo C Sc.endRow)) : FnOk P w K mg base CX0 2 f fd ["self"] (spTo C Sc.endChoice) := by
  have GC_CHOICE := CN.k4
  refine F.ok sc_Scan_end_choice (fun vs H Q E h => by obtain ⟨a, _, _, rfl, _⟩ := h; rfl) (fun cdv A outer s' H vs Q E hr h => ?_)
  obtain ⟨a, H0, s, rfl, ⟨p, rfl, h⟩, ok, k⟩ := h
  refine ⟨_, (pss_cons (ps_expr (pe_methS0 G_end_row (hr.mono (by first | decide | omega)) (pv 0)))
  (pss_one (ps_if (pt_cmpR op_gt (pe_ix ix_list (pe_fld (pv 0) rfl) (pe_un un_neg pe_int) (fun _ _ => rfl)) pe_int (nomark _)) (pss_one (ps_expr (pe_bm PySem.F.plainAttrs_list PySem.F.slot_list_append PySem.F.type_list_append mt_append (pe_fld (pv 0) rfl) (pa_cons (pe_tup (pa_cons (pe_globI rfl GC_CHOICE) (pa_cons pe_str (pa_cons (pe_ix ix_list (pe_fld (pv 0) rfl) (pe_un un_neg pe_int) (fun _ _ => rfl)) pa_nil)))) pa_nil)))) pss_nil))), ?_⟩
  obtain ⟨dx, e⟩ := h.ins
  refine ⟨_, rfl, p.a, dx, _, rfl, e, rfl, p.a, H0, s, rfl, ⟨p, rfl, h⟩, ok, fun H1 ⟨p1, ep, h1⟩ => ?_⟩
  rw [← ep]
  have hz := ok.z
  have hz1 : s.endRow.size ≤ 900000 := by
    unfold Sc.size Sc.endRow Sc.row1 Sc.add setLast
    unfold Sc.size at hz
    split <;> simp only [List.length_append, List.length_dropLast, List.length_singleton] <;> omega
  have en : s.endRow.rows ≠ [] := by unfold Sc.endRow setLast; simp
  obtain ⟨rs, r, er⟩ := snoc_of en
  have ef : s.endChoice = if 1 < r then s.endRow.add 4 eS r else s.endRow := by
    unfold Sc.endChoice
    rw [er, lastD_snoc]
  generalize s.endRow = s1 at *
  obtain ⟨dx1, e1⟩ := h1.ins
  have hr' := h1.rows
  rw [er, iV_snoc] at hr'
  refine ⟨_, rfl, p1.a, C, dx1, _, _, rfl, e1, T.cl, T.n5, rfl, _, rfl, p1.ro, _, _, _, rfl, rfl, SqL.of hr', at_last _ _, _, _, rfl, rfl, _, rfl, ?_⟩
  refine ite2 (fun t => ?_) (fun t => ?_)
  · have t : (1 : Int) < (r : Nat) := of_decide_eq_true t
    rw [if_pos (by omega)] at ef
    obtain ⟨vs0, v1, v2⟩ := h1.steps
    refine ⟨_, rfl, p1.a, C, dx1, _, _, rfl, e1, T.cl, T.n4, rfl, .inl ⟨rfl, _, SqL.of v1⟩, ?_⟩
    refine ⟨_, rfl, p1.a, C, dx1, _, _, rfl, e1, T.cl, T.n5, rfl, _, rfl, p1.ro, _, _, _, rfl, rfl, SqL.of hr', at_last _ _, by show 3 ≤ sizeLine; decide, fun q hq => ?_⟩
    obtain ⟨vs, w1, w2, w3⟩ := add_step h1 (Nat.le_trans (size_steps s1) hz1) 4 eS r hq
    refine ⟨p1.st, vs, _, rfl, rfl, w1, w2, ?_⟩
    refine k _ ⟨p1, ep, ?_⟩
    rw [ef]
    exact w3
  · have t : ¬ (1 : Int) < (r : Nat) := fun q => t (decide_eq_true q)
    rw [if_neg (by omega)] at ef
    refine k _ ⟨p1, ep, ?_⟩
    rw [ef]
    exact h1
end
end Ws
namespace Ws
open PySem PySem.Spec PyProof.Rows L2 Wv
/-! ### the end of a way: * and ?, then the looks that wait -/
theorem take_more {α : Type} : ∀ {l : List α} {i : Nat} {x : α}, l[i]? = some x → l.take (i + 1) = l.take i ++ [x]
  | [], i, x, h => by simp at h
  | a :: l, 0, x, h => by
    have e : a = x := Option.some.inj h
    subst e
    rfl
  | a :: l, i + 1, x, h => by
    have ih := take_more (l := l) (i := i) (x := x) h
    show a :: l.take (i + 1) = a :: l.take i ++ [x]
    rw [ih]
    rfl
def Sc.marksK : Nat → Sc → Sc
  | 0, s => s
  | f + 1, s => if s.cur = some 42 then Sc.marksK f ((s.go.add 5 eS 1).skip) else if s.cur = some 63 then Sc.marksK f ((s.go.add 6 eS 1).skip) else s
def lastL (l : List (List Nat)) : List Nat := l.getLast?.getD []
theorem lastL_snoc (l : List (List Nat)) (v : List Nat) : lastL (l ++ [v]) = v := by simp [lastL]
def Sc.fin (s : Sc) : Sc := { s with steps := s.steps ++ (lastL s.looks).reverse.map (fun k => (k, eS, 1)), looks := setLast s.looks [], many := setLast s.many (lastD s.many + 1) }
def Sc.marks (s : Sc) : Sc := Sc.marksK (s.z.length + 1) s.skip
def Sc.endWay (s : Sc) : Sc := s.marks.fin
def isMark (o : Option Nat) : Bool := decide (o = some 42) || decide (o = some 63)
theorem eqV_sgn (o : Option Nat) (c : Nat) : eqV (.str (sg c)) (.str (sgn o)) = decide (o = some c) := by
  have e : eqV (.str (sg c)) (.str (sgn o)) = decide (V.str (sgn o) = V.str (sg c)) := by
    by_cases h : sgn o = sg c
    · rw [h, decide_eq_true rfl]; simp [eqV]
    · rw [decide_eq_false (fun q => h (V.str.inj q))]
      have h' : ¬ sg c = sgn o := fun q => h q.symm
      simp [eqV, h']
  rw [e, sgn_eq]
theorem in_mark (o : Option Nat) : inV (.str (sgn o)) [.str (Str.ofString "*"), .str (Str.ofString "?")] = isMark o := by
  rw [c42, c63]
  show ([V.str (sg 42), V.str (sg 63)].any fun y => eqV y (.str (sgn o))) = isMark o
  rw [List.any_cons, List.any_cons, List.any_nil, eqV_sgn, eqV_sgn, Bool.or_false]
  rfl
theorem Sc.skip_z (s : Sc) : s.skip.z = s.z ∧ s.skip.rows = s.rows ∧ s.skip.many = s.many ∧ s.skip.looks = s.looks ∧ s.skip.steps = s.steps ∧ s.pl ≤ s.skip.pl := ⟨rfl, rfl, rfl, rfl, rfl, Nat.le_add_right _ _⟩
theorem Sc.marksK_keep : ∀ (f : Nat) (s : Sc), (Sc.marksK f s).rows = s.rows ∧ (Sc.marksK f s).many = s.many ∧ (Sc.marksK f s).looks = s.looks ∧ (Sc.marksK f s).z = s.z
  | 0, s => ⟨rfl, rfl, rfl, rfl⟩
  | f + 1, s => by
    unfold Sc.marksK
    split
    · exact Sc.marksK_keep f _
    · split
      · exact Sc.marksK_keep f _
      · exact ⟨rfl, rfl, rfl, rfl⟩
section
variable {P : Program} {w : World} {K : PySem.W.Frag} {mg : Str → Option Value} {base : Heap} {C : Addr}
theorem SA.same {H0 H H' : Hp} {a : Addr} {s : Sc} (h : SA C H0 H a s) (k : Same H H') : SA C H0 H' a s := by
  obtain ⟨p, e, h⟩ := h
  exact ⟨p, e, h.of_same k⟩
abbrev s_Scan_end_way : Stmt := inClass (top 17) 9
theorem sc_Scan_end_way : FnScope ["self", "sign", "kind"] ["self"] (defScope s_Scan_end_way) := ⟨rfl, rfl, rfl, by decide +kernel, rfl, by decide +kernel, by decide +kernel⟩
theorem ok_end_way {f : Addr} {fd : FuncData} (F : Fun K "end_way" "Scan.end_way" s_Scan_end_way f fd) (T : ScF K C) (CN : Kc mg) (G_sign : ScOk P w K mg base C 2 "sign" ["self"] (spSign C)) : FnOk P w K mg base CX0 3 f fd ["self"] (spTo C Sc.endWay) := by
  have GC_AGAIN := CN.k5
  have GC_MAYBE := CN.k6
  refine F.ok sc_Scan_end_way (fun vs H Q E h => by obtain ⟨a, _, _, rfl, _⟩ := h; rfl) (fun cdv A outer s' H vs Q E hr h => ?_)
  obtain ⟨a, H0, s, rfl, ⟨p, rfl, h⟩, ok, k⟩ := h
  refine ⟨_, (pss_cons (ps_set (i := 1) sc_Scan_end_way.nd rfl (Or.inl rfl) (pe_methS0 G_sign (hr.mono (by first | decide | omega)) (pv 0)))
  (pss_cons (ps_while PassesOwn.never (pt_cmpR op_in_seq (pv 1) (pe_tup (pa_cons pe_str (pa_cons pe_str pa_nil))) (by rfl)) (pss_cons (ps_fldaug (pv 0) pe_int in_add)
  (pss_cons (ps_expr (pe_bm PySem.F.plainAttrs_list PySem.F.slot_list_append PySem.F.type_list_append mt_append (pe_fld (pv 0) rfl) (pa_cons (pe_tup (pa_cons (pe_ifExp (pt_cmpR op_eq (pv 1) pe_str (nomark _)) (pe_globI rfl GC_AGAIN) (pe_globI rfl GC_MAYBE)) (pa_cons pe_str (pa_cons pe_int pa_nil)))) pa_nil)))
  (pss_one (ps_set (i := 1) sc_Scan_end_way.nd rfl (Or.inl rfl) (pe_methS0 G_sign (hr.mono (by first | decide | omega)) (pv 0)))))))
  (pss_cons (ps_for PassesOwn.never rfl (pi_list (pe_revL (pe_ix ix_list (pe_fld (pv 0) rfl) (pe_un un_neg pe_int) (fun _ _ => rfl)))) (pg_name (i := 2) sc_Scan_end_way.nd rfl (Or.inl rfl))
   (pss_one (ps_expr (pe_bm PySem.F.plainAttrs_list PySem.F.slot_list_append PySem.F.type_list_append mt_append (pe_fld (pv 0) rfl) (pa_cons (pe_tup (pa_cons (pv 2) (pa_cons pe_str (pa_cons pe_int pa_nil)))) pa_nil)))))
  (pss_cons (ps_asg (pe_lst pa_nil) (pg_sub (pe_fld (pv 0) rfl) (pe_un un_neg pe_int) set_list))
  (pss_one (ps_augS (pe_fld (pv 0) rfl) (pe_un un_neg pe_int) get_list pe_int ip_add set_list)))))), ?_⟩
  obtain ⟨dx, e⟩ := h.ins
  have hz := ok.z
  generalize ea : p.a = a at *
  refine ⟨_, rfl, a, dx, _, rfl, e, rfl, a, H0, s, rfl, ⟨p, ea, h⟩, fun H1 h1 => ?_⟩
  refine Wv.gset ?_
  with_reducible refine st_cut (fun σ' H' => ∃ x1 x2, σ' = [some (.ref a), x1, x2] ∧ SA C H0 H' a s.marks ∧ s.marks.size ≤ 700000) (fun nx' go => ?_) ?_
  · refine while_m (fun m σ H' => ∃ (s1 : Sc) (fu : Nat) (x2 : Option V), σ = [some (.ref a), some (.str (sgn s1.cur)), x2] ∧ SA C H0 H' a s1 ∧ Sc.marksK fu s1 = s.marks ∧ m = s1.z.length - s1.pl ∧ s1.z.length - s1.pl < fu ∧ s1.size ≤ 600000 + s1.pl) (s.skip.z.length - s.skip.pl) ?_ ?_ ?_
    · exact ⟨s.skip, s.z.length + 1, none, rfl, h1, rfl, rfl, by show s.z.length - _ < _; omega, by show s.size ≤ _; omega⟩
    · rintro m σ H2 ⟨s1, fu, x2, rfl, ⟨p1, ep1, h2⟩, em, rfl, hfu, hsz⟩
      refine ⟨_, rfl, by show 2 ≤ sizeLine; decide, fun tp htp => ?_⟩
      have st := Same.new htp (.tup [.str (Str.ofString "*"), .str (Str.ofString "?")])
      refine ⟨tp, _, rfl, .inr (SqT.of upd_same), rfl, by decide +kernel, ?_⟩
      rw [if_neg Bool.false_ne_true, in_mark]
      refine ⟨_, rfl, ?_⟩
      have h3 := h2.of_same st
      generalize upd H2 tp (.tup [.str (Str.ofString "*"), .str (Str.ofString "?")]) = H3 at *
      have hlow := h2.low
      obtain ⟨fu, rfl⟩ : ∃ g, fu = g + 1 := ⟨fu - 1, by omega⟩
      refine ite2 (fun t => ?_) (fun t => ?_)
      · obtain ⟨c, hc⟩ : ∃ c, s1.cur = some c := by
          cases q : s1.cur with
          | none => rw [q] at t; exact absurd t (by decide)
          | some c => exact ⟨c, rfl⟩
        have hl := Sc.cur_lt hc
        obtain ⟨dx3, e3⟩ := h3.ins
        rw [ep1] at e3
        refine ⟨_, rfl, a, C, dx3, _, _, rfl, e3, T.cl, T.n3, rfl, _, _, rfl, rfl, dx3, _, e3, by show 7 < 1000; decide, ?_⟩
        have h4 := SA.put (dx := dx3) (fs := putF (Str.ofString "place") (.int ((s1.pl : Int) + 1)) (p1.fs s1)) h3 (s1.pl + 1) (by omega) (by rfl)
        rw [ep1] at h4
        generalize upd H3 a (.ins C dx3 (putF (Str.ofString "place") (.int ((s1.pl : Int) + 1)) (p1.fs s1))) = H4 at *
        obtain ⟨dx4, e4⟩ := h4.ins
        rw [ep1] at e4
        obtain ⟨vs0, v1, v2⟩ := h4.steps
        walk_at "nx"
        refine ⟨_, rfl, a, C, dx4, _, _, rfl, e4, T.cl, T.n4, rfl, .inl ⟨rfl, _, SqL.of v1⟩, ?_⟩
        refine withQ (E := tIf _ _ _) (fun y H' => ∃ kk : Nat, y = .int (kk : Nat) ∧ H' = H4 ∧ Sc.marksK (fu + 1) s1 = Sc.marksK fu ((s1.go.add kk eS 1).skip)) (fun Q' go' => ?_) ?_
        · refine ⟨_, rfl, rfl, _, rfl, ?_⟩
          rw [c42, sgn_eq]
          refine ite2 (fun t2 => ?_) (fun t2 => ?_)
          · exact go' _ _ ⟨5, rfl, rfl, if_pos (of_decide_eq_true t2)⟩
          · have t3 : s1.cur ≠ some 42 := fun q => t2 (decide_eq_true q)
            have t4 : s1.cur = some 63 := by
              unfold isMark at t
              rw [decide_eq_false t3, Bool.false_or] at t
              exact of_decide_eq_true t
            exact go' _ _ ⟨6, rfl, rfl, (if_neg t3).trans (if_pos t4)⟩
        · rintro _ _ ⟨kk, rfl, rfl, ek⟩
          refine ⟨by show 3 ≤ sizeLine; decide, fun r hr => ?_⟩
          obtain ⟨vs, w1, w2, w3⟩ := add_step h4 (by show s1.steps.length ≤ _; have := size_steps s1; omega) kk eS 1 hr
          refine ⟨p1.st, vs, _, rfl, rfl, w1, w2, ?_⟩
          walk_at "nx"
          obtain ⟨dx5, e5⟩ := w3.ins
          rw [ep1] at e5
          refine ⟨_, rfl, a, dx5, _, rfl, e5, rfl, a, H0, _, rfl, ⟨p1, ep1, w3⟩, fun H6 h6 => ?_⟩
          have sz : (s1.go.add kk eS 1).size = s1.size + 1 := by
            unfold Sc.size Sc.add Sc.go
            simp only [List.length_append, List.length_singleton]
            omega
          have hpl : s1.pl + 1 ≤ ((s1.go.add kk eS 1).skip).pl := Nat.le_add_right _ _
          refine ⟨(s1.go.add kk eS 1).skip.z.length - (s1.go.add kk eS 1).skip.pl, ?_, (s1.go.add kk eS 1).skip, fu, _, rfl, h6, ?_, rfl, ?_, ?_⟩
          · show s1.z.length - _ < _; omega
          · rw [← ek]; exact em
          · show s1.z.length - _ < _; omega
          · show (s1.go.add kk eS 1).size ≤ _; rw [sz]; omega
      · have e0 : Sc.marksK (fu + 1) s1 = s1 := by
          have t' : isMark s1.cur = false := by simpa using t
          unfold isMark at t'
          rw [Bool.or_eq_false_iff] at t'
          have n1 := of_decide_eq_false t'.1
          have n2 := of_decide_eq_false t'.2
          exact (if_neg n1).trans (if_neg n2)
        rw [e0] at em
        subst em
        have hlow := h3.low
        exact go _ _ ⟨_, _, rfl, ⟨p1, ep1, h3⟩, by omega⟩
    · rintro σ H Q Q' hq ⟨x, ex, le, g⟩
      refine ⟨x, ex, le, fun p hp => ?_⟩
      obtain ⟨q, xs, e, sq, f1, f2, b, eb, h⟩ := g p hp
      exact ⟨q, xs, e, sq, f1, f2, b, eb, hq _ _ h⟩
  · rintro σ' H1 ⟨x1, x2, rfl, ⟨p1, ep1, h1⟩, hsz⟩
    have kp := Sc.marksK_keep (s.z.length + 1) s.skip
    have el : s.marks.looks ≠ [] := by unfold Sc.marks; rw [kp.2.2.1]; exact ok.l
    have em : s.marks.many ≠ [] := by unfold Sc.marks; rw [kp.2.1]; exact ok.m
    have ef : s.endWay = s.marks.fin := rfl
    rw [ef] at k
    generalize s.marks = s1 at *
    obtain ⟨ls, l, el⟩ := snoc_of el
    obtain ⟨ms, m, em⟩ := snoc_of em
    have ef : s1.fin = { s1 with steps := s1.steps ++ l.reverse.map (fun k => (k, eS, 1)), looks := ls ++ [[]], many := ms ++ [m + 1] } := by
      unfold Sc.fin
      rw [el, em, lastL_snoc, setLast_snoc, lastD_snoc, setLast_snoc]
    rw [ef] at k
    have hl2 := h1.looks.2
    rw [el] at hl2
    obtain ⟨us, q, eu, hu, hq⟩ := LooksAt.split _ _ _ hl2
    have hl1 := h1.looks.1
    rw [eu, List.map_append] at hl1
    obtain ⟨dx1, e1⟩ := h1.ins
    rw [ep1] at e1
    refine ⟨_, rfl, a, C, dx1, _, _, rfl, e1, T.cl, T.n7, rfl, _, rfl, p1.lo, _, _, _, rfl, rfl, SqL.of hl1, at_last _ _, q, _, rfl, SqL.of hq, fun rv hrv => ?_⟩
    have ap := h1.apart hrv
    have sl : s1.steps.length + l.length ≤ s1.size := by
      unfold Sc.size
      rw [el, List.flatten_append]
      simp only [List.length_append, List.flatten_cons, List.flatten_nil, List.append_nil]
      omega
    have h2 := h1.of_same (Same.new hrv (.lst (iV l).reverse))
    have hr2 : upd H1 rv (.lst (iV l).reverse) rv = some (.lst (iV l).reverse) := upd_same
    generalize upd H1 rv (.lst (iV l).reverse) = H2 at *
    have nst : rv ≠ p1.st := fun z => ap.2 (by rw [z]; simp [At.all])
    refine ⟨rv, rfl, ⟨_, SqL.of hr2⟩, ?_⟩
    refine for_list (K := K) (a := rv) (xs := (iV l).reverse) (fun i σ H' => ∃ x1 x2, σ = [some (.ref a), x1, x2] ∧ ScAt C H0 H' p1 { s1 with steps := s1.steps ++ (l.reverse.take i).map (fun k => (k, eS, 1)) } ∧ H' rv = some (.lst (iV l).reverse)) ?_ ?_ ?_ ?_
    · exact ⟨_, _, rfl, by simpa using h2, hr2⟩
    · rintro i σ H' _ ⟨_, _, rfl, _, hr⟩
      exact SqL.of hr
    · rintro i y σ H3 hy ⟨y1, y2, rfl, h3, hr3⟩
      have erv : (iV l).reverse = iV l.reverse := by simp [iV, List.map_reverse]
      rw [erv] at hy
      obtain ⟨kk, hk, ey⟩ : ∃ kk, l.reverse[i]? = some kk ∧ V.int (kk : Nat) = y := by
        have : (l.reverse.map fun n => V.int (n : Nat))[i]? = some y := hy
        rw [List.getElem?_map] at this
        cases q : l.reverse[i]? with
        | none => rw [q] at this; cases this
        | some kk => rw [q] at this; exact ⟨kk, rfl, Option.some.inj this⟩
      subst ey
      obtain ⟨dx3, e3⟩ := h3.ins
      rw [ep1] at e3
      obtain ⟨vs0, v1, v2⟩ := h3.steps
      have hil : i < l.length := by have := (List.getElem?_eq_some_iff.mp hk).1; rw [List.length_reverse] at this; exact this
      walk_at "nx"
      refine ⟨_, rfl, a, C, dx3, _, _, rfl, e3, T.cl, T.n4, rfl, .inl ⟨rfl, _, SqL.of v1⟩, ?_⟩
      refine ⟨_, rfl, by show 3 ≤ sizeLine; decide, fun r hr => ?_⟩
      obtain ⟨vs, w1, w2, w3⟩ := add_step h3 (by show (s1.steps ++ _).length ≤ _; rw [List.length_append, List.length_map, List.length_take, List.length_reverse]; omega) kk eS 1 hr
      refine ⟨p1.st, vs, _, rfl, rfl, w1, w2, ?_⟩
      walk_at "nx"
      refine ⟨_, _, rfl, ?_, ?_⟩
      · rw [take_more hk, List.map_append, ← List.append_assoc]
        exact w3
      · rw [upd_ne nst, upd_ne (ne_of_none hr3 hr)]
        exact hr3
    · rintro σ H3 ⟨y1, y2, rfl, h3, _⟩
      rw [List.length_reverse, show (iV l).length = l.reverse.length by simp [iV], List.take_length] at h3
      -- the looks are new
      walk_at "nx"
      refine ⟨Nat.zero_le _, fun q2 hq2 => ?_⟩
      have h4 := h3.of_same (Same.new hq2 (.lst []))
      have hq4 : upd H3 q2 (.lst []) q2 = some (.lst (iV [])) := upd_same
      have nl := h3.newLook hq2 (as := us) (fun b hb => by rw [eu]; simp [hb]) ?_
      rotate_left
      · have := (ne_of_nd h3.nd).nd
        rw [eu] at this
        exact (List.nodup_append.mp this).1
      have hu4 : LooksAt (upd H3 q2 (.lst [])) us ls := by
        have hl := h4.looks.2
        rw [show ({ s1 with steps := s1.steps ++ l.reverse.map (fun k => (k, eS, 1)) } : Sc).looks = ls ++ [l] from el, eu] at hl
        obtain ⟨us', q', eu', hu', _⟩ := LooksAt.split _ _ _ hl
        have : us = us' := (List.append_inj eu' (by have := congrArg List.length eu'; simp at this; exact this)).1
        rw [this]; exact hu'
      have hlo4 := h4.looks.1
      rw [eu, List.map_append] at hlo4
      generalize upd H3 q2 (.lst []) = H4 at *
      obtain ⟨dx4, e4⟩ := h4.ins
      rw [ep1] at e4
      refine ⟨_, rfl, a, C, dx4, _, _, rfl, e4, T.cl, T.n7, rfl, _, rfl, p1.lo, _, _, _, rfl, rfl, hlo4, ix_last _ _, ?_⟩
      rw [show List.map V.ref [q] = [V.ref q] from rfl, set_last]
      have h5 := h4.setLooks (us ++ [q2]) (ls ++ [[]]) (LooksAt.snoc hq4 _ _ hu4) nl.1 nl.2
      rw [List.map_append] at h5
      -- one way more
      obtain ⟨dx5, e5⟩ := h5.ins
      rw [show ({ p1 with lk := us ++ [q2] } : At).a = a from ep1] at e5
      have hm5 := h5.many
      rw [show ({ s1 with steps := s1.steps ++ l.reverse.map (fun k => (k, eS, 1)), looks := ls ++ [[]] } : Sc).many = ms ++ [m] from em, iV_snoc] at hm5
      refine ⟨_, rfl, a, C, dx5, _, _, rfl, e5, T.cl, T.n6, rfl, _, rfl, p1.ma, _, _, _, rfl, rfl, SqL.of hm5, at_last _ _, _, _, rfl, rfl, p1.ma, _, _, _, rfl, rfl, hm5, ix_last _ _, ?_⟩
      rw [set_last]
      have h6 := h5.setMany (ms ++ [m + 1])
      rw [iV_snoc] at h6
      exact k _ ⟨{ p1 with lk := us ++ [q2] }, ep1, h6⟩
end
end Ws
namespace Ws
open PySem PySem.Spec PyProof.Rows L2 Wv
/-! ### names, and what is expected -/
theorem while_r {c : TT} {tb : TS} {D : Ends} {σ : L2.St} {H : Hp} (Pv : Nat → L2.St → Hp → Prop) (m : Nat) (h0 : Pv m σ H)
    (hs : ∀ m σ H, Pv m σ H → ∃ R : Bool → Hp → Prop, (∀ Q : Bool → Hp → Prop, (∀ b H1, R b H1 → Q b H1) → c σ H Q) ∧ ∀ b H1, R b H1 →
      if b = true then tb { D with nx := fun σ' H' => ∃ m', m' < m ∧ Pv m' σ' H', ct := fun σ' H' => ∃ m', m' < m ∧ Pv m' σ' H', bk := D.nx } σ H1 else D.nx σ H1) : tWhile c tb D σ H := by
  refine ⟨Pv, ⟨m, h0⟩, fun m σ H p => ?_⟩
  obtain ⟨R, h1, h2⟩ := hs m σ H p
  refine h1 _ fun b H1 r => ?_
  have q := h2 b H1 r
  cases b with
  | true => exact ⟨_, fun _ _ h => h, q⟩
  | false => exact q
def nmLen : Nat → List Nat → Nat
  | 0, _ => 0
  | _ + 1, [] => 0
  | n + 1, c :: r => if isL (some c) = true then nmLen n r + 1 else 0
theorem nmLen_le : ∀ (n : Nat) (l : List Nat), nmLen n l ≤ n ∧ nmLen n l ≤ l.length
  | 0, _ => ⟨Nat.le_refl _, Nat.zero_le _⟩
  | _ + 1, [] => ⟨Nat.zero_le _, Nat.le_refl _⟩
  | n + 1, c :: r => by
    have := nmLen_le n r
    unfold nmLen
    split
    · exact ⟨by omega, by simp only [List.length_cons]; omega⟩
    · exact ⟨Nat.zero_le _, Nat.zero_le _⟩
theorem nmLen_more {z : List Nat} {i n : Nat} (h : isL z[i]? = true) : nmLen (n + 1) (z.drop i) = nmLen n (z.drop (i + 1)) + 1 := by
  cases q : z[i]? with
  | none => rw [q] at h; cases h
  | some c =>
    obtain ⟨hl, e⟩ := List.getElem?_eq_some_iff.mp q
    rw [List.drop_eq_getElem_cons hl, e]
    rw [q] at h
    show (if isL (some c) = true then nmLen n (z.drop (i + 1)) + 1 else 0) = _
    rw [if_pos h]
theorem nmLen_end {z : List Nat} {i n : Nat} (h : isL z[i]? = false ∨ n = 0) : nmLen n (z.drop i) = 0 := by
  rcases h with h | rfl
  · cases n with
    | zero => rfl
    | succ n =>
      cases q : z[i]? with
      | none =>
        have : z.drop i = [] := List.drop_eq_nil_of_le (List.getElem?_eq_none_iff.mp q)
        rw [this]; rfl
      | some c =>
        obtain ⟨hl, e⟩ := List.getElem?_eq_some_iff.mp q
        rw [List.drop_eq_getElem_cons hl, e]
        rw [q] at h
        show (if isL (some c) = true then _ else 0) = 0
        rw [h]; rfl
  · rfl
def Sc.nm (s : Sc) : Nat := nmLen 12 (s.z.drop s.pl)
def Sc.named (s : Sc) : Sc := { s with pl := s.pl + s.nm }
def Sc.word (s : Sc) : Str := tx ((s.z.drop s.pl).take s.nm)
theorem cutn (z : List Nat) (i n : Nat) (h : i + n ≤ z.length) : cutS (tx z) (some ((i : Nat) : Int)) (some ((i + n : Nat) : Int)) = tx ((z.drop i).take n) := by
  unfold cutS
  rw [HT.sIx_nat, HT.sIx_nat]
  have hl : (tx z).length = z.length := by simp [Str.length, tx]
  have ez : (tx z).cps.toList = z := by simp [tx]
  rw [hl, ez, Nat.min_eq_left h, Nat.min_eq_left (show i ≤ z.length by omega), show i + n - i = n by omega]
  rfl
def spNo : Sp := fun _ _ _ _ => False
theorem ok_no {P : Program} {w : World} {K : PySem.W.Frag} {mg : Str → Option Value} {base : Heap} {n : Nat} {f : Addr} {fd : FuncData} {ps : List Str} : FnOk P w K mg base CX0 n f fd ps spNo :=
  ⟨fun _ _ _ _ h => h.elim, fun _ _ _ _ _ _ _ _ _ _ _ _ _ h => h.elim⟩
def spExpect (C : Addr) : Sp := fun vs H Q _ => ∃ (a : Addr) (H0 : Hp) (s : Sc) (c : Nat), vs = [.ref a, .str (sg c)] ∧ SA C H0 H a s ∧ s.skip.cur = some c ∧ ∀ H', SA C H0 H' a s.skip.go → Q .non H'
def spName (C : Addr) : Sp := fun vs H Q _ => ∃ (a : Addr) (H0 : Hp) (s : Sc), vs = [.ref a] ∧ SA C H0 H a s ∧ isL s.skip.cur = true ∧ ∀ H', SA C H0 H' a s.skip.named → Q (.str s.skip.word) H'
section
variable {P : Program} {w : World} {K : PySem.W.Frag} {mg : Str → Option Value} {base : Heap} {C : Addr}
abbrev s_Scan_expect : Stmt := inClass (top 17) 4
theorem sc_Scan_expect : FnScope ["self", "sign"] ["self", "sign"] (defScope s_Scan_expect) := ⟨rfl, rfl, rfl, by decide +kernel, rfl, by decide +kernel, by decide +kernel⟩
theorem ok_expect {f : Addr} {fd : FuncData} (F : Fun K "expect" "Scan.expect" s_Scan_expect f fd) (T : ScF K C) (G_sign : ScOk P w K mg base C 2 "sign" ["self"] (spSign C)) (G_refuse : ScOk P w K mg base C 1 "refuse" ["self"] spNo) : FnOk P w K mg base CX0 3 f fd ["self", "sign"] (spExpect C) := by
  refine F.ok sc_Scan_expect (fun vs H Q E h => by obtain ⟨a, _, _, _, rfl, _⟩ := h; rfl) (fun cdv A outer s' H vs Q E hr h => ?_)
  obtain ⟨a, H0, s, c, rfl, ⟨p, rfl, h⟩, hc, k⟩ := h
  refine ⟨_, (pss_cons (ps_if (pt_cmpR op_ne (pe_methS0 G_sign (hr.mono (by first | decide | omega)) (pv 0)) (pv 1) (nomark _)) (pss_one (ps_expr (pe_methS0 G_refuse (hr.mono (by first | decide | omega)) (pv 0)))) pss_nil)
  (pss_one (ps_fldaug (pv 0) pe_int in_add))), ?_⟩
  obtain ⟨dx, e⟩ := h.ins
  refine ⟨_, rfl, p.a, dx, _, rfl, e, rfl, p.a, H0, s, rfl, ⟨p, rfl, h⟩, fun H1 ⟨p1, ep, h1⟩ => ?_⟩
  rw [← ep]
  refine ⟨_, rfl, rfl, _, rfl, ?_⟩
  rw [sgn_eq, hc, decide_eq_true rfl]
  refine iteF ?_
  walk_at "nx"
  obtain ⟨dx1, e1⟩ := h1.ins
  have hl := Sc.cur_lt hc
  refine ⟨_, rfl, p1.a, C, dx1, _, _, rfl, e1, T.cl, T.n3, rfl, _, _, rfl, rfl, dx1, _, e1, by show 7 < 1000; decide, ?_⟩
  have h2 := SA.put (dx := dx1) (fs := putF (Str.ofString "place") (.int ((s.skip.pl : Int) + 1)) (p1.fs s.skip)) h1 (s.skip.pl + 1) (by omega) (by rfl)
  exact k _ ⟨p1, ep, h2⟩
abbrev s_Scan_read_name : Stmt := inClass (top 17) 5
theorem sc_Scan_read_name : FnScope ["self", "first"] ["self"] (defScope s_Scan_read_name) := ⟨rfl, rfl, rfl, by decide +kernel, rfl, by decide +kernel, by decide +kernel⟩
theorem ok_read_name {f : Addr} {fd : FuncData} (F : Fun K "read_name" "Scan.read_name" s_Scan_read_name f fd) (T : ScF K C) (CN : Kc mg) (G_is_letter : DefOk P w K mg base 1 "is_letter" ["sign"] spIsL) (G_sign_here : ScOk P w K mg base C 1 "sign_here" ["self"] (spHere C))
    (G_sign : ScOk P w K mg base C 2 "sign" ["self"] (spSign C)) (G_refuse : ScOk P w K mg base C 1 "refuse" ["self"] spNo) : FnOk P w K mg base CX0 3 f fd ["self"] (spName C) := by
  have GC_LONGEST_NAME := CN.kN
  refine F.ok sc_Scan_read_name (fun vs H Q E h => by obtain ⟨a, _, _, rfl, _⟩ := h; rfl) (fun cdv A outer s' H vs Q E hr h => ?_)
  obtain ⟨a, H0, s, rfl, ⟨p, rfl, h⟩, hc, k⟩ := h
  refine ⟨_, (pss_cons (ps_if (pt_not (pt_val (pe_callD G_is_letter (hr.mono (by first | decide | omega)) rfl (pa_cons (pe_methS0 G_sign (hr.mono (by first | decide | omega)) (pv 0)) pa_nil)))) (pss_one (ps_expr (pe_methS0 G_refuse (hr.mono (by first | decide | omega)) (pv 0)))) pss_nil)
  (pss_cons (ps_set (i := 1) sc_Scan_read_name.nd rfl (Or.inl rfl) (pe_fld (pv 0) rfl))
  (pss_cons (ps_while PassesOwn.never (PW.pt (pw_and (pt_val (pe_callD G_is_letter (hr.mono (by first | decide | omega)) rfl (pa_cons (pe_methS0 G_sign_here (hr.mono (by first | decide | omega)) (pv 0)) pa_nil))) (pw_and1 (pt_cmpR op_lt (pe_op op_sub (pe_fld (pv 0) rfl) (pv 1)) (pe_globI rfl GC_LONGEST_NAME) (nomark _))))) (pss_one (ps_fldaug (pv 0) pe_int in_add)))
  (pss_one (ps_ret (pe_slice sl_str (pe_fld (pv 0) rfl) (po_some (pv 1)) (po_some (pe_fld (pv 0) rfl)))))))), ?_⟩
  obtain ⟨dx, e⟩ := h.ins
  refine ⟨_, rfl, p.a, dx, _, rfl, e, rfl, p.a, H0, s, rfl, ⟨p, rfl, h⟩, fun H1 ⟨p1, ep, h1⟩ => ?_⟩
  rw [← ep]
  rw [← ep] at k
  refine ⟨_, rfl, _, rfl, ?_⟩
  rw [hc]
  refine iteF ?_
  walk_at "nx"
  generalize s.skip = s0 at *
  obtain ⟨dx1, e1⟩ := h1.ins
  refine ⟨_, rfl, p1.a, C, dx1, _, _, rfl, e1, T.cl, T.n3, rfl, ?_⟩
  refine Wv.gset ?_
  with_reducible refine st_cut (fun σ' H' => σ' = [some (.ref p1.a), some (.int (s0.pl : Nat))] ∧ ScAt C H0 H' p1 s0.named) (fun nx' go => ?_) ?_
  · refine while_r (fun m σ H' => ∃ n : Nat, σ = [some (.ref p1.a), some (.int (s0.pl : Nat))] ∧ ScAt C H0 H' p1 { s0 with pl := s0.pl + n } ∧ n ≤ 12 ∧ n + nmLen (12 - n) (s0.z.drop (s0.pl + n)) = s0.nm ∧ m = 12 - n) 12 ?_ ?_
    · exact ⟨0, rfl, h1, by omega, by show 0 + nmLen 12 _ = _; rw [Nat.zero_add]; rfl, rfl⟩
    · rintro m σ H2 ⟨n, rfl, h2, hn, en, rfl⟩
      obtain ⟨dx2, e2⟩ := h2.ins
      refine ⟨fun b H' => b = (isL ({ s0 with pl := s0.pl + n } : Sc).cur && decide (n < 12)) ∧ H' = H2, fun Q' hq => ?_, ?_⟩
      · refine ⟨_, rfl, p1.a, dx2, _, rfl, e2, rfl, p1.a, H0, _, rfl, ⟨p1, rfl, h2⟩, _, rfl, _, rfl, ?_⟩
        refine ite2 (fun t => ?_) (fun t => ?_)
        · refine ⟨_, rfl, p1.a, C, dx2, _, _, rfl, e2, T.cl, T.n3, rfl, _, rfl, _, _, rfl, rfl, _, _, rfl, rfl, _, rfl, hq _ _ ⟨?_, rfl⟩⟩
          rw [show isL ({ s0 with pl := s0.pl + n } : Sc).cur = true from t, Bool.true_and]
          have : (((s0.pl + n : Nat) : Int) - (s0.pl : Nat) < 12) ↔ n < 12 := by omega
          exact decide_eq_decide.mpr this
        · have t' : isL ({ s0 with pl := s0.pl + n } : Sc).cur = false := by simpa using t
          exact hq _ _ ⟨by rw [t']; rfl, rfl⟩
      · rintro b _ ⟨rfl, rfl⟩
        refine ite2 (fun t => ?_) (fun t => ?_)
        · rw [Bool.and_eq_true] at t
          have t1 : isL s0.z[s0.pl + n]? = true := t.1
          have t2 : n < 12 := of_decide_eq_true t.2
          have hl : s0.pl + n < s0.z.length := by
            cases q : s0.z[s0.pl + n]? with
            | none => rw [q] at t1; cases t1
            | some c => exact (List.getElem?_eq_some_iff.mp q).1
          refine ⟨_, rfl, p1.a, C, dx2, _, _, rfl, e2, T.cl, T.n3, rfl, _, _, rfl, rfl, dx2, _, e2, by show 7 < 1000; decide, ?_⟩
          have h3 := SA.put (dx := dx2) (fs := putF (Str.ofString "place") (.int (((s0.pl + n : Nat) : Int) + 1)) (p1.fs { s0 with pl := s0.pl + n })) h2 (s0.pl + n + 1) hl (by rfl)
          refine ⟨12 - (n + 1), by omega, n + 1, rfl, h3, by omega, ?_, rfl⟩
          rw [show 12 - n = (12 - (n + 1)) + 1 by omega, nmLen_more t1] at en
          rw [show s0.pl + (n + 1) = s0.pl + n + 1 by omega]
          omega
        · have e0 : nmLen (12 - n) (s0.z.drop (s0.pl + n)) = 0 := by
            apply nmLen_end
            by_cases q : n < 12
            · left
              have t' : (isL ({ s0 with pl := s0.pl + n } : Sc).cur && decide (n < 12)) = false := by simpa using t
              rw [decide_eq_true q, Bool.and_true] at t'
              exact t'
            · right; omega
          refine go _ _ ⟨rfl, ?_⟩
          have : s0.named = { s0 with pl := s0.pl + n } := by unfold Sc.named; rw [← en, e0, Nat.add_zero]
          rw [this]
          exact h2
  · rintro σ' H2 ⟨rfl, h2⟩
    obtain ⟨dx2, e2⟩ := h2.ins
    refine ⟨_, rfl, p1.a, C, dx2, _, _, rfl, e2, T.cl, T.n1, rfl, _, rfl, _, rfl, _, rfl, p1.a, C, dx2, _, _, rfl, e2, T.cl, T.n3, rfl, _, rfl, _, rfl, ?_, ?_⟩
    · have hl : (tx s0.named.z).length = s0.named.z.length := by simp [Str.length, tx]
      rw [hl]
      exact Nat.le_of_lt (small' (by have := h2.low.1; omega))
    · have hh := nmLen_le 12 (s0.z.drop s0.pl)
      rw [List.length_drop] at hh
      have hw : cutS (tx s0.named.z) (some ((s0.pl : Nat) : Int)) (some ((s0.named.pl : Nat) : Int)) = s0.word := cutn s0.z s0.pl s0.nm (by have := h1.low.2; unfold Sc.nm; omega)
      rw [hw]
      exact k _ ⟨p1, rfl, h2⟩
end
end Ws
namespace Ws
open PySem PySem.Spec PyProof.Rows L2 Wv
/-! ### the beginning of a way -/
theorem iteT' {b : Bool} {T F : Prop} (h : b = true) (t : T) : if b = true then T else F := by rw [h]; exact t
def Sc.single (s : Sc) : Option Sc :=
  if s.cur = some 46 then some (s.go.add 1 eS 0)
  else if s.cur = some 60 then
    if isL s.go.skip.cur = true ∧ s.go.skip.named.skip.cur = some 62 then some (s.go.skip.named.skip.go.add 9 s.go.skip.word 0) else none
  else if isL s.cur = true then some (s.go.add 0 (sgn s.cur) 0) else none
def Sc.look (s : Sc) (k : Nat) : Sc := { s with looks := setLast s.looks (lastL s.looks ++ [k]) }
def Sc.beginK : Nat → Sc → Option Sc
  | 0, _ => none
  | f + 1, s =>
    if s.cur = some 40 then (if s.go.skip.cur = some 41 then some (s.go.skip.go.add 2 eS 0) else Sc.beginK f (s.go.skip.enter.skip))
    else if s.cur = some 38 then Sc.beginK f ((s.go.look 7).skip)
    else if s.cur = some 33 then Sc.beginK f ((s.go.look 8).skip)
    else s.single
def Sc.begin (s : Sc) : Option Sc := Sc.beginK (s.z.length + 1) s.skip
def spSingle (C : Addr) : Sp := fun vs H Q _ => ∃ (a : Addr) (H0 : Hp) (s s' : Sc), vs = [.ref a, .str (sgn s.cur)] ∧ SA C H0 H a s ∧ s.steps.length ≤ 800000 ∧ s.single = some s' ∧ ∀ H', SA C H0 H' a s' → Q .non H'
def spBegin (C : Addr) : Sp := fun vs H Q _ => ∃ (a : Addr) (H0 : Hp) (s s' : Sc), vs = [.ref a] ∧ SA C H0 H a s ∧ s.Ok ∧ s.size ≤ 500000 ∧ s.begin = some s' ∧ ∀ H', SA C H0 H' a s' → Q .non H'
theorem in_single (o : Option Nat) : inV (.str (sgn o)) [.str (Str.ofString "."), .str (Str.ofString "<")] = (decide (o = some 46) || decide (o = some 60)) := by
  rw [c46, c60]
  show ([V.str (sg 46), V.str (sg 60)].any fun y => eqV y (.str (sgn o))) = _
  rw [List.any_cons, List.any_cons, List.any_nil, eqV_sgn, eqV_sgn, Bool.or_false]
theorem in_begin (o : Option Nat) : inV (.str (sgn o)) [.str (Str.ofString "&"), .str (Str.ofString "!"), .str (Str.ofString "(")] = (decide (o = some 38) || (decide (o = some 33) || decide (o = some 40))) := by
  rw [c38, c33, c40]
  show ([V.str (sg 38), V.str (sg 33), V.str (sg 40)].any fun y => eqV y (.str (sgn o))) = _
  rw [List.any_cons, List.any_cons, List.any_cons, List.any_nil, eqV_sgn, eqV_sgn, eqV_sgn, Bool.or_false]
section
variable {P : Program} {w : World} {K : PySem.W.Frag} {mg : Str → Option Value} {base : Heap} {C : Addr}
theorem goAt {H0 H : Hp} {p : At} {s : Sc} {c : Nat} (h : ScAt C H0 H p s) (hc : s.cur = some c) {dx : Addr} : ScAt C H0 (upd H p.a (.ins C dx (putF (Str.ofString "place") (.int ((s.pl : Int) + 1)) (p.fs s)))) p s.go :=
  SA.put (dx := dx) (fs := putF (Str.ofString "place") (.int ((s.pl : Int) + 1)) (p.fs s)) h (s.pl + 1) (Sc.cur_lt hc) (by rfl)
theorem single_cur {s s' : Sc} (h : s.single = some s') : ∃ c, s.cur = some c := by
  cases q : s.cur with
  | some c => exact ⟨c, rfl⟩
  | none => unfold Sc.single at h; rw [q] at h; simp [isL] at h
abbrev s_Scan_read_single : Stmt := inClass (top 17) 8
theorem sc_Scan_read_single : FnScope ["self", "sign", "name"] ["self", "sign"] (defScope s_Scan_read_single) := ⟨rfl, rfl, rfl, by decide +kernel, rfl, by decide +kernel, by decide +kernel⟩
theorem ok_read_single {f : Addr} {fd : FuncData} (F : Fun K "read_single" "Scan.read_single" s_Scan_read_single f fd) (T : ScF K C) (CN : Kc mg) (G_is_letter : DefOk P w K mg base 1 "is_letter" ["sign"] spIsL) (G_read_name : ScOk P w K mg base C 3 "read_name" ["self"] (spName C))
    (G_expect : ScOk P w K mg base C 3 "expect" ["self", "sign"] (spExpect C)) (G_refuse : ScOk P w K mg base C 1 "refuse" ["self"] spNo) : FnOk P w K mg base CX0 4 f fd ["self", "sign"] (spSingle C) := by
  have GC_ONE := CN.k1
  have GC_CALL := CN.k9
  have GC_LETTER := CN.k0
  refine F.ok sc_Scan_read_single (fun vs H Q E h => by obtain ⟨a, _, _, _, rfl, _⟩ := h; rfl) (fun cdv A outer s' H vs Q E hr h => ?_)
  obtain ⟨a, H0, s, s2, rfl, ⟨p, rfl, h⟩, hz, hs, k⟩ := h
  refine ⟨_, (pss_cons (ps_if (PW.pt (pw_and (pt_not (pt_val (pe_callD G_is_letter (hr.mono (by first | decide | omega)) rfl (pa_cons (pv 1) pa_nil)))) (pw_and1 (pt_cmpR op_notIn_seq (pv 1) (pe_tup (pa_cons pe_str (pa_cons pe_str pa_nil))) (by rfl))))) (pss_one (ps_expr (pe_methS0 G_refuse (hr.mono (by first | decide | omega)) (pv 0)))) pss_nil)
  (pss_cons (ps_fldaug (pv 0) pe_int in_add)
  (pss_one (ps_if (pt_cmpR op_eq (pv 1) pe_str (nomark _)) (pss_one (ps_expr (pe_bm PySem.F.plainAttrs_list PySem.F.slot_list_append PySem.F.type_list_append mt_append (pe_fld (pv 0) rfl) (pa_cons (pe_tup (pa_cons (pe_globI rfl GC_ONE) (pa_cons pe_str (pa_cons pe_int pa_nil)))) pa_nil)))) (pss_one (ps_if (pt_cmpR op_eq (pv 1) pe_str (nomark _)) (pss_cons (ps_set (i := 2) sc_Scan_read_single.nd rfl (Or.inl rfl) (pe_methS0 G_read_name (hr.mono (by first | decide | omega)) (pv 0)))
  (pss_cons (ps_expr (pe_methS G_expect (hr.mono (by first | decide | omega)) (pv 0) (pa_cons pe_str pa_nil)))
  (pss_one (ps_expr (pe_bm PySem.F.plainAttrs_list PySem.F.slot_list_append PySem.F.type_list_append mt_append (pe_fld (pv 0) rfl) (pa_cons (pe_tup (pa_cons (pe_globI rfl GC_CALL) (pa_cons (pv 2) (pa_cons pe_int pa_nil)))) pa_nil)))))) (pss_one (ps_expr (pe_bm PySem.F.plainAttrs_list PySem.F.slot_list_append PySem.F.type_list_append mt_append (pe_fld (pv 0) rfl) (pa_cons (pe_tup (pa_cons (pe_globI rfl GC_LETTER) (pa_cons (pv 1) (pa_cons pe_int pa_nil)))) pa_nil)))))))))), ?_⟩
  obtain ⟨c, hc⟩ := single_cur hs
  have hl := Sc.cur_lt hc
  refine st_cut (fun σ' H' => σ' = [some (.ref p.a), some (.str (sgn s.cur)), none] ∧ ScAt C H0 H' p s) (fun nx' go => ?_) ?_
  · refine ⟨_, rfl, _, rfl, _, rfl, ?_⟩
    refine ite2 (fun t => ?_) (fun t => ?_)
    · have hn : isL s.cur = false := by simpa using t
      refine ⟨_, rfl, by show 2 ≤ sizeLine; decide, fun tp htp => ?_⟩
      have st := Same.new htp (.tup [.str (Str.ofString "."), .str (Str.ofString "<")])
      refine ⟨tp, _, rfl, .inr (SqT.of upd_same), rfl, by decide +kernel, ?_⟩
      rw [if_pos rfl, in_single]
      refine ⟨_, rfl, ?_⟩
      have hin : (decide (s.cur = some 46) || decide (s.cur = some 60)) = true := by
        by_cases q1 : s.cur = some 46
        · rw [decide_eq_true q1]; rfl
        · by_cases q2 : s.cur = some 60
          · rw [decide_eq_true q2, Bool.or_true]
          · unfold Sc.single at hs
            rw [if_neg q1, if_neg q2, hn, if_neg Bool.false_ne_true] at hs
            cases hs
      rw [hin]
      exact iteF (go _ _ ⟨rfl, h.of_same st⟩)
    · exact iteF (go _ _ ⟨rfl, h⟩)
  · rintro σ' H1 ⟨rfl, h1⟩
    obtain ⟨dx1, e1⟩ := h1.ins
    refine ⟨_, rfl, p.a, C, dx1, _, _, rfl, e1, T.cl, T.n3, rfl, _, _, rfl, rfl, dx1, _, e1, by show 7 < 1000; decide, ?_⟩
    have h2 := goAt (dx := dx1) h1 hc
    generalize upd H1 p.a (.ins C dx1 (putF (Str.ofString "place") (.int ((s.pl : Int) + 1)) (p.fs s))) = H2 at *
    obtain ⟨dx2, e2⟩ := h2.ins
    obtain ⟨vs0, v1, v2⟩ := h2.steps
    unfold Sc.single at hs
    refine ⟨_, rfl, rfl, _, rfl, ?_⟩
    rw [c46, sgn_eq]
    refine ite2 (fun t => ?_) (fun t => ?_)
    · have t := of_decide_eq_true t
      rw [if_pos t] at hs
      cases hs
      refine ⟨_, rfl, p.a, C, dx2, _, _, rfl, e2, T.cl, T.n4, rfl, .inl ⟨rfl, _, SqL.of v1⟩, by show 3 ≤ sizeLine; decide, fun r hr => ?_⟩
      obtain ⟨vs, w1, w2, w3⟩ := add_step h2 (by show s.steps.length ≤ _; omega) 1 eS 0 hr
      exact ⟨p.st, vs, _, rfl, rfl, w1, w2, k _ ⟨p, rfl, w3⟩⟩
    · have t : s.cur ≠ some 46 := fun q => t (decide_eq_true q)
      rw [if_neg t] at hs
      refine ⟨_, rfl, rfl, _, rfl, ?_⟩
      rw [c60, sgn_eq]
      refine ite2 (fun t2 => ?_) (fun t2 => ?_)
      · have t2 := of_decide_eq_true t2
        rw [if_pos t2] at hs
        by_cases q : isL s.go.skip.cur = true ∧ s.go.skip.named.skip.cur = some 62
        · rw [if_pos q] at hs
          cases hs
          refine ⟨_, rfl, p.a, dx2, _, rfl, e2, rfl, p.a, H0, s.go, rfl, ⟨p, rfl, h2⟩, q.1, fun H3 ⟨p3, ep3, h3⟩ => ?_⟩
          rw [← ep3]
          rw [← ep3] at k
          walk_at "nx"
          obtain ⟨dx3, e3⟩ := h3.ins
          refine ⟨_, rfl, p3.a, dx3, _, rfl, e3, rfl, p3.a, H0, s.go.skip.named, 62, ?_, ⟨p3, rfl, h3⟩, q.2, fun H4 ⟨p4, ep4, h4⟩ => ?_⟩
          · rw [c62]; rfl
          rw [← ep4]
          rw [← ep4] at k
          walk_at "nx"
          obtain ⟨dx4, e4⟩ := h4.ins
          obtain ⟨vs4, v41, v42⟩ := h4.steps
          refine ⟨_, rfl, p4.a, C, dx4, _, _, rfl, e4, T.cl, T.n4, rfl, .inl ⟨rfl, _, SqL.of v41⟩, _, rfl, by show 3 ≤ sizeLine; decide, fun r hr => ?_⟩
          obtain ⟨vs, w1, w2, w3⟩ := add_step h4 (by show s.steps.length ≤ _; omega) 9 s.go.skip.word 0 hr
          exact ⟨p4.st, vs, _, rfl, rfl, w1, w2, k _ ⟨p4, rfl, w3⟩⟩
        · rw [if_neg q] at hs; cases hs
      · have t2 : s.cur ≠ some 60 := fun q => t2 (decide_eq_true q)
        rw [if_neg t2] at hs
        by_cases q : isL s.cur = true
        · rw [if_pos q] at hs
          cases hs
          refine ⟨_, rfl, p.a, C, dx2, _, _, rfl, e2, T.cl, T.n4, rfl, .inl ⟨rfl, _, SqL.of v1⟩, _, rfl, by show 3 ≤ sizeLine; decide, fun r hr => ?_⟩
          obtain ⟨vs, w1, w2, w3⟩ := add_step h2 (by show s.steps.length ≤ _; omega) 0 (sgn s.cur) 0 hr
          exact ⟨p.st, vs, _, rfl, rfl, w1, w2, k _ ⟨p, rfl, w3⟩⟩
        · rw [if_neg q] at hs; cases hs
abbrev s_Scan_begin_way : Stmt := inClass (top 17) 7
theorem sc_Scan_begin_way : FnScope ["self", "sign"] ["self"] (defScope s_Scan_begin_way) := ⟨rfl, rfl, rfl, by decide +kernel, rfl, by decide +kernel, by decide +kernel⟩
theorem ok_begin_way {f : Addr} {fd : FuncData} (F : Fun K "begin_way" "Scan.begin_way" s_Scan_begin_way f fd) (T : ScF K C) (CN : Kc mg) (G_sign : ScOk P w K mg base C 2 "sign" ["self"] (spSign C)) (G_enter_bracket : ScOk P w K mg base C 1 "enter_bracket" ["self"] (spTo C Sc.enter))
    (G_read_single : ScOk P w K mg base C 4 "read_single" ["self", "sign"] (spSingle C)) : FnOk P w K mg base CX0 5 f fd ["self"] (spBegin C) := by
  have GC_NOTHING := CN.k2
  have GC_AHEAD := CN.k7
  have GC_UNLESS := CN.k8
  refine F.ok sc_Scan_begin_way (fun vs H Q E h => by obtain ⟨a, _, _, _, rfl, _⟩ := h; rfl) (fun cdv A outer s' H vs Q E hr h => ?_)
  obtain ⟨a, H0, s, s2, rfl, ⟨p, rfl, h⟩, ok, hz, hs, k⟩ := h
  refine ⟨_, (pss_cons (ps_set (i := 1) sc_Scan_begin_way.nd rfl (Or.inl rfl) (pe_methS0 G_sign (hr.mono (by first | decide | omega)) (pv 0)))
  (pss_cons (ps_while PassesOwn.never (pt_cmpR op_in_seq (pv 1) (pe_tup (pa_cons pe_str (pa_cons pe_str (pa_cons pe_str pa_nil)))) (by rfl)) (pss_cons (ps_fldaug (pv 0) pe_int in_add)
  (pss_cons (ps_if (PW.pt (pw_and (pt_cmpR op_eq (pv 1) pe_str (nomark _)) (pw_and1 (pt_cmpR op_eq (pe_methS0 G_sign (hr.mono (by first | decide | omega)) (pv 0)) pe_str (nomark _))))) (pss_cons (ps_fldaug (pv 0) pe_int in_add)
  (pss_cons (ps_expr (pe_bm PySem.F.plainAttrs_list PySem.F.slot_list_append PySem.F.type_list_append mt_append (pe_fld (pv 0) rfl) (pa_cons (pe_tup (pa_cons (pe_globI rfl GC_NOTHING) (pa_cons pe_str (pa_cons pe_int pa_nil)))) pa_nil)))
  (pss_one ps_retN))) pss_nil)
  (pss_cons (ps_if (pt_cmpR op_eq (pv 1) pe_str (nomark _)) (pss_one (ps_expr (pe_methS0 G_enter_bracket (hr.mono (by first | decide | omega)) (pv 0)))) (pss_one (ps_expr (pe_bm PySem.F.plainAttrs_list PySem.F.slot_list_append PySem.F.type_list_append mt_append (pe_ix ix_list (pe_fld (pv 0) rfl) (pe_un un_neg pe_int) (fun _ _ => rfl)) (pa_cons (pe_ifExp (pt_cmpR op_eq (pv 1) pe_str (nomark _)) (pe_globI rfl GC_AHEAD) (pe_globI rfl GC_UNLESS)) pa_nil)))))
  (pss_one (ps_set (i := 1) sc_Scan_begin_way.nd rfl (Or.inl rfl) (pe_methS0 G_sign (hr.mono (by first | decide | omega)) (pv 0))))))))
  (pss_one (ps_expr (pe_methS G_read_single (hr.mono (by first | decide | omega)) (pv 0) (pa_cons (pv 1) pa_nil)))))), ?_⟩
  obtain ⟨dx, e⟩ := h.ins
  refine ⟨_, rfl, p.a, dx, _, rfl, e, rfl, p.a, H0, s, rfl, ⟨p, rfl, h⟩, fun H1 h1 => ?_⟩
  generalize p.a = a at *
  refine Wv.gset ?_
  have hlow := h.low
  with_reducible refine st_cut (fun σ' H' => ∃ s1 : Sc, σ' = [some (.ref a), some (.str (sgn s1.cur))] ∧ SA C H0 H' a s1 ∧ s1.single = some s2 ∧ s1.steps.length ≤ 800000) (fun nx' go => ?_) ?_
  · refine while_r (fun m σ H' => ∃ (s1 : Sc) (fu : Nat), σ = [some (.ref a), some (.str (sgn s1.cur))] ∧ SA C H0 H' a s1 ∧ Sc.beginK fu s1 = some s2 ∧ s1.z.length - s1.pl < fu ∧ m = s1.z.length - s1.pl ∧ s1.size ≤ 500000 + 4 * s1.pl ∧ s1.rows ≠ [] ∧ s1.many ≠ [] ∧ s1.looks ≠ []) (s.skip.z.length - s.skip.pl) ?_ ?_
    · exact ⟨s.skip, s.z.length + 1, rfl, h1, hs, by show s.z.length - _ < _; omega, rfl, by show s.size ≤ _; omega, ok.r, ok.m, ok.l⟩
    · rintro m σ H2 ⟨s1, fu, rfl, ⟨p1, ep1, h2⟩, hb, hfu, rfl, hsz, nr, nm, nl⟩
      subst ep1
      refine ⟨fun b H' => b = (decide (s1.cur = some 38) || (decide (s1.cur = some 33) || decide (s1.cur = some 40))) ∧ ScAt C H0 H' p1 s1, fun Q' hq => ?_, ?_⟩
      · refine ⟨_, rfl, by show 3 ≤ sizeLine; decide, fun tp htp => ?_⟩
        have st := Same.new htp (.tup [.str (Str.ofString "&"), .str (Str.ofString "!"), .str (Str.ofString "(")])
        refine ⟨tp, _, rfl, .inr (SqT.of upd_same), rfl, by decide +kernel, ?_⟩
        rw [if_neg Bool.false_ne_true, in_begin]
        exact ⟨_, rfl, hq _ _ ⟨rfl, h2.of_same st⟩⟩
      · rintro b H3 ⟨rfl, h3⟩
        have hlow3 := h3.low
        obtain ⟨fu, rfl⟩ : ∃ g, fu = g + 1 := ⟨fu - 1, by omega⟩
        unfold Sc.beginK at hb
        refine ite2 (fun t => ?_) (fun t => ?_)
        · obtain ⟨c, hc⟩ : ∃ c, s1.cur = some c := by
            cases q : s1.cur with
            | none => rw [q] at t; exact absurd t (by decide)
            | some c => exact ⟨c, rfl⟩
          have hl := Sc.cur_lt hc
          obtain ⟨dx3, e3⟩ := h3.ins
          refine ⟨_, rfl, p1.a, C, dx3, _, _, rfl, e3, T.cl, T.n3, rfl, _, _, rfl, rfl, dx3, _, e3, by show 7 < 1000; decide, ?_⟩
          have h4 := goAt (dx := dx3) h3 hc
          generalize upd H3 p1.a (.ins C dx3 (putF (Str.ofString "place") (.int ((s1.pl : Int) + 1)) (p1.fs s1))) = H4 at *
          obtain ⟨dx4, e4⟩ := h4.ins
          have hlow4 := h4.low
          by_cases q40 : s1.cur = some 40
          · rw [if_pos q40] at hb
            walk_at "nx"
            refine ⟨_, rfl, rfl, _, rfl, ?_⟩
            rw [c40, sgn_eq, decide_eq_true q40]
            refine iteT' rfl ?_
            refine ⟨_, rfl, p1.a, dx4, _, rfl, e4, rfl, p1.a, H0, s1.go, rfl, ⟨p1, rfl, h4⟩, fun H5 ⟨p5, ep5, h5⟩ => ⟨rfl, _, rfl, ?_⟩⟩
            rw [c41, sgn_eq]
            obtain ⟨dx5, e5⟩ := h5.ins
            rw [ep5] at e5
            refine ite2 (fun t2 => ?_) (fun t2 => ?_)
            · have t2 := of_decide_eq_true t2
              rw [if_pos t2] at hb
              cases hb
              refine ⟨_, rfl, p1.a, C, dx5, _, _, rfl, e5, T.cl, T.n3, rfl, _, _, rfl, rfl, dx5, _, e5, by show 7 < 1000; decide, ?_⟩
              have h6 := goAt (dx := dx5) h5 t2
              rw [ep5] at h6
              obtain ⟨dx6, e6⟩ := h6.ins
              rw [ep5] at e6
              obtain ⟨vs6, v61, v62⟩ := h6.steps
              refine ⟨_, rfl, p1.a, C, dx6, _, _, rfl, e6, T.cl, T.n4, rfl, .inl ⟨rfl, _, SqL.of v61⟩, by show 3 ≤ sizeLine; decide, fun r hr => ?_⟩
              obtain ⟨vs, w1, w2, w3⟩ := add_step h6 (by show s1.steps.length ≤ _; have := size_steps s1; omega) 2 eS 0 hr
              refine ⟨p5.st, vs, _, rfl, rfl, w1, w2, ?_⟩
              exact k _ ⟨p5, ep5, w3⟩
            · have t2 : s1.go.skip.cur ≠ some 41 := fun q => t2 (decide_eq_true q)
              rw [if_neg t2] at hb
              walk_at "nx"
              refine ⟨_, rfl, rfl, _, rfl, ?_⟩
              rw [sgn_eq, decide_eq_true q40]
              refine iteT' rfl ?_
              refine ⟨_, rfl, p1.a, dx5, _, rfl, e5, rfl, p1.a, H0, s1.go.skip, rfl, ⟨p5, ep5, h5⟩, ⟨nr, nm, nl, by show s1.size ≤ _; omega⟩, fun H6 ⟨p6, ep6, h6⟩ => ?_⟩
              obtain ⟨dx6, e6⟩ := h6.ins
              rw [ep6] at e6
              walk_at "nx"
              refine ⟨_, rfl, p1.a, dx6, _, rfl, e6, rfl, p1.a, H0, _, rfl, ⟨p6, ep6, h6⟩, fun H7 h7 => ?_⟩
              have sz : s1.go.skip.enter.size = s1.size + 3 := by
                unfold Sc.size Sc.enter Sc.skip Sc.go
                simp only [List.length_append, List.length_singleton, List.flatten_append, List.flatten_cons, List.flatten_nil, List.append_nil, List.length_nil]
                omega
              have hp1 : s1.pl + 1 ≤ s1.go.skip.enter.skip.pl := Nat.le_trans (show s1.pl + 1 ≤ s1.go.skip.pl from Nat.le_add_right _ _) (Nat.le_add_right _ _)
              refine ⟨s1.go.skip.enter.skip.z.length - s1.go.skip.enter.skip.pl, ?_, s1.go.skip.enter.skip, fu, rfl, h7, hb, ?_, rfl, ?_, by show s1.rows ++ [0] ≠ []; simp, by show s1.many ++ [0] ≠ []; simp, by show s1.looks ++ [[]] ≠ []; simp⟩
              · show s1.z.length - _ < _; omega
              · show s1.z.length - _ < _; omega
              · show s1.go.skip.enter.size ≤ _; rw [sz]; omega
          · rw [if_neg q40] at hb
            obtain ⟨kk, hk, hb⟩ : ∃ kk : Nat, (kk : Int) = (if s1.cur = some 38 then 7 else 8) ∧ Sc.beginK fu ((s1.go.look kk).skip) = some s2 := by
              by_cases q38 : s1.cur = some 38
              · rw [if_pos q38] at hb; exact ⟨7, by rw [if_pos q38]; rfl, hb⟩
              · rw [if_neg q38] at hb
                by_cases q33 : s1.cur = some 33
                · rw [if_pos q33] at hb; exact ⟨8, by rw [if_neg q38]; rfl, hb⟩
                · rw [decide_eq_false q38, decide_eq_false q33, decide_eq_false q40] at t; cases t
            obtain ⟨ls, l, el⟩ := snoc_of nl
            have hl4 := h4.looks.2
            rw [show s1.go.looks = ls ++ [l] from el] at hl4
            obtain ⟨us, q, eu, hu, hq⟩ := LooksAt.split _ _ _ hl4
            have hl1 := h4.looks.1
            rw [eu, List.map_append] at hl1
            walk_at "nx"
            refine ⟨_, rfl, rfl, _, rfl, ?_⟩
            rw [c40, sgn_eq, decide_eq_false q40]
            refine iteF (iteF ?_)
            walk_at "nx"
            refine ⟨_, rfl, rfl, _, rfl, ?_⟩
            rw [sgn_eq, decide_eq_false q40]
            refine iteF ?_
            refine ⟨_, rfl, p1.a, C, dx4, _, _, rfl, e4, T.cl, T.n7, rfl, _, rfl, p1.lo, _, _, _, rfl, rfl, SqL.of hl1, at_last _ _, .inl ⟨rfl, _, SqL.of hq⟩, ?_⟩
            refine withQ (E := tIf _ _ _) (fun y H' => y = .int (kk : Nat) ∧ H' = H4) (fun Q' go' => ?_) ?_
            · refine ⟨_, rfl, rfl, _, rfl, ?_⟩
              rw [c38, sgn_eq]
              refine ite2 (fun t2 => ?_) (fun t2 => ?_)
              · rw [if_pos (of_decide_eq_true t2)] at hk
                exact go' _ _ ⟨by rw [hk], rfl⟩
              · rw [if_neg (fun q => t2 (decide_eq_true q))] at hk
                exact go' _ _ ⟨by rw [hk], rfl⟩
            · rintro _ _ ⟨rfl, rfl⟩
              have fl : l.length ≤ s1.size := by
                unfold Sc.size
                rw [el, List.flatten_append]
                simp only [List.length_append, List.flatten_cons, List.flatten_nil, List.append_nil]
                omega
              refine ⟨q, _, _, rfl, rfl, hq, small' (by simp [iV]; omega), ?_⟩
              have h5 := h4.lastLook (l' := l ++ [kk]) (show s1.go.looks = ls ++ [l] from el) eu hu
              rw [iV_snoc] at h5
              have elk : s1.go.look kk = { s1.go with looks := ls ++ [l ++ [kk]] } := by
                unfold Sc.look
                rw [show s1.go.looks = ls ++ [l] from el, lastL_snoc, setLast_snoc]
              rw [← elk] at h5
              obtain ⟨dx5, e5⟩ := h5.ins
              walk_at "nx"
              refine ⟨_, rfl, p1.a, dx5, _, rfl, e5, rfl, p1.a, H0, _, rfl, ⟨p1, rfl, h5⟩, fun H7 h7 => ?_⟩
              have sz : (s1.go.look kk).size = s1.size + 1 := by
                rw [elk]
                unfold Sc.size Sc.go
                rw [el]
                simp only [List.length_append, List.length_singleton, List.flatten_append, List.flatten_cons, List.flatten_nil, List.append_nil]
                omega
              have hp1 : s1.pl + 1 ≤ (s1.go.look kk).skip.pl := Nat.le_add_right _ _
              refine ⟨(s1.go.look kk).skip.z.length - (s1.go.look kk).skip.pl, ?_, (s1.go.look kk).skip, fu, rfl, h7, hb, ?_, rfl, ?_, nr, nm, ?_⟩
              · show s1.z.length - _ < _; omega
              · show s1.z.length - _ < _; omega
              · show (s1.go.look kk).size ≤ _; rw [sz]; omega
              · show (s1.go.look kk).looks ≠ []; rw [elk]; simp
        · have nn : s1.cur ≠ some 38 ∧ s1.cur ≠ some 33 ∧ s1.cur ≠ some 40 := by
            simp only [Bool.or_eq_true, decide_eq_true_eq, not_or] at t
            exact t
          rw [if_neg nn.2.2, if_neg nn.1, if_neg nn.2.1] at hb
          exact go _ _ ⟨s1, rfl, ⟨p1, rfl, h3⟩, hb, by have := size_steps s1; omega⟩
  · rintro σ' H2 ⟨s1, rfl, ⟨p1, ep1, h2⟩, hb, hsz⟩
    obtain ⟨dx2, e2⟩ := h2.ins
    rw [ep1] at e2
    exact ⟨_, rfl, a, dx2, _, rfl, e2, rfl, _, rfl, a, H0, s1, s2, rfl, ⟨p1, ep1, h2⟩, hsz, hb, fun H' h' => k H' h'⟩
end
end Ws
namespace Ws
open PySem PySem.Spec PyProof.Rows L2 Wv
/-! ### the whole reading -/
def Sc.wayK : Nat → Sc → Option Sc
  | 0, _ => none
  | f + 1, s =>
    if s.endWay.skip.cur = none ∧ s.endWay.skip.rows.length = 1 then some s.endWay.skip.endChoice
    else if s.endWay.skip.cur = some 41 ∧ 1 < s.endWay.skip.rows.length then Sc.wayK f s.endWay.skip.go.endChoice.leave
    else if s.endWay.skip.cur = some 47 then (s.endWay.skip.go.endRow.begin).bind (Sc.wayK f)
    else (s.endWay.skip.begin).bind (Sc.wayK f)
theorem dec_t {a b : Int} (h : decide (V.int a = V.int b) = true) : a = b := V.int.inj (of_decide_eq_true h)
structure Sc.Lens (s : Sc) : Prop where
  m : s.many.length = s.rows.length
  l : s.looks.length = s.rows.length
  r : s.rows ≠ []
  p : s.pl ≤ s.z.length
def Sc.pot (s : Sc) : Nat := s.size + 8 * (s.z.length - s.pl)
theorem ne_of_len {α β : Type} {a : List α} {b : List β} (h : a.length = b.length) (hb : b ≠ []) : a ≠ [] := fun e => hb (List.eq_nil_of_length_eq_zero (by rw [← h, e]; rfl))
theorem Sc.Lens.ok {s : Sc} (h : s.Lens) (hp : s.pot ≤ 200000) : s.Ok ∧ s.size ≤ 500000 := by
  unfold Sc.pot at hp
  exact ⟨⟨h.r, ne_of_len h.m h.r, ne_of_len h.l h.r, by omega⟩, by omega⟩
theorem len_setLast {α : Type} {l : List α} (h : l ≠ []) (v : α) : (setLast l v).length = l.length := by
  obtain ⟨a, u, e⟩ := snoc_of h
  rw [e, setLast_snoc]; simp
structure Step (s t : Sc) (n : Nat) : Prop where
  z : t.z = s.z
  l : s.Lens → t.Lens
  q : s.Lens → t.pot ≤ s.pot + n
theorem Step.trans {s t u : Sc} {n m : Nat} (a : Step s t n) (b : Step t u m) : Step s u (n + m) := ⟨b.z.trans a.z, fun h => b.l (a.l h), fun h => by have := a.q h; have := b.q (a.l h); omega⟩
theorem Step.refl (s : Sc) : Step s s 0 := ⟨rfl, fun h => h, fun _ => Nat.le_refl _⟩
theorem step_skip (s : Sc) : Step s s.skip 0 := by
  refine ⟨rfl, fun h => ⟨h.m, h.l, h.r, Sc.skip_le s h.p⟩, fun h => ?_⟩
  have : s.pl ≤ s.skip.pl := Nat.le_add_right _ _
  show s.size + 8 * (s.z.length - s.skip.pl) ≤ s.size + 8 * (s.z.length - s.pl) + 0
  omega
/-- a sign is read: 8 less -/
theorem pot_go {s : Sc} {c : Nat} (hc : s.cur = some c) : s.go.pot + 8 = s.pot ∧ (s.Lens → s.go.Lens) := by
  have hl := Sc.cur_lt hc
  refine ⟨?_, fun h => ⟨h.m, h.l, h.r, hl⟩⟩
  show s.size + 8 * (s.z.length - (s.pl + 1)) + 8 = s.size + 8 * (s.z.length - s.pl)
  omega
theorem step_add (s : Sc) (k : Nat) (x : Str) (n : Nat) : Step s (s.add k x n) 1 := by
  refine ⟨rfl, fun h => ⟨h.m, h.l, h.r, h.p⟩, fun h => ?_⟩
  unfold Sc.pot Sc.size Sc.add
  simp only [List.length_append, List.length_singleton]
  omega
theorem Step.of_go {s t : Sc} {c n : Nat} (hc : s.cur = some c) (h : Step s.go t n) (hn : n ≤ 8) : Step s t 0 := by
  obtain ⟨h1, h2⟩ := pot_go hc
  exact ⟨h.z, fun l => h.l (h2 l), fun l => by have := h.q (h2 l); omega⟩
theorem step_marks : ∀ (f : Nat) (s : Sc), Step s (Sc.marksK f s) 0
  | 0, s => Step.refl s
  | f + 1, s => by
    unfold Sc.marksK
    split
    · rename_i h
      exact Step.of_go h (n := 1) (((step_add s.go 5 eS 1).trans (step_skip _)).trans (step_marks f _)) (by omega)
    · split
      · rename_i h
        exact Step.of_go h (n := 1) (((step_add s.go 6 eS 1).trans (step_skip _)).trans (step_marks f _)) (by omega)
      · exact Step.refl s
theorem step_fin (s : Sc) : Step s s.fin 0 := by
  refine ⟨rfl, fun h => ?_, fun h => ?_⟩
  · have hl := ne_of_len h.l h.r
    have hm := ne_of_len h.m h.r
    exact ⟨(len_setLast hm _).trans h.m, (len_setLast hl _).trans h.l, h.r, h.p⟩
  · have hl := ne_of_len h.l h.r
    have hm := ne_of_len h.m h.r
    obtain ⟨ls, l, el⟩ := snoc_of hl
    obtain ⟨ms, m, em⟩ := snoc_of hm
    unfold Sc.pot Sc.size Sc.fin
    rw [el, em, lastL_snoc, setLast_snoc, setLast_snoc]
    simp only [List.length_append, List.length_singleton, List.flatten_append, List.flatten_cons, List.flatten_nil, List.append_nil, List.length_map, List.length_reverse, List.length_nil]
    omega
theorem step_endWay (s : Sc) : Step s s.endWay 0 := ((step_skip s).trans (step_marks _ _)).trans (step_fin _)
theorem step_endRow (s : Sc) : Step s s.endRow 1 := by
  have h1 : Step s s.row1 1 := by
    unfold Sc.row1
    split
    · exact step_add _ _ _ _
    · exact ⟨rfl, fun h => h, fun _ => Nat.le_succ _⟩
  refine h1.trans (m := 0) ⟨rfl, fun h => ?_, fun h => ?_⟩
  · have hm := ne_of_len h.m h.r
    refine ⟨?_, ?_, ?_, h.p⟩
    · show (setLast s.row1.many 0).length = (setLast s.row1.rows _).length
      rw [len_setLast hm, len_setLast h.r]; exact h.m
    · show s.row1.looks.length = (setLast s.row1.rows _).length
      rw [len_setLast h.r]; exact h.l
    · show setLast s.row1.rows _ ≠ []
      unfold setLast; simp
  · have hm := ne_of_len h.m h.r
    have e1 : (setLast s.row1.many 0).length = s.row1.many.length := len_setLast hm _
    have e2 : (setLast s.row1.rows (lastD s.row1.rows + 1)).length = s.row1.rows.length := len_setLast h.r _
    unfold Sc.pot Sc.size Sc.endRow
    show s.row1.steps.length + (setLast s.row1.rows (lastD s.row1.rows + 1)).length + (setLast s.row1.many 0).length + s.row1.looks.length + s.row1.looks.flatten.length + 8 * (s.row1.z.length - s.row1.pl) ≤ _
    rw [e1, e2]
    omega
theorem step_endChoice (s : Sc) : Step s s.endChoice 2 := by
  unfold Sc.endChoice
  split
  · exact (step_endRow s).trans (step_add _ _ _ _)
  · have h := step_endRow s
    exact ⟨h.z, h.l, fun l => by have := h.q l; omega⟩
theorem step_leave {s : Sc} (h1 : 1 < s.rows.length) : Step s s.leave 0 := by
  refine ⟨rfl, fun h => ?_, fun h => ?_⟩
  · refine ⟨?_, ?_, ?_, h.p⟩
    · show s.many.dropLast.length = s.rows.dropLast.length
      rw [List.length_dropLast, List.length_dropLast, h.m]
    · show s.looks.dropLast.length = s.rows.dropLast.length
      rw [List.length_dropLast, List.length_dropLast, h.l]
    · intro e
      have : s.rows.dropLast.length = 0 := by rw [show s.rows.dropLast = [] from e]; rfl
      rw [List.length_dropLast] at this
      omega
  · obtain ⟨ls, l, el⟩ := snoc_of (ne_of_len h.l h.r)
    unfold Sc.pot Sc.size Sc.leave
    rw [el, List.dropLast_concat]
    simp only [List.length_append, List.length_dropLast, List.flatten_append, List.length_singleton]
    omega
theorem step_enter (s : Sc) : Step s s.enter 3 := by
  refine ⟨rfl, fun h => ⟨by show (s.many ++ [0]).length = (s.rows ++ [0]).length; simp [h.m], by show (s.looks ++ [[]]).length = (s.rows ++ [0]).length; simp [h.l], by show s.rows ++ [0] ≠ []; simp, h.p⟩, fun h => ?_⟩
  unfold Sc.pot Sc.size Sc.enter
  simp only [List.length_append, List.length_singleton, List.flatten_append, List.flatten_cons, List.flatten_nil, List.append_nil, List.length_nil]
  omega
theorem step_look (s : Sc) (k : Nat) : Step s (s.look k) 1 := by
  refine ⟨rfl, fun h => ⟨h.m, (len_setLast (ne_of_len h.l h.r) _).trans h.l, h.r, h.p⟩, fun h => ?_⟩
  obtain ⟨ls, l, el⟩ := snoc_of (ne_of_len h.l h.r)
  unfold Sc.pot Sc.size Sc.look
  rw [el, lastL_snoc, setLast_snoc]
  simp only [List.length_append, List.length_singleton, List.flatten_append, List.flatten_cons, List.flatten_nil, List.append_nil]
  omega
theorem step_named (s : Sc) : Step s s.named 0 := by
  have hh := nmLen_le 12 (s.z.drop s.pl)
  rw [List.length_drop] at hh
  refine ⟨rfl, fun h => ⟨h.m, h.l, h.r, by show s.pl + nmLen 12 (s.z.drop s.pl) ≤ s.z.length; have := h.p; omega⟩, fun h => ?_⟩
  show s.size + 8 * (s.z.length - (s.pl + s.nm)) ≤ s.size + 8 * (s.z.length - s.pl) + 0
  omega
theorem step_single {s t : Sc} (h : s.single = some t) : Step s t 0 := by
  obtain ⟨c, hc⟩ := single_cur h
  unfold Sc.single at h
  split at h
  · cases h; exact Step.of_go hc (step_add _ _ _ _) (by omega)
  · split at h
    · split at h
      · rename_i q
        cases h
        have a := ((step_skip s.go).trans (step_named _)).trans (step_skip _)
        exact Step.of_go hc (a.trans (Step.of_go q.2 (step_add _ 9 s.go.skip.word 0) (by omega))) (by omega)
      · cases h
    · split at h
      · cases h; exact Step.of_go hc (step_add _ _ _ _) (by omega)
      · cases h
theorem step_beginK : ∀ (f : Nat) (s t : Sc), Sc.beginK f s = some t → Step s t 0
  | 0, s, t, h => by cases h
  | f + 1, s, t, h => by
    unfold Sc.beginK at h
    split at h
    · rename_i q
      split at h
      · rename_i q2
        cases h
        exact Step.of_go q ((step_skip s.go).trans (Step.of_go q2 (step_add _ 2 eS 0) (by omega))) (by omega)
      · exact Step.of_go q (n := 3) (((step_skip s.go).trans (step_enter _)).trans ((step_skip _).trans (step_beginK f _ _ h))) (by omega)
    · split at h
      · rename_i q
        exact Step.of_go q (n := 1) ((step_look s.go 7).trans ((step_skip _).trans (step_beginK f _ _ h))) (by omega)
      · split at h
        · rename_i q
          exact Step.of_go q (n := 1) ((step_look s.go 8).trans ((step_skip _).trans (step_beginK f _ _ h))) (by omega)
        · exact step_single h
theorem step_begin {s t : Sc} (h : s.begin = some t) : Step s t 0 := (step_skip s).trans (step_beginK _ _ _ h)
def spWay (C : Addr) : Sp := fun vs H Q _ => ∃ (a : Addr) (H0 : Hp) (s s1 t : Sc) (f : Nat), vs = [.ref a] ∧ SA C H0 H a s ∧ s.Lens ∧ s.pot ≤ 100000 ∧ s.begin = some s1 ∧ Sc.wayK f s1 = some t ∧ ∀ (H' : Hp) (p : At), p.a = a → ScAt C H0 H' p t → Q (.ref p.st) H'
section
variable {P : Program} {w : World} {K : PySem.W.Frag} {mg : Str → Option Value} {base : Heap} {C : Addr}
theorem iV_len (l : List Nat) : (iV l).length = l.length := by simp [iV]
abbrev s_Scan_read_way : Stmt := inClass (top 17) 6
theorem sc_Scan_read_way : FnScope ["self", "sign"] ["self"] (defScope s_Scan_read_way) := ⟨rfl, rfl, rfl, by decide +kernel, rfl, by decide +kernel, by decide +kernel⟩
theorem ok_read_way {f : Addr} {fd : FuncData} (F : Fun K "read_way" "Scan.read_way" s_Scan_read_way f fd) (T : ScF K C) (B : Bs mg) (G_sign : ScOk P w K mg base C 2 "sign" ["self"] (spSign C)) (G_begin_way : ScOk P w K mg base C 5 "begin_way" ["self"] (spBegin C))
    (G_end_way : ScOk P w K mg base C 3 "end_way" ["self"] (spTo C Sc.endWay)) (G_end_row : ScOk P w K mg base C 1 "end_row" ["self"] (spTo C Sc.endRow)) (G_end_choice : ScOk P w K mg base C 2 "end_choice" ["self"] (spTo C Sc.endChoice))
    (G_leave_bracket : ScOk P w K mg base C 1 "leave_bracket" ["self"] (spTo C Sc.leave)) : FnOk P w K mg base CX0 6 f fd ["self"] (spWay C) := by
  have B_len := B.len
  refine F.ok sc_Scan_read_way (fun vs H Q E h => by obtain ⟨a, _, _, _, _, _, rfl, _⟩ := h; rfl) (fun cdv A outer s' H vs Q E hr h => ?_)
  obtain ⟨a, H0, s, s1, t, fu, rfl, ⟨p, ep, h⟩, hle, hpo, hb, hw, k⟩ := h
  refine ⟨_, (pss_cons (ps_expr (pe_methS0 G_begin_way (hr.mono (by first | decide | omega)) (pv 0)))
  (pss_one (ps_while PassesOwn.never (pt_val pe_bl) (pss_cons (ps_expr (pe_methS0 G_end_way (hr.mono (by first | decide | omega)) (pv 0)))
  (pss_cons (ps_set (i := 1) sc_Scan_read_way.nd rfl (Or.inl rfl) (pe_methS0 G_sign (hr.mono (by first | decide | omega)) (pv 0)))
  (pss_cons (ps_if (PW.pt (pw_and (pt_cmpR op_eq (pv 1) pe_str (nomark _)) (pw_and1 (pt_cmpR op_eq (pe_callB call_len_seq rfl B_len PySem.boot_len (pa_cons (pe_fld (pv 0) rfl) pa_nil)) pe_int (nomark _))))) (pss_cons (ps_expr (pe_methS0 G_end_choice (hr.mono (by first | decide | omega)) (pv 0)))
  (pss_one (ps_ret (pe_fld (pv 0) rfl)))) pss_nil)
  (pss_one (ps_if (PW.pt (pw_and (pt_cmpR op_eq (pv 1) pe_str (nomark _)) (pw_and1 (pt_cmpR op_gt (pe_callB call_len_seq rfl B_len PySem.boot_len (pa_cons (pe_fld (pv 0) rfl) pa_nil)) pe_int (nomark _))))) (pss_cons (ps_fldaug (pv 0) pe_int in_add)
  (pss_cons (ps_expr (pe_methS0 G_end_choice (hr.mono (by first | decide | omega)) (pv 0)))
  (pss_one (ps_expr (pe_methS0 G_leave_bracket (hr.mono (by first | decide | omega)) (pv 0)))))) (pss_cons (ps_if (pt_cmpR op_eq (pv 1) pe_str (nomark _)) (pss_cons (ps_fldaug (pv 0) pe_int in_add)
  (pss_one (ps_expr (pe_methS0 G_end_row (hr.mono (by first | decide | omega)) (pv 0))))) pss_nil)
  (pss_one (ps_expr (pe_methS0 G_begin_way (hr.mono (by first | decide | omega)) (pv 0))))))))))))), ?_⟩
  obtain ⟨dx, e⟩ := h.ins
  rw [ep] at e
  have ok := hle.ok (by omega)
  refine ⟨_, rfl, a, dx, _, rfl, e, rfl, a, H0, s, s1, rfl, ⟨p, ep, h⟩, ok.1, ok.2, hb, fun H1 h1 => ?_⟩
  have st := step_begin hb
  have hle1 := st.l hle
  have hpo1 : s1.pot ≤ 100000 := Nat.le_trans (st.q hle) hpo
  refine while_r (fun m σ H' => ∃ (s2 : Sc) (x1 : Option V), σ = [some (.ref a), x1] ∧ SA C H0 H' a s2 ∧ s2.Lens ∧ s2.pot ≤ 100000 ∧ Sc.wayK m s2 = some t) fu ⟨s1, none, rfl, h1, hle1, hpo1, hw⟩ ?_
  rintro m σ H2 ⟨s2, x1, rfl, ⟨p2, ep2, h2⟩, hle2, hpo2, hw2⟩
  refine ⟨fun b H' => b = true ∧ H' = H2, fun Q' hq => ⟨_, rfl, hq _ _ ⟨rfl, rfl⟩⟩, ?_⟩
  rintro b _ ⟨rfl, rfl⟩
  refine iteT' rfl ?_
  cases m with
  | zero => cases hw2
  | succ m =>
    unfold Sc.wayK at hw2
    have ok2 := (hle2.ok (by omega)).1
    obtain ⟨dx2, e2⟩ := h2.ins
    rw [ep2] at e2
    refine ⟨_, rfl, a, dx2, _, rfl, e2, rfl, a, H0, s2, rfl, ⟨p2, ep2, h2⟩, ok2, fun H3 ⟨p3, ep3, h3⟩ => ?_⟩
    obtain ⟨dx3, e3⟩ := h3.ins
    rw [ep3] at e3
    walk_at "nx"
    refine ⟨_, rfl, a, dx3, _, rfl, e3, rfl, a, H0, s2.endWay, rfl, ⟨p3, ep3, h3⟩, fun H4 ⟨p4, ep4, h4⟩ => ?_⟩
    have st4 := (step_endWay s2).trans (step_skip _)
    have hle4 := st4.l hle2
    have hpo4 : s2.endWay.skip.pot ≤ 100000 := Nat.le_trans (st4.q hle2) hpo2
    generalize s2.endWay.skip = s4 at *
    obtain ⟨dx4, e4⟩ := h4.ins
    rw [ep4] at e4
    have hl4 : ((iV s4.rows).length : Nat) = s4.rows.length := iV_len _
    have ok4 := hle4.ok (by omega)
    refine Wv.gset ?_
    -- the end of the text
    with_reducible refine st_cut (fun σ' H' => σ' = [some (.ref a), some (.str (sgn s4.cur))] ∧ H' = H4 ∧ ¬ (s4.cur = none ∧ s4.rows.length = 1)) (fun nx' go => ?_) ?_
    · refine ⟨_, rfl, rfl, _, rfl, ?_⟩
      rw [sgn_nil]
      refine ite2 (fun t1 => ?_) (fun t1 => ?_)
      · have t1 := of_decide_eq_true t1
        refine ⟨_, rfl, a, C, dx4, _, _, rfl, e4, T.cl, T.n5, rfl, p4.ro, _, rfl, .inl (SqL.of h4.rows), rfl, _, rfl, ?_⟩
        rw [hl4]
        refine ite2 (fun t2 => ?_) (fun t2 => ?_)
        · have t2 : s4.rows.length = 1 := by have := dec_t t2; omega
          rw [if_pos ⟨t1, t2⟩] at hw2
          cases hw2
          refine ⟨_, rfl, a, dx4, _, rfl, e4, rfl, a, H0, s4, rfl, ⟨p4, ep4, h4⟩, ok4.1, fun H5 ⟨p5, ep5, h5⟩ => ?_⟩
          obtain ⟨dx5, e5⟩ := h5.ins
          rw [ep5] at e5
          exact ⟨_, rfl, a, C, dx5, _, _, rfl, e5, T.cl, T.n4, rfl, k H5 p5 ep5 h5⟩
        · refine go _ _ ⟨rfl, rfl, fun q => t2 (decide_eq_true ?_)⟩
          rw [q.2]; rfl
      · exact iteF (go _ _ ⟨rfl, rfl, fun q => t1 (decide_eq_true q.1)⟩)
    · rintro σ' H4 ⟨rfl, rfl, n1⟩
      rw [if_neg n1] at hw2
      -- the end of a bracket
      by_cases q41 : s4.cur = some 41 ∧ 1 < s4.rows.length
      · rw [if_pos q41] at hw2
        refine ⟨_, rfl, rfl, _, rfl, ?_⟩
        rw [c41, sgn_eq, decide_eq_true q41.1]
        refine iteT' rfl ?_
        refine ⟨_, rfl, a, C, dx4, _, _, rfl, e4, T.cl, T.n5, rfl, p4.ro, _, rfl, .inl (SqL.of h4.rows), _, _, rfl, rfl, _, rfl, ?_⟩
        rw [hl4]
        refine ite2 (fun t2 => ?_) (fun t2 => absurd (decide_eq_true (show (1 : Int) < (s4.rows.length : Nat) by omega)) t2)
        refine ⟨_, rfl, a, C, dx4, _, _, rfl, e4, T.cl, T.n3, rfl, _, _, rfl, rfl, dx4, _, e4, by show 7 < 1000; decide, ?_⟩
        have h5 := goAt (dx := dx4) h4 q41.1
        rw [ep4] at h5
        obtain ⟨dx5, e5⟩ := h5.ins
        rw [ep4] at e5
        have pg := pot_go q41.1
        have hle5 := pg.2 hle4
        have ok5 := hle5.ok (by omega)
        refine ⟨_, rfl, a, dx5, _, rfl, e5, rfl, a, H0, s4.go, rfl, ⟨p4, ep4, h5⟩, ok5.1, fun H6 ⟨p6, ep6, h6⟩ => ?_⟩
        obtain ⟨dx6, e6⟩ := h6.ins
        rw [ep6] at e6
        have st6 := step_endChoice s4.go
        have hle6 := st6.l hle5
        have hpo6 := st6.q hle5
        have ok6 := hle6.ok (by omega)
        have hr6 : 1 < s4.go.endChoice.rows.length := by
          have e1 : (setLast s4.go.row1.rows (lastD s4.go.row1.rows + 1)).length = s4.go.row1.rows.length := by
            refine len_setLast ?_ _
            unfold Sc.row1; split <;> exact hle4.r
          have e2 : s4.go.row1.rows = s4.rows := by unfold Sc.row1; split <;> rfl
          have e3 : s4.go.endRow.rows.length = s4.rows.length := by
            show (setLast s4.go.row1.rows (lastD s4.go.row1.rows + 1)).length = _
            rw [e1, e2]
          have e4 : s4.go.endChoice.rows = s4.go.endRow.rows := by unfold Sc.endChoice; split <;> rfl
          rw [e4, e3]
          exact q41.2
        refine ⟨_, rfl, a, dx6, _, rfl, e6, rfl, a, H0, _, rfl, ⟨p6, ep6, h6⟩, ok6.1, fun H7 h7 => ?_⟩
        have st7 := step_leave hr6
        have hpo7 := st7.q hle6
        exact ⟨m, Nat.lt_succ_self _, _, _, rfl, h7, st7.l hle6, by omega, hw2⟩
      · rw [if_neg q41] at hw2
        have rest : ∀ (H5 : Hp) (s5 s6 : Sc), SA C H0 H5 a s5 → s5.Lens → s5.pot ≤ 100000 → s5.begin = some s6 → Sc.wayK m s6 = some t → tDrop (tMeth C (Str.ofString "begin_way") (spBegin C) [] E0 (tVar 0) tNil) { nx := fun σ' H' => ∃ m', m' < m + 1 ∧ ∃ (s2 : Sc) (x1 : Option V), σ' = [some (.ref a), x1] ∧ SA C H0 H' a s2 ∧ s2.Lens ∧ s2.pot ≤ 100000 ∧ Sc.wayK m' s2 = some t, rt := Q, ct := fun σ' H' => ∃ m', m' < m + 1 ∧ ∃ (s2 : Sc) (x1 : Option V), σ' = [some (.ref a), x1] ∧ SA C H0 H' a s2 ∧ s2.Lens ∧ s2.pot ≤ 100000 ∧ Sc.wayK m' s2 = some t, bk := fun x H' => Q V.non H' } [some (.ref a), some (.str (sgn s4.cur))] H5 := by
          rintro H5 s5 s6 ⟨p5, ep5, h5⟩ hle5 hpo5 hb5 hw5
          obtain ⟨dx5, e5⟩ := h5.ins
          rw [ep5] at e5
          have ok5 := hle5.ok (by omega)
          have st6 := step_begin hb5
          refine ⟨_, rfl, a, dx5, _, rfl, e5, rfl, a, H0, s5, s6, rfl, ⟨p5, ep5, h5⟩, ok5.1, ok5.2, hb5, fun H6 h6 => ?_⟩
          exact ⟨m, Nat.lt_succ_self _, s6, _, rfl, h6, st6.l hle5, Nat.le_trans (st6.q hle5) hpo5, hw5⟩
        refine withB (E := tAnd _ _) (fun b H' => b = false ∧ H' = H4) (fun Q' go => ?_) ?_
        · refine ⟨_, rfl, rfl, _, rfl, ?_⟩
          rw [c41, sgn_eq]
          refine ite2 (fun t1 => ?_) (fun _ => go _ _ ⟨rfl, rfl⟩)
          have t1 := of_decide_eq_true t1
          refine ⟨_, rfl, a, C, dx4, _, _, rfl, e4, T.cl, T.n5, rfl, p4.ro, _, rfl, .inl (SqL.of h4.rows), _, _, rfl, rfl, _, rfl, go _ _ ⟨?_, rfl⟩⟩
          rw [hl4]
          refine decide_eq_false fun q => q41 ⟨t1, by omega⟩
        rintro _ H4 ⟨rfl, rfl⟩
        refine iteF ?_
        by_cases q47 : s4.cur = some 47
        · rw [if_pos q47] at hw2
          cases hbe : s4.go.endRow.begin with
          | none => rw [hbe] at hw2; cases hw2
          | some s6 =>
            rw [hbe, Option.bind_some] at hw2
            refine ⟨_, rfl, rfl, _, rfl, ?_⟩
            rw [c47, sgn_eq, decide_eq_true q47]
            refine iteT' rfl ?_
            refine ⟨_, rfl, a, C, dx4, _, _, rfl, e4, T.cl, T.n3, rfl, _, _, rfl, rfl, dx4, _, e4, by show 7 < 1000; decide, ?_⟩
            have h5 := goAt (dx := dx4) h4 q47
            rw [ep4] at h5
            obtain ⟨dx5, e5⟩ := h5.ins
            rw [ep4] at e5
            have pg := pot_go q47
            have hle5 := pg.2 hle4
            have ok5 := hle5.ok (by omega)
            refine ⟨_, rfl, a, dx5, _, rfl, e5, rfl, a, H0, s4.go, rfl, ⟨p4, ep4, h5⟩, ok5.1, fun H6 h6 => ?_⟩
            have st6 := step_endRow s4.go
            have hpo6 := st6.q hle5
            exact rest H6 _ s6 h6 (st6.l hle5) (by omega) hbe hw2
        · rw [if_neg q47] at hw2
          cases hbe : s4.begin with
          | none => rw [hbe] at hw2; cases hw2
          | some s6 =>
            rw [hbe, Option.bind_some] at hw2
            refine ⟨_, rfl, rfl, _, rfl, ?_⟩
            rw [c47, sgn_eq, decide_eq_false q47]
            exact iteF (rest H4 _ s6 ⟨p4, ep4, h4⟩ hle4 hpo4 hbe hw2)
end
end Ws
namespace Ws
open PySem PySem.Spec PyProof.Rows L2 Wv
/-! ### from steps to a way -/
inductive Builds : Nat → Str → List W → W → Prop where
  | letter (c : Nat) : Builds 0 (sg c) [] (.letter c)
  | one : Builds 1 eS [] .one
  | nothing : Builds 2 eS [] .nothing
  | row (ws : List W) : Builds 3 eS ws (.row ws)
  | choice (ws : List W) : Builds 4 eS ws (.choice ws)
  | again (w : W) : Builds 5 eS [w] (.again w)
  | maybe (w : W) : Builds 6 eS [w] (.maybe w)
  | ahead (w : W) : Builds 7 eS [w] (.ahead w)
  | unless (w : W) : Builds 8 eS [w] (.unless w)
  | call (x : Str) : Builds 9 x [] (.call x)
inductive Post : List (Nat × Str × Nat) → List W → List W → Prop where
  | nil (S : List W) : Post [] S S
  | cons {k : Nat} {x : Str} {ws S S' : List W} {w : W} {r : List (Nat × Str × Nat)} (b : Builds k x ws w) (h : Post r (S ++ [w]) S') : Post ((k, x, ws.length) :: r) (S ++ ws) S'
def spBuilt (c : Cs) : Sp := fun vs H Q _ => ∃ (k : Nat) (x : Str) (q : Addr) (us : List V) (ws : List W) (w : W), vs = [.int (k : Nat), .str x, .ref q] ∧ H q = some (.lst us) ∧ ObjsAt c H us ws ∧ Builds k x ws w ∧ ws.length ≤ 1000000 ∧ ∀ (u : V) (H' : Hp), Same H H' → ObjAt c H' u w → Q u H'
def spSteps (c : Cs) : Sp := fun vs H Q _ => ∃ (st : Addr) (es : List V) (steps : List (Nat × Str × Nat)) (w : W), vs = [.ref st] ∧ H st = some (.lst es) ∧ StepsAt H es steps ∧ Post steps [] [w] ∧ steps.length ≤ 100000 ∧ ∀ (u : V) (H' : Hp), Same H H' → ObjAt c H' u w → Q u H'
section
variable {P : Program} {w : World} {K : PySem.W.Frag} {mg : Str → Option Value} {base : Heap} {c : Cs}
theorem iteN {b : Bool} {T F : Prop} (h : b = false) (f : F) : if b = true then T else F := by rw [h]; exact f
theorem StepsAt.at_ {H : Hp} : ∀ (xs : List (Nat × Str × Nat)) (vs : List V) (i : Nat) (v : V), StepsAt H vs xs → vs[i]? = some v → ∃ r x, v = .ref r ∧ xs[i]? = some x ∧ H r = some (.tup [.int (x.1 : Nat), .str x.2.1, .int (x.2.2 : Nat)])
  | [], vs, i, v, h, e => by rw [show vs = [] from h] at e; simp at e
  | x :: xs, vs, 0, v, ⟨r, us, e, h, h2⟩, ev => by
    rw [e] at ev
    have q : V.ref r = v := by simpa using ev
    subst q
    exact ⟨r, x, rfl, rfl, h⟩
  | x :: xs, vs, i + 1, v, ⟨r, us, e, h, h2⟩, ev => by
    rw [e] at ev
    obtain ⟨r', x', a1, a2, a3⟩ := StepsAt.at_ xs us i v h2 (by simpa using ev)
    exact ⟨r', x', a1, by simpa using a2, a3⟩
theorem decI {a b : Nat} : decide (V.int (a : Nat) = V.int ((b : Nat) : Int)) = decide (a = b) := by
  by_cases h : a = b
  · subst h; rw [decide_eq_true rfl, decide_eq_true rfl]
  · rw [decide_eq_false (fun q => h (by have := V.int.inj q; omega)), decide_eq_false h]
abbrev s_built : Stmt := top 43
theorem sc_built : FnScope ["kind", "word", "inner"] ["kind", "word", "inner"] (defScope s_built) := ⟨rfl, rfl, rfl, by decide +kernel, rfl, by decide +kernel, by decide +kernel⟩
theorem d_built (h : Here K mg "built" s_built ["kind", "word", "inner"]) (g : Gs P w K mg base c) (CN : Kc mg) : DefOk P w K mg base 4 "built" ["kind", "word", "inner"] (spBuilt c) := by
  have G_Letter := g.lt; have G_Call := g.ca; have G_Row := g.ro; have G_Choice := g.ch; have G_Again := g.ag; have G_Maybe := g.ma; have G_Ahead := g.ah; have G_Unless := g.un
  have G_One := g.on; have G_Nothing := g.no
  have GC_LETTER := CN.k0; have GC_ONE := CN.k1; have GC_NOTHING := CN.k2; have GC_ROW := CN.k3; have GC_CHOICE := CN.k4; have GC_AGAIN := CN.k5; have GC_MAYBE := CN.k6; have GC_AHEAD := CN.k7; have GC_UNLESS := CN.k8; have GC_CALL := CN.k9
  refine h.ok sc_built (fun vs H Q E h => by obtain ⟨_, _, _, _, _, _, rfl, _⟩ := h; rfl) (fun f cdv A outer s' H vs Q E hr h => ?_)
  obtain ⟨k0, x, q, us, ws, w, rfl, hq, hus, hb, hwl, k⟩ := h
  refine ⟨_, (pss_cons (ps_if (pt_cmpR op_eq (pv 0) (pe_globI rfl GC_LETTER) (nomark _)) (pss_one (ps_ret (pe_makeD G_Letter (hr.mono (by first | decide | omega)) rfl (pa_cons (pv 1) pa_nil)))) pss_nil)
  (pss_cons (ps_if (pt_cmpR op_eq (pv 0) (pe_globI rfl GC_ONE) (nomark _)) (pss_one (ps_ret (pe_makeD0 G_One (hr.mono (by first | decide | omega)) rfl))) pss_nil)
  (pss_cons (ps_if (pt_cmpR op_eq (pv 0) (pe_globI rfl GC_NOTHING) (nomark _)) (pss_one (ps_ret (pe_makeD0 G_Nothing (hr.mono (by first | decide | omega)) rfl))) pss_nil)
  (pss_cons (ps_if (pt_cmpR op_eq (pv 0) (pe_globI rfl GC_ROW) (nomark _)) (pss_one (ps_ret (pe_makeD G_Row (hr.mono (by first | decide | omega)) rfl (pa_cons (pv 2) pa_nil)))) pss_nil)
  (pss_cons (ps_if (pt_cmpR op_eq (pv 0) (pe_globI rfl GC_CHOICE) (nomark _)) (pss_one (ps_ret (pe_makeD G_Choice (hr.mono (by first | decide | omega)) rfl (pa_cons (pv 2) pa_nil)))) pss_nil)
  (pss_cons (ps_if (pt_cmpR op_eq (pv 0) (pe_globI rfl GC_AGAIN) (nomark _)) (pss_one (ps_ret (pe_makeD G_Again (hr.mono (by first | decide | omega)) rfl (pa_cons (pe_ix ix_list (pv 2) pe_int (fun _ _ => rfl)) pa_nil)))) pss_nil)
  (pss_cons (ps_if (pt_cmpR op_eq (pv 0) (pe_globI rfl GC_MAYBE) (nomark _)) (pss_one (ps_ret (pe_makeD G_Maybe (hr.mono (by first | decide | omega)) rfl (pa_cons (pe_ix ix_list (pv 2) pe_int (fun _ _ => rfl)) pa_nil)))) pss_nil)
  (pss_cons (ps_if (pt_cmpR op_eq (pv 0) (pe_globI rfl GC_AHEAD) (nomark _)) (pss_one (ps_ret (pe_makeD G_Ahead (hr.mono (by first | decide | omega)) rfl (pa_cons (pe_ix ix_list (pv 2) pe_int (fun _ _ => rfl)) pa_nil)))) pss_nil)
  (pss_cons (ps_if (pt_cmpR op_eq (pv 0) (pe_globI rfl GC_UNLESS) (nomark _)) (pss_one (ps_ret (pe_makeD G_Unless (hr.mono (by first | decide | omega)) rfl (pa_cons (pe_ix ix_list (pv 2) pe_int (fun _ _ => rfl)) pa_nil)))) pss_nil)
  (pss_one (ps_ret (pe_makeD G_Call (hr.mono (by first | decide | omega)) rfl (pa_cons (pv 1) pa_nil))))))))))))), ?_⟩
  cases hb
  case letter =>
    refine ⟨_, rfl, rfl, _, rfl, iteT' (by decide) ?_⟩
    exact ⟨_, rfl, makeL fun x dx H' s2 h => k _ H' s2 ⟨x, dx, rfl, h⟩⟩
  case one =>
    repeat (refine ⟨_, rfl, rfl, _, rfl, iteN (by decide) ?_⟩; walk_at "nx")
    refine ⟨_, rfl, rfl, _, rfl, iteT' (by decide) ?_⟩
    exact make0 fun x dx H' s3 h => k _ H' s3 ⟨x, dx, rfl, h⟩
  case nothing =>
    repeat (refine ⟨_, rfl, rfl, _, rfl, iteN (by decide) ?_⟩; walk_at "nx")
    refine ⟨_, rfl, rfl, _, rfl, iteT' (by decide) ?_⟩
    exact make0 fun x dx H' s3 h => k _ H' s3 ⟨x, dx, rfl, h⟩
  case row =>
    repeat (refine ⟨_, rfl, rfl, _, rfl, iteN (by decide) ?_⟩; walk_at "nx")
    refine ⟨_, rfl, rfl, _, rfl, iteT' (by decide) ?_⟩
    exact ⟨_, rfl, makeT (.inl hq) hus hwl fun x dx t H' s7 ht h => k _ H' s7 ⟨x, dx, t, us, rfl, h, ht, ObjsAt.keep (stillS s7) _ _ hus⟩⟩
  case choice =>
    repeat (refine ⟨_, rfl, rfl, _, rfl, iteN (by decide) ?_⟩; walk_at "nx")
    refine ⟨_, rfl, rfl, _, rfl, iteT' (by decide) ?_⟩
    exact ⟨_, rfl, makeT (.inl hq) hus hwl fun x dx t H' s7 ht h => k _ H' s7 ⟨x, dx, t, us, rfl, h, ht, ObjsAt.keep (stillS s7) _ _ hus⟩⟩
  case call =>
    repeat (refine ⟨_, rfl, rfl, _, rfl, iteN (by decide) ?_⟩; walk_at "nx")
    exact ⟨_, rfl, makeC fun x dx H' s2 h => k _ H' s2 ⟨x, dx, rfl, h⟩⟩
  case again =>
    obtain ⟨u, us', rfl, hu, hn⟩ := hus
    repeat (refine ⟨_, rfl, rfl, _, rfl, iteN (by decide) ?_⟩; walk_at "nx")
    refine ⟨_, rfl, rfl, _, rfl, iteT' (by decide) ?_⟩
    exact ⟨_, rfl, q, _, _, _, rfl, rfl, SqL.of hq, atI0, makeA hu fun x dx mk H' s8 h => k _ H' s8 ⟨x, dx, u, mk, rfl, h, ObjAt.keep (stillS s8) _ _ hu⟩⟩
  all_goals
    obtain ⟨u, us', rfl, hu, hn⟩ := hus
    repeat (refine ⟨_, rfl, rfl, _, rfl, iteN (by decide) ?_⟩; walk_at "nx")
    refine ⟨_, rfl, rfl, _, rfl, iteT' (by decide) ?_⟩
    exact ⟨_, rfl, q, _, _, _, rfl, rfl, SqL.of hq, atI0, makeP hu fun x dx H' s8 h => k _ H' s8 ⟨x, dx, u, .non, rfl, h, ObjAt.keep (stillS s8) _ _ hu⟩⟩
theorem cut_end (xs : List V) (i : Nat) (h : i ≤ xs.length) : cutV xs (some ((i : Nat) : Int)) none = xs.drop i := by
  unfold cutV
  rw [HT.sIx_nat, HT.sIx_none, Nat.min_eq_left h]
  exact List.take_of_length_le (by rw [List.length_drop]; omega)
theorem ObjsAt.cut {H : Hp} : ∀ (a b : List W) (vs : List V), ObjsAt c H vs (a ++ b) → ObjsAt c H (vs.take a.length) a ∧ ObjsAt c H (vs.drop a.length) b
  | [], b, vs, h => ⟨rfl, h⟩
  | x :: a, b, vs, ⟨u, us, e, hu, h⟩ => by
    subst e
    obtain ⟨h1, h2⟩ := ObjsAt.cut a b us h
    exact ⟨⟨u, us.take a.length, rfl, hu, h1⟩, h2⟩
abbrev s_way_of_steps : Stmt := top 42
theorem sc_way_of_steps : FnScope ["steps", "done", "kind", "word", "many", "first", "inner"] ["steps"] (defScope s_way_of_steps) := ⟨rfl, rfl, rfl, by decide +kernel, rfl, by decide +kernel, by decide +kernel⟩
theorem d_way_of_steps (h : Here K mg "way_of_steps" s_way_of_steps ["steps"]) (B : Bs mg) (G_built : DefOk P w K mg base 4 "built" ["kind", "word", "inner"] (spBuilt c)) : DefOk P w K mg base 5 "way_of_steps" ["steps"] (spSteps c) := by
  have B_len := B.len
  refine h.ok sc_way_of_steps (fun vs H Q E h => by obtain ⟨_, _, _, _, rfl, _⟩ := h; rfl) (fun f cdv A outer s' H vs Q E hr h => ?_)
  obtain ⟨st, es, steps, w, rfl, hst, hse, hp, hl, k⟩ := h
  refine ⟨_, (pss_cons (ps_set (i := 1) sc_way_of_steps.nd rfl (Or.inl rfl) (pe_lst pa_nil))
  (pss_cons (ps_for PassesOwn.never rfl (pi_list (pv 0)) (pg_tup rfl (pgs_cons (pg_name (i := 2) sc_way_of_steps.nd rfl (Or.inl rfl)) (pgs_cons (pg_name (i := 3) sc_way_of_steps.nd rfl (Or.inl rfl)) (pgs_cons (pg_name (i := 4) sc_way_of_steps.nd rfl (Or.inl rfl)) pgs_nil))))
   (pss_cons (ps_set (i := 5) sc_way_of_steps.nd rfl (Or.inl rfl) (pe_op op_sub (pe_callB call_len_seq rfl B_len PySem.boot_len (pa_cons (pv 1) pa_nil)) (pv 4)))
  (pss_cons (ps_set (i := 6) sc_way_of_steps.nd rfl (Or.inl rfl) (pe_slice sl_list (pv 1) (po_some (pv 5)) po_none))
  (pss_cons (ps_delS (pv 1) (pv 5))
  (pss_one (ps_expr (pe_bm PySem.F.plainAttrs_list PySem.F.slot_list_append PySem.F.type_list_append mt_append (pv 1) (pa_cons (pe_callD G_built (hr.mono (by first | decide | omega)) rfl (pa_cons (pv 2) (pa_cons (pv 3) (pa_cons (pv 6) pa_nil)))) pa_nil))))))))
  (pss_one (ps_ret (pe_ix ix_list (pv 1) pe_int (fun _ _ => rfl)))))), ?_⟩
  refine ⟨Nat.zero_le _, fun d hd => ?_⟩
  have hse' := StepsAt.len _ _ hse
  walk_at "nx"
  have s1 := Same.new hd (.lst [])
  refine ⟨_, rfl, st, rfl, ⟨es, SqL.of (s1 _ _ hst)⟩, ?_⟩
  refine for_list (K := K) (a := st) (xs := es) (fun i σ H' => ∃ (S : List W) (us : List V) (x2 x3 x4 x5 x6 : Option V), σ = [some (.ref st), some (.ref d), x2, x3, x4, x5, x6] ∧ H' d = some (.lst us) ∧ ObjsAt c H' us S ∧ Post (steps.drop i) S [w] ∧ S.length ≤ i ∧ Same H H') ?_ ?_ ?_ ?_
  · exact ⟨[], [], none, none, none, none, none, rfl, upd_same, rfl, hp, Nat.zero_le _, s1⟩
  · rintro i σ H' _ ⟨_, _, _, _, _, _, _, rfl, _, _, _, _, s2⟩
    exact SqL.of (s2 _ _ hst)
  · rintro i e σ H1 he ⟨S, us, x2, x3, x4, x5, x6, rfl, hd1, hus, hp1, hSi, s2⟩
    obtain ⟨r, x, rfl, hx, hr'⟩ := StepsAt.at_ _ _ _ _ hse he
    have hil : i < steps.length := (List.getElem?_eq_some_iff.mp hx).1
    have hdr : steps.drop i = x :: steps.drop (i + 1) := by
      obtain ⟨hi, e⟩ := List.getElem?_eq_some_iff.mp hx
      rw [List.drop_eq_getElem_cons hi, e]
    rw [hdr] at hp1
    cases hp1 with
    | @cons k0 x0 ws S0 _ wb _ hb hrest =>
      have hlu := ObjsAt.len _ _ hus
      rw [List.length_append] at hlu
      refine ⟨r, _, rfl, SqT.of (s2 _ _ hr'), rfl, _, _, rfl, _, _, rfl, _, _, rfl, rfl, ?_⟩
      walk_at "nx"
      refine ⟨_, rfl, d, us, rfl, .inl (SqL.of hd1), _, rfl, _, _, rfl, rfl, ?_⟩
      have e1 : ((us.length : Nat) : Int) - (ws.length : Nat) = (S0.length : Nat) := by omega
      obtain ⟨h1a, h1b⟩ := ObjsAt.cut _ _ _ hus
      have hSl : (S0 ++ ws).length ≤ i := hSi
      rw [List.length_append] at hSl
      dsimp only
      rw [e1]
      walk_at "nx"
      refine ⟨_, rfl, _, rfl, _, rfl, d, us, rfl, SqL.of hd1, fun q hq => ?_⟩
      rw [cut_end _ _ (by omega)]
      have s3 := Same.new hq (.lst (us.drop S0.length))
      have hq3 : upd H1 q (.lst (us.drop S0.length)) q = some (.lst (us.drop S0.length)) := upd_same
      have hd3 := s3 _ _ hd1
      have ndq : d ≠ q := ne_of_none hd1 hq
      generalize upd H1 q (.lst (us.drop S0.length)) = H3 at *
      walk_at "nx"
      refine ⟨_, rfl, _, rfl, _, rfl, d, us, _, rfl, rfl, hd3, by omega, by omega, ?_⟩
      rw [Int.toNat_natCast]
      have k4 : Still H3 (upd H3 d (.lst (us.take S0.length))) := Still.put hd3
      have hd4 : upd H3 d (.lst (us.take S0.length)) d = some (.lst (us.take S0.length)) := upd_same
      have hq4 : upd H3 d (.lst (us.take S0.length)) q = some (.lst (us.drop S0.length)) := by rw [upd_ne ndq.symm]; exact hq3
      have s4 : Same H (upd H3 d (.lst (us.take S0.length))) := Same.put hd (s2.trans s3) _
      generalize upd H3 d (.lst (us.take S0.length)) = H4 at *
      have k34 := (stillS s3).trans k4
      walk_at "nx"
      refine ⟨_, rfl, .inl ⟨rfl, _, SqL.of hd4⟩, _, rfl, _, rfl, _, rfl, k0, x0, q, _, ws, wb, rfl, hq4, ObjsAt.keep k34 _ _ h1b, hb, by omega, fun u H5 s5 hu => ?_⟩
      have hd5 := s5 _ _ hd4
      refine ⟨d, _, _, rfl, rfl, hd5, small' (by rw [List.length_take]; omega), ?_⟩
      walk_at "nx"
      have k6 : Still H5 (upd H5 d (.lst (us.take S0.length ++ [u]))) := Still.put hd5
      refine ⟨S0 ++ [wb], _, _, _, _, _, _, rfl, upd_same, ?_, hrest, by rw [List.length_append, List.length_singleton]; omega, Same.put hd (s4.trans s5) _⟩
      exact ObjsAt.app _ _ (ObjsAt.keep ((k34.trans (stillS s5)).trans k6) _ _ h1a) ⟨u, [], rfl, ObjAt.keep k6 _ _ hu, rfl⟩
  · rintro σ H1 ⟨S, us, x2, x3, x4, x5, x6, rfl, hd1, hus, hp1, _, s2⟩
    rw [hse', List.drop_length] at hp1
    cases hp1
    obtain ⟨u, us', rfl, hu, hn⟩ := hus
    walk_at "nx"
    walk_at "rd"
    exact ⟨d, _, _, _, rfl, rfl, SqL.of hd1, atI0, k u H1 s2 hu⟩
end
end Ws
namespace Ws
open PySem PySem.Spec PyProof.Rows L2 Wv
/-! ### a new scanner -/
def Sc.new (z : List Nat) (ln : Int) : Sc := ⟨z, ln, 0, [], [0], [0], [[]]⟩
def spNew (C : Addr) : Sp := fun vs H Q _ => ∃ (p dx : Addr) (z : List Nat) (ln : Int) (H0 : Hp), vs = [.ref p, .str (tx z), .int ln] ∧ H p = some (.ins C dx []) ∧ H0 p = none ∧ Same H0 H ∧ z.length ≤ 10000 ∧
  ∀ (H' : Hp) (q : At), q.a = p → ScAt C H0 H' q (Sc.new z ln) → Q .non H'
section
variable {P : Program} {w : World} {K : PySem.W.Frag} {mg : Str → Option Value} {base : Heap} {C : Addr}
theorem none_of_same {H0 H : Hp} (k : Same H0 H) {a : Addr} (h : H a = none) : H0 a = none := by
  cases z : H0 a with
  | none => rfl
  | some o => rw [k _ _ z] at h; cases h
abbrev s_Scan_init : Stmt := inClass (top 17) 0
theorem sc_Scan_init : FnScope ["self", "text", "line"] ["self", "text", "line"] (defScope s_Scan_init) := ⟨rfl, rfl, rfl, by decide +kernel, rfl, by decide +kernel, by decide +kernel⟩
theorem ok_new {f : Addr} {fd : FuncData} (F : Fun K "__init__" "Scan.__init__" s_Scan_init f fd) (T : ScF K C) : FnOk P w K mg base CX0 1 f fd ["self", "text", "line"] (spNew C) := by
  refine F.ok sc_Scan_init (fun vs H Q E h => by obtain ⟨_, _, _, _, _, rfl, _⟩ := h; rfl) (fun cdv A outer s' H vs Q E hr h => ?_)
  obtain ⟨p, dx, z, ln, H0, rfl, hp, hp0, s0, hz, k⟩ := h
  refine ⟨_, (pss_cons (ps_fld (pv 0) (pv 1) rfl)
  (pss_cons (ps_fld (pv 0) (pv 2) rfl)
  (pss_cons (ps_fld (pv 0) pe_int rfl)
  (pss_cons (ps_fld (pv 0) (pe_lst pa_nil) rfl)
  (pss_cons (ps_fld (pv 0) (pe_lst (pa_cons pe_int pa_nil)) rfl)
  (pss_cons (ps_fld (pv 0) (pe_lst (pa_cons pe_int pa_nil)) rfl)
  (pss_one (ps_fld (pv 0) (pe_lst (pa_cons (pe_lst pa_nil) pa_nil)) rfl)))))))), ?_⟩
  refine ⟨_, rfl, _, rfl, p, C, dx, [], rfl, hp, T.cl, T.n1, (by show 0 < 1000; decide), ?_⟩
  have g1 : upd H p (.ins C dx (putF (Str.ofString "text") (.str (tx z)) [])) p = some (.ins C dx (putF (Str.ofString "text") (.str (tx z)) [])) := upd_same
  have t1 : Same H0 (upd H p (.ins C dx (putF (Str.ofString "text") (.str (tx z)) []))) := Same.put hp0 s0 _
  generalize upd H p (.ins C dx (putF (Str.ofString "text") (.str (tx z)) [])) = H1 at *
  refine ⟨_, rfl, _, rfl, p, C, dx, _, rfl, g1, T.cl, T.n2, (by show 1 < 1000; decide), ?_⟩
  generalize e2 : putF (Str.ofString "line") (.int ln) (putF (Str.ofString "text") (.str (tx z)) []) = f2
  have g2 : upd H1 p (.ins C dx f2) p = some (.ins C dx f2) := upd_same
  have t2 : Same H0 (upd H1 p (.ins C dx f2)) := Same.put hp0 t1 _
  generalize upd H1 p (.ins C dx f2) = H2 at *
  refine ⟨_, rfl, p, C, dx, _, rfl, g2, T.cl, T.n3, (by rw [← e2]; show 2 < 1000; decide), ?_⟩
  generalize e3 : putF (Str.ofString "place") (.int 0) f2 = f3
  have g3 : upd H2 p (.ins C dx f3) p = some (.ins C dx f3) := upd_same
  have t3 : Same H0 (upd H2 p (.ins C dx f3)) := Same.put hp0 t2 _
  generalize upd H2 p (.ins C dx f3) = H3 at *
  -- the steps
  refine ⟨Nat.zero_le _, fun st hst => ?_⟩
  have u4 := Same.new hst (.lst [])
  have a4 : upd H3 st (.lst []) st = some (.lst []) := upd_same
  have g4 := u4 _ _ g3
  have t4 := t3.trans u4
  have nst := none_of_same t3 hst
  have d4 : p ≠ st := ne_of_none g3 hst
  generalize upd H3 st (.lst []) = H4 at *
  refine ⟨_, rfl, p, C, dx, _, rfl, g4, T.cl, T.n4, (by rw [← e3, ← e2]; show 3 < 1000; decide), ?_⟩
  generalize e5 : putF (Str.ofString "steps") (.ref st) f3 = f5
  have g5 : upd H4 p (.ins C dx f5) p = some (.ins C dx f5) := upd_same
  have a5 : upd H4 p (.ins C dx f5) st = some (.lst []) := by rw [upd_ne d4.symm]; exact a4
  have t5 : Same H0 (upd H4 p (.ins C dx f5)) := Same.put hp0 t4 _
  generalize upd H4 p (.ins C dx f5) = H5 at *
  -- the rows
  refine ⟨by show 1 ≤ sizeLine; decide, fun ro hro => ?_⟩
  have u6 := Same.new hro (.lst [.int 0])
  have b6 : upd H5 ro (.lst [.int 0]) ro = some (.lst [.int 0]) := upd_same
  have g6 := u6 _ _ g5
  have a6 := u6 _ _ a5
  have t6 := t5.trans u6
  have nro := none_of_same t5 hro
  have d6 : p ≠ ro := ne_of_none g5 hro
  have d6a : st ≠ ro := ne_of_none a5 hro
  generalize upd H5 ro (.lst [.int 0]) = H6 at *
  refine ⟨_, rfl, p, C, dx, _, rfl, g6, T.cl, T.n5, (by rw [← e5, ← e3, ← e2]; show 4 < 1000; decide), ?_⟩
  generalize e7 : putF (Str.ofString "rows") (.ref ro) f5 = f7
  have g7 : upd H6 p (.ins C dx f7) p = some (.ins C dx f7) := upd_same
  have a7 : upd H6 p (.ins C dx f7) st = some (.lst []) := by rw [upd_ne d4.symm]; exact a6
  have b7 : upd H6 p (.ins C dx f7) ro = some (.lst [.int 0]) := by rw [upd_ne d6.symm]; exact b6
  have t7 : Same H0 (upd H6 p (.ins C dx f7)) := Same.put hp0 t6 _
  generalize upd H6 p (.ins C dx f7) = H7 at *
  -- how many
  refine ⟨by show 1 ≤ sizeLine; decide, fun ma hma => ?_⟩
  have u8 := Same.new hma (.lst [.int 0])
  have c8 : upd H7 ma (.lst [.int 0]) ma = some (.lst [.int 0]) := upd_same
  have g8 := u8 _ _ g7
  have a8 := u8 _ _ a7
  have b8 := u8 _ _ b7
  have t8 := t7.trans u8
  have nma := none_of_same t7 hma
  have d8 : p ≠ ma := ne_of_none g7 hma
  have d8a : st ≠ ma := ne_of_none a7 hma
  have d8b : ro ≠ ma := ne_of_none b7 hma
  generalize upd H7 ma (.lst [.int 0]) = H8 at *
  refine ⟨_, rfl, p, C, dx, _, rfl, g8, T.cl, T.n6, (by rw [← e7, ← e5, ← e3, ← e2]; show 5 < 1000; decide), ?_⟩
  generalize e9 : putF (Str.ofString "many") (.ref ma) f7 = f9
  have g9 : upd H8 p (.ins C dx f9) p = some (.ins C dx f9) := upd_same
  have a9 : upd H8 p (.ins C dx f9) st = some (.lst []) := by rw [upd_ne d4.symm]; exact a8
  have b9 : upd H8 p (.ins C dx f9) ro = some (.lst [.int 0]) := by rw [upd_ne d6.symm]; exact b8
  have c9 : upd H8 p (.ins C dx f9) ma = some (.lst [.int 0]) := by rw [upd_ne d8.symm]; exact c8
  have t9 : Same H0 (upd H8 p (.ins C dx f9)) := Same.put hp0 t8 _
  generalize upd H8 p (.ins C dx f9) = H9 at *
  -- the looks
  refine ⟨Nat.zero_le _, fun l0 hl0 => ⟨by show 1 ≤ sizeLine; decide, fun lo hlo => ?_⟩⟩
  have u10 := Same.new hl0 (.lst [])
  have x10 : upd H9 l0 (.lst []) l0 = some (.lst []) := upd_same
  have u11 := Same.new hlo (.lst [.ref l0])
  have x11 : upd (upd H9 l0 (.lst [])) lo (.lst [.ref l0]) lo = some (.lst [.ref l0]) := upd_same
  have y11 := u11 _ _ x10
  have g11 := u11 _ _ (u10 _ _ g9)
  have a11 := u11 _ _ (u10 _ _ a9)
  have b11 := u11 _ _ (u10 _ _ b9)
  have c11 := u11 _ _ (u10 _ _ c9)
  have t11 := (t9.trans u10).trans u11
  have nl0 := none_of_same t9 hl0
  have nlo := none_of_same (t9.trans u10) hlo
  have d10 : p ≠ l0 ∧ st ≠ l0 ∧ ro ≠ l0 ∧ ma ≠ l0 := ⟨ne_of_none g9 hl0, ne_of_none a9 hl0, ne_of_none b9 hl0, ne_of_none c9 hl0⟩
  have d11 : p ≠ lo ∧ st ≠ lo ∧ ro ≠ lo ∧ ma ≠ lo ∧ l0 ≠ lo := ⟨ne_of_none (u10 _ _ g9) hlo, ne_of_none (u10 _ _ a9) hlo, ne_of_none (u10 _ _ b9) hlo, ne_of_none (u10 _ _ c9) hlo, ne_of_none x10 hlo⟩
  generalize upd (upd H9 l0 (.lst [])) lo (.lst [.ref l0]) = H11 at *
  refine ⟨_, rfl, p, C, dx, _, rfl, g11, T.cl, T.n7, (by rw [← e9, ← e7, ← e5, ← e3, ← e2]; show 6 < 1000; decide), ?_⟩
  refine k _ ⟨p, st, ro, ma, lo, [l0]⟩ rfl ⟨⟨dx, ?_⟩, ⟨[], ?_, rfl⟩, ?_, ?_, ⟨?_, l0, [], rfl, ?_, rfl⟩, ?_, ?_, Same.put hp0 t11 _, hz, Nat.zero_le _⟩
  · rw [upd_same, ← e9, ← e7, ← e5, ← e3, ← e2]; rfl
  · rw [upd_ne d4.symm]; exact a11
  · rw [upd_ne d6.symm]; exact b11
  · rw [upd_ne d8.symm]; exact c11
  · rw [upd_ne d11.1.symm]; exact x11
  · rw [upd_ne d10.1.symm]; exact y11
  · simp only [At.all, List.nodup_cons, List.mem_cons, List.not_mem_nil, or_false, not_or, List.nodup_nil, and_true, not_false_eq_true]
    exact ⟨⟨d4, d6, d8, d11.1, d10.1⟩, ⟨d6a, d8a, d11.2.1, d10.2.1⟩, ⟨d8b, d11.2.2.1, d10.2.2.1⟩, ⟨d11.2.2.2.1, d10.2.2.2⟩, d11.2.2.2.2.symm⟩
  · intro b hb
    simp only [At.all, List.mem_cons, List.not_mem_nil, or_false] at hb
    rcases hb with rfl | rfl | rfl | rfl | rfl | rfl
    · exact hp0
    · exact nst
    · exact nro
    · exact nma
    · exact nlo
    · exact nl0
end
end Ws
namespace Ws
open PySem PySem.Spec PyProof.Rows L2 Wv
/-! ### Way.read -/
/-- the text z is read as the way w -/
def Reads (z : List Nat) (w : W) : Prop := z.length ≤ 10000 ∧ ∃ (s1 t : Sc) (f : Nat), (Sc.new z 1).begin = some s1 ∧ Sc.wayK f s1 = some t ∧ Post t.steps [] [w] ∧ t.steps.length ≤ 100000
def spRead (c : Cs) : Sp := fun vs H Q _ => ∃ (v : V) (z : List Nat) (w : W), vs = [v, .str (tx z)] ∧ Reads z w ∧ ∀ (u : V) (H' : Hp), Same H H' → ObjAt c H' u w → Q u H'
section
variable {P : Program} {w : World} {K : PySem.W.Frag} {mg : Str → Option Value} {base : Heap} {C : Addr} {c : Cs}
abbrev s_Way_read : Stmt := inClass (top 20) 1
theorem sc_Way_read : FnScope ["cls", "text"] ["cls", "text"] (defScope s_Way_read) := ⟨rfl, rfl, rfl, by decide +kernel, rfl, by decide +kernel, by decide +kernel⟩
theorem ok_read {f : Addr} {fd : FuncData} (F : Fun K "read" "Way.read" s_Way_read f fd) (G_Scan : ClsOk P w K mg base 1 "Scan" C ["self", "text", "line"] (spNew C)) (G_read_way : ScOk P w K mg base C 6 "read_way" ["self"] (spWay C))
    (G_way_of_steps : DefOk P w K mg base 5 "way_of_steps" ["steps"] (spSteps c)) : FnOk P w K mg base CX0 7 f fd ["cls", "text"] (spRead c) := by
  refine F.ok sc_Way_read (fun vs H Q E h => by obtain ⟨_, _, _, rfl, _⟩ := h; rfl) (fun cdv A outer s' H vs Q E hr h => ?_)
  obtain ⟨v, z, w, rfl, ⟨hz, s1, t, fu, hb, hw, hp, hl⟩, k⟩ := h
  refine ⟨_, (pss_one (ps_ret (pe_callD G_way_of_steps (hr.mono (by first | decide | omega)) rfl (pa_cons (pe_methS0 G_read_way (hr.mono (by first | decide | omega)) (pe_makeD G_Scan (hr.mono (by first | decide | omega)) rfl (pa_cons (pv 1) (pa_cons pe_int pa_nil)))) pa_nil)))), ?_⟩
  refine ⟨_, rfl, fun x dx hx hd ne => ?_⟩
  have sm : Same H (upd (upd H dx (.own x)) x (.ins C dx [])) := fun b o e => by rw [upd_ne (ne_of_none e hx), upd_ne (ne_of_none e hd)]; exact e
  refine ⟨x, dx, z, 1, H, rfl, upd_same, hx, sm, hz, fun H1 q eq h1 => ⟨rfl, ?_⟩⟩
  obtain ⟨dx1, e1⟩ := h1.ins
  rw [eq] at e1
  have hle : (Sc.new z 1).Lens := ⟨rfl, rfl, by show [0] ≠ []; simp, Nat.zero_le _⟩
  refine ⟨x, dx1, _, rfl, e1, rfl, x, H, Sc.new z 1, s1, t, fu, rfl, ⟨q, eq, h1⟩, hle, ?_, hb, hw, fun H2 p2 ep2 h2 => ?_⟩
  · show 0 + 1 + 1 + 1 + 0 + 8 * (z.length - 0) ≤ 100000
    omega
  obtain ⟨vs2, v1, v2⟩ := h2.steps
  exact ⟨p2.st, vs2, t.steps, w, rfl, v1, v2, hp, hl, fun u H3 s3 hu => k u H3 (h2.same.trans s3) hu⟩
end
end Ws
namespace Ws
open PySem PySem.Spec PyProof.Rows L2 Wv
/-! ### the text of a way -/
inductive Piece where
  | s (x : Str)
  | w (w : W)
def PieceAt (c : Cs) (H : Hp) (v : V) : Piece → Prop
  | .s x => v = .str x
  | .w w => ObjAt c H v w
def PcsAt (c : Cs) (H : Hp) : List V → List Piece → Prop
  | vs, [] => vs = []
  | vs, p :: ps => ∃ u us, vs = u :: us ∧ PieceAt c H u p ∧ PcsAt c H us ps
theorem PieceAt.keep {c : Cs} {H H' : Hp} (k : Still H H') : ∀ (p : Piece) (v : V), PieceAt c H v p → PieceAt c H' v p
  | .s _, _, h => h
  | .w w, v, h => ObjAt.keep k w v h
theorem PcsAt.keep {c : Cs} {H H' : Hp} (k : Still H H') : ∀ (ps : List Piece) (vs : List V), PcsAt c H vs ps → PcsAt c H' vs ps
  | [], _, h => h
  | p :: ps, vs, ⟨u, us, e, h, h2⟩ => ⟨u, us, e, h.keep k, PcsAt.keep k ps us h2⟩
theorem PcsAt.app {c : Cs} {H : Hp} : ∀ (ps : List Piece) (vs : List V) {us : List V} {qs : List Piece}, PcsAt c H vs ps → PcsAt c H us qs → PcsAt c H (vs ++ us) (ps ++ qs)
  | [], vs, us, qs, h, h2 => by rw [show vs = [] from h]; exact h2
  | p :: ps, vs, us, qs, ⟨u, r, e, hu, h⟩, h2 => by rw [e]; exact ⟨u, r ++ us, rfl, hu, PcsAt.app ps r h h2⟩
theorem PcsAt.len {c : Cs} {H : Hp} : ∀ (ps : List Piece) (vs : List V), PcsAt c H vs ps → vs.length = ps.length
  | [], vs, h => by rw [show vs = [] from h]; rfl
  | p :: ps, vs, ⟨u, us, e, _, h⟩ => by rw [e, List.length_cons, List.length_cons, PcsAt.len ps us h]
def needs (p a : Nat) : Bool := if p = 3 then !decide (a = 4) else if p = 7 ∨ p = 8 then (decide (a = 5) || decide (a = 6)) else decide (p = 4)
def brP (w : W) (k : Nat) : List Piece := if needs w.kind k = true then [.s (Str.ofString "("), .w w, .s (Str.ofString ")")] else [.w w]
def joinP (k : Nat) (b : Str) : Bool → List W → List Piece
  | _, [] => []
  | f, w :: ws => (if f = true then [] else [.s b]) ++ brP w k ++ joinP k b false ws
def spell : W → List Piece
  | .letter x => [.s (sg x)]
  | .one => [.s (Str.ofString ".")]
  | .nothing => [.s (Str.ofString "()")]
  | .call x => [.s (Str.ofString "<"), .s x, .s (Str.ofString ">")]
  | .row ws => joinP 3 (Str.ofString " ") true ws
  | .choice ws => joinP 4 (Str.ofString " / ") true ws
  | .again w => brP w 5 ++ [.s (Str.ofString "*")]
  | .maybe w => brP w 6 ++ [.s (Str.ofString "?")]
  | .ahead w => .s (Str.ofString "&") :: brP w 7
  | .unless w => .s (Str.ofString "!") :: brP w 8
def spBr (c : Cs) : Sp := fun vs H Q _ => ∃ (v : V) (w : W) (a : Nat), vs = [v, .int (a : Nat)] ∧ ObjAt c H v w ∧ ∀ (q : Addr) (us : List V) (H' : Hp), Same H H' → H' q = some (.lst us) → PcsAt c H' us (brP w a) → Q (.ref q) H'
def spJoin (c : Cs) : Sp := fun vs H Q _ => ∃ (v : V) (w : W) (b : Str), vs = [v, .str b] ∧ ObjAt c H v w ∧ ((∃ ws, w = .row ws) ∨ ∃ ws, w = .choice ws) ∧ w.size ≤ 1000 ∧ ∀ (q : Addr) (us : List V) (H' : Hp), Same H H' → H' q = some (.lst us) → PcsAt c H' us (joinP w.kind b true w.inner) → Q (.ref q) H'
def spSpell (c : Cs) : Sp := fun vs H Q _ => ∃ (v : V) (w : W), vs = [v] ∧ ObjAt c H v w ∧ w.size ≤ 1000 ∧ ∀ (q : Addr) (us : List V) (H' : Hp), Same H H' → H' q = some (.lst us) → PcsAt c H' us (spell w) → Q (.ref q) H'
section
variable {P : Program} {w : World} {K : PySem.W.Frag} {mg : Str → Option Value} {base : Heap} {c : Cs}
theorem decC {a b : Nat} : decide (V.int (a : Nat) = V.int ((b : Nat) : Int)) = decide (a = b) := decI
theorem in_two (n a b : Nat) : inV (.int (n : Nat)) [.int ((a : Nat) : Int), .int ((b : Nat) : Int)] = (decide (n = a) || decide (n = b)) := by
  have e : ∀ x : Nat, eqV (.int ((x : Nat) : Int)) (.int (n : Nat)) = decide (n = x) := fun x => by
    by_cases h : n = x
    · subst h; rw [decide_eq_true rfl]; simp [eqV]
    · rw [decide_eq_false h]
      have h' : ¬ ((x : Int) = (n : Int)) := fun q => h (by omega)
      simp [eqV, h']
  show ([V.int ((a : Nat) : Int), V.int ((b : Nat) : Int)].any fun y => eqV y (.int (n : Nat))) = _
  rw [List.any_cons, List.any_cons, List.any_nil, e, e, Bool.or_false]
abbrev s_bracketed : Stmt := top 41
theorem sc_bracketed : FnScope ["part", "around", "kind", "needed"] ["part", "around"] (defScope s_bracketed) := ⟨rfl, rfl, rfl, by decide +kernel, rfl, by decide +kernel, by decide +kernel⟩
theorem d_bracketed (h : Here K mg "bracketed" s_bracketed ["part", "around"]) (CN : Kc mg) (G_kind_of : DefOk P w K mg base 1 "kind_of" ["way"] (spKind c)) : DefOk P w K mg base 2 "bracketed" ["part", "around"] (spBr c) := by
  have GC_ROW := CN.k3; have GC_CHOICE := CN.k4; have GC_AGAIN := CN.k5; have GC_MAYBE := CN.k6; have GC_AHEAD := CN.k7; have GC_UNLESS := CN.k8
  refine h.ok sc_bracketed (fun vs H Q E h => by obtain ⟨_, _, _, rfl, _⟩ := h; rfl) (fun f cdv A outer s' H vs Q E hr h => ?_)
  obtain ⟨v, x, a, rfl, hv, k⟩ := h
  refine ⟨_, (pss_cons (ps_set (i := 2) sc_bracketed.nd rfl (Or.inl rfl) (pe_callD G_kind_of (hr.mono (by first | decide | omega)) rfl (pa_cons (pv 0) pa_nil)))
  (pss_cons (ps_if (pt_cmpR op_eq (pv 2) (pe_globI rfl GC_ROW) (nomark _)) (pss_one (ps_set (i := 3) sc_bracketed.nd rfl (Or.inl rfl) (pe_cmpR op_ne (pv 1) (pe_globI rfl GC_CHOICE) (nomark _)))) (pss_one (ps_if (pt_cmpR op_in_seq (pv 2) (pe_tup (pa_cons (pe_globI rfl GC_AHEAD) (pa_cons (pe_globI rfl GC_UNLESS) pa_nil))) (by rfl)) (pss_one (ps_set (i := 3) sc_bracketed.nd rfl (Or.inl rfl) (pe_cmpR op_in_seq (pv 1) (pe_tup (pa_cons (pe_globI rfl GC_AGAIN) (pa_cons (pe_globI rfl GC_MAYBE) pa_nil))) (by rfl)))) (pss_one (ps_set (i := 3) sc_bracketed.nd rfl (Or.inl rfl) (pe_cmpR op_eq (pv 2) (pe_globI rfl GC_CHOICE) (nomark _)))))))
  (pss_one (ps_ret (pe_ifExp (pt_val (pv 3)) (pe_lst (pa_cons pe_str (pa_cons (pv 0) (pa_cons pe_str pa_nil)))) (pe_lst (pa_cons (pv 0) pa_nil))))))), ?_⟩
  refine ⟨_, rfl, v, x, rfl, hv, ?_⟩
  refine Wv.gset ?_
  with_reducible refine st_cut (fun σ' H' => σ' = [some v, some (.int (a : Nat)), some (.int (x.kind : Nat)), some (.bl (needs x.kind a))] ∧ Same H H') (fun nx' go => ?_) ?_
  · refine ⟨_, rfl, rfl, _, rfl, ?_⟩
    rw [show decide (V.int (x.kind : Nat) = V.int 3) = decide (x.kind = 3) from decI]
    refine ite2 (fun t => ?_) (fun t => ?_)
    · have t := of_decide_eq_true t
      refine ⟨_, rfl, rfl, ?_⟩
      rw [show decide (V.int (a : Nat) = V.int 4) = decide (a = 4) from decI]
      refine go _ _ ⟨?_, fun _ _ h => h⟩
      unfold needs
      rw [if_pos t]
      rfl
    · have t : ¬ x.kind = 3 := fun q => t (decide_eq_true q)
      refine ⟨_, rfl, by show 2 ≤ sizeLine; decide, fun tp htp => ?_⟩
      have st := Same.new htp (.tup [.int 7, .int 8])
      refine ⟨tp, _, rfl, .inr (SqT.of upd_same), rfl, by decide +kernel, ?_⟩
      rw [if_neg Bool.false_ne_true, show inV (.int (x.kind : Nat)) [.int 7, .int 8] = (decide (x.kind = 7) || decide (x.kind = 8)) from in_two _ 7 8]
      refine ⟨_, rfl, ?_⟩
      refine ite2 (fun t2 => ?_) (fun t2 => ?_)
      · have t2 : x.kind = 7 ∨ x.kind = 8 := by simpa using t2
        refine ⟨_, rfl, by show 2 ≤ sizeLine; decide, fun tq htq => ?_⟩
        have st2 := st.trans (Same.new htq (.tup [.int 5, .int 6]))
        refine ⟨tq, _, rfl, .inr (SqT.of upd_same), rfl, by decide +kernel, ?_⟩
        rw [if_neg Bool.false_ne_true, show inV (.int (a : Nat)) [.int 5, .int 6] = (decide (a = 5) || decide (a = 6)) from in_two _ 5 6]
        refine go _ _ ⟨?_, st2⟩
        unfold needs
        rw [if_neg t, if_pos t2]
        rfl
      · have t2 : ¬ (x.kind = 7 ∨ x.kind = 8) := by simpa using t2
        refine ⟨_, rfl, rfl, ?_⟩
        rw [show decide (V.int (x.kind : Nat) = V.int 4) = decide (x.kind = 4) from decI]
        refine go _ _ ⟨?_, st⟩
        unfold needs
        rw [if_neg t, if_neg t2]
        rfl
  · rintro σ' H1 ⟨rfl, s1⟩
    have hv1 := ObjAt.keep (stillS s1) _ _ hv
    refine ⟨_, rfl, _, rfl, ?_⟩
    refine ite2 (fun t => ?_) (fun t => ?_)
    · refine ⟨_, rfl, by show 3 ≤ sizeLine; decide, fun q hq => ?_⟩
      have s2 := Same.new hq (.lst [.str (Str.ofString "("), v, .str (Str.ofString ")")])
      refine k q _ _ (s1.trans s2) upd_same ?_
      unfold brP
      rw [if_pos t]
      exact ⟨_, _, rfl, rfl, _, _, rfl, ObjAt.keep (stillS s2) _ _ hv1, _, _, rfl, rfl, rfl⟩
    · refine ⟨_, rfl, by show 1 ≤ sizeLine; decide, fun q hq => ?_⟩
      have s2 := Same.new hq (.lst [v])
      refine k q _ _ (s1.trans s2) upd_same ?_
      unfold brP
      rw [if_neg t]
      exact ⟨_, _, rfl, ObjAt.keep (stillS s2) _ _ hv1, rfl⟩
theorem brP_len (w : W) (k : Nat) : (brP w k).length ≤ 3 := by
  unfold brP; split <;> simp
theorem joinP_app (k : Nat) (b : Str) : ∀ (ws : List W) (f : Bool) (w : W), joinP k b f (ws ++ [w]) = joinP k b f ws ++ ((if f = true ∧ ws = [] then [] else [.s b]) ++ brP w k)
  | [], f, w => by
    show (if f = true then [] else [.s b]) ++ brP w k ++ [] = [] ++ _
    cases f <;> simp
  | x :: ws, f, w => by
    show (if f = true then [] else [.s b]) ++ brP x k ++ joinP k b false (ws ++ [w]) = ((if f = true then [] else [.s b]) ++ brP x k ++ joinP k b false ws) ++ _
    rw [joinP_app k b ws false w]
    simp
theorem joinP_len (k : Nat) (b : Str) : ∀ (ws : List W) (f : Bool), (joinP k b f ws).length ≤ 4 * ws.length
  | [], _ => Nat.le_refl _
  | w :: ws, f => by
    have h1 := brP_len w k
    have h2 := joinP_len k b ws false
    show ((if f = true then ([] : List Piece) else [Piece.s b]) ++ brP w k ++ joinP k b false ws).length ≤ _
    rw [List.length_append, List.length_append, List.length_cons]
    have h3 : (if f = true then ([] : List Piece) else [.s b]).length ≤ 1 := by cases f <;> simp
    omega
theorem joinP_ne (k : Nat) (b : Str) (w : W) (ws : List W) (f : Bool) : joinP k b f (w :: ws) ≠ [] := by
  intro h
  have : ((if f = true then ([] : List Piece) else [Piece.s b]) ++ brP w k ++ joinP k b false ws).length = 0 := (congrArg List.length h : (joinP k b f (w :: ws)).length = 0)
  rw [List.length_append, List.length_append] at this
  have h2 : 0 < (brP w k).length := by unfold brP; split <;> simp
  omega
abbrev s_joined : Stmt := top 40
theorem sc_joined : FnScope ["way", "between", "pieces", "part"] ["way", "between"] (defScope s_joined) := ⟨rfl, rfl, rfl, by decide +kernel, rfl, by decide +kernel, by decide +kernel⟩
theorem d_joined (h : Here K mg "joined" s_joined ["way", "between"]) (A0 : AllF K mg c) (G_kind_of : DefOk P w K mg base 1 "kind_of" ["way"] (spKind c)) (G_bracketed : DefOk P w K mg base 2 "bracketed" ["part", "around"] (spBr c)) : DefOk P w K mg base 3 "joined" ["way", "between"] (spJoin c) := by
  refine h.ok sc_joined (fun vs H Q E h => by obtain ⟨_, _, _, rfl, _⟩ := h; rfl) (fun f cdv A outer s' H vs Q E hr h => ?_)
  obtain ⟨v, x, b, rfl, hv, hrc, hsz, k⟩ := h
  refine ⟨_, (pss_cons (ps_set (i := 2) sc_joined.nd rfl (Or.inl rfl) (pe_lst pa_nil))
  (pss_cons (ps_for PassesOwn.never rfl (pi_tup (pe_fld (pv 0) rfl)) (pg_name (i := 3) sc_joined.nd rfl (Or.inl rfl))
   (pss_cons (ps_if (pt_truth (pv 2) (by intro _; rfl)) (pss_one (ps_expr (pe_bm PySem.F.plainAttrs_list PySem.F.slot_list_append PySem.F.type_list_append mt_append (pv 2) (pa_cons (pv 1) pa_nil)))) pss_nil)
  (pss_one (ps_expr (pe_bm PySem.F.plainAttrs_list PySem.F.slot_list_extend PySem.F.type_list_extend mt_extend (pv 2) (pa_cons (pe_callD G_bracketed (hr.mono (by first | decide | omega)) rfl (pa_cons (pv 3) (pa_cons (pe_callD G_kind_of (hr.mono (by first | decide | omega)) rfl (pa_cons (pv 0) pa_nil)) pa_nil))) pa_nil))))))
  (pss_one (ps_ret (pv 2))))), ?_⟩
  refine ⟨Nat.zero_le _, fun d hd => ?_⟩
  have s1 := Same.new hd (.lst [])
  have hv1 := ObjAt.keep (stillS s1) _ _ hv
  obtain ⟨a, dx, t, us, C, r0, ev, ha, ht, hus, hcl, hnw⟩ : ∃ (a dx t : Addr) (us : List V) (C : Addr) (r0 : List (Str × V)), v = .ref a ∧ (upd H d (.lst [])) a = some (.ins C dx ((Str.ofString "ways", .ref t) :: r0)) ∧ (upd H d (.lst [])) t = some (.tup us) ∧ ObjsAt c (upd H d (.lst [])) us x.inner ∧ Cls K C ∧ NoAttr K C "ways" := by
    rcases hrc with ⟨ws, rfl⟩ | ⟨ws, rfl⟩
    · obtain ⟨a, dx, t, us, ev, ha, ht, hus⟩ := id hv1
      exact ⟨a, dx, t, us, _, _, ev, ha, ht, hus, (A0.f (.row [])).cl, (A0.f (.row [])).nw⟩
    · obtain ⟨a, dx, t, us, ev, ha, ht, hus⟩ := id hv1
      exact ⟨a, dx, t, us, _, _, ev, ha, ht, hus, (A0.f (.choice [])).cl, (A0.f (.choice [])).nw⟩
  subst ev
  have hd1 : upd H d (.lst []) d = some (.lst []) := upd_same
  generalize upd H d (.lst []) = H1 at *
  walk_at "nx"
  refine ⟨_, rfl, a, C, dx, _, _, rfl, ha, hcl, hnw, rfl, t, rfl, ⟨us, SqT.of ht⟩, ?_⟩
  have hlu := ObjsAt.len _ _ hus
  have hls := W.sizes_len x.inner
  have hxs := x.size_inner
  refine for_tup (K := K) (a := t) (xs := us) (fun i σ H' => ∃ (ps : List V) (x3 : Option V), σ = [some (.ref a), some (.str b), some (.ref d), x3] ∧ H' d = some (.lst ps) ∧ PcsAt c H' ps (joinP x.kind b true (x.inner.take i)) ∧ Same H H' ∧ Still H1 H') ?_ ?_ ?_ ?_
  · exact ⟨[], none, rfl, hd1, rfl, s1, Still.refl _⟩
  · rintro i σ H' _ ⟨_, _, rfl, _, _, _, k2⟩
    exact SqT.of (k2.tup ht)
  · rintro i y σ H2 hy ⟨ps, x3, rfl, hd2, hps, s2, k2⟩
    have hi : i < us.length := (List.getElem?_eq_some_iff.mp hy).1
    obtain ⟨wi, hwi⟩ : ∃ wi, x.inner[i]? = some wi := ⟨x.inner[i]'(by omega), List.getElem?_eq_getElem (by omega)⟩
    obtain ⟨y', hy', hyw⟩ := ObjsAt.at_ _ _ _ _ hus hwi
    have ey : y = y' := Option.some.inj (hy.symm.trans hy')
    subst ey
    have hlp := PcsAt.len _ _ hps
    have hjl := joinP_len x.kind b (x.inner.take i) true
    rw [List.length_take] at hjl
    refine Wv.gset ?_
    with_reducible refine st_cut (fun σ' H' => ∃ ps' : List V, σ' = [some (.ref a), some (.str b), some (.ref d), some y] ∧ H' d = some (.lst ps') ∧ PcsAt c H' ps' (joinP x.kind b true (x.inner.take i) ++ (if x.inner.take i = [] then [] else [.s b])) ∧ Same H H' ∧ Still H1 H') (fun nx' go => ?_) ?_
    · refine ⟨_, rfl, _, .inl ⟨_, SqL.of hd2, rfl⟩, ?_⟩
      refine ite2 (fun t1 => ?_) (fun t1 => ?_)
      · have hne : x.inner.take i ≠ [] := fun e => by
          rw [e] at hps
          rw [show ps = [] from hps] at t1
          cases t1
        refine ⟨_, rfl, .inl ⟨rfl, _, SqL.of hd2⟩, _, rfl, d, _, _, rfl, rfl, hd2, small' (by omega), ?_⟩
        have k3 : Still H2 (upd H2 d (.lst (ps ++ [.str b]))) := Still.put hd2
        refine go _ _ ⟨_, rfl, upd_same, ?_, Same.put hd s2 _, k2.trans k3⟩
        rw [if_neg hne]
        exact PcsAt.app _ _ (PcsAt.keep k3 _ _ hps) ⟨_, [], rfl, rfl, rfl⟩
      · have hne : x.inner.take i = [] := by
          cases q : x.inner.take i with
          | nil => rfl
          | cons w0 r =>
            rw [q] at hlp
            have h0 : ps = [] := by simpa using t1
            rw [h0] at hlp
            exact absurd (List.eq_nil_of_length_eq_zero hlp.symm) (joinP_ne _ _ _ _ _)
        refine go _ _ ⟨ps, rfl, hd2, ?_, s2, k2⟩
        rw [if_pos hne, List.append_nil]
        exact hps
    · rintro σ' H3 ⟨ps', rfl, hd3, hps3, s3, k3⟩
      have hlp3 := PcsAt.len _ _ hps3
      have hv3 := ObjAt.keep k3 _ _ hv1
      have hy3 := ObjAt.keep k3 _ _ hyw
      refine ⟨_, rfl, .inl ⟨rfl, _, SqL.of hd3⟩, _, rfl, _, rfl, .ref a, x, rfl, hv3, y, wi, x.kind, rfl, hy3, fun q ps4 H4 s4 hq4 hps4 => ?_⟩
      have hd4 := s4 _ _ hd3
      have hl4 := PcsAt.len _ _ hps4
      have hb4 := brP_len wi x.kind
      refine ⟨d, q, _, _, rfl, rfl, hd4, hq4, ?_, ?_⟩
      · refine Nat.le_of_lt (small' ?_)
        rw [hlp3, hl4, List.length_append]
        have : (if x.inner.take i = [] then ([] : List Piece) else [.s b]).length ≤ 1 := by split <;> simp
        omega
      · walk_at "nx"
        have k5 : Still H4 (upd H4 d (.lst (ps' ++ ps4))) := Still.put hd4
        refine ⟨_, _, rfl, upd_same, ?_, Same.put hd (s3.trans s4) _, k3.trans ((stillS s4).trans k5)⟩
        rw [take_more hwi, joinP_app, ← List.append_assoc]
        have e : (if true = true ∧ x.inner.take i = [] then ([] : List Piece) else [.s b]) = (if x.inner.take i = [] then [] else [.s b]) := by simp
        rw [e]
        exact PcsAt.app _ _ (PcsAt.keep ((stillS s4).trans k5) _ _ hps3) (PcsAt.keep k5 _ _ hps4)
  · rintro σ H2 ⟨ps, x3, rfl, hd2, hps, s2, k2⟩
    rw [hlu, List.take_length] at hps
    walk_at "nx"
    walk_at "rd"
    exact k d ps H2 s2 hd2 hps
abbrev s_spelled : Stmt := top 39
theorem sc_spelled : FnScope ["way", "kind", "inner"] ["way"] (defScope s_spelled) := ⟨rfl, rfl, rfl, by decide +kernel, rfl, by decide +kernel, by decide +kernel⟩
theorem d_spelled (h : Here K mg "spelled" s_spelled ["way"]) (A0 : AllF K mg c) (CN : Kc mg) (G_kind_of : DefOk P w K mg base 1 "kind_of" ["way"] (spKind c)) (G_bracketed : DefOk P w K mg base 2 "bracketed" ["part", "around"] (spBr c)) (G_joined : DefOk P w K mg base 3 "joined" ["way", "between"] (spJoin c)) :
    DefOk P w K mg base 4 "spelled" ["way"] (spSpell c) := by
  have GC_LETTER := CN.k0; have GC_ONE := CN.k1; have GC_NOTHING := CN.k2; have GC_ROW := CN.k3; have GC_CHOICE := CN.k4; have GC_AGAIN := CN.k5; have GC_AHEAD := CN.k7; have GC_UNLESS := CN.k8; have GC_CALL := CN.k9
  refine h.ok sc_spelled (fun vs H Q E h => by obtain ⟨_, _, rfl, _⟩ := h; rfl) (fun f cdv A outer s' H vs Q E hr h => ?_)
  obtain ⟨v, x, rfl, hv, hsz, k⟩ := h
  refine ⟨_, (pss_cons (ps_set (i := 1) sc_spelled.nd rfl (Or.inl rfl) (pe_callD G_kind_of (hr.mono (by first | decide | omega)) rfl (pa_cons (pv 0) pa_nil)))
  (pss_cons (ps_if (pt_cmpR op_eq (pv 1) (pe_globI rfl GC_LETTER) (nomark _)) (pss_one (ps_ret (pe_lst (pa_cons (pe_fld (pv 0) rfl) pa_nil)))) pss_nil)
  (pss_cons (ps_if (pt_cmpR op_eq (pv 1) (pe_globI rfl GC_ONE) (nomark _)) (pss_one (ps_ret (pe_lst (pa_cons pe_str pa_nil)))) pss_nil)
  (pss_cons (ps_if (pt_cmpR op_eq (pv 1) (pe_globI rfl GC_NOTHING) (nomark _)) (pss_one (ps_ret (pe_lst (pa_cons pe_str pa_nil)))) pss_nil)
  (pss_cons (ps_if (pt_cmpR op_eq (pv 1) (pe_globI rfl GC_CALL) (nomark _)) (pss_one (ps_ret (pe_lst (pa_cons pe_str (pa_cons (pe_fld (pv 0) rfl) (pa_cons pe_str pa_nil)))))) pss_nil)
  (pss_cons (ps_if (pt_cmpR op_eq (pv 1) (pe_globI rfl GC_ROW) (nomark _)) (pss_one (ps_ret (pe_callD G_joined (hr.mono (by first | decide | omega)) rfl (pa_cons (pv 0) (pa_cons pe_str pa_nil))))) pss_nil)
  (pss_cons (ps_if (pt_cmpR op_eq (pv 1) (pe_globI rfl GC_CHOICE) (nomark _)) (pss_one (ps_ret (pe_callD G_joined (hr.mono (by first | decide | omega)) rfl (pa_cons (pv 0) (pa_cons pe_str pa_nil))))) pss_nil)
  (pss_cons (ps_set (i := 2) sc_spelled.nd rfl (Or.inl rfl) (pe_callD G_bracketed (hr.mono (by first | decide | omega)) rfl (pa_cons (pe_fld (pv 0) rfl) (pa_cons (pv 1) pa_nil))))
  (pss_cons (ps_if (pt_cmpR op_eq (pv 1) (pe_globI rfl GC_AHEAD) (nomark _)) (pss_one (ps_ret (pe_lst (pa_cons pe_str (StX.pa_star (pv 2) pa_nil))))) pss_nil)
  (pss_cons (ps_if (pt_cmpR op_eq (pv 1) (pe_globI rfl GC_UNLESS) (nomark _)) (pss_one (ps_ret (pe_lst (pa_cons pe_str (StX.pa_star (pv 2) pa_nil))))) pss_nil)
  (pss_one (ps_ret (pe_lst (StX.pa_star (pv 2) (pa_cons (pe_ifExp (pt_cmpR op_eq (pv 1) (pe_globI rfl GC_AGAIN) (nomark _)) pe_str pe_str) pa_nil))))))))))))))), ?_⟩
  refine ⟨_, rfl, v, x, rfl, hv, ?_⟩
  walk_at "nx"
  have one : ∀ (ps : List V) (qs : List Piece), ps.length ≤ 10 → (∀ q H', Same H H' → H' q = some (.lst ps) → PcsAt c H' ps qs) → spell x = qs → ps.length ≤ sizeLine ∧ ∀ p, H p = none → Q (.ref p) (upd H p (.lst ps)) := fun ps qs hl hp e => ⟨Nat.le_of_lt (small' (by omega)), fun p hp' => k p ps _ (Same.new hp' _) upd_same (by rw [e]; exact hp p _ (Same.new hp' _) upd_same)⟩
  cases x
  case letter y =>
    dsimp only [W.kind]
    refine ⟨_, rfl, rfl, _, rfl, iteT' (by decide) ?_⟩
    obtain ⟨a, d, ev, ha⟩ := id hv
    refine ⟨_, rfl, a, _, d, _, _, ev, ha, (A0.f (.letter 0)).cl, (A0.f (.letter 0)).nl, rfl, one [.str (sg y)] [.s (sg y)] (by simp) (fun q H' _ _ => ⟨_, [], rfl, rfl, rfl⟩) rfl⟩
  case one =>
    dsimp only [W.kind]
    repeat (refine ⟨_, rfl, rfl, _, rfl, iteN (by decide) ?_⟩; walk_at "nx")
    refine ⟨_, rfl, rfl, _, rfl, iteT' (by decide) ?_⟩
    exact one [.str (Str.ofString ".")] [.s (Str.ofString ".")] (by simp) (fun q H' _ _ => ⟨_, [], rfl, rfl, rfl⟩) rfl
  case nothing =>
    dsimp only [W.kind]
    repeat (refine ⟨_, rfl, rfl, _, rfl, iteN (by decide) ?_⟩; walk_at "nx")
    refine ⟨_, rfl, rfl, _, rfl, iteT' (by decide) ?_⟩
    exact one [.str (Str.ofString "()")] [.s (Str.ofString "()")] (by simp) (fun q H' _ _ => ⟨_, [], rfl, rfl, rfl⟩) rfl
  case call y =>
    dsimp only [W.kind]
    repeat (refine ⟨_, rfl, rfl, _, rfl, iteN (by decide) ?_⟩; walk_at "nx")
    refine ⟨_, rfl, rfl, _, rfl, iteT' (by decide) ?_⟩
    obtain ⟨a, d, ev, ha⟩ := id hv
    exact ⟨_, rfl, a, _, d, _, _, ev, ha, (A0.f (.call eS)).cl, (A0.f (.call eS)).nn, rfl, one [.str (Str.ofString "<"), .str y, .str (Str.ofString ">")] [.s (Str.ofString "<"), .s y, .s (Str.ofString ">")] (by simp) (fun q H' _ _ => ⟨_, _, rfl, rfl, _, _, rfl, rfl, _, [], rfl, rfl, rfl⟩) rfl⟩
  case row ws =>
    dsimp only [W.kind]
    repeat (refine ⟨_, rfl, rfl, _, rfl, iteN (by decide) ?_⟩; walk_at "nx")
    refine ⟨_, rfl, rfl, _, rfl, iteT' (by decide) ?_⟩
    exact ⟨_, rfl, v, .row ws, Str.ofString " ", rfl, hv, .inl ⟨ws, rfl⟩, hsz, fun q us H' s1 hq hp => k q us H' s1 hq hp⟩
  case choice ws =>
    dsimp only [W.kind]
    repeat (refine ⟨_, rfl, rfl, _, rfl, iteN (by decide) ?_⟩; walk_at "nx")
    refine ⟨_, rfl, rfl, _, rfl, iteT' (by decide) ?_⟩
    exact ⟨_, rfl, v, .choice ws, Str.ofString " / ", rfl, hv, .inr ⟨ws, rfl⟩, hsz, fun q us H' s1 hq hp => k q us H' s1 hq hp⟩
  case again y =>
    dsimp only [W.kind]
    repeat (refine ⟨_, rfl, rfl, _, rfl, iteN (by decide) ?_⟩; walk_at "nx")
    obtain ⟨a, d, u, mk, ev, ha, hu⟩ := id hv
    refine ⟨_, rfl, a, _, d, _, _, ev, ha, (A0.f (.again .one)).cl, (A0.f (.again .one)).np, rfl, _, rfl, u, y, 5, rfl, hu, fun q us H1 s1 hq hps => ?_⟩
    have hl := PcsAt.len _ _ hps
    have hb := brP_len y 5
    walk_at "nx"
    repeat (refine ⟨_, rfl, rfl, _, rfl, iteN (by decide) ?_⟩; walk_at "nx")
    refine ⟨_, rfl, q, us, rfl, .inr (SqL.of hq), _, rfl, rfl, _, rfl, iteT' (by decide) ⟨?_, fun p hp => ?_⟩⟩
    · exact Nat.le_of_lt (small' (by rw [List.length_append, List.length_singleton]; omega))
    · exact k p _ _ (s1.trans (Same.new hp _)) upd_same (PcsAt.app _ _ (PcsAt.keep (stillS (Same.new hp _)) _ _ hps) ⟨_, [], rfl, rfl, rfl⟩)
  case maybe y =>
    dsimp only [W.kind]
    repeat (refine ⟨_, rfl, rfl, _, rfl, iteN (by decide) ?_⟩; walk_at "nx")
    obtain ⟨a, d, u, mk, ev, ha, hu⟩ := id hv
    refine ⟨_, rfl, a, _, d, _, _, ev, ha, (A0.f (.maybe .one)).cl, (A0.f (.maybe .one)).np, rfl, _, rfl, u, y, 6, rfl, hu, fun q us H1 s1 hq hps => ?_⟩
    have hl := PcsAt.len _ _ hps
    have hb := brP_len y 6
    walk_at "nx"
    repeat (refine ⟨_, rfl, rfl, _, rfl, iteN (by decide) ?_⟩; walk_at "nx")
    refine ⟨_, rfl, q, us, rfl, .inr (SqL.of hq), _, rfl, rfl, _, rfl, iteN (by decide) ⟨?_, fun p hp => ?_⟩⟩
    · exact Nat.le_of_lt (small' (by rw [List.length_append, List.length_singleton]; omega))
    · exact k p _ _ (s1.trans (Same.new hp _)) upd_same (PcsAt.app _ _ (PcsAt.keep (stillS (Same.new hp _)) _ _ hps) ⟨_, [], rfl, rfl, rfl⟩)
  case ahead y =>
    dsimp only [W.kind]
    repeat (refine ⟨_, rfl, rfl, _, rfl, iteN (by decide) ?_⟩; walk_at "nx")
    obtain ⟨a, d, u, mk, ev, ha, hu⟩ := id hv
    refine ⟨_, rfl, a, _, d, _, _, ev, ha, (A0.f (.ahead .one)).cl, (A0.f (.ahead .one)).np, rfl, _, rfl, u, y, 7, rfl, hu, fun q us H1 s1 hq hps => ?_⟩
    have hl := PcsAt.len _ _ hps
    have hb := brP_len y 7
    walk_at "nx"
    refine ⟨_, rfl, rfl, _, rfl, iteT' (by decide) ?_⟩
    refine ⟨_, rfl, q, us, rfl, .inr (SqL.of hq), ?_, fun p hp => ?_⟩
    · exact Nat.le_of_lt (small' (by simp only [List.length_append, List.length_cons, List.length_nil]; omega))
    · exact k p _ _ (s1.trans (Same.new hp _)) upd_same ⟨_, _, rfl, rfl, by simpa using PcsAt.keep (stillS (Same.new hp _)) _ _ hps⟩
  case «unless» y =>
    dsimp only [W.kind]
    repeat (refine ⟨_, rfl, rfl, _, rfl, iteN (by decide) ?_⟩; walk_at "nx")
    obtain ⟨a, d, u, mk, ev, ha, hu⟩ := id hv
    refine ⟨_, rfl, a, _, d, _, _, ev, ha, (A0.f (.unless .one)).cl, (A0.f (.unless .one)).np, rfl, _, rfl, u, y, 8, rfl, hu, fun q us H1 s1 hq hps => ?_⟩
    have hl := PcsAt.len _ _ hps
    have hb := brP_len y 8
    walk_at "nx"
    repeat (refine ⟨_, rfl, rfl, _, rfl, iteN (by decide) ?_⟩; walk_at "nx")
    refine ⟨_, rfl, rfl, _, rfl, iteT' (by decide) ?_⟩
    refine ⟨_, rfl, q, us, rfl, .inr (SqL.of hq), ?_, fun p hp => ?_⟩
    · exact Nat.le_of_lt (small' (by simp only [List.length_append, List.length_cons, List.length_nil]; omega))
    · exact k p _ _ (s1.trans (Same.new hp _)) upd_same ⟨_, _, rfl, rfl, by simpa using PcsAt.keep (stillS (Same.new hp _)) _ _ hps⟩
end
end Ws
namespace Ws
open PySem PySem.Spec PyProof.Rows L2 Wv
/-! ### the pieces of a text, and the text -/
def flat : Nat → List Piece → List Str
  | 0, _ => []
  | _ + 1, [] => []
  | n + 1, .s x :: r => x :: flat n r
  | n + 1, .w w :: r => flat n (spell w ++ r)
def wt1 : Piece → Nat
  | .s _ => 1
  | .w w => 14 * w.size - 10
def wt : List Piece → Nat
  | [] => 0
  | p :: r => wt1 p + wt r
theorem wt_app : ∀ (a b : List Piece), wt (a ++ b) = wt a + wt b
  | [], b => by simp [wt]
  | p :: a, b => by simp only [List.cons_append, wt, wt_app a b]; omega
theorem wt_len : ∀ a : List Piece, a.length ≤ wt a
  | [] => Nat.le_refl _
  | p :: a => by
    have := wt_len a
    have h : 1 ≤ wt1 p := by
      cases p with
      | s x => exact Nat.le_refl _
      | w w => have := w.size_pos; show 1 ≤ 14 * w.size - 10; omega
    simp only [List.length_cons, wt]; omega
theorem wt_br (w : W) (k : Nat) : wt (brP w k) ≤ 14 * w.size - 8 := by
  have := w.size_pos
  unfold brP
  split
  · show 1 + ((14 * w.size - 10) + (1 + 0)) ≤ _; omega
  · show (14 * w.size - 10) + 0 ≤ _; omega
theorem wt_join (k : Nat) (b : Str) : ∀ (ws : List W) (f : Bool), wt (joinP k b f ws) + 7 * ws.length ≤ 14 * W.sizes ws
  | [], _ => Nat.le_refl _
  | w :: ws, f => by
    have h1 := wt_br w k
    have h2 := wt_join k b ws false
    have h3 := w.size_pos
    show wt ((if f = true then ([] : List Piece) else [Piece.s b]) ++ brP w k ++ joinP k b false ws) + 7 * (ws.length + 1) ≤ 14 * (w.size + W.sizes ws)
    rw [wt_app, wt_app]
    have h4 : wt (if f = true then ([] : List Piece) else [Piece.s b]) ≤ 1 := by cases f <;> simp [wt, wt1]
    omega
theorem wt_spell (w : W) : wt (spell w) + 1 ≤ 14 * w.size - 10 := by
  cases w with
  | nothing => decide
  | one => decide
  | letter x => show 1 + 0 + 1 ≤ 14 * 1 - 10; decide
  | call x => show 1 + (1 + (1 + 0)) + 1 ≤ 14 * 1 - 10; decide
  | row ws =>
    have := wt_join 3 (Str.ofString " ") ws true
    show wt (joinP 3 (Str.ofString " ") true ws) + 1 ≤ 14 * (1 + W.sizes ws) - 10
    omega
  | choice ws =>
    have := wt_join 4 (Str.ofString " / ") ws true
    show wt (joinP 4 (Str.ofString " / ") true ws) + 1 ≤ 14 * (1 + W.sizes ws) - 10
    omega
  | again w =>
    have := wt_br w 5
    have := w.size_pos
    show wt (brP w 5 ++ [.s (Str.ofString "*")]) + 1 ≤ 14 * (1 + w.size) - 10
    rw [wt_app]
    show wt (brP w 5) + (1 + 0) + 1 ≤ _
    omega
  | maybe w =>
    have := wt_br w 6
    have := w.size_pos
    show wt (brP w 6 ++ [.s (Str.ofString "?")]) + 1 ≤ 14 * (1 + w.size) - 10
    rw [wt_app]
    show wt (brP w 6) + (1 + 0) + 1 ≤ _
    omega
  | ahead w =>
    have := wt_br w 7
    have := w.size_pos
    show 1 + wt (brP w 7) + 1 ≤ 14 * (1 + w.size) - 10
    omega
  | «unless» w =>
    have := wt_br w 8
    have := w.size_pos
    show 1 + wt (brP w 8) + 1 ≤ 14 * (1 + w.size) - 10
    omega
theorem mem_br {w w0 : W} {k : Nat} (h : Piece.w w0 ∈ brP w k) : w0 = w := by
  unfold brP at h
  split at h
  · simp only [List.mem_cons, List.not_mem_nil, or_false] at h
    rcases h with h | h | h
    · cases h
    · injection h
    · cases h
  · have : Piece.w w0 = Piece.w w := by simpa using h
    injection this
theorem mem_join {k : Nat} {b : Str} {w0 : W} : ∀ {ws : List W} {f : Bool}, Piece.w w0 ∈ joinP k b f ws → w0.size ≤ W.sizes ws
  | [], _, h => by cases h
  | w :: ws, f, h => by
    have h' : Piece.w w0 ∈ (if f = true then ([] : List Piece) else [Piece.s b]) ++ brP w k ++ joinP k b false ws := h
    rw [List.mem_append, List.mem_append] at h'
    show _ ≤ w.size + W.sizes ws
    rcases h' with (h' | h') | h'
    · cases f
      · have : Piece.w w0 = Piece.s b := by simpa using h'
        cases this
      · cases h'
    · rw [mem_br h']; omega
    · have := mem_join h'
      omega
theorem mem_spell {w w0 : W} (h : Piece.w w0 ∈ spell w) : w0.size ≤ w.size := by
  cases w with
  | nothing => simp [spell] at h
  | one => simp [spell] at h
  | letter x => simp [spell] at h
  | call x => simp [spell] at h
  | row ws => have := mem_join (ws := ws) h; show _ ≤ 1 + W.sizes ws; omega
  | choice ws => have := mem_join (ws := ws) h; show _ ≤ 1 + W.sizes ws; omega
  | again w =>
    have h' : Piece.w w0 ∈ brP w 5 ++ [Piece.s (Str.ofString "*")] := h
    rcases List.mem_append.mp h' with h' | h'
    · rw [mem_br h']; show _ ≤ 1 + w.size; omega
    · simp at h'
  | maybe w =>
    have h' : Piece.w w0 ∈ brP w 6 ++ [Piece.s (Str.ofString "?")] := h
    rcases List.mem_append.mp h' with h' | h'
    · rw [mem_br h']; show _ ≤ 1 + w.size; omega
    · simp at h'
  | ahead w =>
    have h' : Piece.w w0 ∈ Piece.s (Str.ofString "&") :: brP w 7 := h
    rcases List.mem_cons.mp h' with h' | h'
    · cases h'
    · rw [mem_br h']; show _ ≤ 1 + w.size; omega
  | «unless» w =>
    have h' : Piece.w w0 ∈ Piece.s (Str.ofString "!") :: brP w 8 := h
    rcases List.mem_cons.mp h' with h' | h'
    · cases h'
    · rw [mem_br h']; show _ ≤ 1 + w.size; omega
def pcs (w : W) : List Str := flat (14 * w.size) [.w w]
theorem PcsAt.split {c : Cs} {H : Hp} : ∀ (a : List Piece) (p : Piece) (vs : List V), PcsAt c H vs (a ++ [p]) → ∃ us u, vs = us ++ [u] ∧ PcsAt c H us a ∧ PieceAt c H u p
  | [], p, vs, ⟨u, us, e, h, h2⟩ => ⟨[], u, by rw [e, show us = [] from h2]; rfl, rfl, h⟩
  | x :: a, p, vs, ⟨u, us, e, h, h2⟩ => by
    obtain ⟨us', u', e', h3, h4⟩ := PcsAt.split a p us h2
    exact ⟨u :: us', u', by rw [e, e']; rfl, ⟨u, us', rfl, h, h3⟩, h4⟩
theorem PcsAt.rev {c : Cs} {H : Hp} : ∀ (ps : List Piece) (vs : List V), PcsAt c H vs ps → PcsAt c H vs.reverse ps.reverse
  | [], vs, h => by rw [show vs = [] from h]; rfl
  | p :: ps, vs, ⟨u, us, e, hu, h⟩ => by
    rw [e, List.reverse_cons, List.reverse_cons]
    exact PcsAt.app _ _ (PcsAt.rev ps us h) ⟨u, [], rfl, hu, rfl⟩
def spPieces (c : Cs) : Sp := fun vs H Q _ => ∃ (v : V) (w : W), vs = [v] ∧ ObjAt c H v w ∧ w.size ≤ 1000 ∧ ∀ (q : Addr) (H' : Hp), Same H H' → H' q = some (.lst ((pcs w).map V.str)) → (pcs w).length ≤ 14000 → Q (.ref q) H'
theorem flat_len : ∀ (n : Nat) (ps : List Piece), (flat n ps).length ≤ n
  | 0, _ => Nat.le_refl _
  | _ + 1, [] => Nat.zero_le _
  | n + 1, .s x :: r => by
    have := flat_len n r
    show (flat n r).length + 1 ≤ n + 1
    omega
  | n + 1, .w w :: r => Nat.le_succ_of_le (flat_len n _)
section
variable {P : Program} {w : World} {K : PySem.W.Frag} {mg : Str → Option Value} {base : Heap} {c : Cs}
abbrev s_pieces_of : Stmt := top 38
theorem sc_pieces_of : FnScope ["way", "pieces", "todo", "piece"] ["way"] (defScope s_pieces_of) := ⟨rfl, rfl, rfl, by decide +kernel, rfl, by decide +kernel, by decide +kernel⟩
theorem d_pieces_of (h : Here K mg "pieces_of" s_pieces_of ["way"]) (A0 : AllF K mg c) (hS : ∀ x : W, PySem.W.kitOne K (.ref (c.of x)) (.type "str") = some false) (B_str : mg "str" = none) (B : Bs mg) (G_spelled : DefOk P w K mg base 4 "spelled" ["way"] (spSpell c)) :
    DefOk P w K mg base 5 "pieces_of" ["way"] (spPieces c) := by
  have B_isinstance := B.isinstance
  refine h.ok sc_pieces_of (fun vs H Q E h => by obtain ⟨_, _, rfl, _⟩ := h; rfl) (fun f cdv A outer s' H vs Q E hr h => ?_)
  obtain ⟨v, x, rfl, hv, hsz, k⟩ := h
  refine ⟨_, (pss_cons (ps_set (i := 1) sc_pieces_of.nd rfl (Or.inl rfl) (pe_lst pa_nil))
  (pss_cons (ps_set (i := 2) sc_pieces_of.nd rfl (Or.inl rfl) (pe_lst (pa_cons (pv 0) pa_nil)))
  (pss_cons (ps_while PassesOwn.never (pt_truth (pv 2) (by intro _; rfl)) (pss_cons (ps_set (i := 3) sc_pieces_of.nd rfl (Or.inl rfl) (pe_bm0 PySem.F.plainAttrs_list PySem.F.slot_list_pop PySem.F.type_list_pop mt_pop (pv 2)))
  (pss_one (ps_if (pt_val (pe_callB call_isi rfl B_isinstance (by decide +kernel) (pa_cons (pv 3) (pa_cons (pe_bltn (v := V.ty "str") rfl B_str (by decide +kernel) rfl) pa_nil)))) (pss_one (ps_expr (pe_bm PySem.F.plainAttrs_list PySem.F.slot_list_append PySem.F.type_list_append mt_append (pv 1) (pa_cons (pv 3) pa_nil)))) (pss_one (ps_expr (pe_bm PySem.F.plainAttrs_list PySem.F.slot_list_extend PySem.F.type_list_extend mt_extend (pv 2) (pa_cons (pe_revL (pe_callD G_spelled (hr.mono (by first | decide | omega)) rfl (pa_cons (pv 3) pa_nil))) pa_nil))))))))
  (pss_one (ps_ret (pv 1)))))), ?_⟩
  refine ⟨Nat.zero_le _, fun p hp => ?_⟩
  have s1 := Same.new hp (.lst [])
  walk_at "nx"
  refine ⟨_, rfl, by show 1 ≤ sizeLine; decide, fun t ht => ?_⟩
  have s2 := s1.trans (Same.new ht (.lst [v]))
  have npt : p ≠ t := ne_of_none upd_same ht
  have htH : H t = none := by rw [upd_ne npt.symm] at ht; exact ht
  have hp2 : upd (upd H p (.lst [])) t (.lst [v]) p = some (.lst []) := by rw [upd_ne npt]; exact upd_same
  have ht2 : upd (upd H p (.lst [])) t (.lst [v]) t = some (.lst [v]) := upd_same
  generalize upd (upd H p (.lst [])) t (.lst [v]) = H1 at *
  walk_at "nx"
  refine while_r (fun m σ H' => ∃ (ps : List Str) (ts : List V) (stk : List Piece) (x3 : Option V), σ = [some v, some (.ref p), some (.ref t), x3] ∧ H' p = some (.lst (ps.map V.str)) ∧ H' t = some (.lst ts) ∧ PcsAt c H' ts.reverse stk ∧ wt stk ≤ m ∧ ps ++ flat m stk = pcs x ∧ m ≤ 14000 ∧ ps.length + m ≤ 14000 ∧ (∀ w, Piece.w w ∈ stk → w.size ≤ 1000) ∧ Same H H') (14 * x.size) ?_ ?_
  · refine ⟨[], [v], [.w x], none, rfl, hp2, ht2, ⟨v, [], rfl, ObjAt.keep (stillS s2) _ _ hv, rfl⟩, ?_, rfl, by omega, by simp; omega, ?_, s2⟩
    · show 14 * x.size - 10 + 0 ≤ _; omega
    · intro w0 hw
      have : Piece.w w0 = Piece.w x := by simpa using hw
      cases this
      exact hsz
  · rintro m σ H2 ⟨ps, ts, stk, x3, rfl, hp3, ht3, hts, hwt, hfl, hm, hlm, hss, s3⟩
    refine ⟨fun b H' => b = !ts.isEmpty ∧ H' = H2, fun Q' hq => ⟨_, rfl, _, .inl ⟨_, SqL.of ht3, rfl⟩, hq _ _ ⟨rfl, rfl⟩⟩, ?_⟩
    rintro b H2 ⟨rfl, rfl⟩
    cases stk with
    | nil =>
      have e0 : ts = [] := by
        have : ts.reverse = [] := hts
        simpa using this
      subst e0
      refine iteF ?_
      walk_at "nx"
      walk_at "rd"
      have e1 : flat m [] = [] := by cases m <;> rfl
      rw [e1, List.append_nil] at hfl
      subst hfl
      exact k p H2 s3 hp3 (by omega)
    | cons pc stk =>
      obtain ⟨u, us, eu, hu, hus⟩ := hts
      have et : ts = us.reverse ++ [u] := by
        have := congrArg List.reverse eu
        simpa using this
      subst et
      have hw1 : 1 ≤ wt1 pc := by
        have := wt_len [pc]
        simpa [wt] using this
      have hwt' : wt1 pc + wt stk ≤ m := hwt
      obtain ⟨m, rfl⟩ : ∃ g, m = g + 1 := ⟨m - 1, by omega⟩
      have hlen := PcsAt.len _ _ hus
      have hwl := wt_len stk
      refine iteT' (by simp) ?_
      walk_at "nx"
      refine ⟨_, rfl, .inl ⟨rfl, _, SqL.of ht3⟩, t, _, _, rfl, rfl, ht3, last_get _ _, ?_⟩
      rw [List.dropLast_concat]
      have k4 : Still H2 (upd H2 t (.lst us.reverse)) := Still.put ht3
      have ht4 : upd H2 t (.lst us.reverse) t = some (.lst us.reverse) := upd_same
      have hp4 : upd H2 t (.lst us.reverse) p = some (.lst (ps.map V.str)) := by rw [upd_ne npt]; exact hp3
      have s4 : Same H (upd H2 t (.lst us.reverse)) := Same.put htH s3 _
      generalize upd H2 t (.lst us.reverse) = H4 at *
      walk_at "nx"
      cases pc with
      | s y =>
        have ey : u = .str y := hu
        subst ey
        refine ⟨_, rfl, .str y, .ty "str", _, _, _, rfl, .ty "str", .base (.str y), kit_ty (by decide +kernel), _, rfl, iteT' rfl ?_⟩
        refine ⟨_, rfl, .inl ⟨rfl, _, SqL.of hp4⟩, _, rfl, p, _, _, rfl, rfl, hp4, small' (by rw [List.length_map]; omega), ?_⟩
        walk_at "nx"
        have k5 : Still H4 (upd H4 p (.lst (ps.map V.str ++ [.str y]))) := Still.put hp4
        refine ⟨m, Nat.lt_succ_self _, ps ++ [y], us.reverse, stk, _, rfl, ?_, by rw [upd_ne npt.symm]; exact ht4, by rw [List.reverse_reverse]; exact PcsAt.keep (k4.trans k5) _ _ hus, ?_, ?_, by omega, ?_, fun w0 hw => hss w0 (List.mem_cons_of_mem _ hw), Same.put hp s4 _⟩
        · rw [upd_same, List.map_append]; rfl
        · have : wt1 (.s y) = 1 := rfl
          omega
        · rw [← hfl, List.append_assoc]; rfl
        · rw [List.length_append, List.length_singleton]; omega
      | w y =>
        have hy : ObjAt c H2 u y := hu
        have hy4 := ObjAt.keep k4 _ _ hy
        have hys := hss y List.mem_cons_self
        refine ⟨_, rfl, u, .ty "str", _, _, _, rfl, .ty "str", hy4.ty A0, hS y, _, rfl, iteF ?_⟩
        refine ⟨_, rfl, .inl ⟨rfl, _, SqL.of ht4⟩, _, rfl, u, y, rfl, hy4, hys, fun q qs H5 s5 hq hqs => ?_⟩
        refine ⟨q, qs, rfl, SqL.of hq, fun r hr => ?_⟩
        have s6 := Same.new hr (.lst qs.reverse)
        have ht6 := s6 _ _ (s5 _ _ ht4)
        have hr6 : upd H5 r (.lst qs.reverse) r = some (.lst qs.reverse) := upd_same
        have hlq := PcsAt.len _ _ hqs
        have hws := wt_spell y
        have hwl2 := wt_len (spell y)
        generalize upd H5 r (.lst qs.reverse) = H6 at *
        have ew : wt1 (.w y) = 14 * y.size - 10 := rfl
        refine ⟨t, r, _, _, rfl, rfl, ht6, hr6, Nat.le_of_lt (small' (by rw [List.length_reverse, List.length_reverse]; omega)), ?_⟩
        walk_at "nx"
        have k7 : Still H6 (upd H6 t (.lst (us.reverse ++ qs.reverse))) := Still.put ht6
        refine ⟨m, Nat.lt_succ_self _, ps, _, spell y ++ stk, _, rfl, by rw [upd_ne npt]; exact s6 _ _ (s5 _ _ hp4), upd_same, ?_, ?_, ?_, by omega, by omega, ?_, Same.put htH ((s4.trans s5).trans s6) _⟩
        · rw [List.reverse_append, List.reverse_reverse, List.reverse_reverse]
          exact PcsAt.app _ _ (PcsAt.keep ((stillS s6).trans k7) _ _ hqs) (PcsAt.keep ((k4.trans (stillS (s5.trans s6))).trans k7) _ _ hus)
        · rw [wt_app]; omega
        · rw [← hfl]; rfl
        · intro w0 hw
          rcases List.mem_append.mp hw with hw | hw
          · have := mem_spell hw; omega
          · exact hss w0 (List.mem_cons_of_mem _ hw)
def txt (w : W) : Str := Txt.join (Str.ofString "") (pcs w)
def spStr (c : Cs) : Sp := fun vs H Q _ => ∃ (v : V) (w : W), vs = [v] ∧ ObjAt c H v w ∧ w.size ≤ 1000 ∧ ((pcs w).map (·.length)).sum ≤ 1000000 ∧ ∀ H', Same H H' → Q (.str (txt w)) H'
abbrev s_Way_str : Stmt := inClass (top 20) 5
theorem sc_Way_str : FnScope ["self"] ["self"] (defScope s_Way_str) := ⟨rfl, rfl, rfl, by decide +kernel, rfl, by decide +kernel, by decide +kernel⟩
theorem ok_Way_str {f : Addr} {fd : FuncData} (F : Fun K "__str__" "Way.__str__" s_Way_str f fd) (G_pieces_of : DefOk P w K mg base 5 "pieces_of" ["way"] (spPieces c)) : FnOk P w K mg base CX0 6 f fd ["self"] (spStr c) := by
  refine F.ok sc_Way_str (fun vs H Q E h => by obtain ⟨_, _, rfl, _⟩ := h; rfl) (fun cdv A outer s' H vs Q E hr h => ?_)
  obtain ⟨v, x, rfl, hv, hsz, hsum, k⟩ := h
  refine ⟨_, (pss_one (ps_ret (pe_join pe_str (pe_callD G_pieces_of (hr.mono (by first | decide | omega)) rfl (pa_cons (pv 0) pa_nil))))), ?_⟩
  refine ⟨⟨_, rfl⟩, _, rfl, v, x, rfl, hv, hsz, fun q H' s1 hq hl => ?_⟩
  have e0 : (Str.ofString "").length = 0 := by decide +kernel
  refine ⟨_, q, pcs x, rfl, rfl, .inl (SqL.of hq), ?_, k H' s1⟩
  rw [e0, Nat.mul_zero, Nat.add_zero]
  omega
end
end Ws
/-! texts with more or fewer spaces, and how the scanner goes over them: pure facts -/
namespace Ws
open PySem PySem.Spec PyProof.Rows L2 Wv
/-- these signs one behind the other, spaces ahead of each and at the end -/
inductive Loose : List (List Nat) → List Nat → Prop where
  | nil (n : Nat) : Loose [] (List.replicate n 32)
  | cons (n : Nat) (t : List Nat) {ts : List (List Nat)} {r : List Nat} (h : Loose ts r) : Loose (t :: ts) (List.replicate n 32 ++ (t ++ r))
theorem blanks_rep : ∀ (n : Nat) (c : Nat) (r : List Nat), c ≠ 32 → blanks (List.replicate n 32 ++ c :: r) = n
  | 0, c, r, h => if_neg h
  | n + 1, c, r, h => by
    rw [List.replicate_succ, List.cons_append]
    show (if (32 : Nat) = 32 then blanks (List.replicate n 32 ++ c :: r) + 1 else 0) = _
    rw [if_pos rfl, blanks_rep n c r h]
theorem blanks_all : ∀ n : Nat, blanks (List.replicate n 32) = n
  | 0 => rfl
  | n + 1 => by
    rw [List.replicate_succ]
    show (if (32 : Nat) = 32 then blanks (List.replicate n 32) + 1 else 0) = _
    rw [if_pos rfl, blanks_all n]
/-- what stands from the place on -/
def Sc.rest (s : Sc) : List Nat := s.z.drop s.pl
def Sc.At (s : Sc) (ts : List (List Nat)) : Prop := Loose ts s.rest
theorem Sc.cur_rest (s : Sc) : s.cur = s.rest[0]? := by
  unfold Sc.cur Sc.rest
  rw [List.getElem?_drop, Nat.add_zero]
theorem Sc.skip_rest (s : Sc) : s.skip.rest = s.rest.drop (blanks s.rest) := by
  show s.z.drop (s.pl + blanks (s.z.drop s.pl)) = (s.z.drop s.pl).drop (blanks (s.z.drop s.pl))
  rw [List.drop_drop]
theorem Sc.go_rest (s : Sc) : s.go.rest = s.rest.drop 1 := by
  show s.z.drop (s.pl + 1) = (s.z.drop s.pl).drop 1
  rw [List.drop_drop]
/-- the next sign -/
theorem at_tok {s : Sc} {c : Nat} {t : List Nat} {ts : List (List Nat)} (h : s.At ((c :: t) :: ts)) (hc : c ≠ 32) : s.skip.cur = some c ∧ ∃ r, s.skip.rest = c :: (t ++ r) ∧ Loose ts r := by
  generalize e : s.rest = z at h
  unfold Sc.At at h
  rw [e] at h
  cases h with
  | @cons n _ _ r h' =>
    have e2 : s.skip.rest = c :: (t ++ r) := by
      rw [Sc.skip_rest, e]
      show (List.replicate n 32 ++ c :: (t ++ r)).drop (blanks (List.replicate n 32 ++ c :: (t ++ r))) = _
      rw [blanks_rep n c _ hc, List.drop_left' (by simp)]
    exact ⟨by rw [Sc.cur_rest, e2]; rfl, _, e2, h'⟩
theorem at_one {s : Sc} {c : Nat} {ts : List (List Nat)} (h : s.At ([c] :: ts)) (hc : c ≠ 32) : s.skip.cur = some c ∧ s.skip.go.At ts := by
  obtain ⟨h1, r, h2, h3⟩ := at_tok h hc
  refine ⟨h1, ?_⟩
  unfold Sc.At
  rw [Sc.go_rest, h2]
  exact h3
theorem at_end {s : Sc} (h : s.At []) : s.skip.cur = none := by
  generalize e : s.rest = z at h
  unfold Sc.At at h
  rw [e] at h
  cases h with
  | nil n =>
    rw [Sc.cur_rest, Sc.skip_rest, e, blanks_all]
    simp
/-- spaces are gone over: still there -/
theorem at_skip1 {s : Sc} {c : Nat} {t : List Nat} {ts : List (List Nat)} (h : s.At ((c :: t) :: ts)) (hc : c ≠ 32) : s.skip.At ((c :: t) :: ts) := by
  obtain ⟨_, r, h2, h3⟩ := at_tok h hc
  unfold Sc.At
  rw [h2]
  exact Loose.cons 0 (c :: t) h3
theorem at_skip0 {s : Sc} (h : s.At []) : s.skip.At [] := by
  generalize e : s.rest = z at h
  unfold Sc.At at h ⊢
  rw [e] at h
  cases h with
  | nil n =>
    rw [Sc.skip_rest, e, blanks_all]
    simpa using Loose.nil 0
/-! ### fuel -/
theorem beginK_more : ∀ (f : Nat) (s t : Sc), Sc.beginK f s = some t → ∀ g, s.z.length - s.pl < g → Sc.beginK g s = some t
  | 0, s, t, h, _, _ => by cases h
  | f + 1, s, t, h, 0, hg => by omega
  | f + 1, s, t, h, g + 1, hg => by
    unfold Sc.beginK at h ⊢
    have lt : ∀ {c : Nat}, s.cur = some c → s.pl < s.z.length := fun hc => Sc.cur_lt hc
    split at h
    · rename_i q
      rw [if_pos q]
      split at h
      · rename_i q2
        rw [if_pos q2]
        exact h
      · rename_i q2
        rw [if_neg q2]
        have := lt q
        have : s.pl + 1 ≤ s.go.skip.enter.skip.pl := Nat.le_trans (show s.pl + 1 ≤ s.go.skip.pl from Nat.le_add_right _ _) (Nat.le_add_right _ _)
        exact beginK_more f _ t h g (by show s.z.length - _ < g; omega)
    · rename_i q
      rw [if_neg q]
      split at h
      · rename_i q2
        rw [if_pos q2]
        have := lt q2
        have : s.pl + 1 ≤ (s.go.look 7).skip.pl := Nat.le_add_right _ _
        exact beginK_more f _ t h g (by show s.z.length - _ < g; omega)
      · rename_i q2
        rw [if_neg q2]
        split at h
        · rename_i q3
          rw [if_pos q3]
          have := lt q3
          have : s.pl + 1 ≤ (s.go.look 8).skip.pl := Nat.le_add_right _ _
          exact beginK_more f _ t h g (by show s.z.length - _ < g; omega)
        · rename_i q3
          rw [if_neg q3]
          exact h
/-- from the top of the loop, and from where a way begins -/
def Go (s : Sc) (t : Sc → Prop) : Prop := ∃ (f : Nat) (e : Sc), Sc.wayK f s = some e ∧ t e
def Be (s : Sc) (t : Sc → Prop) : Prop := ∃ (f : Nat) (s1 : Sc), Sc.beginK f s.skip = some s1 ∧ Go s1 t
theorem Be.begin {s : Sc} {t : Sc → Prop} (h : Be s t) : ∃ s1, s.begin = some s1 ∧ Go s1 t := by
  obtain ⟨f, s1, h1, h2⟩ := h
  exact ⟨s1, beginK_more f _ _ h1 _ (by show s.z.length - _ < s.z.length + 1; omega), h2⟩
theorem be_look7 {s : Sc} {t : Sc → Prop} (hc : s.skip.cur = some 38) (h : Be (s.skip.go.look 7) t) : Be s t := by
  obtain ⟨f, s1, h1, h2⟩ := h
  refine ⟨f + 1, s1, ?_, h2⟩
  unfold Sc.beginK
  rw [if_neg (by rw [hc]; decide), if_pos hc]
  exact h1
theorem be_look8 {s : Sc} {t : Sc → Prop} (hc : s.skip.cur = some 33) (h : Be (s.skip.go.look 8) t) : Be s t := by
  obtain ⟨f, s1, h1, h2⟩ := h
  refine ⟨f + 1, s1, ?_, h2⟩
  unfold Sc.beginK
  rw [if_neg (by rw [hc]; decide), if_neg (by rw [hc]; decide), if_pos hc]
  exact h1
theorem be_open {s : Sc} {t : Sc → Prop} (hc : s.skip.cur = some 40) (hn : s.skip.go.skip.cur ≠ some 41) (h : Be s.skip.go.skip.enter t) : Be s t := by
  obtain ⟨f, s1, h1, h2⟩ := h
  refine ⟨f + 1, s1, ?_, h2⟩
  unfold Sc.beginK
  rw [if_pos hc, if_neg hn]
  exact h1
theorem be_none {s : Sc} {t : Sc → Prop} (hc : s.skip.cur = some 40) (hn : s.skip.go.skip.cur = some 41) (h : Go (s.skip.go.skip.go.add 2 eS 0) t) : Be s t := by
  refine ⟨1, _, ?_, h⟩
  unfold Sc.beginK
  rw [if_pos hc, if_pos hn]
theorem be_single {s s1 : Sc} {t : Sc → Prop} (h1 : s.skip.cur ≠ some 40) (h2 : s.skip.cur ≠ some 38) (h3 : s.skip.cur ≠ some 33) (hs : s.skip.single = some s1) (h : Go s1 t) : Be s t := by
  refine ⟨1, s1, ?_, h⟩
  unfold Sc.beginK
  rw [if_neg h1, if_neg h2, if_neg h3]
  exact hs
/-- behind the end of a way and the spaces there -/
def Af (s : Sc) (t : Sc → Prop) : Prop :=
  (s.cur = none ∧ s.rows.length = 1 ∧ t s.endChoice) ∨ (s.cur = some 41 ∧ 1 < s.rows.length ∧ Go s.go.endChoice.leave t) ∨ (s.cur = some 47 ∧ Be s.go.endRow t) ∨ (s.cur ≠ none ∧ s.cur ≠ some 41 ∧ s.cur ≠ some 47 ∧ Be s t)
theorem go_of {s : Sc} {t : Sc → Prop} (h : Af s.endWay.skip t) : Go s t := by
  rcases h with ⟨h1, h2, h3⟩ | ⟨h1, h2, f, e, hf, he⟩ | ⟨h1, hb⟩ | ⟨h1, h2, h3, hb⟩
  · exact ⟨1, _, by unfold Sc.wayK; rw [if_pos ⟨h1, h2⟩], h3⟩
  · exact ⟨f + 1, e, by unfold Sc.wayK; rw [if_neg (fun q => by rw [h1] at q; cases q.1), if_pos ⟨h1, h2⟩]; exact hf, he⟩
  · obtain ⟨s1, hb1, f, e, hf, he⟩ := hb.begin
    exact ⟨f + 1, e, by unfold Sc.wayK; rw [if_neg (fun q => by rw [h1] at q; cases q.1), if_neg (fun q => by rw [h1] at q; exact absurd q.1 (by decide)), if_pos h1, hb1]; exact hf, he⟩
  · obtain ⟨s1, hb1, f, e, hf, he⟩ := hb.begin
    exact ⟨f + 1, e, by unfold Sc.wayK; rw [if_neg (fun q => h1 q.1), if_neg (fun q => h2 q.1), if_neg h3, hb1]; exact hf, he⟩
end Ws
/-! the scanner over marks and over single ways: pure facts -/
namespace Ws
open PySem PySem.Spec PyProof.Rows L2 Wv
/-- what the scanner keeps, its place aside -/
structure St (s : Sc) (z : List Nat) (R M : List Nat) (L : List (List Nat)) (S : List (Nat × Str × Nat)) : Prop where
  z : s.z = z
  r : s.rows = R
  m : s.many = M
  l : s.looks = L
  s : s.steps = S
abbrev Stp := Nat × Str × Nat
def mst (m : Nat) : Stp := if m = 42 then (5, eS, 1) else (6, eS, 1)
/-- the next sign is none of these -/
def Hd (ts : List (List Nat)) (P : Nat → Prop) : Prop := ts = [] ∨ ∃ c t r, ts = (c :: t) :: r ∧ c ≠ 32 ∧ P c
variable {s : Sc} {t : Sc → Prop} {z R M : List Nat} {L : List (List Nat)} {S : List Stp} {ts : List (List Nat)}
theorem St.skip (h : St s z R M L S) : St s.skip z R M L S := ⟨h.z, h.r, h.m, h.l, h.s⟩
theorem St.go (h : St s z R M L S) : St s.go z R M L S := ⟨h.z, h.r, h.m, h.l, h.s⟩
theorem St.add (h : St s z R M L S) (k : Nat) (x : Str) (n : Nat) : St (s.add k x n) z R M L (S ++ [(k, x, n)]) := ⟨h.z, h.r, h.m, h.l, by show s.steps ++ _ = _; rw [h.s]⟩
theorem St.look (h : St s z R M (L ++ [ls]) S) (k : Nat) : St (s.look k) z R M (L ++ [ls ++ [k]]) S := ⟨h.z, h.r, h.m, by show setLast s.looks (lastL s.looks ++ [k]) = _; rw [h.l, lastL_snoc, setLast_snoc], h.s⟩
theorem St.enter (h : St s z R M L S) : St s.enter z (R ++ [0]) (M ++ [0]) (L ++ [[]]) S := ⟨h.z, by show s.rows ++ _ = _; rw [h.r], by show s.many ++ _ = _; rw [h.m], by show s.looks ++ _ = _; rw [h.l], h.s⟩
theorem hd_cur {P : Nat → Prop} (h : Hd ts P) (ha : s.At ts) : (s.skip.cur = none ∧ ts = []) ∨ ∃ c, s.skip.cur = some c ∧ P c := by
  rcases h with rfl | ⟨c, t, r, rfl, hc, hp⟩
  · exact .inl ⟨at_end ha, rfl⟩
  · exact .inr ⟨c, (at_tok ha hc).1, hp⟩
theorem hd_skip {P : Nat → Prop} (h : Hd ts P) (ha : s.At ts) : s.skip.At ts := by
  rcases h with rfl | ⟨c, t, r, rfl, hc, hp⟩
  · exact at_skip0 ha
  · exact at_skip1 ha hc
theorem marksK_at : ∀ (ms : List Nat) (f : Nat) (s : Sc) (S : List Stp), St s z R M L S → s.At (ms.map (fun m => [m]) ++ ts) → (∀ m ∈ ms, m = 42 ∨ m = 63) → Hd ts (fun c => c ≠ 42 ∧ c ≠ 63) → s.z.length - s.skip.pl < f →
    St (Sc.marksK f s.skip) z R M L (S ++ ms.map mst) ∧ (Sc.marksK f s.skip).At ts ∧ (Sc.marksK f s.skip).skip = Sc.marksK f s.skip
  | [], 0, s, S, h, ha, hm, hd, hf => by omega
  | [], f + 1, s, S, h, ha, hm, hd, hf => by
    have ha' : s.At ts := ha
    have e : Sc.marksK (f + 1) s.skip = s.skip := by
      unfold Sc.marksK
      rcases hd_cur hd ha' with ⟨q, _⟩ | ⟨c, q, q1, q2⟩
      · rw [if_neg (by rw [q]; exact fun e => by cases e), if_neg (by rw [q]; exact fun e => by cases e)]
      · rw [if_neg (by rw [q]; exact fun e => q1 (Option.some.inj e)), if_neg (by rw [q]; exact fun e => q2 (Option.some.inj e))]
    rw [e]
    exact ⟨by simpa using h.skip, hd_skip hd ha', Sc.skip_skip s⟩
  | m :: ms, 0, s, S, h, ha, hm, hd, hf => by omega
  | m :: ms, f + 1, s, S, h, ha, hm, hd, hf => by
    have hm1 := hm m List.mem_cons_self
    have h32 : m ≠ 32 := by rcases hm1 with rfl | rfl <;> decide
    obtain ⟨h1, h2⟩ := at_one (show s.At ([m] :: (ms.map (fun m => [m]) ++ ts)) from ha) h32
    have hl := Sc.cur_lt h1
    have st2 : St (s.skip.go.add (mst m).1 (mst m).2.1 (mst m).2.2) z R M L (S ++ [mst m]) := h.skip.go.add _ _ _
    have hp : s.skip.pl + 1 ≤ (s.skip.go.add (mst m).1 (mst m).2.1 (mst m).2.2).skip.pl := Nat.le_add_right _ _
    have hzz : (s.skip.go.add (mst m).1 (mst m).2.1 (mst m).2.2).z.length = s.z.length := rfl
    have hzs : s.skip.z.length = s.z.length := rfl
    have ih := marksK_at ms f (s.skip.go.add (mst m).1 (mst m).2.1 (mst m).2.2) (S ++ [mst m]) st2 h2 (fun x hx => hm x (List.mem_cons_of_mem _ hx)) hd (by omega)
    have e : Sc.marksK (f + 1) s.skip = Sc.marksK f (s.skip.go.add (mst m).1 (mst m).2.1 (mst m).2.2).skip := by
      rcases hm1 with rfl | rfl
      · exact (if_pos h1)
      · exact (if_neg (by rw [h1]; decide)).trans (if_pos h1)
    rw [e]
    rw [List.append_assoc] at ih
    exact ih
theorem endWay_at {m : Nat} {ls ms : List Nat} (h : St s z R (M ++ [m]) (L ++ [ls]) S) (ha : s.At (ms.map (fun m => [m]) ++ ts)) (hm : ∀ m ∈ ms, m = 42 ∨ m = 63) (hd : Hd ts (fun c => c ≠ 42 ∧ c ≠ 63)) :
    St s.endWay.skip z R (M ++ [m + 1]) (L ++ [[]]) (S ++ ms.map mst ++ ls.reverse.map (fun k => (k, eS, 1))) ∧ s.endWay.skip.At ts := by
  obtain ⟨h1, h2, h3⟩ := marksK_at ms (s.z.length + 1) s S h ha hm hd (by omega)
  have e : s.marks = Sc.marksK (s.z.length + 1) s.skip := rfl
  rw [← e] at h1 h2 h3
  have e2 : s.endWay = s.marks.fin := rfl
  rw [e2]
  have ha2 : s.marks.fin.At ts := h2
  exact ⟨⟨h1.z, h1.r, by show setLast s.marks.many (lastD s.marks.many + 1) = _; rw [h1.m, lastD_snoc, setLast_snoc], by show setLast s.marks.looks [] = _; rw [h1.l, setLast_snoc],
    by show s.marks.steps ++ (lastL s.marks.looks).reverse.map _ = _; rw [h1.s, h1.l, lastL_snoc]⟩, hd_skip hd ha2⟩
/-! ### single ways -/
def isAz (c : Nat) : Prop := 97 ≤ c ∧ c ≤ 122
theorem isL_az {c : Nat} (h : isAz c) : isL (some c) = true := by
  show (decide (97 ≤ c) && decide (c ≤ 122)) = true
  rw [decide_eq_true h.1, decide_eq_true h.2]; rfl
theorem be_letter {c : Nat} (hc : isAz c) (h : St s z R M L S) (ha : s.At ([c] :: ts)) (k : ∀ s1, St s1 z R M L (S ++ [(0, sg c, 0)]) → s1.At ts → Go s1 t) : Be s t := by
  obtain ⟨a1, a2⟩ := hc
  obtain ⟨h1, h2⟩ := at_one ha (by omega)
  have hl : isL s.skip.cur = true := by rw [h1]; exact isL_az ⟨a1, a2⟩
  refine be_single (s1 := s.skip.go.add 0 (sgn s.skip.cur) 0) (by rw [h1]; exact fun e => by have := Option.some.inj e; omega) (by rw [h1]; exact fun e => by have := Option.some.inj e; omega) (by rw [h1]; exact fun e => by have := Option.some.inj e; omega) ?_ (k _ ?_ h2)
  · unfold Sc.single
    rw [if_neg (by rw [h1]; exact fun e => by have := Option.some.inj e; omega), if_neg (by rw [h1]; exact fun e => by have := Option.some.inj e; omega), if_pos hl]
  · have := h.skip.go.add 0 (sgn s.skip.cur) 0
    rw [h1] at this ⊢
    exact this
theorem be_one (h : St s z R M L S) (ha : s.At ([46] :: ts)) (k : ∀ s1, St s1 z R M L (S ++ [(1, eS, 0)]) → s1.At ts → Go s1 t) : Be s t := by
  obtain ⟨h1, h2⟩ := at_one ha (by decide)
  refine be_single (s1 := s.skip.go.add 1 eS 0) (by rw [h1]; decide) (by rw [h1]; decide) (by rw [h1]; decide) ?_ (k _ (h.skip.go.add 1 eS 0) h2)
  unfold Sc.single
  rw [if_pos h1]
theorem be_nothing (h : St s z R M L S) (ha : s.At ([40] :: [41] :: ts)) (k : ∀ s1, St s1 z R M L (S ++ [(2, eS, 0)]) → s1.At ts → Go s1 t) : Be s t := by
  obtain ⟨h1, h2⟩ := at_one ha (by decide)
  obtain ⟨h3, h4⟩ := at_one h2 (by decide)
  exact be_none h1 h3 (k _ (h.skip.go.skip.go.add 2 eS 0) h4)
theorem nmLen_all : ∀ (n : Nat) (x r : List Nat), (∀ c ∈ x, isAz c) → x.length ≤ n → isL r[0]? = false → nmLen n (x ++ r) = x.length
  | 0, [], r, _, _, _ => rfl
  | 0, c :: x, r, _, h, _ => by simp at h
  | n + 1, [], [], _, _, _ => rfl
  | n + 1, [], c :: r, _, _, h => by
    show (if isL (some c) = true then _ else 0) = 0
    rw [if_neg (by rw [show isL (some c) = false from h]; decide)]
  | n + 1, c :: x, r, hx, h, hr => by
    show (if isL (some c) = true then nmLen n (x ++ r) + 1 else 0) = _
    rw [if_pos (isL_az (hx c List.mem_cons_self)), nmLen_all n x r (fun d hd => hx d (List.mem_cons_of_mem _ hd)) (by simpa using h) hr]
    rfl
theorem be_call {x : List Nat} (hx : ∀ c ∈ x, isAz c) (h0 : x ≠ []) (h12 : x.length ≤ 12) (h : St s z R M L S) (ha : s.At ([60] :: x :: [62] :: ts)) (k : ∀ s1, St s1 z R M L (S ++ [(9, tx x, 0)]) → s1.At ts → Go s1 t) : Be s t := by
  obtain ⟨h1, h2⟩ := at_one ha (by decide)
  cases x with
  | nil => exact absurd rfl h0
  | cons c x =>
    have hc := hx c List.mem_cons_self
    obtain ⟨c1, c2⟩ := hc
    obtain ⟨h3, r, h4, h5⟩ := at_tok h2 (by omega)
    have h4' : s.skip.go.skip.rest = (c :: x) ++ r := h4
    have hr : isL r[0]? = false := by
      cases h5 with
      | @cons n _ _ r' _ =>
        cases n with
        | zero => rfl
        | succ n => rfl
    have en : s.skip.go.skip.nm = (c :: x).length := by
      show nmLen 12 s.skip.go.skip.rest = _
      rw [h4']
      exact nmLen_all 12 (c :: x) r hx h12 hr
    have ew : s.skip.go.skip.word = tx (c :: x) := by
      show tx (s.skip.go.skip.rest.take s.skip.go.skip.nm) = _
      rw [en, h4', List.take_left' rfl]
    have er : s.skip.go.skip.named.rest = r := by
      show s.z.drop (s.skip.go.skip.pl + s.skip.go.skip.nm) = r
      rw [← List.drop_drop]
      show s.skip.go.skip.rest.drop s.skip.go.skip.nm = r
      rw [en, h4', List.drop_left' rfl]
    have ha3 : s.skip.go.skip.named.At ([62] :: ts) := by unfold Sc.At; rw [er]; exact h5
    obtain ⟨h6, h7⟩ := at_one ha3 (by decide)
    refine be_single (s1 := s.skip.go.skip.named.skip.go.add 9 s.skip.go.skip.word 0) (by rw [h1]; decide) (by rw [h1]; decide) (by rw [h1]; decide) ?_ (k _ ?_ h7)
    · unfold Sc.single
      rw [if_neg (by rw [h1]; decide), if_pos h1, if_pos ⟨by rw [h3]; exact isL_az ⟨c1, c2⟩, h6⟩]
    · rw [ew]
      exact ⟨h.z, h.r, h.m, h.l, by show s.steps ++ _ = _; rw [h.s]⟩
end Ws
/-! the signs of a way's text, and that the scanner tells its steps: pure facts -/
namespace Ws
open PySem PySem.Spec PyProof.Rows L2 Wv
mutual
def post : W → List Stp
  | .letter c => [(0, sg c, 0)] | .one => [(1, eS, 0)] | .nothing => [(2, eS, 0)] | .call x => [(9, x, 0)]
  | .row ws => posts ws ++ [(3, eS, ws.length)]
  | .choice ws => posts ws ++ [(4, eS, ws.length)]
  | .again w => post w ++ [(5, eS, 1)] | .maybe w => post w ++ [(6, eS, 1)] | .ahead w => post w ++ [(7, eS, 1)] | .unless w => post w ++ [(8, eS, 1)]
def posts : List W → List Stp
  | [] => []
  | w :: ws => post w ++ posts ws
end
/-- signs, in brackets where they are due -/
def inBr (b : Bool) (l : List (List Nat)) : List (List Nat) := if b = true then [40] :: (l ++ [[41]]) else l
mutual
def toks : W → List (List Nat)
  | .letter c => [[c]] | .one => [[46]] | .nothing => [[40], [41]] | .call x => [[60], x.cps.toList, [62]]
  | .row ws => tokR ws
  | .choice ws => tokC true ws
  | .again w => inBr (needs w.kind 5) (toks w) ++ [[42]]
  | .maybe w => inBr (needs w.kind 6) (toks w) ++ [[63]]
  | .ahead w => [38] :: inBr (needs w.kind 7) (toks w)
  | .unless w => [33] :: inBr (needs w.kind 8) (toks w)
def tokR : List W → List (List Nat)
  | [] => []
  | w :: ws => inBr (needs w.kind 3) (toks w) ++ tokR ws
def tokC : Bool → List W → List (List Nat)
  | _, [] => []
  | f, w :: ws => (if f = true then [] else [[47]]) ++ (inBr (needs w.kind 4) (toks w) ++ tokC false ws)
end
mutual
def okW : W → Prop
  | .letter c => isAz c | .one => True | .nothing => True
  | .call x => x.cps.toList ≠ [] ∧ x.cps.toList.length ≤ 12 ∧ ∀ c ∈ x.cps.toList, isAz c
  | .row ws => 2 ≤ ws.length ∧ okWs ws | .choice ws => 2 ≤ ws.length ∧ okWs ws
  | .again w => okW w | .maybe w => okW w | .ahead w => okW w | .unless w => okW w
def okWs : List W → Prop
  | [] => True
  | w :: ws => okW w ∧ okWs ws
end
/-- the first sign of a way -/
def FstC (c : Nat) : Prop := c ≠ 32 ∧ c ≠ 41 ∧ c ≠ 42 ∧ c ≠ 63 ∧ c ≠ 47
theorem fst_br {b : Bool} {l : List (List Nat)} (h : ∃ c t r, l = (c :: t) :: r ∧ FstC c) : ∃ c t r, inBr b l = (c :: t) :: r ∧ FstC c := by
  cases b with
  | true => exact ⟨40, [], _, rfl, by decide, by decide, by decide, by decide, by decide⟩
  | false => exact h
theorem fst_app {l r' : List (List Nat)} (h : ∃ c t r, l = (c :: t) :: r ∧ FstC c) : ∃ c t r, l ++ r' = (c :: t) :: r ∧ FstC c := by
  obtain ⟨c, t, r, e, h⟩ := h
  exact ⟨c, t, r ++ r', by rw [e]; rfl, h⟩
theorem fst_tok : ∀ (n : Nat) (w : W), w.size ≤ n → okW w → ∃ c t r, toks w = (c :: t) :: r ∧ FstC c
  | 0, w, h, _ => by have := w.size_pos; omega
  | n + 1, .letter c, _, ⟨h1, h2⟩ => ⟨c, [], [], rfl, by omega, by omega, by omega, by omega, by omega⟩
  | n + 1, .one, _, _ => ⟨46, [], [], rfl, by decide, by decide, by decide, by decide, by decide⟩
  | n + 1, .nothing, _, _ => ⟨40, [], _, rfl, by decide, by decide, by decide, by decide, by decide⟩
  | n + 1, .call x, _, _ => ⟨60, [], _, rfl, by decide, by decide, by decide, by decide, by decide⟩
  | n + 1, .row [], _, h => by have := h.1; simp at this
  | n + 1, .row (w :: ws), hs, h => by
    have hsz : 1 + (w.size + W.sizes ws) ≤ n + 1 := hs
    exact fst_app (fst_br (fst_tok n w (by omega) h.2.1))
  | n + 1, .choice [], _, h => by have := h.1; simp at this
  | n + 1, .choice (w :: ws), hs, h => by
    have hsz : 1 + (w.size + W.sizes ws) ≤ n + 1 := hs
    have q := fst_app (r' := tokC false ws) (fst_br (b := needs w.kind 4) (fst_tok n w (by omega) h.2.1))
    exact q
  | n + 1, .again w, hs, h => by
    have hsz : 1 + w.size ≤ n + 1 := hs
    exact fst_app (fst_br (fst_tok n w (by omega) h))
  | n + 1, .maybe w, hs, h => by
    have hsz : 1 + w.size ≤ n + 1 := hs
    exact fst_app (fst_br (fst_tok n w (by omega) h))
  | n + 1, .ahead w, hs, h => ⟨38, [], _, rfl, by decide, by decide, by decide, by decide, by decide⟩
  | n + 1, .unless w, hs, h => ⟨33, [], _, rfl, by decide, by decide, by decide, by decide, by decide⟩
variable {s : Sc} {t : Sc → Prop} {z R M : List Nat} {L : List (List Nat)} {S : List Stp} {ts : List (List Nat)}
/-- a way where it needs brackets just if it is a Row or a Choice -/
def ut (w : W) : List (List Nat) := inBr (needs w.kind 3) (toks w)
def fini (r m : Nat) (X : List Stp) : List Stp := (X ++ (if 1 < m then [(3, eS, m)] else [])) ++ (if 1 < r + 1 then [(4, eS, r + 1)] else [])
/-- a whole way, up to what ends it -/
def CL (n : Nat) : Prop := ∀ (w : W), w.size ≤ n → okW w → ∀ (s : Sc) (t : Sc → Prop) (z R M : List Nat) (L : List (List Nat)) (S : List Stp) (tl : List (List Nat)), St s z (R ++ [0]) (M ++ [0]) (L ++ [[]]) S → s.At (toks w ++ tl) → Hd tl (fun c => c = 41) →
  (∀ (s' : Sc) (r m : Nat) (X : List Stp), St s' z (R ++ [r]) (M ++ [m]) (L ++ [[]]) X → fini r m X = S ++ post w → s'.At tl → s'.skip = s' → Af s' t) → Be s t
/-- a way within a Row, marks behind it, looks ahead of it -/
def UL (n : Nat) : Prop := ∀ (w : W), w.size ≤ n → okW w → ∀ (s : Sc) (t : Sc → Prop) (z R M : List Nat) (L : List (List Nat)) (S : List Stp) (m : Nat) (ls ms : List Nat) (ts : List (List Nat)), St s z R (M ++ [m]) (L ++ [ls]) S → R ≠ [] → s.At (ut w ++ (ms.map (fun m => [m]) ++ ts)) →
  (∀ m ∈ ms, m = 42 ∨ m = 63) → Hd ts (fun c => c ≠ 42 ∧ c ≠ 63) → (ms = [] ∨ (w.kind ≠ 7 ∧ w.kind ≠ 8)) →
  (∀ s' : Sc, St s' z R (M ++ [m + 1]) (L ++ [[]]) (S ++ post w ++ ms.map mst ++ ls.reverse.map (fun k => (k, eS, 1))) → s'.At ts → s'.skip = s' → Af s' t) → Be s t
theorem row1_place (g : Sc) : g.row1.z = g.z ∧ g.row1.pl = g.pl := by unfold Sc.row1; split <;> exact ⟨rfl, rfl⟩
theorem choice_place (g : Sc) : g.endChoice.z = g.z ∧ g.endChoice.pl = g.pl := by
  unfold Sc.endChoice
  split <;> exact row1_place g
theorem leave_rest (g : Sc) : g.endChoice.leave.rest = g.rest := by
  have h := choice_place g
  show g.endChoice.z.drop g.endChoice.pl = _
  rw [h.1, h.2]
  rfl
theorem row_rest (g : Sc) : g.endRow.rest = g.rest := by
  have h := row1_place g
  show g.row1.z.drop g.row1.pl = _
  rw [h.1, h.2]
  rfl
/-- the end of a bracket -/
theorem close {s : Sc} {t : Sc → Prop} {z R M : List Nat} {L : List (List Nat)} {r m : Nat} {X Y : List Stp} (h : St s z (R ++ [r]) (M ++ [m]) (L ++ [[]]) X) (e : fini r m X = Y) (hR : R ≠ []) (ha : s.At ([41] :: ts)) (hs : s.skip = s)
    (k : ∀ s', St s' z R M L Y → s'.At ts → Go s' t) : Af s t := by
  obtain ⟨h1, h2⟩ := at_one ha (by decide)
  rw [hs] at h1 h2
  have hr : 1 < s.rows.length := by
    rw [h.r, List.length_append, List.length_singleton]
    have := List.length_pos_iff.mpr hR
    omega
  refine .inr (.inl ⟨h1, hr, k _ ?_ (by unfold Sc.At; rw [leave_rest]; exact h2)⟩)
  have hg := h.go
  generalize s.go = g at hg
  have e1 : g.row1.rows = R ++ [r] ∧ g.row1.many = M ++ [m] ∧ g.row1.looks = L ++ [[]] ∧ g.row1.z = z ∧ g.row1.steps = X ++ (if 1 < m then [(3, eS, m)] else []) := by
    unfold Sc.row1
    rw [hg.m, lastD_snoc]
    by_cases q : 1 < m
    · rw [if_pos q, if_pos q]; exact ⟨hg.r, hg.m, hg.l, hg.z, by show g.steps ++ _ = _; rw [hg.s]⟩
    · rw [if_neg q, if_neg q, List.append_nil]; exact ⟨hg.r, hg.m, hg.l, hg.z, hg.s⟩
  have e2 : g.endRow.rows = R ++ [r + 1] ∧ g.endRow.many = M ++ [0] ∧ g.endRow.looks = L ++ [[]] ∧ g.endRow.z = z ∧ g.endRow.steps = X ++ (if 1 < m then [(3, eS, m)] else []) := by
    unfold Sc.endRow
    refine ⟨?_, ?_, e1.2.2.1, e1.2.2.2.1, e1.2.2.2.2⟩
    · show setLast g.row1.rows (lastD g.row1.rows + 1) = _
      rw [e1.1, lastD_snoc, setLast_snoc]
    · show setLast g.row1.many 0 = _
      rw [e1.2.1, setLast_snoc]
  have e3 : g.endChoice.rows = R ++ [r + 1] ∧ g.endChoice.many = M ++ [0] ∧ g.endChoice.looks = L ++ [[]] ∧ g.endChoice.z = z ∧ g.endChoice.steps = Y := by
    unfold Sc.endChoice
    rw [e2.1, lastD_snoc, ← e]
    unfold fini
    by_cases q : 1 < r + 1
    · rw [if_pos q, if_pos q]; exact ⟨e2.1, e2.2.1, e2.2.2.1, e2.2.2.2.1, by show g.endRow.steps ++ _ = _; rw [e2.2.2.2.2]⟩
    · rw [if_neg q, if_neg q, List.append_nil]; exact e2
  exact ⟨e3.2.2.2.1, by show g.endChoice.rows.dropLast = _; rw [e3.1, List.dropLast_concat], by show g.endChoice.many.dropLast = _; rw [e3.2.1, List.dropLast_concat], by show g.endChoice.looks.dropLast = _; rw [e3.2.2.1, List.dropLast_concat], e3.2.2.2.2⟩
/-- where no row stands below, the way is whole -/
theorem whole_end {s : Sc} {z : List Nat} {r m : Nat} {X Y : List Stp} (h : St s z ([] ++ [r]) ([] ++ [m]) ([] ++ [[]]) X) (e : fini r m X = Y) : s.endChoice.steps = Y := by
  have e1 : s.row1.rows = [r] ∧ s.row1.steps = X ++ (if 1 < m then [(3, eS, m)] else []) := by
    unfold Sc.row1
    rw [h.m, lastD_snoc]
    by_cases q : 1 < m
    · rw [if_pos q, if_pos q]; exact ⟨h.r, by show s.steps ++ _ = _; rw [h.s]⟩
    · rw [if_neg q, if_neg q, List.append_nil]; exact ⟨h.r, h.s⟩
  have e2 : s.endRow.rows = [] ++ [r + 1] ∧ s.endRow.steps = X ++ (if 1 < m then [(3, eS, m)] else []) := by
    unfold Sc.endRow
    refine ⟨?_, e1.2⟩
    show setLast s.row1.rows (lastD s.row1.rows + 1) = _
    rw [e1.1, show [r] = [] ++ [r] from rfl, lastD_snoc, setLast_snoc]
  unfold Sc.endChoice
  rw [e2.1, lastD_snoc, ← e]
  unfold fini
  by_cases q : 1 < r + 1
  · rw [if_pos q, if_pos q]; show s.endRow.steps ++ _ = _; rw [e2.2]
  · rw [if_neg q, if_neg q, List.append_nil]; exact e2.2
theorem grp {n : Nat} (hC : CL n) {p : W} (hp : p.size ≤ n) (ok : okW p) {m : Nat} {ls ms : List Nat} (h : St s z R (M ++ [m]) (L ++ [ls]) S) (hR : R ≠ []) (ha : s.At (([40] :: (toks p ++ [[41]])) ++ (ms.map (fun m => [m]) ++ ts))) (hm : ∀ m ∈ ms, m = 42 ∨ m = 63) (hd : Hd ts (fun c => c ≠ 42 ∧ c ≠ 63))
    (k : ∀ s' : Sc, St s' z R (M ++ [m + 1]) (L ++ [[]]) (S ++ post p ++ ms.map mst ++ ls.reverse.map (fun k => (k, eS, 1))) → s'.At ts → s'.skip = s' → Af s' t) : Be s t := by
  have ha' : s.At ([40] :: (toks p ++ ([41] :: (ms.map (fun m => [m]) ++ ts)))) := by simpa using ha
  obtain ⟨h1, h2⟩ := at_one ha' (by decide)
  obtain ⟨c, u, r, e, f1, f2, f3, f4, f5⟩ := fst_tok n p hp ok
  have h2' : s.skip.go.At ((c :: u) :: (r ++ ([41] :: (ms.map (fun m => [m]) ++ ts)))) := by rw [e] at h2; exact h2
  obtain ⟨h3, _⟩ := at_tok h2' f1
  refine be_open h1 (by rw [h3]; exact fun q => f2 (Option.some.inj q)) ?_
  have h4 : s.skip.go.skip.enter.At (toks p ++ ([41] :: (ms.map (fun m => [m]) ++ ts))) := by
    have := at_skip1 h2' f1
    rw [e]
    exact this
  refine hC p hp ok _ t z R (M ++ [m]) (L ++ [ls]) S ([41] :: (ms.map (fun m => [m]) ++ ts)) h.skip.go.skip.enter h4 (.inr ⟨41, [], _, rfl, by decide, rfl⟩) fun s' r m' X h5 e5 a5 k5 => ?_
  refine close h5 e5 hR a5 k5 fun s6 h6 a6 => go_of ?_
  obtain ⟨h7, a7⟩ := endWay_at h6 a6 hm hd
  exact k _ h7 a7 (Sc.skip_skip _)
theorem needs3 (k : Nat) : needs k 3 = (decide (k = 3) || decide (k = 4)) := by
  unfold needs
  by_cases h : k = 3
  · subst h; decide
  · rw [if_neg h]
    by_cases h2 : k = 7 ∨ k = 8
    · rw [if_pos h2]
      rcases h2 with rfl | rfl <;> decide
    · rw [if_neg h2, decide_eq_false h, Bool.false_or]
theorem units {n : Nat} (hU : UL n) : ∀ (us : List W), us ≠ [] → (∀ w ∈ us, w.size ≤ n ∧ okW w) → ∀ (s : Sc) (m : Nat) (S : List Stp), St s z R (M ++ [m]) (L ++ [[]]) S → R ≠ [] → s.At (tokR us ++ ts) → Hd ts (fun c => c = 41 ∨ c = 47) →
    (∀ s', St s' z R (M ++ [m + us.length]) (L ++ [[]]) (S ++ posts us) → s'.At ts → s'.skip = s' → Af s' t) → Be s t
  | [], h0, _, _, _, _, _, _, _, _, _ => absurd rfl h0
  | w :: us, _, hw, s, m, S, h, hR, ha, hd, k => by
    obtain ⟨w1, w2⟩ := hw w List.mem_cons_self
    have ha' : s.At (ut w ++ (([] : List Nat).map (fun m => [m]) ++ (tokR us ++ ts))) := by
      have : tokR (w :: us) = ut w ++ tokR us := rfl
      rw [this, List.append_assoc] at ha
      exact ha
    have hd' : Hd (tokR us ++ ts) (fun c => c ≠ 42 ∧ c ≠ 63) := by
      cases us with
      | nil =>
        rcases hd with e | ⟨c, u, r, e, f1, f2⟩
        · exact .inl e
        · exact .inr ⟨c, u, r, e, f1, by rcases f2 with rfl | rfl <;> decide⟩
      | cons w' us =>
        obtain ⟨v1, v2⟩ := hw w' (by simp)
        obtain ⟨c, u, r, e, f⟩ := fst_app (r' := tokR us ++ ts) (fst_br (b := needs w'.kind 3) (fst_tok n w' v1 v2))
        refine .inr ⟨c, u, r, ?_, f.1, f.2.2.1, f.2.2.2.1⟩
        rw [← e]
        show inBr (needs w'.kind 3) (toks w') ++ tokR us ++ ts = _
        rw [List.append_assoc]
    refine hU w w1 w2 s t z R M L S m [] [] (tokR us ++ ts) h hR ha' (fun _ q => by cases q) hd' (.inl rfl) fun s' h' a' k' => ?_
    have h2 : St s' z R (M ++ [m + 1]) (L ++ [[]]) (S ++ post w) := by simpa using h'
    cases us with
    | nil =>
      refine k s' ?_ a' k'
      have : posts [w] = post w ++ [] := rfl
      rw [this, List.append_nil]
      exact h2
    | cons w' us =>
      obtain ⟨v1, v2⟩ := hw w' (by simp)
      obtain ⟨c, u, r, e, f⟩ := fst_app (r' := tokR us ++ ts) (fst_br (b := needs w'.kind 3) (fst_tok n w' v1 v2))
      have e' : tokR (w' :: us) ++ ts = (c :: u) :: r := by
        rw [← e]
        show inBr (needs w'.kind 3) (toks w') ++ tokR us ++ ts = _
        rw [List.append_assoc]
      have hc : s'.cur = some c := by
        have := (at_tok (by rw [← e']; exact a') f.1).1
        rw [k'] at this
        exact this
      refine .inr (.inr (.inr ⟨by rw [hc]; exact Option.some_ne_none c, by rw [hc]; exact fun q => f.2.1 (Option.some.inj q), by rw [hc]; exact fun q => f.2.2.2.2 (Option.some.inj q), ?_⟩))
      refine units hU (w' :: us) (by simp) (fun x hx => hw x (List.mem_cons_of_mem _ hx)) s' (m + 1) (S ++ post w) h2 hR a' hd fun s3 h3 a3 k3 => k s3 ?_ a3 k3
      have e1 : m + (w :: w' :: us).length = m + 1 + (w' :: us).length := by simp only [List.length_cons]; omega
      have e2 : posts (w :: w' :: us) = post w ++ posts (w' :: us) := rfl
      rw [e1, e2, ← List.append_assoc]
      exact h3
def rowU : W → List W
  | .row us => us
  | w => [w]
theorem rowT_eq (w : W) : inBr (needs w.kind 4) (toks w) = tokR (rowU w) := by
  cases w <;> first
    | rfl
    | (show _ = inBr _ _ ++ []
       rw [List.append_nil]
       rfl)
theorem rowS_eq {w : W} (h : okW w) : post w = posts (rowU w) ++ (if 1 < (rowU w).length then [(3, eS, (rowU w).length)] else []) := by
  cases w with
  | row us => 
    have : 1 < us.length := h.1
    show posts us ++ _ = posts us ++ (if 1 < us.length then _ else _)
    rw [if_pos this]
    rfl
  | _ =>
    show _ = (_ ++ []) ++ []
    rw [List.append_nil, List.append_nil]
theorem rowU_ok {n : Nat} {w : W} (hs : w.size ≤ n) (h : okW w) : rowU w ≠ [] ∧ ∀ x ∈ rowU w, x.size ≤ n ∧ okW x := by
  have all : ∀ (us : List W), okWs us → ∀ x ∈ us, okW x ∧ x.size ≤ W.sizes us := by
    intro us
    induction us with
    | nil => intro _ x hx; cases hx
    | cons u us ih =>
      intro h x hx
      rcases List.mem_cons.mp hx with rfl | hx
      · exact ⟨h.1, by show _ ≤ x.size + W.sizes us; omega⟩
      · have := ih h.2 x hx
        exact ⟨this.1, by show _ ≤ u.size + W.sizes us; omega⟩
  cases w with
  | row us =>
    have h1 : 2 ≤ us.length := h.1
    have hsz : 1 + W.sizes us ≤ n := hs
    refine ⟨fun e => by rw [show us = [] from e] at h1; simp at h1, fun x hx => ?_⟩
    have := all us h.2 x hx
    exact ⟨by omega, this.1⟩
  | _ =>
    refine ⟨(by intro e; cases e), fun x hx => ?_⟩
    have e : x = _ := List.mem_singleton.mp hx
    subst e
    exact ⟨hs, h⟩
end Ws
/-! the scanner over whole ways: pure facts -/
namespace Ws
open PySem PySem.Spec PyProof.Rows L2 Wv
variable {s : Sc} {t : Sc → Prop} {z R M : List Nat} {L : List (List Nat)} {S : List Stp} {ts : List (List Nat)}
theorem endRow_st {g : Sc} {r m : Nat} {X : List Stp} (hg : St g z (R ++ [r]) (M ++ [m]) L X) : St g.endRow z (R ++ [r + 1]) (M ++ [0]) L (X ++ (if 1 < m then [(3, eS, m)] else [])) := by
  have e1 : g.row1.rows = R ++ [r] ∧ g.row1.many = M ++ [m] ∧ g.row1.looks = L ∧ g.row1.z = z ∧ g.row1.steps = X ++ (if 1 < m then [(3, eS, m)] else []) := by
    unfold Sc.row1
    rw [hg.m, lastD_snoc]
    by_cases q : 1 < m
    · rw [if_pos q, if_pos q]; exact ⟨hg.r, hg.m, hg.l, hg.z, by show g.steps ++ _ = _; rw [hg.s]⟩
    · rw [if_neg q, if_neg q, List.append_nil]; exact ⟨hg.r, hg.m, hg.l, hg.z, hg.s⟩
  exact ⟨e1.2.2.2.1, by show setLast g.row1.rows (lastD g.row1.rows + 1) = _; rw [e1.1, lastD_snoc, setLast_snoc], by show setLast g.row1.many 0 = _; rw [e1.2.1, setLast_snoc], e1.2.2.1, e1.2.2.2.2⟩
theorem rowsL {n : Nat} (hU : UL n) : ∀ (ws : List W), ws ≠ [] → (∀ w ∈ ws, w.size ≤ n ∧ okW w) → ∀ (s : Sc) (r : Nat) (S : List Stp) (tl : List (List Nat)), St s z (R ++ [r]) (M ++ [0]) (L ++ [[]]) S → s.At (tokC true ws ++ tl) → Hd tl (fun c => c = 41) →
    (∀ (s' : Sc) (m : Nat) (X : List Stp), St s' z (R ++ [r + ws.length - 1]) (M ++ [m]) (L ++ [[]]) X → X ++ (if 1 < m then [(3, eS, m)] else []) = S ++ posts ws → s'.At tl → s'.skip = s' → Af s' t) → Be s t
  | [], h0, _, _, _, _, _, _, _, _, _ => absurd rfl h0
  | w :: ws, _, hw, s, r, S, tl, h, ha, hd, k => by
    obtain ⟨w1, w2⟩ := hw w List.mem_cons_self
    obtain ⟨u1, u2⟩ := rowU_ok w1 w2
    have e1 : tokC true (w :: ws) = inBr (needs w.kind 4) (toks w) ++ tokC false ws := rfl
    rw [e1, rowT_eq, List.append_assoc] at ha
    have hd' : Hd (tokC false ws ++ tl) (fun c => c = 41 ∨ c = 47) := by
      cases ws with
      | nil =>
        rcases hd with e | ⟨c, u, q, e, f1, f2⟩
        · exact .inl e
        · exact .inr ⟨c, u, q, e, f1, .inl f2⟩
      | cons w' ws => exact .inr ⟨47, [], _, rfl, by decide, .inr rfl⟩
    refine units hU (rowU w) u1 u2 s 0 S h (by simp) ha hd' fun s' h' a' k' => ?_
    rw [Nat.zero_add] at h'
    have eS1 : S ++ posts (rowU w) ++ (if 1 < (rowU w).length then [(3, eS, (rowU w).length)] else []) = S ++ post w := by
      rw [rowS_eq w2, List.append_assoc]
    cases ws with
    | nil =>
      refine k s' (rowU w).length (S ++ posts (rowU w)) (by simpa using h') ?_ a' k'
      rw [eS1]
      show _ = S ++ (post w ++ [])
      rw [List.append_nil]
    | cons w' ws =>
      have a2 : s'.At ([47] :: (tokC true (w' :: ws) ++ tl)) := a'
      obtain ⟨h1, h2⟩ := at_one a2 (by decide)
      rw [k'] at h1 h2
      refine .inr (.inr (.inl ⟨h1, ?_⟩))
      have h3 := endRow_st h'.go
      rw [eS1] at h3
      have a3 : s'.go.endRow.At (tokC true (w' :: ws) ++ tl) := by unfold Sc.At; rw [row_rest]; exact h2
      refine rowsL hU (w' :: ws) (by simp) (fun x hx => hw x (List.mem_cons_of_mem _ hx)) _ (r + 1) (S ++ post w) tl h3 a3 hd fun s6 m X h6 e6 a6 k6 => k s6 m X ?_ ?_ a6 k6
      · have : r + (w :: w' :: ws).length - 1 = r + 1 + (w' :: ws).length - 1 := by simp only [List.length_cons]; omega
        rw [this]; exact h6
      · rw [e6, List.append_assoc]; rfl
theorem okWs_mem : ∀ {ws : List W}, okWs ws → ∀ w ∈ ws, okW w ∧ w.size ≤ W.sizes ws
  | [], _, _, h => by cases h
  | x :: ws, h, w, hm => by
    rcases List.mem_cons.mp hm with rfl | hm
    · exact ⟨h.1, by show _ ≤ w.size + W.sizes ws; omega⟩
    · have := okWs_mem h.2 w hm
      exact ⟨this.1, by show _ ≤ x.size + W.sizes ws; omega⟩
/-- Rows and Choices, from what is known of their ways -/
theorem CLr {n : Nat} (hU : UL n) (w : W) (hk : w.kind = 3 ∨ w.kind = 4) (hs : w.size ≤ n + 1) (ok : okW w) (s : Sc) (t : Sc → Prop) (z R M : List Nat) (L : List (List Nat)) (S : List Stp) (tl : List (List Nat)) (h : St s z (R ++ [0]) (M ++ [0]) (L ++ [[]]) S) (ha : s.At (toks w ++ tl)) (hd : Hd tl (fun c => c = 41))
    (k : ∀ (s' : Sc) (r m : Nat) (X : List Stp), St s' z (R ++ [r]) (M ++ [m]) (L ++ [[]]) X → fini r m X = S ++ post w → s'.At tl → s'.skip = s' → Af s' t) : Be s t := by
  cases w with
  | row us =>
    have h1 : 2 ≤ us.length := ok.1
    have hsz : 1 + W.sizes us ≤ n + 1 := hs
    refine units hU us (fun e => by rw [e] at h1; simp at h1) (fun x hx => by have := okWs_mem ok.2 x hx; exact ⟨by omega, this.1⟩) s 0 S h (by simp) ha ?_ fun s' h' a' k' => ?_
    · rcases hd with e | ⟨c, u, q, e, f1, f2⟩
      · exact .inl e
      · exact .inr ⟨c, u, q, e, f1, .inl f2⟩
    · rw [Nat.zero_add] at h'
      refine k s' 0 us.length (S ++ posts us) h' ?_ a' k'
      unfold fini
      rw [if_pos (show 1 < us.length by omega), if_neg (by omega), List.append_nil, List.append_assoc]
      rfl
  | choice us =>
    have h1 : 2 ≤ us.length := ok.1
    have hsz : 1 + W.sizes us ≤ n + 1 := hs
    refine rowsL hU us (fun e => by rw [e] at h1; simp at h1) (fun x hx => by have := okWs_mem ok.2 x hx; exact ⟨by omega, this.1⟩) s 0 S tl h ha hd fun s' m X h' e' a' k' => ?_
    rw [Nat.zero_add] at h'
    refine k s' (us.length - 1) m X h' ?_ a' k'
    unfold fini
    rw [e', if_pos (by omega), show us.length - 1 + 1 = us.length by omega, List.append_assoc]
    rfl
  | _ => exact absurd hk (by simp only [W.kind]; decide)
theorem both : ∀ n : Nat, UL n ∧ CL n
  | 0 => ⟨fun w h => by have := w.size_pos; omega, fun w h => by have := w.size_pos; omega⟩
  | n + 1 => by
    obtain ⟨hU, hC⟩ := both n
    have U1 : UL (n + 1) := by
      intro w hs ok s t z R M L S m ls ms ts h hR ha hm hd hk k
      -- a leaf's end
      have leaf : ∀ (p : List Stp), post w = p → ∀ s1, St s1 z R (M ++ [m]) (L ++ [ls]) (S ++ p) → s1.At (ms.map (fun m => [m]) ++ ts) → Go s1 t := by
        intro p ep s1 h1 a1
        refine go_of ?_
        obtain ⟨h2, a2⟩ := endWay_at h1 a1 hm hd
        rw [← ep] at h2
        exact k _ h2 a2 (Sc.skip_skip _)
      -- marks behind a part
      have mark : ∀ (p : W) (c : Nat) (kd : Nat), (c = 42 ∨ c = 63) → p.size ≤ n → okW p → post w = post p ++ [mst c] → (kd = 5 ∨ kd = 6) → ut w = inBr (needs p.kind kd) (toks p) ++ [[c]] → Be s t := by
        intro p c kd hc ps po ep ekd eu
        rw [eu] at ha
        have ha2 : s.At (inBr (needs p.kind kd) (toks p) ++ ((c :: ms).map (fun m => [m]) ++ ts)) := by simpa using ha
        have hm2 : ∀ x ∈ c :: ms, x = 42 ∨ x = 63 := fun x hx => (List.mem_cons.mp hx).elim (fun e => e ▸ hc) (hm x)
        have k2 : ∀ s' : Sc, St s' z R (M ++ [m + 1]) (L ++ [[]]) (S ++ post p ++ (c :: ms).map mst ++ ls.reverse.map (fun k => (k, eS, 1))) → s'.At ts → s'.skip = s' → Af s' t := by
          intro s' h' a' q'
          refine k s' ?_ a' q'
          rw [ep]
          simpa using h'
        cases hn : needs p.kind kd with
        | true =>
          rw [hn] at ha2
          exact grp hC ps po h hR ha2 hm2 hd k2
        | false =>
          rw [hn] at ha2
          have nk : ¬ p.kind = 3 ∧ ¬ (p.kind = 7 ∨ p.kind = 8) ∧ ¬ p.kind = 4 := by
            unfold needs at hn
            have k4 : kd ≠ 4 := by omega
            by_cases q3 : p.kind = 3
            · rw [if_pos q3, decide_eq_false k4] at hn; cases hn
            · rw [if_neg q3] at hn
              by_cases q7 : p.kind = 7 ∨ p.kind = 8
              · rw [if_pos q7] at hn
                rcases ekd with rfl | rfl <;> cases hn
              · rw [if_neg q7] at hn
                exact ⟨q3, q7, of_decide_eq_false hn⟩
          have eu2 : ut p = toks p := by
            unfold ut
            rw [needs3, decide_eq_false nk.1, decide_eq_false nk.2.2]
            rfl
          refine hU p ps po s t z R M L S m ls (c :: ms) ts h hR ?_ hm2 hd (.inr ⟨fun q => nk.2.1 (.inl q), fun q => nk.2.1 (.inr q)⟩) k2
          rw [eu2]
          exact ha2
      -- looks ahead of a part
      have look : ∀ (p : W) (c kd : Nat), p.size ≤ n → okW p → post w = post p ++ [(kd, eS, 1)] → ms = [] → (∀ a, needs a kd = needs a 3) → ut w = [c] :: inBr (needs p.kind kd) (toks p) → c ≠ 32 →
          (∀ t', s.skip.cur = some c → Be (s.skip.go.look kd) t' → Be s t') → Be s t := by
        intro p c kd ps po ep em ek eu c32 hb
        subst em
        rw [eu] at ha
        have ha2 : s.At ([c] :: (ut p ++ (([] : List Nat).map (fun m => [m]) ++ ts))) := by
          unfold ut
          rw [← ek]
          simpa using ha
        obtain ⟨h1, h2⟩ := at_one ha2 c32
        refine hb t h1 ?_
        refine hU p ps po _ t z R M L S m (ls ++ [kd]) [] ts (h.skip.go.look kd) hR h2 (fun _ q => by cases q) hd (.inl rfl) fun s' h' a' q' => ?_
        refine k s' ?_ a' q'
        rw [ep]
        simpa using h'
      have n7 : ∀ a, needs a 7 = needs a 3 := fun a => by
        unfold needs
        by_cases q : a = 3
        · subst q; decide
        · rw [if_neg q, if_neg q]
          by_cases q2 : a = 7 ∨ a = 8
          · rw [if_pos q2, if_pos q2]; decide
          · rw [if_neg q2, if_neg q2]
      have n8 : ∀ a, needs a 8 = needs a 3 := fun a => by
        unfold needs
        by_cases q : a = 3
        · subst q; decide
        · rw [if_neg q, if_neg q]
          by_cases q2 : a = 7 ∨ a = 8
          · rw [if_pos q2, if_pos q2]; decide
          · rw [if_neg q2, if_neg q2]
      -- a Row or Choice in brackets
      have rc : (w.kind = 3 ∨ w.kind = 4) → Be s t := by
        intro hk2
        have eu : ut w = [40] :: (toks w ++ [[41]]) := by
          unfold ut
          rw [needs3]
          rcases hk2 with q | q <;> rw [q] <;> rfl
        rw [eu] at ha
        have ha' : s.At ([40] :: (toks w ++ ([41] :: (ms.map (fun m => [m]) ++ ts)))) := by simpa using ha
        obtain ⟨h1, h2⟩ := at_one ha' (by decide)
        obtain ⟨c, u, r, e, f1, f2, f3, f4, f5⟩ := fst_tok (n + 1) w hs ok
        have h2' : s.skip.go.At ((c :: u) :: (r ++ ([41] :: (ms.map (fun m => [m]) ++ ts)))) := by rw [e] at h2; exact h2
        obtain ⟨h3, _⟩ := at_tok h2' f1
        refine be_open h1 (by rw [h3]; exact fun q => f2 (Option.some.inj q)) ?_
        have h4 : s.skip.go.skip.enter.At (toks w ++ ([41] :: (ms.map (fun m => [m]) ++ ts))) := by
          have := at_skip1 h2' f1
          rw [e]
          exact this
        refine CLr hU w hk2 hs ok _ t z R (M ++ [m]) (L ++ [ls]) S ([41] :: (ms.map (fun m => [m]) ++ ts)) h.skip.go.skip.enter h4 (.inr ⟨41, [], _, rfl, by decide, rfl⟩) fun s' r m' X h5 e5 a5 k5 => ?_
        refine close h5 e5 hR a5 k5 fun s6 h6 a6 => go_of ?_
        obtain ⟨h7, a7⟩ := endWay_at h6 a6 hm hd
        exact k _ h7 a7 (Sc.skip_skip _)
      cases w with
      | letter c => exact be_letter ok h ha (leaf _ rfl)
      | one => exact be_one h ha (leaf _ rfl)
      | nothing => exact be_nothing h ha (leaf _ rfl)
      | call x =>
        obtain ⟨o1, o2, o3⟩ := ok
        exact be_call o3 o1 o2 h ha (leaf _ (by show [(9, x, 0)] = [(9, tx x.cps.toList, 0)]; simp [tx]))
      | row ws => exact rc (.inl rfl)
      | choice ws => exact rc (.inr rfl)
      | again p => exact mark p 42 5 (.inl rfl) (by have : 1 + p.size ≤ n + 1 := hs; omega) ok rfl (.inl rfl) rfl
      | maybe p => exact mark p 63 6 (.inr rfl) (by have : 1 + p.size ≤ n + 1 := hs; omega) ok rfl (.inr rfl) rfl
      | ahead p => exact look p 38 7 (by have : 1 + p.size ≤ n + 1 := hs; omega) ok rfl (hk.elim id fun q => absurd rfl q.1) n7 rfl (by decide) fun t' h1 h2 => be_look7 h1 h2
      | «unless» p => exact look p 33 8 (by have : 1 + p.size ≤ n + 1 := hs; omega) ok rfl (hk.elim id fun q => absurd rfl q.2) n8 rfl (by decide) fun t' h1 h2 => be_look8 h1 h2
    refine ⟨U1, ?_⟩
    intro w hs ok s t z R M L S tl h ha hd k
    by_cases hk : w.kind = 3 ∨ w.kind = 4
    · exact CLr hU w hk hs ok s t z R M L S tl h ha hd k
    · have eu : ut w = toks w := by
        unfold ut
        rw [needs3, decide_eq_false (fun q => hk (.inl q)), decide_eq_false (fun q => hk (.inr q))]
        rfl
      refine U1 w hs ok s t z (R ++ [0]) M L S 0 [] [] tl h (by simp) (by rw [eu]; exact ha) (fun _ q => by cases q) ?_ (.inl rfl) fun s' h' a' k' => ?_
      · rcases hd with e | ⟨c, u, q, e, f1, f2⟩
        · exact .inl e
        · exact .inr ⟨c, u, q, e, f1, by subst f2; decide⟩
      · refine k s' 0 1 (S ++ post w) (by simpa using h') ?_ a' k'
        unfold fini
        rw [if_neg (by omega), if_neg (by omega), List.append_nil, List.append_nil]
/-- the text of a way, with more or fewer spaces, is read so -/
theorem scan_whole {w : W} (ok : okW w) {z : List Nat} (h : Loose (toks w) z) : ∃ (s1 t : Sc) (f : Nat), (Sc.new z 1).begin = some s1 ∧ Sc.wayK f s1 = some t ∧ t.steps = post w := by
  have h0 : St (Sc.new z 1) z ([] ++ [0]) ([] ++ [0]) ([] ++ [[]]) [] := ⟨rfl, rfl, rfl, rfl, rfl⟩
  have a0 : (Sc.new z 1).At (toks w ++ []) := by
    rw [List.append_nil]
    exact h
  have hb : Be (Sc.new z 1) (fun e => e.steps = post w) := (both w.size).2 w (Nat.le_refl _) ok _ _ z [] [] [] [] [] h0 a0 (.inl rfl) fun s' r m X h' e' a' k' => by
    refine .inl ⟨?_, ?_, whole_end h' (by rw [e']; rfl)⟩
    · have := at_end a'
      rw [k'] at this
      exact this
    · rw [h'.r]; rfl
  obtain ⟨s1, h3, f, e, h4, h5⟩ := hb.begin
  exact ⟨s1, e, f, h3, h4, h5⟩
end Ws
/-! steps that make the way; the text's codes: pure facts -/
namespace Ws
open PySem PySem.Spec PyProof.Rows L2 Wv
mutual
theorem post_way : ∀ (w : W) {r : List Stp} {S S' : List W}, Post r (S ++ [w]) S' → Post (post w ++ r) S S'
  | .letter c, r, S, S', h => by
    have := Post.cons (S := S) (Builds.letter c) h
    rw [List.append_nil] at this
    exact this
  | .one, r, S, S', h => by
    have := Post.cons (S := S) Builds.one h
    rw [List.append_nil] at this
    exact this
  | .nothing, r, S, S', h => by
    have := Post.cons (S := S) Builds.nothing h
    rw [List.append_nil] at this
    exact this
  | .call x, r, S, S', h => by
    have := Post.cons (S := S) (Builds.call x) h
    rw [List.append_nil] at this
    exact this
  | .row ws, r, S, S', h => by
    show Post ((posts ws ++ [(3, eS, ws.length)]) ++ r) S S'
    rw [List.append_assoc]
    exact post_ways ws (Post.cons (Builds.row ws) h)
  | .choice ws, r, S, S', h => by
    show Post ((posts ws ++ [(4, eS, ws.length)]) ++ r) S S'
    rw [List.append_assoc]
    exact post_ways ws (Post.cons (Builds.choice ws) h)
  | .again w, r, S, S', h => by
    show Post ((post w ++ [(5, eS, 1)]) ++ r) S S'
    rw [List.append_assoc]
    exact post_way w (Post.cons (Builds.again w) h)
  | .maybe w, r, S, S', h => by
    show Post ((post w ++ [(6, eS, 1)]) ++ r) S S'
    rw [List.append_assoc]
    exact post_way w (Post.cons (Builds.maybe w) h)
  | .ahead w, r, S, S', h => by
    show Post ((post w ++ [(7, eS, 1)]) ++ r) S S'
    rw [List.append_assoc]
    exact post_way w (Post.cons (Builds.ahead w) h)
  | .unless w, r, S, S', h => by
    show Post ((post w ++ [(8, eS, 1)]) ++ r) S S'
    rw [List.append_assoc]
    exact post_way w (Post.cons (Builds.unless w) h)
theorem post_ways : ∀ (ws : List W) {r : List Stp} {S S' : List W}, Post r (S ++ ws) S' → Post (posts ws ++ r) S S'
  | [], r, S, S', h => by rw [List.append_nil] at h; exact h
  | w :: ws, r, S, S', h => by
    show Post ((post w ++ posts ws) ++ r) S S'
    rw [List.append_assoc]
    refine post_way w (post_ways ws ?_)
    rw [List.append_assoc]
    exact h
end
theorem post_whole (w : W) : Post (post w) [] [w] := by
  have := post_way w (r := []) (S := []) (Post.nil _)
  rw [List.append_nil] at this
  exact this
mutual
theorem post_len : ∀ w : W, (post w).length = w.size
  | .letter c => rfl | .one => rfl | .nothing => rfl | .call x => rfl
  | .row ws => by show (posts ws ++ [_]).length = 1 + W.sizes ws; rw [List.length_append, posts_len ws, List.length_singleton]; omega
  | .choice ws => by show (posts ws ++ [_]).length = 1 + W.sizes ws; rw [List.length_append, posts_len ws, List.length_singleton]; omega
  | .again w => by show (post w ++ [_]).length = 1 + w.size; rw [List.length_append, post_len w, List.length_singleton]; omega
  | .maybe w => by show (post w ++ [_]).length = 1 + w.size; rw [List.length_append, post_len w, List.length_singleton]; omega
  | .ahead w => by show (post w ++ [_]).length = 1 + w.size; rw [List.length_append, post_len w, List.length_singleton]; omega
  | .unless w => by show (post w ++ [_]).length = 1 + w.size; rw [List.length_append, post_len w, List.length_singleton]; omega
theorem posts_len : ∀ ws : List W, (posts ws).length = W.sizes ws
  | [] => rfl
  | w :: ws => by show (post w ++ posts ws).length = w.size + W.sizes ws; rw [List.length_append, post_len w, posts_len ws]
end
/-! ### signs that are read as a way, and brackets around them -/
/-- these signs, up to what ends them, are read to these steps -/
structure Told (T : List (List Nat)) (p : List Stp) : Prop where
  fst : ∃ c u r, T = (c :: u) :: r ∧ FstC c
  run : ∀ (s : Sc) (t : Sc → Prop) (z R M : List Nat) (L : List (List Nat)) (S : List Stp) (tl : List (List Nat)), St s z (R ++ [0]) (M ++ [0]) (L ++ [[]]) S → s.At (T ++ tl) → Hd tl (fun c => c = 41) →
    (∀ (s' : Sc) (r m : Nat) (X : List Stp), St s' z (R ++ [r]) (M ++ [m]) (L ++ [[]]) X → fini r m X = S ++ p → s'.At tl → s'.skip = s' → Af s' t) → Be s t
theorem told_way {w : W} (ok : okW w) : Told (toks w) (post w) := ⟨fst_tok w.size w (Nat.le_refl _) ok, fun s t z R M L S tl => (both w.size).2 w (Nat.le_refl _) ok s t z R M L S tl⟩
theorem told_br {T : List (List Nat)} {p : List Stp} (h : Told T p) : Told ([40] :: (T ++ [[41]])) p := by
  refine ⟨⟨40, [], _, rfl, by decide, by decide, by decide, by decide, by decide⟩, fun s t z R M L S tl hs ha hd k => ?_⟩
  obtain ⟨c, u, r, e, f1, f2, f3, f4, f5⟩ := h.fst
  have ha' : s.At ([40] :: (T ++ ([41] :: tl))) := by simpa using ha
  obtain ⟨h1, h2⟩ := at_one ha' (by decide)
  have h2' : s.skip.go.At ((c :: u) :: (r ++ ([41] :: tl))) := by rw [e] at h2; exact h2
  obtain ⟨h3, _⟩ := at_tok h2' f1
  refine be_open h1 (by rw [h3]; exact fun q => f2 (Option.some.inj q)) ?_
  have h4 : s.skip.go.skip.enter.At (T ++ ([41] :: tl)) := by
    have := at_skip1 h2' f1
    rw [e]
    exact this
  refine h.run _ t z (R ++ [0]) (M ++ [0]) (L ++ [[]]) S ([41] :: tl) hs.skip.go.skip.enter h4 (.inr ⟨41, [], _, rfl, by decide, rfl⟩) fun s' r m X h5 e5 a5 k5 => ?_
  refine close h5 e5 (by simp) a5 k5 fun s6 h6 a6 => go_of ?_
  have hd2 : Hd tl (fun c => c ≠ 42 ∧ c ≠ 63) := by
    rcases hd with e | ⟨c, u, q, e, f1, f2⟩
    · exact .inl e
    · exact .inr ⟨c, u, q, e, f1, by subst f2; decide⟩
  obtain ⟨h7, a7⟩ := endWay_at (ms := []) h6 a6 (fun _ q => by cases q) hd2
  refine k _ 0 1 (S ++ p) (by simpa using h7) ?_ a7 (Sc.skip_skip _)
  unfold fini
  rw [if_neg (by omega), if_neg (by omega), List.append_nil, List.append_nil]
theorem told_reads {T : List (List Nat)} {w : W} (h : Told T (post w)) (hw : w.size ≤ 100000) {z : List Nat} (hl : Loose T z) (hz : z.length ≤ 10000) : Reads z w := by
  have h0 : St (Sc.new z 1) z ([] ++ [0]) ([] ++ [0]) ([] ++ [[]]) [] := ⟨rfl, rfl, rfl, rfl, rfl⟩
  have a0 : (Sc.new z 1).At (T ++ []) := by
    rw [List.append_nil]
    exact hl
  have hb : Be (Sc.new z 1) (fun e => e.steps = post w) := h.run _ _ z [] [] [] [] [] h0 a0 (.inl rfl) fun s' r m X h' e' a' k' => by
    refine .inl ⟨?_, ?_, whole_end h' (by rw [e']; rfl)⟩
    · have := at_end a'
      rw [k'] at this
      exact this
    · rw [h'.r]; rfl
  obtain ⟨s1, h3, f, e, h4, h5⟩ := hb.begin
  refine ⟨hz, s1, e, f, h3, h4, ?_, ?_⟩
  · rw [h5]; exact post_whole w
  · rw [h5, post_len]; exact hw
/-! ### the text's codes -/
def brC (b : Bool) (l : List Nat) : List Nat := if b = true then 40 :: (l ++ [41]) else l
mutual
def cod : W → List Nat
  | .letter c => [c] | .one => [46] | .nothing => [40, 41] | .call x => 60 :: (x.cps.toList ++ [62])
  | .row ws => codJ 3 [32] true ws
  | .choice ws => codJ 4 [32, 47, 32] true ws
  | .again w => brC (needs w.kind 5) (cod w) ++ [42] | .maybe w => brC (needs w.kind 6) (cod w) ++ [63]
  | .ahead w => 38 :: brC (needs w.kind 7) (cod w) | .unless w => 33 :: brC (needs w.kind 8) (cod w)
def codJ (k : Nat) (b : List Nat) : Bool → List W → List Nat
  | _, [] => []
  | f, w :: ws => (if f = true then [] else b) ++ (brC (needs w.kind k) (cod w) ++ codJ k b false ws)
end
def pcC : Piece → List Nat
  | .s x => x.cps.toList
  | .w w => cod w
theorem cod_br (w : W) (k : Nat) : (brP w k).flatMap pcC = brC (needs w.kind k) (cod w) := by
  have e1 : (Str.ofString "(").cps.toList = [40] := by decide +kernel
  have e2 : (Str.ofString ")").cps.toList = [41] := by decide +kernel
  unfold brP brC
  split
  · simp [pcC, e1, e2]
  · simp [pcC]
theorem cod_join (k : Nat) (b : Str) : ∀ (ws : List W) (f : Bool), (joinP k b f ws).flatMap pcC = codJ k b.cps.toList f ws
  | [], _ => rfl
  | w :: ws, f => by
    show ((if f = true then ([] : List Piece) else [Piece.s b]) ++ brP w k ++ joinP k b false ws).flatMap pcC = (if f = true then [] else b.cps.toList) ++ (brC (needs w.kind k) (cod w) ++ codJ k b.cps.toList false ws)
    rw [List.flatMap_append, List.flatMap_append, cod_br, cod_join k b ws false, List.append_assoc]
    cases f <;> simp [pcC]
theorem cod_spell (w : W) : (spell w).flatMap pcC = cod w := by
  have e1 : (Str.ofString ".").cps.toList = [46] := by decide +kernel
  have e2 : (Str.ofString "()").cps.toList = [40, 41] := by decide +kernel
  have e3 : (Str.ofString "<").cps.toList = [60] := by decide +kernel
  have e4 : (Str.ofString ">").cps.toList = [62] := by decide +kernel
  have e5 : (Str.ofString "*").cps.toList = [42] := by decide +kernel
  have e6 : (Str.ofString "?").cps.toList = [63] := by decide +kernel
  have e7 : (Str.ofString "&").cps.toList = [38] := by decide +kernel
  have e8 : (Str.ofString "!").cps.toList = [33] := by decide +kernel
  have e9 : (Str.ofString " ").cps.toList = [32] := by decide +kernel
  have e10 : (Str.ofString " / ").cps.toList = [32, 47, 32] := by decide +kernel
  cases w with
  | letter c => rfl
  | one => simp [spell, pcC, cod, e1]
  | nothing => simp [spell, pcC, cod, e2]
  | call x => simp [spell, pcC, cod, e3, e4]
  | row ws =>
    show (joinP 3 (Str.ofString " ") true ws).flatMap pcC = codJ 3 [32] true ws
    rw [cod_join, e9]
  | choice ws =>
    show (joinP 4 (Str.ofString " / ") true ws).flatMap pcC = codJ 4 [32, 47, 32] true ws
    rw [cod_join, e10]
  | again w =>
    show (brP w 5 ++ [Piece.s (Str.ofString "*")]).flatMap pcC = brC (needs w.kind 5) (cod w) ++ [42]
    rw [List.flatMap_append, cod_br]
    simp [pcC, e5]
  | maybe w =>
    show (brP w 6 ++ [Piece.s (Str.ofString "?")]).flatMap pcC = brC (needs w.kind 6) (cod w) ++ [63]
    rw [List.flatMap_append, cod_br]
    simp [pcC, e6]
  | ahead w =>
    show (Piece.s (Str.ofString "&") :: brP w 7).flatMap pcC = 38 :: brC (needs w.kind 7) (cod w)
    rw [List.flatMap_cons, cod_br]
    simp [pcC, e7]
  | «unless» w =>
    show (Piece.s (Str.ofString "!") :: brP w 8).flatMap pcC = 33 :: brC (needs w.kind 8) (cod w)
    rw [List.flatMap_cons, cod_br]
    simp [pcC, e8]
theorem cod_flat : ∀ (n : Nat) (ps : List Piece), wt ps ≤ n → (flat n ps).flatMap (fun x => x.cps.toList) = ps.flatMap pcC
  | 0, [], _ => rfl
  | 0, p :: ps, h => by
    have h1 := wt_len (p :: ps)
    simp only [List.length_cons] at h1
    omega
  | n + 1, [], _ => rfl
  | n + 1, .s x :: ps, h => by
    have h' : 1 + wt ps ≤ n + 1 := h
    show (x :: flat n ps).flatMap _ = _
    rw [List.flatMap_cons, List.flatMap_cons, cod_flat n ps (by omega)]
    rfl
  | n + 1, .w w :: ps, h => by
    have h' : (14 * w.size - 10) + wt ps ≤ n + 1 := h
    have hw := wt_spell w
    show (flat n (spell w ++ ps)).flatMap _ = _
    rw [cod_flat n (spell w ++ ps) (by rw [wt_app]; omega), List.flatMap_append, cod_spell, List.flatMap_cons]
    rfl
theorem cod_pcs (w : W) : (pcs w).flatMap (fun x => x.cps.toList) = cod w := by
  unfold pcs
  rw [cod_flat _ _ (by show 14 * w.size - 10 + 0 ≤ _; omega)]
  simp [pcC]
end Ws
/-! the law's words of a way: pure facts -/
namespace Ws
open PySem PySem.Spec PyProof.Rows L2 Wv
def uS : Str := Str.ofString "_"
def lbr (b : Bool) (l : List Str) : List Str := if b = true then Str.ofString "(" :: (l ++ [Str.ofString ")"]) else l
mutual
def lw : W → List Str
  | .letter c => [sg c] | .one => [Str.ofString "."] | .nothing => [Str.ofString "(", Str.ofString ")"] | .call x => [Str.ofString "<", x, Str.ofString ">"]
  | .row ws => lwJ 3 [uS] true ws
  | .choice ws => lwJ 4 [uS, Str.ofString "/", uS] true ws
  | .again w => lbr (needs w.kind 5) (lw w) ++ [Str.ofString "*"] | .maybe w => lbr (needs w.kind 6) (lw w) ++ [Str.ofString "?"]
  | .ahead w => Str.ofString "&" :: lbr (needs w.kind 7) (lw w) | .unless w => Str.ofString "!" :: lbr (needs w.kind 8) (lw w)
def lwJ (k : Nat) (b : List Str) : Bool → List W → List Str
  | _, [] => []
  | f, w :: ws => (if f = true then [] else b) ++ (lbr (needs w.kind k) (lw w) ++ lwJ k b false ws)
end
/-- a word's codes in the text, and among the signs -/
def cd (x : Str) : List Nat := if x = uS then [32] else x.cps.toList
def tk (x : Str) : List (List Nat) := if x = uS then [] else [x.cps.toList]
theorem cd_of {x : Str} (h : x ≠ uS) : cd x = x.cps.toList := if_neg h
theorem tk_of {x : Str} (h : x ≠ uS) : tk x = [x.cps.toList] := if_neg h
theorem k1 : cd (Str.ofString "(") = [40] ∧ tk (Str.ofString "(") = [[40]] := by decide +kernel
theorem k2 : cd (Str.ofString ")") = [41] ∧ tk (Str.ofString ")") = [[41]] := by decide +kernel
theorem k3 : cd (Str.ofString ".") = [46] ∧ tk (Str.ofString ".") = [[46]] := by decide +kernel
theorem k4 : cd (Str.ofString "<") = [60] ∧ tk (Str.ofString "<") = [[60]] := by decide +kernel
theorem k5 : cd (Str.ofString ">") = [62] ∧ tk (Str.ofString ">") = [[62]] := by decide +kernel
theorem k6 : cd (Str.ofString "*") = [42] ∧ tk (Str.ofString "*") = [[42]] := by decide +kernel
theorem k7 : cd (Str.ofString "?") = [63] ∧ tk (Str.ofString "?") = [[63]] := by decide +kernel
theorem k8 : cd (Str.ofString "&") = [38] ∧ tk (Str.ofString "&") = [[38]] := by decide +kernel
theorem k9 : cd (Str.ofString "!") = [33] ∧ tk (Str.ofString "!") = [[33]] := by decide +kernel
theorem k10 : cd (Str.ofString "/") = [47] ∧ tk (Str.ofString "/") = [[47]] := by decide +kernel
theorem k11 : cd uS = [32] ∧ tk uS = [] := by decide +kernel
theorem uS_cps : uS.cps.toList = [95] := by decide +kernel
theorem sg_ne {c : Nat} (h : isAz c) : sg c ≠ uS := fun e => by
  have := congrArg (fun s : Str => s.cps.toList) e
  have e2 : [c] = [95] := this.trans uS_cps
  have : c = 95 := by simpa using e2
  have := h.1
  omega
theorem nm_ne {x : Str} (h : ∀ c ∈ x.cps.toList, isAz c) : x ≠ uS := fun e => by
  have := h 95 (by rw [e, uS_cps]; simp)
  have := this.1
  omega
theorem lbr_cd (b : Bool) (l : List Str) : (lbr b l).flatMap cd = brC b (l.flatMap cd) := by
  unfold lbr brC
  split
  · simp [k1.1, k2.1]
  · rfl
theorem lbr_tk (b : Bool) (l : List Str) : (lbr b l).flatMap tk = inBr b (l.flatMap tk) := by
  unfold lbr inBr
  split
  · simp [k1.2, k2.2]
  · rfl
mutual
theorem lw_cd : ∀ w : W, okW w → (lw w).flatMap cd = cod w
  | .letter c, h => by show cd (sg c) ++ [] = [c]; rw [cd_of (sg_ne h)]; rfl
  | .one, _ => by show cd _ ++ [] = _; rw [k3.1]; rfl
  | .nothing, _ => by show cd _ ++ (cd _ ++ []) = _; rw [k1.1, k2.1]; rfl
  | .call x, h => by
    show cd _ ++ (cd x ++ (cd _ ++ [])) = 60 :: (x.cps.toList ++ [62])
    rw [k4.1, k5.1, cd_of (nm_ne h.2.2)]
    simp
  | .row ws, h => lwJ_cd 3 [uS] [32] (by show cd uS ++ [] = _; rw [k11.1]; rfl) ws true h.2
  | .choice ws, h => lwJ_cd 4 [uS, Str.ofString "/", uS] [32, 47, 32] (by show cd uS ++ (cd _ ++ (cd uS ++ [])) = _; rw [k11.1, k10.1]; rfl) ws true h.2
  | .again w, h => by
    show (lbr (needs w.kind 5) (lw w) ++ [Str.ofString "*"]).flatMap cd = brC (needs w.kind 5) (cod w) ++ [42]
    rw [List.flatMap_append, lbr_cd, lw_cd w h]
    simp [k6.1]
  | .maybe w, h => by
    show (lbr (needs w.kind 6) (lw w) ++ [Str.ofString "?"]).flatMap cd = brC (needs w.kind 6) (cod w) ++ [63]
    rw [List.flatMap_append, lbr_cd, lw_cd w h]
    simp [k7.1]
  | .ahead w, h => by
    show (Str.ofString "&" :: lbr (needs w.kind 7) (lw w)).flatMap cd = 38 :: brC (needs w.kind 7) (cod w)
    rw [List.flatMap_cons, lbr_cd, lw_cd w h, k8.1]
    rfl
  | .unless w, h => by
    show (Str.ofString "!" :: lbr (needs w.kind 8) (lw w)).flatMap cd = 33 :: brC (needs w.kind 8) (cod w)
    rw [List.flatMap_cons, lbr_cd, lw_cd w h, k9.1]
    rfl
theorem lwJ_cd (k : Nat) (b : List Str) (b' : List Nat) (hb : b.flatMap cd = b') : ∀ (ws : List W) (f : Bool), okWs ws → (lwJ k b f ws).flatMap cd = codJ k b' f ws
  | [], _, _ => rfl
  | w :: ws, f, h => by
    show ((if f = true then [] else b) ++ (lbr (needs w.kind k) (lw w) ++ lwJ k b false ws)).flatMap cd = (if f = true then [] else b') ++ (brC (needs w.kind k) (cod w) ++ codJ k b' false ws)
    rw [List.flatMap_append, List.flatMap_append, lbr_cd, lw_cd w h.1, lwJ_cd k b b' hb ws false h.2]
    cases f
    · rw [if_neg Bool.false_ne_true, if_neg Bool.false_ne_true, hb]
    · rfl
end
mutual
theorem lw_tk : ∀ w : W, okW w → (lw w).flatMap tk = toks w
  | .letter c, h => by show tk (sg c) ++ [] = [[c]]; rw [tk_of (sg_ne h)]; rfl
  | .one, _ => by show tk _ ++ [] = _; rw [k3.2]; rfl
  | .nothing, _ => by show tk _ ++ (tk _ ++ []) = _; rw [k1.2, k2.2]; rfl
  | .call x, h => by
    show tk _ ++ (tk x ++ (tk _ ++ [])) = [[60], x.cps.toList, [62]]
    rw [k4.2, k5.2, tk_of (nm_ne h.2.2)]
    rfl
  | .row ws, h => lwJ_tkR ws true h.2
  | .choice ws, h => lwJ_tkC ws true h.2
  | .again w, h => by
    show (lbr (needs w.kind 5) (lw w) ++ [Str.ofString "*"]).flatMap tk = inBr (needs w.kind 5) (toks w) ++ [[42]]
    rw [List.flatMap_append, lbr_tk, lw_tk w h]
    simp [k6.2]
  | .maybe w, h => by
    show (lbr (needs w.kind 6) (lw w) ++ [Str.ofString "?"]).flatMap tk = inBr (needs w.kind 6) (toks w) ++ [[63]]
    rw [List.flatMap_append, lbr_tk, lw_tk w h]
    simp [k7.2]
  | .ahead w, h => by
    show (Str.ofString "&" :: lbr (needs w.kind 7) (lw w)).flatMap tk = [38] :: inBr (needs w.kind 7) (toks w)
    rw [List.flatMap_cons, lbr_tk, lw_tk w h, k8.2]
    rfl
  | .unless w, h => by
    show (Str.ofString "!" :: lbr (needs w.kind 8) (lw w)).flatMap tk = [33] :: inBr (needs w.kind 8) (toks w)
    rw [List.flatMap_cons, lbr_tk, lw_tk w h, k9.2]
    rfl
theorem lwJ_tkR : ∀ (ws : List W) (f : Bool), okWs ws → (lwJ 3 [uS] f ws).flatMap tk = tokR ws
  | [], _, _ => rfl
  | w :: ws, f, h => by
    show ((if f = true then [] else [uS]) ++ (lbr (needs w.kind 3) (lw w) ++ lwJ 3 [uS] false ws)).flatMap tk = inBr (needs w.kind 3) (toks w) ++ tokR ws
    rw [List.flatMap_append, List.flatMap_append, lbr_tk, lw_tk w h.1, lwJ_tkR ws false h.2]
    cases f
    · show (tk uS ++ []) ++ _ = _
      rw [k11.2]; rfl
    · rfl
theorem lwJ_tkC : ∀ (ws : List W) (f : Bool), okWs ws → (lwJ 4 [uS, Str.ofString "/", uS] f ws).flatMap tk = tokC f ws
  | [], _, _ => rfl
  | w :: ws, f, h => by
    show ((if f = true then [] else [uS, Str.ofString "/", uS]) ++ (lbr (needs w.kind 4) (lw w) ++ lwJ 4 [uS, Str.ofString "/", uS] false ws)).flatMap tk = (if f = true then [] else [[47]]) ++ (inBr (needs w.kind 4) (toks w) ++ tokC false ws)
    rw [List.flatMap_append, List.flatMap_append, lbr_tk, lw_tk w h.1, lwJ_tkC ws false h.2]
    cases f
    · show (tk uS ++ (tk _ ++ (tk uS ++ []))) ++ _ = _
      rw [k11.2, k10.2]; rfl
    · rfl
end
/-! ### words with spaces -/
inductive Spaced : List Str → List Nat → Prop where
  | nil (n : Nat) : Spaced [] (List.replicate n 32)
  | cons (n : Nat) (x : Str) {xs : List Str} {r : List Nat} (h : Spaced xs r) : Spaced (x :: xs) (List.replicate n 32 ++ ((if x = uS then [] else x.cps.toList) ++ r))
theorem Loose.pad {ts : List (List Nat)} {z : List Nat} (n : Nat) (h : Loose ts z) : Loose ts (List.replicate n 32 ++ z) := by
  cases h with
  | nil m =>
    rw [List.replicate_append_replicate]
    exact Loose.nil (n + m)
  | cons m t h =>
    rw [← List.append_assoc, List.replicate_append_replicate]
    exact Loose.cons (n + m) t h
theorem Spaced.loose : ∀ {xs : List Str} {z : List Nat}, Spaced xs z → Loose (xs.flatMap tk) z
  | _, _, .nil n => Loose.nil n
  | _, _, .cons n x h => by
    have ih := Spaced.loose h
    rw [List.flatMap_cons]
    by_cases e : x = uS
    · rw [if_pos e, List.nil_append]
      have : tk x = [] := if_pos e
      rw [this]
      exact ih.pad n
    · rw [if_neg e, tk_of e]
      exact Loose.cons n _ ih
/-- the text as it is written is such a text, too -/
theorem spaced_cd : ∀ xs : List Str, Spaced xs (xs.flatMap cd)
  | [] => Spaced.nil 0
  | x :: xs => by
    rw [List.flatMap_cons]
    by_cases e : x = uS
    · have h := Spaced.cons 1 x (spaced_cd xs)
      rw [if_pos e] at h
      have : cd x = [32] := if_pos e
      rw [this]
      exact h
    · have h := Spaced.cons 0 x (spaced_cd xs)
      rw [if_neg e] at h
      rw [cd_of e]
      exact h
end Ws
namespace Ws
open PySem PySem.Spec PyProof.Rows L2 Wv
/-! ### what is new over a part of the heap; pure facts of signs -/
def over (G N : Hp) : Hp := fun a => match G a with
  | some o => some o
  | none => N a
theorem over_new {G N : Hp} {a : Addr} (h : G a = none) : over G N a = N a := by unfold over; rw [h]
theorem over_old {G N : Hp} {a : Addr} {o : HO} (h : G a = some o) : over G N a = some o := by unfold over; rw [h]
theorem over_keep {G N N' : Hp} (k : ∀ a o, G a = none → N a = some o → N' a = some o ∨ ∃ kvs kvs', o = .dK kvs ∧ N' a = some (.dK kvs')) : Keep (over G N) (over G N') := fun a o h => by
  cases e : G a with
  | some o' =>
    rw [over_old e] at h
    rw [over_old e]
    exact .inl h
  | none =>
    rw [over_new e] at h
    rw [over_new e]
    exact k a o e h
theorem over_in {G N : Hp} : Keep G (over G N) := fun a o h => .inl (over_old h)
theorem over_to {G H H' : Hp} (g : Keep G H) (k : Keep H H') : Keep (over G (newer H H')) H' := fun a o h => by
  cases e : G a with
  | some o' =>
    rw [over_old e] at h
    injection h with h
    subst h
    exact (g.trans k) a _ e
  | none =>
    rw [over_new e] at h
    exact .inl (newer_of h).2
/-- a part made later stays, but for the list D -/
theorem over_up {G H H4 H5 H6 : Hp} {D : Addr} {o : HO} (k : Keep H H4) (hD : H4 D = some o) (k5 : ∀ a o, a ≠ D → H5 a = some o → H6 a = some o ∨ ∃ kvs kvs', o = .dK kvs ∧ H6 a = some (.dK kvs')) : Keep (over G (newer H4 H5)) (over G (newer H H6)) := over_keep fun a o' _ h => by
  obtain ⟨h1, h2⟩ := newer_of h
  have nD : a ≠ D := fun q => by rw [q, hD] at h1; cases h1
  rw [newer_at (k.free h1)]
  exact k5 a o' nD h2
def nD (D : Addr) (N : Hp) : Hp := fun a => if a = D then none else N a
theorem nD_of {D a : Addr} {N : Hp} {o : HO} (h : nD D N a = some o) : a ≠ D ∧ N a = some o := by
  unfold nD at h
  split at h
  · cases h
  · exact ⟨‹_›, h⟩
theorem nD_at {D a : Addr} {N : Hp} (h : a ≠ D) : nD D N a = N a := if_neg h
theorem wfs_get {z : List Nat} : ∀ {ws : List W} {i : Nat} {w : W}, W.wfs z ws → ws[i]? = some w → w.wf z
  | [], i, w, _, h => by simp at h
  | x :: ws, 0, w, ok, h => by
    have e : x = w := by simpa using h
    subst e
    exact ok.1
  | x :: ws, i + 1, w, ok, h => wfs_get ok.2 (by simpa using h)
theorem join_sg' : ∀ cs : List Nat, PySem.Str.join (Str.ofString "") (cs.map sg) = tx cs
  | [] => rfl
  | [c] => rfl
  | c :: c2 :: r => by
    show sg c ++ Str.ofString "" ++ PySem.Str.join (Str.ofString "") ((c2 :: r).map sg) = _
    rw [join_sg' (c2 :: r), empty_tx, show sg c = tx [c] from rfl, tx_app, tx_app]
    rfl
theorem join_sg (cs : List Nat) : Txt.join (Str.ofString "") (cs.map sg) = tx cs := (TL.join_eq _ _).trans (join_sg' cs)
theorem W.sizes_take : ∀ (ws : List W) (i : Nat), W.sizes (ws.take i) ≤ W.sizes ws
  | [], i => by simp
  | w :: ws, 0 => Nat.zero_le _
  | w :: ws, i + 1 => by
    have := W.sizes_take ws i
    show w.size + W.sizes (ws.take i) ≤ w.size + W.sizes ws
    omega
theorem sg_sum : ∀ cs : List Nat, (((cs.map sg).map (fun x : Str => x.length)).sum) = cs.length
  | [] => rfl
  | c :: cs => by
    have := sg_sum cs
    rw [List.map_cons, List.map_cons, List.sum_cons, List.length_cons, this]
    show 1 + _ = _
    omega
end Ws
namespace Ws
open PySem PySem.Spec PyProof.Rows L2 Wv
/-! ### the law's brackets and words -/
def spBrk : Sp := fun vs H Q _ => ∃ (v : V) (w x : W), vs = [v, .str x.tag] ∧ WayAt H v w ∧ ∀ H', Same H H' → Q (.bl (needs w.kind x.kind)) H'
def isAx : W → Bool
  | .ahead _ => true
  | .unless _ => true
  | _ => false
theorem in_ax (w : W) : inV (.str w.tag) [.str (Str.ofString "ahead"), .str (Str.ofString "unless")] = (decide (w.kind = 7) || decide (w.kind = 8)) := by
  have h : inV (.str w.tag) [.str (Str.ofString "ahead"), .str (Str.ofString "unless")] = isAx w := by cases w <;> (simp only [W.tag, isAx]; decide +kernel)
  rw [h]
  cases w <;> rfl
theorem in_am2 (w : W) : inV (.str w.tag) [.str (Str.ofString "again"), .str (Str.ofString "maybe")] = (decide (w.kind = 5) || decide (w.kind = 6)) := by
  rw [in_am]
  cases w <;> rfl
theorem eq_choice2 (w : W) : decide (V.str w.tag = V.str (Str.ofString "choice")) = decide (w.kind = 4) := by rw [eq_choice]; cases w <;> rfl
theorem eq_row2 (w : W) : decide (V.str w.tag = V.str (Str.ofString "row")) = decide (w.kind = 3) := by rw [eq_row]; cases w <;> rfl
def in3 (w : W) : Bool := match w with
  | .letter _ => true
  | .one => true
  | .nothing => true
  | _ => false
theorem in_three (w : W) : inV (.str w.tag) [.str (Str.ofString "letter"), .str (Str.ofString "one"), .str (Str.ofString "nothing")] = in3 w := by cases w <;> (simp only [W.tag, in3]; decide +kernel)
def spWords (s : Nat) : Sp := fun vs H Q _ => ∃ (v : V) (w : W), vs = [v] ∧ WayAt H v w ∧ okW w ∧ w.size ≤ s ∧ w.size ≤ 1000 ∧ ∀ (q : Addr) (H' : Hp), Same H H' → H q = none → H' q = some (.lst ((lw w).map V.str)) → Q (.ref q) H'
mutual
/-- an empty list is no part of a way: it may be written -/
theorem WayAt.off {H H' : Hp} {t : Addr} (ht : H t = some (.lst [])) (k : ∀ a o, a ≠ t → H a = some o → H' a = some o) : ∀ (w : W) (v : V), okW w → WayAt H v w → WayAt H' v w
  | .nothing, v, _, ⟨a, e, h⟩ => ⟨a, e, k a _ (ne_of h ht (by intro z; cases z)) h⟩
  | .one, v, _, ⟨a, e, h⟩ => ⟨a, e, k a _ (ne_of h ht (by intro z; cases z)) h⟩
  | .letter _, v, _, ⟨a, e, h⟩ => ⟨a, e, k a _ (ne_of h ht (by intro z; cases z)) h⟩
  | .call _, v, _, ⟨a, e, h⟩ => ⟨a, e, k a _ (ne_of h ht (by intro z; cases z)) h⟩
  | .row ws, v, ok, ⟨a, l, vs, e, h, h2, h3⟩ => ⟨a, l, vs, e, k a _ (ne_of h ht (by intro z; cases z)) h, k l _ (fun q => by
      have hl := WaysAt.len _ _ h3
      have := ok.1
      rw [q, ht] at h2
      injection h2 with h2
      injection h2 with h2
      rw [← h2] at hl
      simp at hl
      omega) h2, WaysAt.off ht k ws vs ok.2 h3⟩
  | .choice ws, v, ok, ⟨a, l, vs, e, h, h2, h3⟩ => ⟨a, l, vs, e, k a _ (ne_of h ht (by intro z; cases z)) h, k l _ (fun q => by
      have hl := WaysAt.len _ _ h3
      have := ok.1
      rw [q, ht] at h2
      injection h2 with h2
      injection h2 with h2
      rw [← h2] at hl
      simp at hl
      omega) h2, WaysAt.off ht k ws vs ok.2 h3⟩
  | .again w, v, ok, ⟨a, u, e, h, h2⟩ => ⟨a, u, e, k a _ (ne_of h ht (by intro z; cases z)) h, WayAt.off ht k w u ok h2⟩
  | .maybe w, v, ok, ⟨a, u, e, h, h2⟩ => ⟨a, u, e, k a _ (ne_of h ht (by intro z; cases z)) h, WayAt.off ht k w u ok h2⟩
  | .ahead w, v, ok, ⟨a, u, e, h, h2⟩ => ⟨a, u, e, k a _ (ne_of h ht (by intro z; cases z)) h, WayAt.off ht k w u ok h2⟩
  | .unless w, v, ok, ⟨a, u, e, h, h2⟩ => ⟨a, u, e, k a _ (ne_of h ht (by intro z; cases z)) h, WayAt.off ht k w u ok h2⟩
theorem WaysAt.off {H H' : Hp} {t : Addr} (ht : H t = some (.lst [])) (k : ∀ a o, a ≠ t → H a = some o → H' a = some o) : ∀ (ws : List W) (vs : List V), okWs ws → WaysAt H vs ws → WaysAt H' vs ws
  | [], _, _, h => h
  | w :: ws, vs, ok, ⟨u, us, e, h, h2⟩ => ⟨u, us, e, WayAt.off ht k w u ok.1 h, WaysAt.off ht k ws us ok.2 h2⟩
end
theorem okW_inner : ∀ {w : W}, okW w → okWs w.inner
  | .nothing, _ => trivial | .one, _ => trivial | .letter _, _ => trivial | .call _, _ => trivial
  | .row _, h => h.2 | .choice _, h => h.2
  | .again _, h => ⟨h, trivial⟩ | .maybe _, h => ⟨h, trivial⟩ | .ahead _, h => ⟨h, trivial⟩ | .unless _, h => ⟨h, trivial⟩
theorem okWs_get : ∀ {ws : List W} {i : Nat} {w : W}, okWs ws → ws[i]? = some w → okW w
  | [], i, w, _, h => by simp at h
  | x :: ws, 0, w, ok, h => by
    have e : x = w := by simpa using h
    subst e
    exact ok.1
  | x :: ws, i + 1, w, ok, h => okWs_get ok.2 (by simpa using h)
/-- lists of words, none of them at the address t -/
def TextsAt (H : Hp) (t : Addr) : List V → List (List Str) → Prop
  | vs, [] => vs = []
  | vs, l :: ls => ∃ r us, vs = V.ref r :: us ∧ r ≠ t ∧ H r = some (.lst (l.map V.str)) ∧ TextsAt H t us ls
theorem TextsAt.keep {H H' : Hp} {t : Addr} (k : ∀ a o, a ≠ t → H a = some o → H' a = some o) : ∀ (ls : List (List Str)) (vs : List V), TextsAt H t vs ls → TextsAt H' t vs ls
  | [], _, h => h
  | l :: ls, vs, ⟨r, us, e, n, h, h2⟩ => ⟨r, us, e, n, k r _ n h, TextsAt.keep k ls us h2⟩
theorem TextsAt.app {H : Hp} {t : Addr} : ∀ (ls : List (List Str)) (vs : List V) {us : List V} {qs : List (List Str)}, TextsAt H t vs ls → TextsAt H t us qs → TextsAt H t (vs ++ us) (ls ++ qs)
  | [], vs, us, qs, h, h2 => by rw [show vs = [] from h]; exact h2
  | l :: ls, vs, us, qs, ⟨r, u, e, n, h, h3⟩, h2 => by rw [e]; exact ⟨r, u ++ us, rfl, n, h, TextsAt.app ls u h3 h2⟩
theorem TextsAt.len {H : Hp} {t : Addr} : ∀ (ls : List (List Str)) (vs : List V), TextsAt H t vs ls → vs.length = ls.length
  | [], vs, h => by rw [show vs = [] from h]; rfl
  | l :: ls, vs, ⟨r, us, e, _, _, h⟩ => by rw [e, List.length_cons, List.length_cons, TextsAt.len ls us h]
theorem TextsAt.at_ {H : Hp} {t : Addr} : ∀ (ls : List (List Str)) (vs : List V) (i : Nat) (v : V), TextsAt H t vs ls → vs[i]? = some v → ∃ r l, v = .ref r ∧ ls[i]? = some l ∧ H r = some (.lst (l.map V.str))
  | [], vs, i, v, h, e => by rw [show vs = [] from h] at e; simp at e
  | l :: ls, vs, 0, v, ⟨r, us, e, n, h, h2⟩, ev => by
    rw [e] at ev
    have q : V.ref r = v := by simpa using ev
    subst q
    exact ⟨r, l, rfl, rfl, h⟩
  | l :: ls, vs, i + 1, v, ⟨r, us, e, n, h, h2⟩, ev => by
    rw [e] at ev
    obtain ⟨r', l', a1, a2, a3⟩ := TextsAt.at_ ls us i v h2 (by simpa using ev)
    exact ⟨r', l', a1, by simpa using a2, a3⟩
theorem lbr_len (b : Bool) (l : List Str) : (lbr b l).length ≤ l.length + 2 := by
  unfold lbr; split <;> simp
mutual
theorem lw_len : ∀ w : W, (lw w).length + 5 ≤ 8 * w.size
  | .letter c => by show 1 + 5 ≤ 8 * 1; decide
  | .one => by show 1 + 5 ≤ 8 * 1; decide
  | .nothing => by show 2 + 5 ≤ 8 * 1; decide
  | .call x => by show 3 + 5 ≤ 8 * 1; decide
  | .row ws => by
    have := lwJ_len 3 [uS] (by decide) ws true
    show (lwJ 3 [uS] true ws).length + 5 ≤ 8 * (1 + W.sizes ws)
    omega
  | .choice ws => by
    have := lwJ_len 4 [uS, Str.ofString "/", uS] (by simp) ws true
    show (lwJ 4 [uS, Str.ofString "/", uS] true ws).length + 5 ≤ 8 * (1 + W.sizes ws)
    omega
  | .again w => by
    have := lw_len w; have := lbr_len (needs w.kind 5) (lw w)
    show (lbr _ (lw w) ++ [_]).length + 5 ≤ 8 * (1 + w.size)
    rw [List.length_append, List.length_singleton]; omega
  | .maybe w => by
    have := lw_len w; have := lbr_len (needs w.kind 6) (lw w)
    show (lbr _ (lw w) ++ [_]).length + 5 ≤ 8 * (1 + w.size)
    rw [List.length_append, List.length_singleton]; omega
  | .ahead w => by
    have := lw_len w; have := lbr_len (needs w.kind 7) (lw w)
    show (lbr _ (lw w)).length + 1 + 5 ≤ 8 * (1 + w.size)
    omega
  | .unless w => by
    have := lw_len w; have := lbr_len (needs w.kind 8) (lw w)
    show (lbr _ (lw w)).length + 1 + 5 ≤ 8 * (1 + w.size)
    omega
theorem lwJ_len (k : Nat) (b : List Str) (hb : b.length ≤ 3) : ∀ (ws : List W) (f : Bool), (lwJ k b f ws).length ≤ 8 * W.sizes ws
  | [], _ => Nat.zero_le _
  | w :: ws, f => by
    have := lw_len w; have := lbr_len (needs w.kind k) (lw w); have := lwJ_len k b hb ws false
    show ((if f = true then [] else b) ++ (lbr (needs w.kind k) (lw w) ++ lwJ k b false ws)).length ≤ 8 * (w.size + W.sizes ws)
    rw [List.length_append, List.length_append]
    have h : (if f = true then ([] : List Str) else b).length ≤ 3 := by cases f; exact hb; exact Nat.zero_le _
    omega
end
theorem lwJ_snoc (k : Nat) (b : List Str) (w : W) : ∀ ws : List W, lwJ k b false (ws ++ [w]) = lwJ k b false ws ++ (b ++ lbr (needs w.kind k) (lw w))
  | [] => by simp [lwJ]
  | x :: ws => by
    have := lwJ_snoc k b w ws
    show b ++ (lbr _ (lw x) ++ lwJ k b false (ws ++ [w])) = (b ++ (lbr _ (lw x) ++ lwJ k b false ws)) ++ _
    rw [this]
    simp
section
variable {P : Program} {w : World} {K : PySem.W.Frag} {mg : Str → Option Value} {base : Heap}
abbrev s_l_bracketed : Stmt := top 55
theorem sc_l_bracketed : FnScope ["_law_way_here", "_law_around"] ["_law_way_here", "_law_around"] (defScope s_l_bracketed) := ⟨rfl, rfl, rfl, by decide +kernel, rfl, by decide +kernel, by decide +kernel⟩
theorem d_l_bracketed (h : Here K mg "_law_bracketed" s_l_bracketed ["_law_way_here", "_law_around"]) : DefOk P w K mg base 1 "_law_bracketed" ["_law_way_here", "_law_around"] spBrk := by
  refine h.ok sc_l_bracketed (fun vs H Q E h => by obtain ⟨_, _, _, rfl, _⟩ := h; rfl) (fun f cdv A outer s' H vs Q E hr h => ?_)
  obtain ⟨v, y, x, rfl, hv, k⟩ := h
  refine ⟨_, (pss_cons (ps_if (pt_cmpR op_eq (pe_ix ix_tup (pv 0) pe_int (fun _ _ => rfl)) pe_str (nomark _)) (pss_one (ps_ret pe_bl)) pss_nil)
  (pss_cons (ps_if (pt_cmpR op_eq (pe_ix ix_tup (pv 0) pe_int (fun _ _ => rfl)) pe_str (nomark _)) (pss_one (ps_ret (pe_cmpR op_ne (pv 1) pe_str (nomark _)))) pss_nil)
  (pss_one (ps_ret (pe_and (pe_cmpR op_in_seq (pe_ix ix_tup (pv 0) pe_int (fun _ _ => rfl)) (pe_lst (pa_cons pe_str (pa_cons pe_str pa_nil))) (by rfl)) (pe_one (pe_cmpR op_in_seq (pv 1) (pe_lst (pa_cons pe_str (pa_cons pe_str pa_nil))) (by rfl)))))))), ?_⟩
  obtain ⟨a, rest, rfl, ha⟩ := hv.head
  walk_at "rd"
  refine ⟨a, _, _, _, rfl, rfl, SqT.of ha, atI0, rfl, _, rfl, ?_⟩
  rw [eq_choice2]
  refine ite2 (fun e => ?_) (fun e4 => ?_)
  · have e := of_decide_eq_true e
    have q := k H (fun _ _ h => h)
    rw [show needs y.kind x.kind = true by rw [e]; rfl] at q
    exact q
  have e4 : ¬ y.kind = 4 := fun q => e4 (decide_eq_true q)
  walk_at "nx"
  walk_at "rd"
  refine ⟨a, _, _, _, rfl, rfl, SqT.of ha, atI0, rfl, _, rfl, ?_⟩
  rw [eq_row2]
  refine ite2 (fun e => ?_) (fun e3 => ?_)
  · have e := of_decide_eq_true e
    refine ⟨_, rfl, rfl, ?_⟩
    rw [eq_choice2]
    have q := k H (fun _ _ h => h)
    rw [show needs y.kind x.kind = !decide (x.kind = 4) by rw [e]; rfl] at q
    exact q
  have e3 : ¬ y.kind = 3 := fun q => e3 (decide_eq_true q)
  walk_at "nx"
  walk_at "rd"
  refine ⟨a, _, _, _, rfl, rfl, SqT.of ha, atI0, ?_⟩
  refine ⟨by show 2 ≤ sizeLine; decide, fun q hq => ?_⟩
  have s1 := Same.new hq (.lst [.str (Str.ofString "ahead"), .str (Str.ofString "unless")])
  refine ⟨q, _, rfl, .inl (SqL.of upd_same), rfl, by decide +kernel, ?_⟩
  rw [if_neg Bool.false_ne_true, in_ax]
  refine ⟨_, rfl, ?_⟩
  refine ite2 (fun e => ?_) (fun e => ?_)
  · have e : y.kind = 7 ∨ y.kind = 8 := by simpa using e
    refine ⟨_, rfl, by show 2 ≤ sizeLine; decide, fun q2 hq2 => ?_⟩
    have s2 := s1.trans (Same.new hq2 (.lst [.str (Str.ofString "again"), .str (Str.ofString "maybe")]))
    refine ⟨q2, _, rfl, .inl (SqL.of upd_same), rfl, by decide +kernel, ?_⟩
    rw [if_neg Bool.false_ne_true, in_am2]
    have q := k _ s2
    rw [show needs y.kind x.kind = (decide (x.kind = 5) || decide (x.kind = 6)) by unfold needs; rw [if_neg e3, if_pos e]] at q
    exact q
  · have e : ¬ (y.kind = 7 ∨ y.kind = 8) := by simpa using e
    have q := k _ s1
    rw [show needs y.kind x.kind = false by unfold needs; rw [if_neg e3, if_neg e, decide_eq_false e4]] at q
    exact q
abbrev s_l_words : Stmt := top 56
theorem sc_l_words : FnScope ["_law_way_here", "_law_texts", "_law_one", "_law_found", "_law_text"] ["_law_way_here"] (defScope s_l_words) := ⟨rfl, rfl, rfl, by decide +kernel, rfl, by decide +kernel, by decide +kernel⟩
theorem none_words {f : Addr} {fd : FuncData} : FnOk P w K mg base CX0 2 f fd ["_law_way_here"] (spWords 0) := by
  have no : ∀ vs H Q E, ¬ spWords 0 vs H Q E := fun vs H Q E h => by
    obtain ⟨v, w, _, _, _, h1, _⟩ := h
    have := w.size_pos
    omega
  exact ⟨fun vs H Q E h => absurd h (no vs H Q E), fun A outer s H args us vs Q E _ _ _ _ h => absurd h (no vs H Q E)⟩
theorem step_l_words (s : Nat) (h : Here K mg "_law_words" s_l_words ["_law_way_here"]) (G_l_inner : DefOk P w K mg base 1 "_law_inner" ["_law_way_here"] spInner) (G_l_bracketed : DefOk P w K mg base 1 "_law_bracketed" ["_law_way_here", "_law_around"] spBrk) (G_l_words : DefOk P w K mg base (2 + s) "_law_words" ["_law_way_here"] (spWords s)) :
    DefOk P w K mg base (2 + s + 1) "_law_words" ["_law_way_here"] (spWords (s + 1)) := by
  refine h.ok sc_l_words (fun vs H Q E h => by obtain ⟨_, _, rfl, _⟩ := h; rfl) (fun f cdv A outer s' H vs Q E hr h => ?_)
  obtain ⟨v, x, rfl, hv, hok, hs, hs2, k⟩ := h
  refine ⟨_, (pss_cons (ps_if (pt_cmpR op_in_seq (pe_ix ix_tup (pv 0) pe_int (fun _ _ => rfl)) (pe_lst (pa_cons pe_str (pa_cons pe_str (pa_cons pe_str pa_nil)))) (by rfl)) (pss_one (ps_ret (pe_ifExp (pt_cmpR op_eq (pe_ix ix_tup (pv 0) pe_int (fun _ _ => rfl)) pe_str (nomark _)) (pe_lst (pa_cons (pe_ix ix_tup (pv 0) pe_int (fun _ _ => rfl)) pa_nil)) (pe_ifExp (pt_cmpR op_eq (pe_ix ix_tup (pv 0) pe_int (fun _ _ => rfl)) pe_str (nomark _)) (pe_lst (pa_cons pe_str pa_nil)) (pe_lst (pa_cons pe_str (pa_cons pe_str pa_nil))))))) pss_nil)
  (pss_cons (ps_if (pt_cmpR op_eq (pe_ix ix_tup (pv 0) pe_int (fun _ _ => rfl)) pe_str (nomark _)) (pss_one (ps_ret (pe_lst (pa_cons pe_str (pa_cons (pe_ix ix_tup (pv 0) pe_int (fun _ _ => rfl)) (pa_cons pe_str pa_nil)))))) pss_nil)
  (pss_cons (ps_set (i := 1) sc_l_words.nd rfl (Or.inl rfl) (pe_lst pa_nil))
  (pss_cons (ps_for PassesOwn.never rfl (pi_list (pe_callD G_l_inner (hr.mono (by first | decide | omega)) rfl (pa_cons (pv 0) pa_nil))) (pg_name (i := 2) sc_l_words.nd rfl (Or.inl rfl))
   (pss_one (ps_expr (pe_bm PySem.F.plainAttrs_list PySem.F.slot_list_append PySem.F.type_list_append mt_append (pv 1) (pa_cons (pe_ifExp (pt_val (pe_callD G_l_bracketed (hr.mono (by first | decide | omega)) rfl (pa_cons (pv 2) (pa_cons (pe_ix ix_tup (pv 0) pe_int (fun _ _ => rfl)) pa_nil)))) (pe_op op_cat (pe_op op_cat (pe_lst (pa_cons pe_str pa_nil)) (pe_callD G_l_words (hr.mono (by first | decide | omega)) rfl (pa_cons (pv 2) pa_nil))) (pe_lst (pa_cons pe_str pa_nil))) (pe_callD G_l_words (hr.mono (by first | decide | omega)) rfl (pa_cons (pv 2) pa_nil))) pa_nil)))))
  (pss_cons (ps_if (pt_cmpR op_in_seq (pe_ix ix_tup (pv 0) pe_int (fun _ _ => rfl)) (pe_lst (pa_cons pe_str (pa_cons pe_str pa_nil))) (by rfl)) (pss_one (ps_ret (pe_op op_cat (pe_ix ix_list (pv 1) pe_int (fun _ _ => rfl)) (pe_lst (pa_cons (pe_ifExp (pt_cmpR op_eq (pe_ix ix_tup (pv 0) pe_int (fun _ _ => rfl)) pe_str (nomark _)) pe_str pe_str) pa_nil))))) pss_nil)
  (pss_cons (ps_if (pt_cmpR op_in_seq (pe_ix ix_tup (pv 0) pe_int (fun _ _ => rfl)) (pe_lst (pa_cons pe_str (pa_cons pe_str pa_nil))) (by rfl)) (pss_one (ps_ret (pe_op op_cat (pe_lst (pa_cons (pe_ifExp (pt_cmpR op_eq (pe_ix ix_tup (pv 0) pe_int (fun _ _ => rfl)) pe_str (nomark _)) pe_str pe_str) pa_nil)) (pe_ix ix_list (pv 1) pe_int (fun _ _ => rfl))))) pss_nil)
  (pss_cons (ps_set (i := 3) sc_l_words.nd rfl (Or.inl rfl) (pe_ix ix_list (pv 1) pe_int (fun _ _ => rfl)))
  (pss_cons (ps_for PassesOwn.never rfl (pi_list (pe_slice sl_list (pv 1) (po_some pe_int) po_none)) (pg_name (i := 4) sc_l_words.nd rfl (Or.inl rfl))
   (pss_one (ps_set (i := 3) sc_l_words.nd rfl (Or.inl rfl) (pe_op op_cat (pe_op op_cat (pv 3) (pe_ifExp (pt_cmpR op_eq (pe_ix ix_tup (pv 0) pe_int (fun _ _ => rfl)) pe_str (nomark _)) (pe_lst (pa_cons pe_str pa_nil)) (pe_lst (pa_cons pe_str (pa_cons pe_str (pa_cons pe_str pa_nil)))))) (pv 4)))))
  (pss_one (ps_ret (pv 3))))))))))), ?_⟩
  obtain ⟨a, rest, rfl, ha⟩ := hv.head
  walk_at "rd"
  refine ⟨a, _, _, _, rfl, rfl, SqT.of ha, atI0, ?_⟩
  refine ⟨by show 3 ≤ sizeLine; decide, fun q hq => ?_⟩
  have s1 := Same.new hq (.lst [.str (Str.ofString "letter"), .str (Str.ofString "one"), .str (Str.ofString "nothing")])
  refine ⟨q, _, rfl, .inl (SqL.of upd_same), rfl, by decide +kernel, ?_⟩
  rw [if_neg Bool.false_ne_true, in_three]
  generalize upd H q (.lst [.str (Str.ofString "letter"), .str (Str.ofString "one"), .str (Str.ofString "nothing")]) = H1 at *
  have ha1 := s1 _ _ ha
  have hv1 := WayAt.keep (Keep.of s1) _ _ hv
  walk_at "rd"
  refine ite2 (fun e => ?_) (fun e => ?_)
  · have fin : ∀ (l : List Str), l.length ≤ 3 → lw x = l → (l.map V.str).length ≤ sizeLine ∧ ∀ p, H1 p = none → Q (.ref p) (upd H1 p (.lst (l.map V.str))) := fun l hl el =>
      ⟨Nat.le_of_lt (small' (by rw [List.length_map]; omega)), fun p hp => k p _ (s1.trans (Same.new hp _)) (none_of_same s1 hp) (by rw [el]; exact upd_same)⟩
    walk_at "rd"
    refine ⟨a, _, _, _, rfl, rfl, SqT.of ha1, atI0, rfl, _, rfl, ?_⟩
    rw [eq_letter]
    cases x <;> first | exact absurd e Bool.false_ne_true | skip
    · refine iteF ?_
      walk_at "rd"
      refine ⟨a, _, _, _, rfl, rfl, SqT.of ha1, atI0, rfl, _, rfl, ?_⟩
      rw [eq_one]
      exact iteF (fin [Str.ofString "(", Str.ofString ")"] (by simp) rfl)
    · refine iteF ?_
      walk_at "rd"
      refine ⟨a, _, _, _, rfl, rfl, SqT.of ha1, atI0, rfl, _, rfl, ?_⟩
      rw [eq_one]
      exact iteT (fin [Str.ofString "."] (by simp) rfl)
    · obtain ⟨a', e', h1⟩ := hv1
      cases e'
      refine iteT ?_
      walk_at "rd"
      exact ⟨a, _, _, _, rfl, rfl, SqT.of h1, atI1, fin [sg _] (by simp) rfl⟩
  · have e : in3 x = false := by simpa using e
    walk_at "nx"
    walk_at "rd"
    refine ⟨a, _, _, _, rfl, rfl, SqT.of ha1, atI0, rfl, _, rfl, ?_⟩
    rw [eq_call]
    refine ite2 (fun ec => ?_) (fun ec => ?_)
    · cases x <;> first | exact absurd ec Bool.false_ne_true | skip
      obtain ⟨a', e', h1⟩ := hv1
      cases e'
      walk_at "rd"
      refine ⟨a, _, _, _, rfl, rfl, SqT.of h1, atI1, by show 3 ≤ sizeLine; decide, fun p hp => ?_⟩
      exact k p _ (s1.trans (Same.new hp _)) (none_of_same s1 hp) upd_same
    · refine Wv.st_next ?_
      refine ⟨Nat.zero_le _, fun tq htq => ?_⟩
      have s2 := Same.new htq (.lst [])
      have ht2 : upd H1 tq (.lst []) tq = some (.lst []) := upd_same
      generalize upd H1 tq (.lst []) = H2 at *
      walk_at "nx"
      refine ⟨_, rfl, .ref a, x, rfl, WayAt.keep (Keep.of s2) _ _ hv1, fun qi us Hi si hqi hus => ?_⟩
      have hti := si _ _ ht2
      have s12 := s2.trans si
      have hai := s12 _ _ ha1
      have hlu := WaysAt.len _ _ hus
      have hxs := x.size_inner
      have hls := W.sizes_len x.inner
      refine ⟨qi, rfl, ⟨us, SqL.of hqi⟩, ?_⟩
      have hqt : qi ≠ tq ∨ us = [] := by
        by_cases q : qi = tq
        · right
          rw [q, hti] at hqi
          injection hqi with hqi
          injection hqi with hqi
          exact hqi.symm
        · exact .inl q
      refine for_list (K := K) (a := qi) (xs := us) (fun i σ H' => ∃ (rs : List V) (x2 : Option V), σ = [some (.ref a), some (.ref tq), x2, none, none] ∧ H' tq = some (.lst rs) ∧ TextsAt H' tq rs ((x.inner.take i).map fun w => lbr (needs w.kind x.kind) (lw w)) ∧ Same H1 H' ∧ (∀ b o, b ≠ tq → Hi b = some o → H' b = some o) ∧ (i = 0 → rs = [])) ?_ ?_ ?_ ?_
      · exact ⟨[], none, rfl, hti, rfl, s12, fun _ _ _ h => h, fun _ => rfl⟩
      · rintro i σ H' _ ⟨rs, x2, rfl, hr, htx, _, kk, _⟩
        rcases hqt with q | q
        · exact SqL.of (kk qi _ q hqi)
        · subst q
          by_cases q2 : qi = tq
          · have hn := TextsAt.len _ _ htx
            have h0 : x.inner = [] := List.eq_nil_of_length_eq_zero (by rw [← hlu]; rfl)
            rw [h0] at hn
            have : rs = [] := List.eq_nil_of_length_eq_zero (by simpa using hn)
            subst this
            rw [q2]
            exact SqL.of hr
          · exact SqL.of (kk qi _ q2 hqi)
      · rintro i y σ H3 hy ⟨rs, x2, rfl, hr3, htx, s3, kk, _⟩
        have hi : i < us.length := (List.getElem?_eq_some_iff.mp hy).1
        obtain ⟨wi, hwi⟩ : ∃ wi, x.inner[i]? = some wi := ⟨x.inner[i]'(by omega), List.getElem?_eq_getElem (by omega)⟩
        obtain ⟨y', hy', hyw⟩ := WaysAt.at_ _ _ _ _ hus hwi
        have ey : y = y' := Option.some.inj (hy.symm.trans hy')
        subst ey
        have hoki := okWs_get (okW_inner hok) hwi
        have hy3 := WayAt.off hti kk _ _ hoki hyw
        have hsz := W.size_mem hwi
        have ha3 := s3 _ _ ha1
        have hltx := TextsAt.len _ _ htx
        rw [List.length_map, List.length_take] at hltx
        refine ⟨_, rfl, .inl ⟨rfl, _, SqL.of hr3⟩, ?_⟩
        have lenw := lw_len wi
        refine withQ (E := tIf _ _ _) (fun z H' => ∃ r : Addr, z = .ref r ∧ H3 r = none ∧ Same H3 H' ∧ H' r = some (.lst ((lbr (needs wi.kind x.kind) (lw wi)).map V.str))) (fun Q' go => ?_) ?_
        · refine ⟨_, rfl, _, rfl, a, _, _, _, rfl, rfl, SqT.of ha3, atI0, y, wi, x, rfl, hy3, fun H4 s4 => ⟨_, rfl, ?_⟩⟩
          have hy4 := WayAt.keep (Keep.of s4) _ _ hy3
          refine ite2 (fun t => ?_) (fun t => ?_)
          · refine ⟨by show 1 ≤ sizeLine; decide, fun l1 hl1 => ?_⟩
            have s5 := Same.new hl1 (.lst [.str (Str.ofString "(")])
            refine ⟨_, rfl, y, wi, rfl, WayAt.keep (Keep.of s5) _ _ hy4, hoki, by omega, by omega, fun q6 H6 s6 hn6 hq6 => ?_⟩
            refine ⟨l1, q6, _, _, rfl, rfl, s6 _ _ upd_same, hq6, Nat.le_of_lt (small' (by rw [List.length_map]; simp; omega)), fun l7 hl7 => ?_⟩
            have s7 := Same.new hl7 (.lst ([.str (Str.ofString "(")] ++ (lw wi).map V.str))
            refine ⟨by show 1 ≤ sizeLine; decide, fun l8 hl8 => ?_⟩
            have s8 := Same.new hl8 (.lst [.str (Str.ofString ")")])
            refine ⟨l7, l8, _, _, rfl, rfl, s8 _ _ upd_same, upd_same, Nat.le_of_lt (small' (by rw [List.length_append, List.length_map]; simp; omega)), fun l9 hl9 => ?_⟩
            have s38 := (((s4.trans s5).trans s6).trans s7).trans s8
            refine go _ _ ⟨l9, rfl, none_of_same s38 hl9, s38.trans (Same.new hl9 _), ?_⟩
            rw [upd_same]
            unfold lbr
            rw [if_pos t]
            simp
          · refine ⟨_, rfl, y, wi, rfl, hy4, hoki, by omega, by omega, fun q6 H6 s6 hn6 hq6 => ?_⟩
            refine go _ _ ⟨q6, rfl, none_of_same s4 hn6, s4.trans s6, ?_⟩
            unfold lbr
            rw [if_neg t]
            exact hq6
        · rintro _ H4 ⟨r, rfl, hrn, s4, hr4⟩
          have ht4 := s4 _ _ hr3
          have nrt : r ≠ tq := fun q => by rw [q, hr3] at hrn; cases hrn
          refine ⟨tq, _, _, rfl, rfl, ht4, small' (by omega), ?_⟩
          walk_at "nx"
          have kt : ∀ b o, b ≠ tq → H3 b = some o → (upd H4 tq (.lst (rs ++ [.ref r]))) b = some o := fun b o hb e => by rw [upd_ne hb]; exact s4 _ _ e
          refine ⟨rs ++ [.ref r], _, rfl, upd_same, ?_, Same.put htq (s3.trans s4) _, fun b o hb e => kt b o hb (kk b o hb e), fun q => by omega⟩
          rw [take_more hwi, List.map_append]
          exact TextsAt.app _ _ (TextsAt.keep kt _ _ htx) ⟨r, [], rfl, nrt, by rw [upd_ne nrt]; exact hr4, rfl⟩
      · rintro σ H3 ⟨rs, x2, rfl, hr3, htx, s3, kk, _⟩
        rw [hlu, List.take_length] at htx
        have ha3 := s3 _ _ ha1
        walk_at "nx"
        walk_at "rd"
        refine ⟨a, _, _, _, rfl, rfl, SqT.of ha3, atI0, ?_⟩
        refine ⟨by show 2 ≤ sizeLine; decide, fun p1 hp1 => ?_⟩
        have s4 := Same.new hp1 (.lst [.str (Str.ofString "again"), .str (Str.ofString "maybe")])
        refine ⟨p1, _, rfl, .inl (SqL.of upd_same), rfl, by decide +kernel, ?_⟩
        rw [if_neg Bool.false_ne_true, in_am2]
        have htx4 := TextsAt.keep (fun b o _ h => s4 b o h) _ _ htx
        have hr4 := s4 _ _ hr3
        have ha4 := s4 _ _ ha3
        have s14 := s3.trans s4
        generalize upd H3 p1 (.lst [.str (Str.ofString "again"), .str (Str.ofString "maybe")]) = H4 at *
        walk_at "rd"
        have fin : ∀ (Hx : Hp), TextsAt Hx tq rs (x.inner.map (fun w => lbr (needs w.kind x.kind) (lw w))) → ∀ (y : W) (b : Bool), x.inner.map (fun w => lbr (needs w.kind x.kind) (lw w)) = [lbr b (lw y)] → y.size < x.size →
            ∃ r, rs = [V.ref r] ∧ Hx r = some (.lst ((lbr b (lw y)).map V.str)) ∧ (lbr b (lw y)).length + 1 ≤ sizeLine := fun Hx hx y b e2 e3 => by
          rw [e2] at hx
          obtain ⟨r, us', e4, _, h4, e5⟩ := hx
          have e5 : us' = [] := e5
          subst e5
          have := lw_len y
          have := lbr_len b (lw y)
          exact ⟨r, e4, h4, Nat.le_of_lt (small' (by omega))⟩
        refine ite2 (fun t => ?_) (fun t => ?_)
        · cases x <;> first | exact absurd t Bool.false_ne_true | skip
          · rename_i y _
            obtain ⟨r, er, hr, hl⟩ := fin H4 htx4 y (needs y.kind 5) rfl (by show y.size < 1 + y.size; omega)
            subst er
            walk_at "rd"
            refine ⟨tq, _, _, _, rfl, rfl, SqL.of hr4, atI0, ?_⟩
            walk_at "rd"
            refine ⟨a, _, _, _, rfl, rfl, SqT.of ha4, atI0, rfl, _, rfl, ?_⟩
            rw [eq_again]
            refine iteT ⟨by show 1 ≤ sizeLine; decide, fun l hl2 => ?_⟩
            have s6 := Same.new hl2 (.lst [.str (Str.ofString "*")])
            refine ⟨r, l, _, _, rfl, rfl, s6 _ _ hr, upd_same, by rw [List.length_map]; exact hl, fun p hp => ?_⟩
            have s16 := s14.trans s6
            exact k p _ (s1.trans (s16.trans (Same.new hp _))) (none_of_same s1 (none_of_same s16 hp)) (by rw [upd_same]; simp [lw])
          · rename_i y _
            obtain ⟨r, er, hr, hl⟩ := fin H4 htx4 y (needs y.kind 6) rfl (by show y.size < 1 + y.size; omega)
            subst er
            walk_at "rd"
            refine ⟨tq, _, _, _, rfl, rfl, SqL.of hr4, atI0, ?_⟩
            walk_at "rd"
            refine ⟨a, _, _, _, rfl, rfl, SqT.of ha4, atI0, rfl, _, rfl, ?_⟩
            rw [eq_again]
            refine iteF ⟨by show 1 ≤ sizeLine; decide, fun l hl2 => ?_⟩
            have s6 := Same.new hl2 (.lst [.str (Str.ofString "?")])
            refine ⟨r, l, _, _, rfl, rfl, s6 _ _ hr, upd_same, by rw [List.length_map]; exact hl, fun p hp => ?_⟩
            have s16 := s14.trans s6
            exact k p _ (s1.trans (s16.trans (Same.new hp _))) (none_of_same s1 (none_of_same s16 hp)) (by rw [upd_same]; simp [lw])
        · walk_at "nx"
          walk_at "rd"
          refine ⟨a, _, _, _, rfl, rfl, SqT.of ha4, atI0, ?_⟩
          refine ⟨by show 2 ≤ sizeLine; decide, fun p2 hp2 => ?_⟩
          have s5 := Same.new hp2 (.lst [.str (Str.ofString "ahead"), .str (Str.ofString "unless")])
          refine ⟨p2, _, rfl, .inl (SqL.of upd_same), rfl, by decide +kernel, ?_⟩
          rw [if_neg Bool.false_ne_true, in_ax]
          have htx5 := TextsAt.keep (fun b o _ h => s5 b o h) _ _ htx4
          have hr5 := s5 _ _ hr4
          have ha5 := s5 _ _ ha4
          have s15 := s14.trans s5
          generalize upd H4 p2 (.lst [.str (Str.ofString "ahead"), .str (Str.ofString "unless")]) = H5 at *
          walk_at "rd"
          refine ite2 (fun t2 => ?_) (fun t2 => ?_)
          · cases x <;> first | exact absurd t2 Bool.false_ne_true | skip
            · rename_i y _
              obtain ⟨r, er, hr, hl⟩ := fin H5 htx5 y (needs y.kind 7) rfl (by show y.size < 1 + y.size; omega)
              subst er
              walk_at "rd"
              refine ⟨a, _, _, _, rfl, rfl, SqT.of ha5, atI0, rfl, _, rfl, ?_⟩
              rw [eq_ahead]
              refine iteT ⟨by show 1 ≤ sizeLine; decide, fun l hl2 => ?_⟩
              have s6 := Same.new hl2 (.lst [.str (Str.ofString "&")])
              walk_at "rd"
              refine ⟨tq, _, _, _, rfl, rfl, SqL.of (s6 _ _ hr5), atI0, ?_⟩
              refine ⟨l, r, _, _, rfl, rfl, upd_same, s6 _ _ hr, by rw [List.length_map, List.length_singleton]; omega, fun p hp => ?_⟩
              have s16 := s15.trans s6
              exact k p _ (s1.trans (s16.trans (Same.new hp _))) (none_of_same s1 (none_of_same s16 hp)) (by rw [upd_same]; simp [lw])
            · rename_i y _
              obtain ⟨r, er, hr, hl⟩ := fin H5 htx5 y (needs y.kind 8) rfl (by show y.size < 1 + y.size; omega)
              subst er
              walk_at "rd"
              refine ⟨a, _, _, _, rfl, rfl, SqT.of ha5, atI0, rfl, _, rfl, ?_⟩
              rw [eq_ahead]
              refine iteF ⟨by show 1 ≤ sizeLine; decide, fun l hl2 => ?_⟩
              have s6 := Same.new hl2 (.lst [.str (Str.ofString "!")])
              walk_at "rd"
              refine ⟨tq, _, _, _, rfl, rfl, SqL.of (s6 _ _ hr5), atI0, ?_⟩
              refine ⟨l, r, _, _, rfl, rfl, upd_same, s6 _ _ hr, by rw [List.length_map, List.length_singleton]; omega, fun p hp => ?_⟩
              have s16 := s15.trans s6
              exact k p _ (s1.trans (s16.trans (Same.new hp _))) (none_of_same s1 (none_of_same s16 hp)) (by rw [upd_same]; simp [lw])
          · walk_at "nx"
            walk_at "rd"
            have hx : lw x = lwJ x.kind (if x.kind = 3 then [uS] else [uS, Str.ofString "/", uS]) true x.inner ∧ 2 ≤ x.inner.length := by
              cases x <;> first | exact absurd e.symm Bool.false_ne_true | exact absurd rfl ec | exact absurd rfl t | exact absurd rfl t2 | exact ⟨rfl, hok.1⟩
            obtain ⟨hlw, h2⟩ := hx
            have hb3 : (if x.kind = 3 then [uS] else [uS, Str.ofString "/", uS]).length ≤ 3 := by split <;> simp
            generalize hbb : (if x.kind = 3 then [uS] else [uS, Str.ofString "/", uS]) = bb at *
            have hsz := x.size_inner
            cases hin : x.inner with
            | nil => rw [hin] at h2; exact absurd h2 (by decide)
            | cons w0 ws =>
              rw [hin] at htx5 hlw h2 hsz
              obtain ⟨r0, us', rfl, _, h0, htl⟩ := htx5
              have hlen' := TextsAt.len _ _ htl
              rw [List.length_map] at hlen'
              rw [List.length_cons] at h2
              refine ⟨tq, _, _, _, rfl, rfl, SqL.of hr5, atI0, ?_⟩
              walk_at "nx"
              refine ⟨_, rfl, _, rfl, tq, _, rfl, SqL.of hr5, fun sq hsq => ?_⟩
              rw [show cutV (V.ref r0 :: us') (some 1) none = us' from cut_end (V.ref r0 :: us') 1 (by simp)]
              have s6 := Same.new hsq (.lst us')
              have hsq6 : upd H5 sq (.lst us') sq = some (.lst us') := upd_same
              have h06 := s6 _ _ h0
              have ht6 := TextsAt.keep (fun b o _ h => s6 b o h) _ _ htl
              have ha6 := s6 _ _ ha5
              have s16 := s15.trans s6
              generalize upd H5 sq (.lst us') = H6 at *
              refine ⟨sq, rfl, ⟨us', SqL.of hsq6⟩, ?_⟩
              refine for_list (K := K) (a := sq) (xs := us') (fun i σ H' => ∃ (g : Addr) (x4 : Option V), σ = [some (.ref a), some (.ref tq), x2, some (.ref g), x4] ∧ Same H6 H' ∧ H' g = some (.lst ((lwJ x.kind bb true (w0 :: ws.take i)).map V.str)) ∧ (0 < i → H1 g = none)) ?_ ?_ ?_ ?_
              · exact ⟨r0, none, rfl, fun _ _ h => h, by rw [h06]; simp [lwJ], fun h => absurd h (Nat.lt_irrefl 0)⟩
              · rintro i σ H7 _ ⟨g, x4, rfl, s7, _, _⟩
                exact SqL.of (s7 _ _ hsq6)
              · rintro i y σ H7 hy ⟨g, x4, rfl, s7, hg, _⟩
                obtain ⟨r, l, rfl, hl, hr⟩ := TextsAt.at_ _ _ _ _ ht6 hy
                rw [List.getElem?_map] at hl
                cases hwi : ws[i]? with
                | none => rw [hwi] at hl; cases hl
                | some wi =>
                  rw [hwi] at hl
                  have hl : lbr (needs wi.kind x.kind) (lw wi) = l := Option.some.inj hl
                  have enew : lwJ x.kind bb true (w0 :: ws.take (i + 1)) = lwJ x.kind bb true (w0 :: ws.take i) ++ bb ++ l := by
                    rw [take_more hwi]
                    show lbr _ (lw w0) ++ lwJ x.kind bb false (ws.take i ++ [wi]) = (lbr _ (lw w0) ++ lwJ x.kind bb false (ws.take i)) ++ bb ++ l
                    rw [lwJ_snoc, hl]
                    simp
                  have hlen := lwJ_len x.kind bb hb3 (w0 :: ws.take (i + 1)) true
                  have hst : W.sizes (w0 :: ws.take (i + 1)) ≤ W.sizes (w0 :: ws) := by
                    show w0.size + _ ≤ w0.size + _
                    have := W.sizes_take ws (i + 1)
                    omega
                  rw [enew, List.length_append, List.length_append] at hlen
                  walk_at "nx"
                  refine ⟨_, rfl, ?_⟩
                  refine withQ (E := tIf _ _ _) (fun z H' => ∃ q : Addr, z = .ref q ∧ Same H7 H' ∧ H' q = some (.lst (bb.map V.str))) (fun Q' go => ?_) ?_
                  · walk_at "rd"
                    refine ⟨a, _, _, _, rfl, rfl, SqT.of (s7 _ _ ha6), atI0, rfl, _, rfl, ?_⟩
                    rw [eq_row2]
                    refine ite2 (fun c => ?_) (fun c => ?_)
                    · refine ⟨by show 1 ≤ sizeLine; decide, fun q hq => go _ _ ⟨q, rfl, Same.new hq _, ?_⟩⟩
                      rw [upd_same, ← hbb, if_pos (of_decide_eq_true c)]
                      rfl
                    · refine ⟨by show 3 ≤ sizeLine; decide, fun q hq => go _ _ ⟨q, rfl, Same.new hq _, ?_⟩⟩
                      rw [upd_same, ← hbb, if_neg (fun h => c (decide_eq_true h))]
                      rfl
                  · rintro _ H8 ⟨q, rfl, s8, hq⟩
                    refine ⟨g, q, _, _, rfl, rfl, s8 _ _ hg, hq, Nat.le_of_lt (small' (by rw [List.length_map, List.length_map]; omega)), fun p hp => ?_⟩
                    have s9 := Same.new hp (.lst ((lwJ x.kind bb true (w0 :: ws.take i)).map V.str ++ bb.map V.str))
                    refine ⟨_, rfl, p, r, _, _, rfl, rfl, upd_same, s9 _ _ (s8 _ _ (s7 _ _ hr)), Nat.le_of_lt (small' (by rw [List.length_append, List.length_map, List.length_map, List.length_map]; omega)), fun p' hp' => ?_⟩
                    have s79 := (s7.trans s8).trans s9
                    walk_at "nx"
                    refine ⟨p', _, rfl, s79.trans (Same.new hp' _), ?_, fun _ => none_of_same (s16.trans s79) hp'⟩
                    rw [upd_same, enew]
                    simp
              · rintro σ H7 ⟨g, x4, rfl, s7, hg, hfr⟩
                rw [hlen', List.take_length] at hg
                walk_at "nx"
                refine ⟨_, rfl, ?_⟩
                exact k g _ (s1.trans (s16.trans s7)) (none_of_same s1 (hfr (by omega))) (by rw [hg, hlw])
theorem d_l_words (h : Here K mg "_law_words" s_l_words ["_law_way_here"]) (G_l_inner : DefOk P w K mg base 1 "_law_inner" ["_law_way_here"] spInner) (G_l_bracketed : DefOk P w K mg base 1 "_law_bracketed" ["_law_way_here", "_law_around"] spBrk) : ∀ s, DefOk P w K mg base (2 + s) "_law_words" ["_law_way_here"] (spWords s)
  | 0 => by
    obtain ⟨f, fd, F, m, b⟩ := h.ex
    exact ⟨f, fd, m, F.kp, b, none_words⟩
  | s + 1 => step_l_words s h G_l_inner G_l_bracketed (d_l_words h G_l_inner G_l_bracketed s)
end
end Ws
namespace Ws
open PySem PySem.Spec PyProof.Rows L2 Wv
/-! ### the law's words in brackets, and with blanks -/
def wr : Nat → List Str → List Str
  | 0, l => l
  | j + 1, l => [Str.ofString "("] ++ wr j l ++ [Str.ofString ")"]
theorem wr_len : ∀ (j : Nat) (l : List Str), (wr j l).length = l.length + 2 * j
  | 0, l => rfl
  | j + 1, l => by
    have := wr_len j l
    show ([Str.ofString "("] ++ wr j l ++ [Str.ofString ")"]).length = _
    simp
    omega
def spWrapped (K : PySem.W.Frag) : Sp := fun vs H Q _ => ∃ (p : Pen) (v : V) (w : W) (n : Nat), vs = [.ref p.d, v] ∧ PenAt K H p n ∧ n < LIM ∧ WayAt H v w ∧ okW w ∧ w.size ≤ 30 ∧
  ∀ (q : Addr) (j : Nat) (H' : Hp), j < 3 → Keep H H' → PenAt K H' p (n + 1) → H' q = some (.lst ((wr j (lw w)).map V.str)) → Q (.ref q) H'
theorem tx_cps (x : Str) : x = tx x.cps.toList := by cases x; rfl
def spLoose (K : PySem.W.Frag) : Sp := fun vs H Q _ => ∃ (p : Pen) (q : Addr) (xs : List Str) (n : Nat), vs = [.ref p.d, .ref q] ∧ PenAt K H p n ∧ n + xs.length < LIM ∧ SqL K H q (xs.map V.str) ∧ xs.length ≤ 9000 ∧ (∀ x ∈ xs, x.cps.toList.length ≤ 12) ∧
  ∀ (z : List Nat) (H' : Hp), Spaced xs z → z.length ≤ 15 * xs.length + 1 → Keep H H' → PenAt K H' p (n + xs.length + 1) → Q (.str (tx z)) H'
theorem blank3 : Str.ofString "   " = tx (List.replicate 3 32) := by decide +kernel
theorem blank1 : Str.ofString " " = tx (List.replicate 1 32) := by decide +kernel
theorem blank0 : Str.ofString "" = tx (List.replicate 0 32) := by decide +kernel
theorem is_bar (x : Str) : decide (V.str x = V.str (Str.ofString "_")) = decide (x = uS) := by
  by_cases e : x = uS
  · rw [decide_eq_true e, e]; rfl
  · rw [decide_eq_false e]
    exact decide_eq_false (fun h => e (V.str.inj h))
/-- a way's words in brackets, with blanks: read as the way -/
theorem wr_told {w : W} (ok : okW w) : ∀ j : Nat, Told ((wr j (lw w)).flatMap tk) (post w)
  | 0 => by
    have := told_way ok
    rw [← lw_tk w ok] at this
    exact this
  | j + 1 => by
    have := told_br (wr_told ok j)
    have e : (wr (j + 1) (lw w)).flatMap tk = [40] :: ((wr j (lw w)).flatMap tk ++ [[41]]) := by
      show ([Str.ofString "("] ++ wr j (lw w) ++ [Str.ofString ")"]).flatMap tk = _
      rw [List.flatMap_append, List.flatMap_append, List.flatMap_cons, List.flatMap_cons, k1.2, k2.2]
      simp
    rw [e]
    exact this
theorem wr_reads {w : W} (ok : okW w) (hw : w.size ≤ 100000) {j : Nat} {z : List Nat} (h : Spaced (wr j (lw w)) z) (hz : z.length ≤ 10000) : Reads z w := told_reads (wr_told ok j) hw h.loose hz
/-- the text as it is written is read as the way, too -/
theorem cod_reads {w : W} (ok : okW w) (hw : w.size ≤ 100000) (hz : (cod w).length ≤ 10000) : Reads (cod w) w := by
  have h := spaced_cd (lw w)
  rw [lw_cd w ok] at h
  exact wr_reads (j := 0) ok hw h hz
section
variable {P : Program} {w : World} {K : PySem.W.Frag} {mg : Str → Option Value} {base : Heap}
abbrev s_l_wrapped : Stmt := top 58
theorem sc_l_wrapped : FnScope ["_law_pen_here", "_law_way_here", "_law_words_here", "_law_turn"] ["_law_pen_here", "_law_way_here"] (defScope s_l_wrapped) := ⟨rfl, rfl, rfl, by decide +kernel, rfl, by decide +kernel, by decide +kernel⟩
theorem d_l_wrapped (h : Here K mg "_law_wrapped" s_l_wrapped ["_law_pen_here", "_law_way_here"]) (B : Bs mg) (G_l_draw : DefOk P w K mg base 1 "_law_draw" ["_law_pen_here", "_law_many"] (spDraw K)) (G_l_words : DefOk P w K mg base (2 + 30) "_law_words" ["_law_way_here"] (spWords 30)) : DefOk P w K mg base (2 + 30 + 1) "_law_wrapped" ["_law_pen_here", "_law_way_here"] (spWrapped K) := by
  have B_range := B.range
  refine h.ok sc_l_wrapped (fun vs H Q E h => by obtain ⟨_, _, _, _, rfl, _⟩ := h; rfl) (fun f cdv A outer s' H vs Q E hr h => ?_)
  obtain ⟨p, v, x, n, rfl, hP, hn, hv, hok, hs, k⟩ := h
  refine ⟨_, (pss_cons (ps_set (i := 2) sc_l_wrapped.nd rfl (Or.inl rfl) (pe_callD G_l_words (hr.mono (by first | decide | omega)) rfl (pa_cons (pv 1) pa_nil)))
  (pss_cons (ps_for PassesOwn.never rfl (pi_range1 rfl B_range (pa_cons (pe_callD G_l_draw (hr.mono (by first | decide | omega)) rfl (pa_cons (pv 0) (pa_cons pe_int pa_nil))) pa_nil)) (pg_name (i := 3) sc_l_wrapped.nd rfl (Or.inl rfl))
   (pss_one (ps_set (i := 2) sc_l_wrapped.nd rfl (Or.inl rfl) (pe_op op_cat (pe_op op_cat (pe_lst (pa_cons pe_str pa_nil)) (pv 2)) (pe_lst (pa_cons pe_str pa_nil))))))
  (pss_one (ps_ret (pv 2))))), ?_⟩
  walk_at "rd"
  refine ⟨v, x, rfl, hv, hok, hs, by omega, fun q0 H1 s1 hq0 hq1 => ?_⟩
  have hP1 := hP.same s1
  walk_at "nx"
  walk_at "rd"
  refine ⟨p, 3, n, rfl, hP1, hn, by decide, by decide, fun d H2 d0 d1 k2 hP2 => ?_⟩
  have hq2 : H2 q0 = some (.lst ((lw x).map V.str)) := by
    rcases k2 _ _ hq1 with z | ⟨_, _, z, _⟩
    · exact z
    · cases z
  have kk := (Keep.of s1).trans k2
  have hlw := lw_len x
  refine ⟨d, rfl, by omega, by omega, ?_⟩
  refine for_range (lo := 0) (n := d.toNat) (fun i σ H' => ∃ (q : Addr) (v3 : Option V), σ = [some (.ref p.d), some v, some (.ref q), v3] ∧ H' q = some (.lst ((wr i (lw x)).map V.str)) ∧ Keep H H' ∧ PenAt K H' p (n + 1)) ?_ ?_ ?_
  · exact ⟨q0, none, rfl, hq2, kk, hP2⟩
  · rintro i σ H3 hi ⟨q, v3, rfl, hq, k3, hP3⟩
    have hw := wr_len i (lw x)
    walk_at "nx"
    refine ⟨by show 1 ≤ sizeLine; decide, fun l hl => ?_⟩
    have s4 := Same.new hl (.lst [.str (Str.ofString "(")])
    refine ⟨_, rfl, l, q, _, _, rfl, rfl, upd_same, s4 _ _ hq, Nat.le_of_lt (small' (by rw [List.length_map]; show 1 + _ ≤ _; omega)), fun l2 hl2 => ?_⟩
    have s5 := Same.new hl2 (.lst ([.str (Str.ofString "(")] ++ (wr i (lw x)).map V.str))
    refine ⟨by show 1 ≤ sizeLine; decide, fun l3 hl3 => ?_⟩
    have s6 := Same.new hl3 (.lst [.str (Str.ofString ")")])
    refine ⟨l2, l3, _, _, rfl, rfl, s6 _ _ upd_same, upd_same, Nat.le_of_lt (small' (by rw [List.length_append, List.length_map]; show 1 + _ + 1 ≤ _; omega)), fun l4 hl4 => ?_⟩
    have s36 := ((s4.trans s5).trans s6).trans (Same.new hl4 (.lst ([.str (Str.ofString "(")] ++ (wr i (lw x)).map V.str ++ [.str (Str.ofString ")")])))
    walk_at "nx"
    refine ⟨l4, _, rfl, ?_, k3.trans (Keep.of s36), hP3.same s36⟩
    rw [upd_same]
    show _ = some (HO.lst (([Str.ofString "("] ++ wr i (lw x) ++ [Str.ofString ")"]).map V.str))
    rw [List.map_append, List.map_append]
    rfl
  · rintro σ H3 ⟨q, v3, rfl, hq, k3, hP3⟩
    walk_at "nx"
    refine ⟨_, rfl, ?_⟩
    exact k q d.toNat H3 (by omega) k3 hP3 hq
abbrev s_l_loose : Stmt := top 57
theorem sc_l_loose : FnScope ["_law_pen_here", "_law_words_here", "_law_found", "_law_word"] ["_law_pen_here", "_law_words_here"] (defScope s_l_loose) := ⟨rfl, rfl, rfl, by decide +kernel, rfl, by decide +kernel, by decide +kernel⟩
theorem d_l_loose (h : Here K mg "_law_loose" s_l_loose ["_law_pen_here", "_law_words_here"]) (B : Bs mg) (G_l_pick : DefOk P w K mg base 2 "_law_pick" ["_law_pen_here", "_law_items"] (spPick K)) : DefOk P w K mg base 3 "_law_loose" ["_law_pen_here", "_law_words_here"] (spLoose K) := by
  refine h.ok sc_l_loose (fun vs H Q E h => by obtain ⟨_, _, _, _, rfl, _⟩ := h; rfl) (fun f cdv A outer s' H vs Q E hr h => ?_)
  obtain ⟨p, q, xs, n, rfl, hP, hn, hq, hl, hx, k⟩ := h
  refine ⟨_, (pss_cons (ps_set (i := 2) sc_l_loose.nd rfl (Or.inl rfl) pe_str)
  (pss_cons (ps_for PassesOwn.never rfl (pi_list (pv 1)) (pg_name (i := 3) sc_l_loose.nd rfl (Or.inl rfl))
   (pss_cons (ps_set (i := 2) sc_l_loose.nd rfl (Or.inl rfl) (pe_op op_add_str (pv 2) (pe_callD G_l_pick (hr.mono (by first | decide | omega)) rfl (pa_cons (pv 0) (pa_cons (pe_lst (pa_cons pe_str (pa_cons pe_str (pa_cons pe_str (pa_cons pe_str pa_nil))))) pa_nil)))))
  (pss_one (ps_set (i := 2) sc_l_loose.nd rfl (Or.inl rfl) (pe_op op_add_str (pv 2) (pe_ifExp (pt_cmpR op_ne (pv 3) pe_str (nomark _)) (pv 3) pe_str))))))
  (pss_one (ps_ret (pe_op op_add_str (pv 2) (pe_callD G_l_pick (hr.mono (by first | decide | omega)) rfl (pa_cons (pv 0) (pa_cons (pe_lst (pa_cons pe_str (pa_cons pe_str pa_nil))) pa_nil)))))))), ?_⟩
  walk_at "rd"
  walk_at "nx"
  refine ⟨⟨_, hq⟩, ?_⟩
  refine for_list (K := K) (a := q) (xs := xs.map V.str) (fun i σ H' => ∃ (z : List Nat) (v3 : Option V), σ = [some (.ref p.d), some (.ref q), some (.str (tx z)), v3] ∧ (∀ ys r, Spaced ys r → Spaced (xs.take i ++ ys) (z ++ r)) ∧ z.length ≤ 15 * i ∧ Keep H H' ∧ PenAt K H' p (n + i)) ?_ ?_ ?_ ?_
  · exact ⟨[], none, by rw [← empty_tx]; rfl, fun _ _ h => h, Nat.le_refl 0, .refl _, hP⟩
  · rintro i σ H1 _ ⟨z, v3, rfl, _, _, k1, _⟩
    exact k1.seq hq
  · rintro i y σ H1 hy ⟨z, v3, rfl, hz, hzl, k1, hP1⟩
    have hi : i < xs.length := by
      have := (List.getElem?_eq_some_iff.mp hy).1
      rw [List.length_map] at this
      exact this
    rw [List.getElem?_map] at hy
    cases hxi : xs[i]? with
    | none => rw [hxi] at hy; cases hy
    | some xi =>
      rw [hxi] at hy
      have hy : V.str xi = y := Option.some.inj hy
      subst hy
      have hx1 := hx xi (List.mem_of_getElem? hxi)
      walk_at "nx"
      walk_at "rd"
      refine ⟨by show 4 ≤ sizeLine; decide, fun l hl2 => ?_⟩
      have s2 := Same.new hl2 (.lst [.str (Str.ofString ""), .str (Str.ofString ""), .str (Str.ofString " "), .str (Str.ofString "   ")])
      refine ⟨p, _, n + i, rfl, hP1.same s2, by omega, .inl ⟨l, _, rfl, SqL.of upd_same, by decide, by decide, fun v H2 hv k2 hP2 => ?_⟩⟩
      obtain ⟨m, hm, rfl⟩ : ∃ m, m ≤ 3 ∧ v = .str (tx (List.replicate m 32)) := by
        rw [blank0, blank1, blank3] at hv
        simp only [List.mem_cons, List.not_mem_nil, or_false] at hv
        rcases hv with rfl | rfl | rfl | rfl
        · exact ⟨0, by decide, rfl⟩
        · exact ⟨0, by decide, rfl⟩
        · exact ⟨1, by decide, rfl⟩
        · exact ⟨3, by decide, rfl⟩
      refine ⟨_, _, rfl, rfl, by rw [tx_len, tx_len, List.length_replicate]; exact Nat.le_of_lt (small' (by omega)), ?_⟩
      rw [tx_app]
      walk_at "nx"
      walk_at "rd"
      have fin : ∀ u : List Nat, u = (if xi = uS then [] else xi.cps.toList) → ∃ (z' : List Nat) (v3 : Option V), [some (V.ref p.d), some (V.ref q), some (V.str (tx ((z ++ List.replicate m 32) ++ u))), some (V.str xi)] = [some (V.ref p.d), some (V.ref q), some (V.str (tx z')), v3] ∧ (∀ ys r, Spaced ys r → Spaced (xs.take (i + 1) ++ ys) (z' ++ r)) ∧ z'.length ≤ 15 * (i + 1) ∧ Keep H H2 ∧ PenAt K H2 p (n + (i + 1)) := fun u hu => by
        refine ⟨_, _, rfl, fun ys r hr => ?_, ?_, (k1.trans (.of s2)).trans k2, hP2⟩
        · have := hz _ _ (Spaced.cons m xi hr)
          rw [take_more hxi, List.append_assoc, List.append_assoc, List.append_assoc, hu]
          exact this
        · have : u.length ≤ 12 := by rw [hu]; split; exact Nat.zero_le _; exact hx1
          rw [List.length_append, List.length_append, List.length_replicate]
          omega
      show (if (!decide (V.str xi = V.str (Str.ofString "_"))) = true then _ else _)
      rw [is_bar]
      by_cases e : xi = uS
      · have g := fin [] (by rw [if_pos e])
        rw [decide_eq_true e]
        refine iteF ?_
        refine ⟨_, _, rfl, rfl, by rw [tx_len, empty_tx, tx_len, List.length_append, List.length_replicate]; exact Nat.le_of_lt (small' (by show _ + 0 ≤ _; omega)), ?_⟩
        rw [empty_tx, tx_app]
        walk_at "nx"
        exact g
      · have g := fin xi.cps.toList (by rw [if_neg e])
        rw [decide_eq_false e]
        refine iteT ?_
        refine ⟨_, rfl, _, _, rfl, rfl, by rw [tx_len, tx_cps xi, tx_len, List.length_append, List.length_replicate]; exact Nat.le_of_lt (small' (by omega)), ?_⟩
        rw [show tx (z ++ List.replicate m 32) ++ xi = tx ((z ++ List.replicate m 32) ++ xi.cps.toList) from (congrArg (fun u => tx (z ++ List.replicate m 32) ++ u) (tx_cps xi)).trans (tx_app _ _)]
        walk_at "nx"
        exact g
  · rintro σ H1 ⟨z, v3, rfl, hz, hzl, k1, hP1⟩
    rw [List.length_map] at hzl hP1 hz
    walk_at "nx"
    walk_at "rd"
    refine ⟨by show 2 ≤ sizeLine; decide, fun l hl2 => ?_⟩
    have s2 := Same.new hl2 (.lst [.str (Str.ofString ""), .str (Str.ofString " ")])
    refine ⟨p, _, n + xs.length, rfl, hP1.same s2, by omega, .inl ⟨l, _, rfl, SqL.of upd_same, by decide, by decide, fun v H2 hv k2 hP2 => ?_⟩⟩
    obtain ⟨m, hm, rfl⟩ : ∃ m, m ≤ 1 ∧ v = .str (tx (List.replicate m 32)) := by
      rw [blank0, blank1] at hv
      simp only [List.mem_cons, List.not_mem_nil, or_false] at hv
      rcases hv with rfl | rfl
      · exact ⟨0, by decide, rfl⟩
      · exact ⟨1, by decide, rfl⟩
    refine ⟨_, _, rfl, rfl, by rw [tx_len, tx_len, List.length_replicate]; exact Nat.le_of_lt (small' (by omega)), ?_⟩
    rw [tx_app]
    have hf := hz _ _ (Spaced.nil m)
    rw [List.take_length, List.append_nil] at hf
    exact k _ H2 hf (by rw [List.length_append, List.length_replicate]; omega) ((k1.trans (.of s2)).trans k2) hP2
end
end Ws
namespace Ws
open PySem PySem.Spec PyProof.Rows L2 Wv
/-! ### ways with calls -/
/-- a part of a heap, and what another holds beside it -/
def spCalls (K : PySem.W.Frag) (s : Nat) : Sp := fun vs H Q _ => ∃ (p : Pen) (v : V) (w : W) (n : Nat) (z : List Nat) (G : Hp), vs = [.ref p.d, v] ∧ PenAt K H p n ∧ n + 20 * w.size < LIM ∧ Keep G H ∧ WayAt G v w ∧ w.wf z ∧ Az z ∧ w.size ≤ s ∧ w.size ≤ 30 ∧
  ∀ (u : V) (w' : W) (H' : Hp), w'.size = w.size → okW w' → WayAt (over G (newer H H')) u w' → Keep H H' → PenAt K H' p (n + 20 * w.size) → Q u H'
theorem okWs_app : ∀ (xs ys : List W), okWs xs → okWs ys → okWs (xs ++ ys)
  | [], ys, _, h => h
  | x :: xs, ys, h, h2 => ⟨h.1, okWs_app xs ys h.2 h2⟩
theorem four_tx : Str.ofString "abcz" = tx [97, 98, 99, 122] := by decide +kernel
section
variable {P : Program} {w : World} {K : PySem.W.Frag} {mg : Str → Option Value} {base : Heap}
abbrev s_l_with_calls : Stmt := top 54
theorem sc_l_with_calls : FnScope ["_law_pen_here", "_law_way_here", "_law_one", "_law_k"] ["_law_pen_here", "_law_way_here"] (defScope s_l_with_calls) := ⟨rfl, rfl, rfl, by decide +kernel, rfl, by decide +kernel, by decide +kernel⟩
theorem none_calls {f : Addr} {fd : FuncData} : FnOk P w K mg base CX0 3 f fd ["_law_pen_here", "_law_way_here"] (spCalls K 0) := by
  have no : ∀ vs H Q E, ¬ spCalls K 0 vs H Q E := fun vs H Q E h => by
    obtain ⟨p, v, w, n, z, G, _, _, _, _, _, _, _, h1, _⟩ := h
    have := w.size_pos
    omega
  exact ⟨fun vs H Q E h => absurd h (no vs H Q E), fun A outer s H args us vs Q E _ _ _ _ h => absurd h (no vs H Q E)⟩
theorem step_l_with_calls (s : Nat) (h : Here K mg "_law_with_calls" s_l_with_calls ["_law_pen_here", "_law_way_here"]) (B : Bs mg) (G_l_draw : DefOk P w K mg base 1 "_law_draw" ["_law_pen_here", "_law_many"] (spDraw K)) (G_l_pick : DefOk P w K mg base 2 "_law_pick" ["_law_pen_here", "_law_items"] (spPick K)) (G_l_with_calls : DefOk P w K mg base (3 + s) "_law_with_calls" ["_law_pen_here", "_law_way_here"] (spCalls K s)) :
    DefOk P w K mg base (3 + s + 1) "_law_with_calls" ["_law_pen_here", "_law_way_here"] (spCalls K (s + 1)) := by
  have B_range := B.range
  refine h.ok sc_l_with_calls (fun vs H Q E h => by obtain ⟨_, _, _, _, _, _, rfl, _⟩ := h; rfl) (fun f cdv A outer s' H vs Q E hr h => ?_)
  obtain ⟨p, v, x, n, z, G, rfl, hP, hn, hg, hv, hwf, hz, hs, hs2, k⟩ := h
  refine ⟨_, (pss_cons (ps_if (PW.pt (pw_and (pt_cmpR op_eq (pe_ix ix_tup (pv 1) pe_int (fun _ _ => rfl)) pe_str (nomark _)) (pw_and1 (pt_cmpR op_eq (pe_callD G_l_draw (hr.mono (by first | decide | omega)) rfl (pa_cons (pv 0) (pa_cons pe_int pa_nil))) pe_int (nomark _))))) (pss_one (ps_ret (pe_tup (pa_cons pe_str (pa_cons (pe_join pe_str (pe_lc (own := [("_law_k", 3)]) (g := (gName 3)) (tt := tYes) rfl sc_l_with_calls.nd (pi_range1 rfl B_range (pa_cons (pe_op op_add pe_int (pe_callD G_l_draw (hr.mono (by first | decide | omega)) rfl (pa_cons (pv 0) (pa_cons pe_int pa_nil)))) pa_nil)) (blkOk_by (own := [("_law_k", 3)]) (N := ["_law_pen_here", "_law_way_here", "_law_one", "_law_k"]) (sc := defScope s_l_with_calls) (by decide +kernel)) (fun _ _ _ _ _ => pg_name (i := 3) sc_l_with_calls.nd rfl (Or.inl rfl)) (fun _ _ _ _ _ => pts_nil) (fun _ _ _ _ _ => (pe_callD G_l_pick (hr.mono (by first | decide | omega)) rfl (pa_cons (pv 0) (pa_cons pe_str pa_nil)))))) pa_nil))))) pss_nil)
  (pss_cons (ps_if (pt_cmpR op_in_seq (pe_ix ix_tup (pv 1) pe_int (fun _ _ => rfl)) (pe_lst (pa_cons pe_str (pa_cons pe_str pa_nil))) (by rfl)) (pss_one (ps_ret (pe_tup (pa_cons (pe_ix ix_tup (pv 1) pe_int (fun _ _ => rfl)) (pa_cons (pe_lc (own := [("_law_one", 2)]) (g := (gName 2)) (tt := tYes) rfl sc_l_with_calls.nd (pi_list (pe_ix ix_tup (pv 1) pe_int (fun _ _ => rfl))) (blkOk_by (own := [("_law_one", 2)]) (N := ["_law_pen_here", "_law_way_here", "_law_one", "_law_k"]) (sc := defScope s_l_with_calls) (by decide +kernel)) (fun _ _ _ _ _ => pg_name (i := 2) sc_l_with_calls.nd rfl (Or.inl rfl)) (fun _ _ _ _ _ => pts_nil) (fun _ _ _ _ _ => (pe_callD G_l_with_calls (hr.mono (by first | decide | omega)) rfl (pa_cons (pv 0) (pa_cons (pv 2) pa_nil))))) pa_nil))))) pss_nil)
  (pss_one (ps_ret (pe_ifExp (pt_cmpR op_in_seq (pe_ix ix_tup (pv 1) pe_int (fun _ _ => rfl)) (pe_lst (pa_cons pe_str (pa_cons pe_str (pa_cons pe_str (pa_cons pe_str pa_nil))))) (by rfl)) (pe_tup (pa_cons (pe_ix ix_tup (pv 1) pe_int (fun _ _ => rfl)) (pa_cons (pe_callD G_l_with_calls (hr.mono (by first | decide | omega)) rfl (pa_cons (pv 0) (pa_cons (pe_ix ix_tup (pv 1) pe_int (fun _ _ => rfl)) pa_nil))) pa_nil))) (pv 1)))))), ?_⟩
  obtain ⟨a, rest, rfl, ha⟩ := hv.head
  have ha0 := hg.tup ha
  have sz1 := x.size_pos
  with_reducible refine st_cut (fun σ' H' => σ' = [some (V.ref p.d), some (V.ref a), none, none] ∧ Keep H H' ∧ PenAt K H' p (n + 1)) (fun nx' go => ?_) ?_
  · walk_at "rd"
    refine ⟨a, _, _, _, rfl, rfl, SqT.of ha0, atI0, rfl, _, rfl, ?_⟩
    rw [eq_letter]
    refine ite2 (fun e => ?_) (fun e => ?_)
    · cases x <;> first | exact absurd e Bool.false_ne_true | skip
      rename_i c
      walk_at "rd"
      refine ⟨p, 4, n, rfl, hP, by omega, by decide, by decide, fun d H1 d0 d1 k1 hP1 => ?_⟩
      walk_at "rd"
      refine ite2 (fun e2 => ?_) (fun e2 => ?_)
      · walk_at "nx"
        walk_at "rd"
        refine ⟨⟨_, rfl⟩, ?_⟩
        walk_at "rd"
        refine ⟨p, 12, n + 1, rfl, hP1, by omega, by decide, by decide, fun d2 H2 d20 d21 k2 hP2 => ?_⟩
        walk_at "rd"
        refine ⟨by omega, by omega, fun D hD => ?_⟩
        refine lc_range (lo := 0) (n := (1 + d2).toNat) (fun i H' => ∃ cs : List Nat, H' D = some (.lst ((cs.map sg).map V.str)) ∧ cs.length = i ∧ (∀ c ∈ cs, isAz c) ∧ Keep H2 H' ∧ PenAt K H' p (n + 2 + i)) ?_ ?_ ?_
        · exact ⟨[], upd_same, rfl, (fun _ h => absurd h List.not_mem_nil), .of (Same.new hD _), hP2.same (Same.new hD _)⟩
        · rintro i H' hi ⟨cs, hD', hl, haz, k', hP'⟩
          refine ⟨rfl, _, rfl, p, _, n + 2 + i, rfl, hP', by omega, .inr ⟨[97, 98, 99, 122], four_tx ▸ rfl, by decide, by decide, fun c' H5 hc k5 hP5 => ?_⟩⟩
          have hD5 := k5.lst hD'
          refine ⟨_, hD5, small' (by rw [List.length_map, List.length_map]; omega), cs ++ [c'], ?_, by rw [List.length_append, hl]; rfl, ?_, Keep.put hD (k'.trans k5) _, PenAt.put hP2 hD hP5 (k'.trans k5) hD5⟩
          · rw [upd_same, List.map_append, List.map_append]
            rfl
          · intro q hq
            rcases List.mem_append.mp hq with h | h
            · exact haz q h
            · have e : q = c' := by simpa using h
              subst e
              simp only [List.mem_cons, List.not_mem_nil, or_false] at hc
              unfold isAz
              omega
        · rintro H5 ⟨cs, hD', hl, haz, k', hP'⟩
          walk_at "rd"
          refine ⟨_, D, cs.map sg, rfl, rfl, .inl (SqL.of hD'), ?_, ?_⟩
          · rw [sg_sum, List.length_map, empty_tx, tx_len]
            show cs.length + cs.length * 0 ≤ _
            omega
          · rw [join_sg]
            refine ⟨by show 2 ≤ sizeLine; decide, fun t ht => ?_⟩
            have s6 := Same.new ht (.tup [.str (Str.ofString "call"), .str (tx cs)])
            have kF := (k1.trans k2).trans k'
            have hcs : cs ≠ [] ∧ cs.length ≤ 12 := ⟨fun q => by rw [q] at hl; simp at hl; omega, by omega⟩
            refine k _ (.call (tx cs)) _ rfl ⟨hcs.1, hcs.2, haz⟩ ⟨t, rfl, ?_⟩ (kF.trans (.of s6)) ((hP'.same s6).mono (by omega))
            rw [over_new ((hg.trans kF).free ht), newer_at (kF.free ht)]
            exact upd_same
      · exact go _ _ ⟨rfl, k1, hP1⟩
    · exact go _ _ ⟨rfl, .refl _, hP.mono (by omega)⟩
  · rintro _ H1 ⟨rfl, k1, hP1⟩
    have ha1 := k1.tup ha0
    walk_at "nx"
    walk_at "rd"
    refine ⟨a, _, _, _, rfl, rfl, SqT.of ha1, atI0, ?_⟩
    refine ⟨by show 2 ≤ sizeLine; decide, fun p1 hp1 => ?_⟩
    have s2 := Same.new hp1 (.lst [.str (Str.ofString "row"), .str (Str.ofString "choice")])
    refine ⟨p1, _, rfl, .inl (SqL.of upd_same), rfl, by decide +kernel, ?_⟩
    rw [if_neg Bool.false_ne_true, in_rc]
    have ha2 := s2 _ _ ha1
    have hP2 := hP1.same s2
    have k2 := k1.trans (.of s2)
    generalize upd H1 p1 (.lst [.str (Str.ofString "row"), .str (Str.ofString "choice")]) = H2 at *
    walk_at "rd"
    refine ite2 (fun e => ?_) (fun e => ?_)
    · cases x <;> first | exact absurd e Bool.false_ne_true | skip
      · obtain ⟨a', l, vs, e', h1, h2, h3⟩ := hv
        rename_i ws
        cases e'
        have h1' := k2.tup (hg.tup h1)
        have h2' := k2.lst (hg.lst h2)
        have elen := WaysAt.len _ _ h3
        have hsy : (W.row ws).size = 1 + W.sizes ws := rfl
        have hll := W.sizes_len ws
        walk_at "rd"
        refine ⟨a, _, _, _, rfl, rfl, SqT.of h1', atI0, ?_⟩
        walk_at "rd"
        refine ⟨a, _, _, _, rfl, rfl, SqT.of h1', atI1, ?_⟩
        refine ⟨l, rfl, ⟨vs, SqL.of h2'⟩, fun D hD => ?_⟩
        have gD : G D = none := (hg.trans k2).free hD
        have hDH : H D = none := k2.free hD
        refine lc_list (K := K) (a := l) (xs := vs) (fun i H' => ∃ us ws', H' D = some (.lst us) ∧ us.length = i ∧ ws'.length = i ∧ W.sizes ws' = W.sizes (ws.take i) ∧ okWs ws' ∧ WaysAt (over G (nD D (newer H H'))) us ws' ∧ Keep H2 H' ∧ PenAt K H' p (n + 1 + 20 * W.sizes (ws.take i))) ?_ ?_ ?_ ?_
        · exact ⟨[], [], upd_same, rfl, rfl, rfl, trivial, rfl, .of (Same.new hD _), (hP2.same (Same.new hD _)).mono (by omega)⟩
        · rintro i H' _ ⟨us, ws', _, _, _, _, _, _, k', _⟩
          exact SqL.of (k'.lst h2')
        · rintro i y H' hy ⟨us, ws', hD', hl1, hl2, hsz, hok', hus, k', hP'⟩
          have hi : i < vs.length := (List.getElem?_eq_some_iff.mp hy).1
          obtain ⟨wi, hwi⟩ : ∃ wi, ws[i]? = some wi := ⟨ws[i]'(by omega), List.getElem?_eq_getElem (by omega)⟩
          obtain ⟨y', hy', hyw⟩ := WaysAt.at_ _ _ _ _ h3 hwi
          have ey : y = y' := Option.some.inj (hy.symm.trans hy')
          subst ey
          have hsi := W.size_mem hwi
          have ht1 := W.sizes_take ws (i + 1)
          have et : W.sizes (ws.take (i + 1)) = W.sizes (ws.take i) + wi.size := by rw [take_more hwi, W.sizes_app]; simp only [W.sizes]; omega
          refine ⟨rfl, _, rfl, _, rfl, p, y, wi, n + 1 + 20 * W.sizes (ws.take i), z, G, rfl, hP', by omega, hg.trans (k2.trans k'), hyw, wfs_get hwf.2 hwi, hz, by omega, by omega, fun u w' H5 hs5 ok5 hv5 k5 hP5 => ?_⟩
          have hD5 := k5.lst hD'
          have up : ∀ b o, b ≠ D → H5 b = some o → (upd H5 D (.lst (us ++ [u]))) b = some o := fun b o nb q => by rw [upd_ne nb]; exact q
          have kA : Keep (over G (nD D (newer H H'))) (over G (nD D (newer H (upd H5 D (.lst (us ++ [u])))))) := over_keep fun b o _ q => by
            obtain ⟨nb, q1⟩ := nD_of q
            obtain ⟨q2, q3⟩ := newer_of q1
            rw [nD_at nb, newer_at q2, upd_ne nb]
            exact k5 b o q3
          have kB : Keep (over G (newer H' H5)) (over G (nD D (newer H (upd H5 D (.lst (us ++ [u])))))) := over_keep fun b o _ q => by
            obtain ⟨q2, q3⟩ := newer_of q
            have nb : b ≠ D := fun q4 => by rw [q4, hD'] at q2; cases q2
            rw [nD_at nb, newer_at ((k2.trans k').free q2), upd_ne nb]
            exact .inl q3
          refine ⟨us, hD5, small' (by omega), us ++ [u], ws' ++ [w'], upd_same, by rw [List.length_append, hl1]; rfl, by rw [List.length_append, hl2]; rfl, ?_, okWs_app _ _ hok' ⟨ok5, trivial⟩, ?_, Keep.put hD (k'.trans k5) _, ?_⟩
          · rw [W.sizes_app, et, hsz]; simp only [W.sizes]; omega
          · exact WaysAt.app _ _ (WaysAt.keep kA _ _ hus) ⟨u, [], rfl, WayAt.keep kB _ _ hv5, rfl⟩
          · rw [et]
            exact (PenAt.put hP2 hD hP5 (k'.trans k5) hD5).mono (by omega)
        · rintro H5 ⟨us, ws', hD', hl1, hl2, hsz, hok', hus, k', hP'⟩
          rw [elen, List.take_length] at hsz hP'
          have h15 := k'.tup h1'
          refine ⟨by show 2 ≤ sizeLine; decide, fun t ht => ?_⟩
          have s6 := Same.new ht (.tup [.str (W.row ws).tag, .ref D])
          have kF := k2.trans k'
          have kk : Keep (over G (nD D (newer H H5))) (over G (newer H (upd H5 t (.tup [.str (W.row ws).tag, .ref D])))) := over_keep fun b o _ q => by
            obtain ⟨nb, q1⟩ := nD_of q
            obtain ⟨q2, q3⟩ := newer_of q1
            rw [newer_at q2]
            exact .inl (s6 _ _ q3)
          refine k _ (.row ws') _ (by show 1 + W.sizes ws' = 1 + W.sizes ws; omega) ⟨by rw [hl2, elen]; exact hwf.1, hok'⟩ ⟨t, D, us, rfl, ?_, ?_, WaysAt.keep kk _ _ hus⟩ (kF.trans (.of s6)) ((hP'.same s6).mono (by omega))
          · rw [over_new ((hg.trans kF).free ht), newer_at (kF.free ht)]; exact upd_same
          · rw [over_new gD, newer_at hDH]; exact s6 _ _ hD'
      · obtain ⟨a', l, vs, e', h1, h2, h3⟩ := hv
        rename_i ws
        cases e'
        have h1' := k2.tup (hg.tup h1)
        have h2' := k2.lst (hg.lst h2)
        have elen := WaysAt.len _ _ h3
        have hsy : (W.choice ws).size = 1 + W.sizes ws := rfl
        have hll := W.sizes_len ws
        walk_at "rd"
        refine ⟨a, _, _, _, rfl, rfl, SqT.of h1', atI0, ?_⟩
        walk_at "rd"
        refine ⟨a, _, _, _, rfl, rfl, SqT.of h1', atI1, ?_⟩
        refine ⟨l, rfl, ⟨vs, SqL.of h2'⟩, fun D hD => ?_⟩
        have gD : G D = none := (hg.trans k2).free hD
        have hDH : H D = none := k2.free hD
        refine lc_list (K := K) (a := l) (xs := vs) (fun i H' => ∃ us ws', H' D = some (.lst us) ∧ us.length = i ∧ ws'.length = i ∧ W.sizes ws' = W.sizes (ws.take i) ∧ okWs ws' ∧ WaysAt (over G (nD D (newer H H'))) us ws' ∧ Keep H2 H' ∧ PenAt K H' p (n + 1 + 20 * W.sizes (ws.take i))) ?_ ?_ ?_ ?_
        · exact ⟨[], [], upd_same, rfl, rfl, rfl, trivial, rfl, .of (Same.new hD _), (hP2.same (Same.new hD _)).mono (by omega)⟩
        · rintro i H' _ ⟨us, ws', _, _, _, _, _, _, k', _⟩
          exact SqL.of (k'.lst h2')
        · rintro i y H' hy ⟨us, ws', hD', hl1, hl2, hsz, hok', hus, k', hP'⟩
          have hi : i < vs.length := (List.getElem?_eq_some_iff.mp hy).1
          obtain ⟨wi, hwi⟩ : ∃ wi, ws[i]? = some wi := ⟨ws[i]'(by omega), List.getElem?_eq_getElem (by omega)⟩
          obtain ⟨y', hy', hyw⟩ := WaysAt.at_ _ _ _ _ h3 hwi
          have ey : y = y' := Option.some.inj (hy.symm.trans hy')
          subst ey
          have hsi := W.size_mem hwi
          have ht1 := W.sizes_take ws (i + 1)
          have et : W.sizes (ws.take (i + 1)) = W.sizes (ws.take i) + wi.size := by rw [take_more hwi, W.sizes_app]; simp only [W.sizes]; omega
          refine ⟨rfl, _, rfl, _, rfl, p, y, wi, n + 1 + 20 * W.sizes (ws.take i), z, G, rfl, hP', by omega, hg.trans (k2.trans k'), hyw, wfs_get hwf.2 hwi, hz, by omega, by omega, fun u w' H5 hs5 ok5 hv5 k5 hP5 => ?_⟩
          have hD5 := k5.lst hD'
          have up : ∀ b o, b ≠ D → H5 b = some o → (upd H5 D (.lst (us ++ [u]))) b = some o := fun b o nb q => by rw [upd_ne nb]; exact q
          have kA : Keep (over G (nD D (newer H H'))) (over G (nD D (newer H (upd H5 D (.lst (us ++ [u])))))) := over_keep fun b o _ q => by
            obtain ⟨nb, q1⟩ := nD_of q
            obtain ⟨q2, q3⟩ := newer_of q1
            rw [nD_at nb, newer_at q2, upd_ne nb]
            exact k5 b o q3
          have kB : Keep (over G (newer H' H5)) (over G (nD D (newer H (upd H5 D (.lst (us ++ [u])))))) := over_keep fun b o _ q => by
            obtain ⟨q2, q3⟩ := newer_of q
            have nb : b ≠ D := fun q4 => by rw [q4, hD'] at q2; cases q2
            rw [nD_at nb, newer_at ((k2.trans k').free q2), upd_ne nb]
            exact .inl q3
          refine ⟨us, hD5, small' (by omega), us ++ [u], ws' ++ [w'], upd_same, by rw [List.length_append, hl1]; rfl, by rw [List.length_append, hl2]; rfl, ?_, okWs_app _ _ hok' ⟨ok5, trivial⟩, ?_, Keep.put hD (k'.trans k5) _, ?_⟩
          · rw [W.sizes_app, et, hsz]; simp only [W.sizes]; omega
          · exact WaysAt.app _ _ (WaysAt.keep kA _ _ hus) ⟨u, [], rfl, WayAt.keep kB _ _ hv5, rfl⟩
          · rw [et]
            exact (PenAt.put hP2 hD hP5 (k'.trans k5) hD5).mono (by omega)
        · rintro H5 ⟨us, ws', hD', hl1, hl2, hsz, hok', hus, k', hP'⟩
          rw [elen, List.take_length] at hsz hP'
          have h15 := k'.tup h1'
          refine ⟨by show 2 ≤ sizeLine; decide, fun t ht => ?_⟩
          have s6 := Same.new ht (.tup [.str (W.choice ws).tag, .ref D])
          have kF := k2.trans k'
          have kk : Keep (over G (nD D (newer H H5))) (over G (newer H (upd H5 t (.tup [.str (W.choice ws).tag, .ref D])))) := over_keep fun b o _ q => by
            obtain ⟨nb, q1⟩ := nD_of q
            obtain ⟨q2, q3⟩ := newer_of q1
            rw [newer_at q2]
            exact .inl (s6 _ _ q3)
          refine k _ (.choice ws') _ (by show 1 + W.sizes ws' = 1 + W.sizes ws; omega) ⟨by rw [hl2, elen]; exact hwf.1, hok'⟩ ⟨t, D, us, rfl, ?_, ?_, WaysAt.keep kk _ _ hus⟩ (kF.trans (.of s6)) ((hP'.same s6).mono (by omega))
          · rw [over_new ((hg.trans kF).free ht), newer_at (kF.free ht)]; exact upd_same
          · rw [over_new gD, newer_at hDH]; exact s6 _ _ hD'
    · walk_at "nx"
      walk_at "rd"
      refine ⟨a, _, _, _, rfl, rfl, SqT.of ha2, atI0, ?_⟩
      refine ⟨by show 4 ≤ sizeLine; decide, fun p3 hp3 => ?_⟩
      have s3 := Same.new hp3 (.lst [.str (Str.ofString "again"), .str (Str.ofString "maybe"), .str (Str.ofString "ahead"), .str (Str.ofString "unless")])
      refine ⟨p3, _, rfl, .inl (SqL.of upd_same), rfl, by decide +kernel, ?_⟩
      rw [if_neg Bool.false_ne_true, in_un]
      have ha3 := s3 _ _ ha2
      have hP3 := hP2.same s3
      have k3 := k2.trans (.of s3)
      generalize upd H2 p3 (.lst [.str (Str.ofString "again"), .str (Str.ofString "maybe"), .str (Str.ofString "ahead"), .str (Str.ofString "unless")]) = H3 at *
      walk_at "rd"
      refine ite2 (fun e2 => ?_) (fun e2 => ?_)
      · cases x <;> first | exact absurd e2 Bool.false_ne_true | skip
        · obtain ⟨a', u, e', h1, hu⟩ := hv
          rename_i y
          cases e'
          have h3 := k3.tup (hg.tup h1)
          have hsy : (W.again y).size = 1 + y.size := rfl
          walk_at "rd"
          refine ⟨a, _, _, _, rfl, rfl, SqT.of h3, atI0, ?_⟩
          walk_at "rd"
          refine ⟨a, _, _, _, rfl, rfl, SqT.of h3, atI1, ?_⟩
          refine ⟨p, u, y, n + 1, z, G, rfl, hP3, by omega, hg.trans k3, hu, hwf, hz, by omega, by omega, fun u' y' H4 hs4 ok4 hv4 k4 hP4 => ?_⟩
          refine ⟨by show 2 ≤ sizeLine; decide, fun t ht => ?_⟩
          have s5 := Same.new ht (.tup [.str (W.again y).tag, u'])
          have k5 := k3.trans (k4.trans (.of s5))
          have gt : G t = none := (hg.trans (k3.trans k4)).free ht
          have kk : Keep (over G (newer H3 H4)) (over G (newer H (upd H4 t (.tup [.str (W.again y).tag, u'])))) := over_keep fun b o _ q => by
            obtain ⟨q1, q2⟩ := newer_of q
            rw [newer_at (k3.free q1)]
            exact .inl (s5 _ _ q2)
          exact k _ (.again y') _ (by show 1 + y'.size = 1 + y.size; omega) ok4 ⟨t, u', rfl, by rw [over_new gt, newer_at ((k3.trans k4).free ht)]; exact upd_same, WayAt.keep kk _ _ hv4⟩ k5 ((hP4.same s5).mono (by omega))
        · obtain ⟨a', u, e', h1, hu⟩ := hv
          rename_i y
          cases e'
          have h3 := k3.tup (hg.tup h1)
          have hsy : (W.maybe y).size = 1 + y.size := rfl
          walk_at "rd"
          refine ⟨a, _, _, _, rfl, rfl, SqT.of h3, atI0, ?_⟩
          walk_at "rd"
          refine ⟨a, _, _, _, rfl, rfl, SqT.of h3, atI1, ?_⟩
          refine ⟨p, u, y, n + 1, z, G, rfl, hP3, by omega, hg.trans k3, hu, hwf, hz, by omega, by omega, fun u' y' H4 hs4 ok4 hv4 k4 hP4 => ?_⟩
          refine ⟨by show 2 ≤ sizeLine; decide, fun t ht => ?_⟩
          have s5 := Same.new ht (.tup [.str (W.maybe y).tag, u'])
          have k5 := k3.trans (k4.trans (.of s5))
          have gt : G t = none := (hg.trans (k3.trans k4)).free ht
          have kk : Keep (over G (newer H3 H4)) (over G (newer H (upd H4 t (.tup [.str (W.maybe y).tag, u'])))) := over_keep fun b o _ q => by
            obtain ⟨q1, q2⟩ := newer_of q
            rw [newer_at (k3.free q1)]
            exact .inl (s5 _ _ q2)
          exact k _ (.maybe y') _ (by show 1 + y'.size = 1 + y.size; omega) ok4 ⟨t, u', rfl, by rw [over_new gt, newer_at ((k3.trans k4).free ht)]; exact upd_same, WayAt.keep kk _ _ hv4⟩ k5 ((hP4.same s5).mono (by omega))
        · obtain ⟨a', u, e', h1, hu⟩ := hv
          rename_i y
          cases e'
          have h3 := k3.tup (hg.tup h1)
          have hsy : (W.ahead y).size = 1 + y.size := rfl
          walk_at "rd"
          refine ⟨a, _, _, _, rfl, rfl, SqT.of h3, atI0, ?_⟩
          walk_at "rd"
          refine ⟨a, _, _, _, rfl, rfl, SqT.of h3, atI1, ?_⟩
          refine ⟨p, u, y, n + 1, z, G, rfl, hP3, by omega, hg.trans k3, hu, hwf, hz, by omega, by omega, fun u' y' H4 hs4 ok4 hv4 k4 hP4 => ?_⟩
          refine ⟨by show 2 ≤ sizeLine; decide, fun t ht => ?_⟩
          have s5 := Same.new ht (.tup [.str (W.ahead y).tag, u'])
          have k5 := k3.trans (k4.trans (.of s5))
          have gt : G t = none := (hg.trans (k3.trans k4)).free ht
          have kk : Keep (over G (newer H3 H4)) (over G (newer H (upd H4 t (.tup [.str (W.ahead y).tag, u'])))) := over_keep fun b o _ q => by
            obtain ⟨q1, q2⟩ := newer_of q
            rw [newer_at (k3.free q1)]
            exact .inl (s5 _ _ q2)
          exact k _ (.ahead y') _ (by show 1 + y'.size = 1 + y.size; omega) ok4 ⟨t, u', rfl, by rw [over_new gt, newer_at ((k3.trans k4).free ht)]; exact upd_same, WayAt.keep kk _ _ hv4⟩ k5 ((hP4.same s5).mono (by omega))
        · obtain ⟨a', u, e', h1, hu⟩ := hv
          rename_i y
          cases e'
          have h3 := k3.tup (hg.tup h1)
          have hsy : (W.unless y).size = 1 + y.size := rfl
          walk_at "rd"
          refine ⟨a, _, _, _, rfl, rfl, SqT.of h3, atI0, ?_⟩
          walk_at "rd"
          refine ⟨a, _, _, _, rfl, rfl, SqT.of h3, atI1, ?_⟩
          refine ⟨p, u, y, n + 1, z, G, rfl, hP3, by omega, hg.trans k3, hu, hwf, hz, by omega, by omega, fun u' y' H4 hs4 ok4 hv4 k4 hP4 => ?_⟩
          refine ⟨by show 2 ≤ sizeLine; decide, fun t ht => ?_⟩
          have s5 := Same.new ht (.tup [.str (W.unless y).tag, u'])
          have k5 := k3.trans (k4.trans (.of s5))
          have gt : G t = none := (hg.trans (k3.trans k4)).free ht
          have kk : Keep (over G (newer H3 H4)) (over G (newer H (upd H4 t (.tup [.str (W.unless y).tag, u'])))) := over_keep fun b o _ q => by
            obtain ⟨q1, q2⟩ := newer_of q
            rw [newer_at (k3.free q1)]
            exact .inl (s5 _ _ q2)
          exact k _ (.unless y') _ (by show 1 + y'.size = 1 + y.size; omega) ok4 ⟨t, u', rfl, by rw [over_new gt, newer_at ((k3.trans k4).free ht)]; exact upd_same, WayAt.keep kk _ _ hv4⟩ k5 ((hP4.same s5).mono (by omega))
      · refine ⟨_, rfl, ?_⟩
        refine k _ x _ rfl ?_ (WayAt.keep over_in _ _ hv) k3 (hP3.mono (by omega))
        cases x <;> first | exact absurd rfl e | exact absurd rfl e2 | trivial | exact hz _ hwf | exact hwf.elim
theorem d_l_with_calls (h : Here K mg "_law_with_calls" s_l_with_calls ["_law_pen_here", "_law_way_here"]) (B : Bs mg) (G_l_draw : DefOk P w K mg base 1 "_law_draw" ["_law_pen_here", "_law_many"] (spDraw K)) (G_l_pick : DefOk P w K mg base 2 "_law_pick" ["_law_pen_here", "_law_items"] (spPick K)) : ∀ s, DefOk P w K mg base (3 + s) "_law_with_calls" ["_law_pen_here", "_law_way_here"] (spCalls K s)
  | 0 => by
    obtain ⟨f, fd, F, m, b⟩ := h.ex
    exact ⟨f, fd, m, F.kp, b, none_calls⟩
  | s + 1 => step_l_with_calls s h B G_l_draw G_l_pick (d_l_with_calls h B G_l_draw G_l_pick s)
end
end Ws
/-! the written text: pure facts -/
namespace Ws
open PySem PySem.Spec PyProof.Rows L2 Wv
theorem lbr_mem {x : Str} {b : Bool} {l : List Str} (h : x ∈ lbr b l) : x = Str.ofString "(" ∨ x = Str.ofString ")" ∨ x ∈ l := by
  unfold lbr at h
  split at h
  · simp only [List.mem_cons, List.mem_append, List.not_mem_nil, or_false] at h
    rcases h with h | h | h
    · exact .inl h
    · exact .inr (.inr h)
    · exact .inr (.inl h)
  · exact .inr (.inr h)
def Tw (x : Str) : Prop := x.cps.toList.length ≤ 12
theorem tw_br {b : Bool} {l : List Str} (h : ∀ x ∈ l, Tw x) : ∀ x ∈ lbr b l, Tw x := fun x hx => by
  rcases lbr_mem hx with rfl | rfl | e
  · show (Str.ofString "(").cps.toList.length ≤ 12; decide +kernel
  · show (Str.ofString ")").cps.toList.length ≤ 12; decide +kernel
  · exact h x e
mutual
theorem lw_tw : ∀ w : W, okW w → ∀ x ∈ lw w, Tw x
  | .letter c, _, x, h => by
    have e : x = sg c := by simpa [lw] using h
    rw [e]; show 1 ≤ 12; omega
  | .one, _, x, h => by
    have e : x = Str.ofString "." := by simpa [lw] using h
    rw [e]; show (Str.ofString ".").cps.toList.length ≤ 12; decide +kernel
  | .nothing, _, x, h => by
    have e : x = Str.ofString "(" ∨ x = Str.ofString ")" := by simpa [lw] using h
    rcases e with rfl | rfl
    · show (Str.ofString "(").cps.toList.length ≤ 12; decide +kernel
    · show (Str.ofString ")").cps.toList.length ≤ 12; decide +kernel
  | .call y, ok, x, h => by
    have e : x = Str.ofString "<" ∨ x = y ∨ x = Str.ofString ">" := by simpa [lw] using h
    rcases e with rfl | rfl | rfl
    · show (Str.ofString "<").cps.toList.length ≤ 12; decide +kernel
    · exact ok.2.1
    · show (Str.ofString ">").cps.toList.length ≤ 12; decide +kernel
  | .row ws, ok, x, h => lwJ_tw 3 [uS] (fun y hy => by
      have e : y = uS := by simpa using hy
      rw [e]; show uS.cps.toList.length ≤ 12; rw [uS_cps]; decide) ws true ok.2 x h
  | .choice ws, ok, x, h => lwJ_tw 4 [uS, Str.ofString "/", uS] (fun y hy => by
      have e : y = uS ∨ y = Str.ofString "/" := by
        simp only [List.mem_cons, List.not_mem_nil, or_false] at hy
        rcases hy with h | h | h
        · exact .inl h
        · exact .inr h
        · exact .inl h
      rcases e with rfl | rfl
      · show uS.cps.toList.length ≤ 12; rw [uS_cps]; decide
      · show (Str.ofString "/").cps.toList.length ≤ 12; decide +kernel) ws true ok.2 x h
  | .again w, ok, x, h => by
    have e : x ∈ lbr (needs w.kind 5) (lw w) ∨ x = Str.ofString "*" := by simpa [lw] using h
    rcases e with e | rfl
    · exact tw_br (lw_tw w ok) x e
    · show (Str.ofString "*").cps.toList.length ≤ 12; decide +kernel
  | .maybe w, ok, x, h => by
    have e : x ∈ lbr (needs w.kind 6) (lw w) ∨ x = Str.ofString "?" := by simpa [lw] using h
    rcases e with e | rfl
    · exact tw_br (lw_tw w ok) x e
    · show (Str.ofString "?").cps.toList.length ≤ 12; decide +kernel
  | .ahead w, ok, x, h => by
    have e : x = Str.ofString "&" ∨ x ∈ lbr (needs w.kind 7) (lw w) := by simpa [lw] using h
    rcases e with rfl | e
    · show (Str.ofString "&").cps.toList.length ≤ 12; decide +kernel
    · exact tw_br (lw_tw w ok) x e
  | .unless w, ok, x, h => by
    have e : x = Str.ofString "!" ∨ x ∈ lbr (needs w.kind 8) (lw w) := by simpa [lw] using h
    rcases e with rfl | e
    · show (Str.ofString "!").cps.toList.length ≤ 12; decide +kernel
    · exact tw_br (lw_tw w ok) x e
theorem lwJ_tw (k : Nat) (b : List Str) (hb : ∀ x ∈ b, Tw x) : ∀ (ws : List W) (f : Bool), okWs ws → ∀ x ∈ lwJ k b f ws, Tw x
  | [], f, _, x, h => by simp [lwJ] at h
  | w :: ws, f, ok, x, h => by
    have e : x ∈ (if f = true then [] else b) ∨ x ∈ lbr (needs w.kind k) (lw w) ∨ x ∈ lwJ k b false ws := by
      have h' : x ∈ (if f = true then [] else b) ++ (lbr (needs w.kind k) (lw w) ++ lwJ k b false ws) := h
      rw [List.mem_append, List.mem_append] at h'
      exact h'
    rcases e with e | e | e
    · cases f
      · exact hb x e
      · exact absurd e (by simp)
    · exact tw_br (lw_tw w ok.1) x e
    · exact lwJ_tw k b hb ws false ok.2 x e
end
theorem wr_tw : ∀ (j : Nat) {l : List Str}, (∀ x ∈ l, Tw x) → ∀ x ∈ wr j l, Tw x
  | 0, l, h, x, hx => h x hx
  | j + 1, l, h, x, hx => by
    have e : x ∈ [Str.ofString "("] ++ wr j l ++ [Str.ofString ")"] := hx
    rw [List.mem_append, List.mem_append] at e
    rcases e with (e | e) | e
    · have e' : x = Str.ofString "(" := by simpa using e
      rw [e']; show (Str.ofString "(").cps.toList.length ≤ 12; decide +kernel
    · exact wr_tw j h x e
    · have e' : x = Str.ofString ")" := by simpa using e
      rw [e']; show (Str.ofString ")").cps.toList.length ≤ 12; decide +kernel
theorem join_tx' : ∀ xs : List Str, PySem.Str.join (Str.ofString "") xs = tx (xs.flatMap fun x => x.cps.toList)
  | [] => rfl
  | [x] => by
    show x = _
    rw [List.flatMap_cons, List.flatMap_nil, List.append_nil]
    exact tx_cps x
  | x :: y :: r => by
    show x ++ Str.ofString "" ++ PySem.Str.join (Str.ofString "") (y :: r) = _
    rw [join_tx' (y :: r), empty_tx, List.flatMap_cons]
    conv => lhs; rw [tx_cps x]
    rw [tx_app, tx_app, List.append_nil]
    rfl
theorem join_tx (xs : List Str) : Txt.join (Str.ofString "") xs = tx (xs.flatMap fun x => x.cps.toList) := (TL.join_eq _ _).trans (join_tx' xs)
theorem txt_cod (w : W) : txt w = tx (cod w) := by
  unfold txt
  rw [join_tx, cod_pcs]
theorem len_cps (x : Str) : x.length = x.cps.toList.length := by
  show x.cps.size = _
  rw [Array.length_toList]
theorem sum_flat : ∀ xs : List Str, ((xs.map (·.length)).sum) = (xs.flatMap fun x => x.cps.toList).length
  | [] => rfl
  | x :: xs => by rw [List.map_cons, List.sum_cons, sum_flat xs, List.flatMap_cons, List.length_append, len_cps]
/-- a word as it stands in the text -/
def wd (x : Str) : Str := if x = uS then Str.ofString " " else x
theorem wd_cd (x : Str) : (wd x).cps.toList = cd x := by
  unfold wd cd
  split
  · decide +kernel
  · rfl
theorem flat_wd : ∀ xs : List Str, ((xs.map wd).flatMap fun x => x.cps.toList) = xs.flatMap cd
  | [] => rfl
  | x :: xs => by rw [List.map_cons, List.flatMap_cons, List.flatMap_cons, flat_wd xs, wd_cd]
theorem join_wd {w : W} (ok : okW w) : Txt.join (Str.ofString "") ((lw w).map wd) = tx (cod w) := by rw [join_tx, flat_wd, lw_cd w ok]
theorem cd_le {x : Str} (h : Tw x) : (cd x).length ≤ 12 := by
  unfold cd
  split
  · show 1 ≤ 12; omega
  · exact h
theorem flat_le : ∀ xs : List Str, (∀ x ∈ xs, Tw x) → (xs.flatMap cd).length ≤ 12 * xs.length
  | [], _ => Nat.zero_le _
  | x :: xs, h => by
    have h1 := cd_le (h x List.mem_cons_self)
    have h2 := flat_le xs fun y hy => h y (List.mem_cons_of_mem _ hy)
    rw [List.flatMap_cons, List.length_append, List.length_cons]
    omega
theorem cod_len {w : W} (ok : okW w) : (cod w).length ≤ 96 * w.size := by
  have h1 := flat_le (lw w) (lw_tw w ok)
  have h2 := lw_len w
  rw [lw_cd w ok] at h1
  omega
end Ws
namespace Ws
open PySem PySem.Spec PyProof.Rows L2 Wv
/-! ### the law -/
structure ReadOk (P : Program) (w : World) (K : PySem.W.Frag) (mg : Str → Option Value) (base : Heap) (wy : Addr) (n : Nat) (sp : Sp) : Prop where
  ex : ∃ (mc : Value) (p g : Addr), ClX.CRead K wy mc ∧ ClX.CMet K wy mc "read" p g ∧ FnR P w K mg base CX0 n g sp
def spLaw (K : PySem.W.Frag) : Sp := fun vs H Q _ => ∃ (a : Addr) (ns : List Int), vs = [.ref a] ∧ SqL K H a (ns.map V.int) ∧ ns.length ≤ 63 ∧ ∀ H', Q (.bl true) H'
section
variable {P : Program} {w : World} {K : PySem.W.Frag} {mg : Str → Option Value} {base : Heap} {c : Cs} {wy : Addr}
abbrev s_law : Stmt := top 59
theorem sc_law : FnScope ["_law_script", "_law_pen_here", "_law_turn", "_law_signs_here", "_law_way_here", "_law_made_here", "_law_text", "_law_again", "_law_loose_here", "_law_word"] ["_law_script"] (defScope s_law) := ⟨rfl, rfl, rfl, by decide +kernel, rfl, by decide +kernel, by decide +kernel⟩
theorem ok_law {f : Addr} {fd : FuncData} (F : Fun K "law" "law" s_law f fd) (B : Bs mg) (B_str : mg "str" = none) (GK_Way : mg "Way" = some (.ref wy)) (G_l_pen : DefOk P w K mg base 1 "_law_pen" ["_law_script"] (spPen K)) (G_l_draw : DefOk P w K mg base 1 "_law_draw" ["_law_pen_here", "_law_many"] (spDraw K))
    (G_l_signs : DefOk P w K mg base 2 "_law_signs" ["_law_pen_here", "_law_many"] (spSigns K)) (G_l_way : DefOk P w K mg base 34 "_law_way" ["_law_pen_here", "_law_signs_here", "_law_most"] (Wv.spWay K)) (G_l_with_calls : DefOk P w K mg base 33 "_law_with_calls" ["_law_pen_here", "_law_way_here"] (spCalls K 30))
    (G_l_made : DefOk P w K mg base 33 "_law_made" ["_law_way_here"] (spMade c 30)) (G_l_words : DefOk P w K mg base 32 "_law_words" ["_law_way_here"] (spWords 30)) (G_l_wrapped : DefOk P w K mg base 33 "_law_wrapped" ["_law_pen_here", "_law_way_here"] (spWrapped K))
    (G_l_loose : DefOk P w K mg base 3 "_law_loose" ["_law_pen_here", "_law_words_here"] (spLoose K)) (G_str : StrOk P w K mg base c 6 (spStr c)) (G_read : ReadOk P w K mg base wy 7 (spRead c)) (G_eq : EqOk P w K mg base c 3) : FnOk P w K mg base CX0 41 f fd ["_law_script"] (spLaw K) := by
  have B_len := B.len; have B_range := B.range; have B_min := B.min
  obtain ⟨mc, pr, gr, GR_Way, GM_read, GF_read⟩ := G_read.ex
  refine F.ok sc_law (fun vs H Q E h => by obtain ⟨p, v, rfl, _⟩ := h; rfl) (fun cdv A outer s' H vs Q E hr h => ?_)
  obtain ⟨a, ns, rfl, hns, hnl, k⟩ := h
  refine ⟨_, (pss_cons (ps_set (i := 1) sc_law.nd rfl (Or.inl rfl) (pe_callD G_l_pen (hr.mono (by first | decide | omega)) rfl (pa_cons (pv 0) pa_nil)))
  (pss_cons (ps_for PassesOwn.never rfl (pi_range1 rfl B_range (pa_cons (pe_op op_add pe_int (pe_callB (call_min2 rfl) rfl B_min (by decide +kernel) (pa_cons pe_int (pa_cons (pe_callB call_len_seq rfl B_len PySem.boot_len (pa_cons (pv 0) pa_nil)) pa_nil)))) pa_nil)) (pg_name (i := 2) sc_law.nd rfl (Or.inl rfl))
   (pss_cons (ps_set (i := 3) sc_law.nd rfl (Or.inl rfl) (pe_callD G_l_signs (hr.mono (by first | decide | omega)) rfl (pa_cons (pv 1) (pa_cons (pe_op op_add pe_int (pe_callD G_l_draw (hr.mono (by first | decide | omega)) rfl (pa_cons (pv 1) (pa_cons pe_int pa_nil)))) pa_nil))))
  (pss_cons (ps_set (i := 4) sc_law.nd rfl (Or.inl rfl) (pe_callD G_l_with_calls (hr.mono (by first | decide | omega)) rfl (pa_cons (pv 1) (pa_cons (pe_callD G_l_way (hr.mono (by first | decide | omega)) rfl (pa_cons (pv 1) (pa_cons (pv 3) (pa_cons pe_int pa_nil)))) pa_nil))))
  (pss_cons (ps_set (i := 5) sc_law.nd rfl (Or.inl rfl) (pe_callD G_l_made (hr.mono (by first | decide | omega)) rfl (pa_cons (pv 4) pa_nil)))
  (pss_cons (ps_set (i := 6) sc_law.nd rfl (Or.inl rfl) (pe_join pe_str (pe_lc (own := [("_law_word", 9)]) (g := (gName 9)) (tt := tYes) rfl sc_law.nd (pi_list (pe_callD G_l_words (hr.mono (by first | decide | omega)) rfl (pa_cons (pv 4) pa_nil))) (blkOk_by (own := [("_law_word", 9)]) (N := ["_law_script", "_law_pen_here", "_law_turn", "_law_signs_here", "_law_way_here", "_law_made_here", "_law_text", "_law_again", "_law_loose_here", "_law_word"]) (sc := defScope s_law) (by decide +kernel)) (fun _ _ _ _ _ => pg_name (i := 9) sc_law.nd rfl (Or.inl rfl)) (fun _ _ _ _ _ => pts_nil) (fun _ _ _ _ _ => (pe_ifExp (pt_cmpR op_eq (pv 9) pe_str (nomark _)) pe_str (pv 9))))))
  (pss_cons (ps_if (PW.pt (pw_or (pt_cmpR op_ne (pe_callTy (call_strW G_str (hr.mono (by first | decide | omega))) rfl B_str (by decide +kernel) (pa_cons (pv 5) pa_nil)) (pv 6) (nomark _)) (pw_or1 (pt_not (pt_cmpR (op_way G_eq (hr.mono (by first | decide | omega))) (ClX.pe_cmeth (pe_globC rfl GK_Way) GR_Way GM_read GF_read (hr.mono (by first | decide | omega)) pass0 (pa_cons (pv 6) pa_nil)) (pv 5) (nomark _)))))) (pss_one (ps_ret pe_bl)) pss_nil)
  (pss_one (ps_for PassesOwn.never rfl (pi_range1 rfl B_range (pa_cons pe_int pa_nil)) (pg_name (i := 7) sc_law.nd rfl (Or.inl rfl))
   (pss_cons (ps_set (i := 8) sc_law.nd rfl (Or.inl rfl) (pe_callD G_l_loose (hr.mono (by first | decide | omega)) rfl (pa_cons (pv 1) (pa_cons (pe_callD G_l_wrapped (hr.mono (by first | decide | omega)) rfl (pa_cons (pv 1) (pa_cons (pv 4) pa_nil))) pa_nil))))
  (pss_one (ps_if (PW.pt (pw_or (pt_not (pt_cmpR (op_way G_eq (hr.mono (by first | decide | omega))) (ClX.pe_cmeth (pe_globC rfl GK_Way) GR_Way GM_read GF_read (hr.mono (by first | decide | omega)) pass0 (pa_cons (pv 8) pa_nil)) (pv 5) (nomark _))) (pw_or1 (pt_cmpR op_ne (pe_callTy (call_strW G_str (hr.mono (by first | decide | omega))) rfl B_str (by decide +kernel) (pa_cons (ClX.pe_cmeth (pe_globC rfl GK_Way) GR_Way GM_read GF_read (hr.mono (by first | decide | omega)) pass0 (pa_cons (pv 8) pa_nil)) pa_nil)) (pv 6) (nomark _))))) (pss_one (ps_ret pe_bl)) pss_nil)))))))))))
  (pss_one (ps_ret pe_bl)))), ?_⟩
  refine ⟨_, rfl, a, ns, rfl, hns, hnl, fun p H0 s0 hP0 => ?_⟩
  walk_at "nx"
  have hm : ∃ n : Nat, n ≤ 14 ∧ 6 + (if (((ns.map V.int).length : Nat) : Int) < 8 then (((ns.map V.int).length : Nat) : Int) else 8) = (n : Int) := by
    by_cases h8 : (((ns.map V.int).length : Nat) : Int) < 8
    · rw [if_pos h8]; exact ⟨(ns.map V.int).length + 6, by omega, by omega⟩
    · rw [if_neg h8]; exact ⟨14, by omega, by omega⟩
  obtain ⟨n, hn, en⟩ := hm
  refine ⟨_, rfl, a, _, rfl, .inl (s0.seq hns), _, _, rfl, _, _, rfl, rfl, (n : Int), ?_, by omega, by omega, ?_⟩
  · exact congrArg (fun z => [V.int z]) en
  refine for_range (lo := 0) (n := (n : Int).toNat) (fun i σ H' => ∃ x2 x3 x4 x5 x6 x7 x8 x9 : Option V, σ = [some (.ref a), some (.ref p.d), x2, x3, x4, x5, x6, x7, x8, x9] ∧ PenAt K H' p (2000 * i)) ?_ ?_ ?_
  · exact ⟨_, _, _, _, _, _, _, _, rfl, hP0⟩
  · rintro i σ H1 hi ⟨x2, x3, x4, x5, x6, x7, x8, x9, rfl, hP1⟩
    have hi' : i < 14 := by omega
    walk_at "nx"
    -- signs
    refine ⟨_, rfl, _, rfl, p, 3, _, rfl, hP1, by unfold LIM; omega, by decide, by decide, fun d H2 d0 d1 k2 hP2 => ?_⟩
    have e1 : (1 + d) = ((d.toNat + 1 : Nat) : Int) := by omega
    refine ⟨_, _, rfl, rfl, p, d.toNat + 1, _, by rw [← e1]; rfl, hP2, by unfold LIM; omega, by omega, fun z H3 hzl _ hza k3 hP3 => ?_⟩
    walk_at "nx"
    -- the way, and with calls
    refine ⟨_, rfl, _, rfl, _, rfl, p, z, 16, _, rfl, hP3, by unfold LIM; omega, by omega, by omega, hza, by decide, by decide, fun v0 y0 H4 hy0 hwf hv0 k4 hP4 => ?_⟩
    refine ⟨p, v0, y0, _, z, H4, rfl, hP4, by unfold LIM; omega, .refl _, WayAt.keep newer_le _ _ hv0, hwf, hza, by omega, by omega, fun v y H5 hy ok hv k5 hP5 => ?_⟩
    walk_at "nx"
    have hv5 := WayAt.keep (over_to (.refl _) k5) _ _ hv
    have hysz := y.size_pos
    have hP5 := hP5.mono (show _ ≤ 2000 * i + 1000 by omega)
    have hlw := lw_len y
    have hcl := cod_len ok
    refine ⟨_, rfl, v, y, rfl, hv5, by omega, by omega, fun u H6 s6 hu => ?_⟩
    walk_at "nx"
    -- the text
    refine ⟨⟨_, rfl⟩, _, rfl, v, y, rfl, WayAt.keep (Keep.of s6) _ _ hv5, ok, by omega, by omega, fun q H7 s7 _ hq => ?_⟩
    refine ⟨q, rfl, ⟨_, SqL.of hq⟩, fun D hD => ?_⟩
    refine lc_list (K := K) (a := q) (xs := (lw y).map V.str) (fun j H' => H' D = some (.lst (((lw y).take j).map (fun x => V.str (wd x)))) ∧ Same H7 H') ?_ ?_ ?_ ?_
    · exact ⟨upd_same, Same.new hD _⟩
    · rintro j H' _ ⟨_, s8⟩
      exact SqL.of (s8 _ _ hq)
    · rintro j e H' he ⟨hD', s8⟩
      rw [List.getElem?_map] at he
      cases hxj : (lw y)[j]? with
      | none => rw [hxj] at he; cases he
      | some xj =>
        rw [hxj] at he
        have he : V.str xj = e := Option.some.inj he
        subst he
        have hj : j < (lw y).length := (List.getElem?_eq_some_iff.mp hxj).1
        refine ⟨rfl, ?_⟩
        walk_at "rd"
        have fin : ∀ v9 : V, v9 = .str (wd xj) → ∃ acc, H' D = some (.lst acc) ∧ acc.length < sizeLine ∧ upd H' D (.lst (acc ++ [v9])) D = some (.lst (((lw y).take (j + 1)).map (fun x => V.str (wd x)))) ∧ Same H7 (upd H' D (.lst (acc ++ [v9]))) := fun v9 e9 => by
          refine ⟨_, hD', small' (by rw [List.length_map, List.length_take]; omega), ?_, Same.put hD s8 _⟩
          rw [upd_same, take_more hxj, List.map_append, e9]
          rfl
        show (if (decide (V.str xj = V.str (Str.ofString "_"))) = true then _ else _)
        rw [is_bar]
        by_cases e : xj = uS
        · rw [decide_eq_true e]
          refine iteT (fin _ ?_)
          unfold wd; rw [if_pos e]
        · rw [decide_eq_false e]
          refine iteF ⟨_, rfl, fin _ ?_⟩
          unfold wd; rw [if_neg e]
    rintro H8 ⟨hD8, s8⟩
    rw [List.length_map, List.take_length] at hD8
    have e0 : (Str.ofString "").length = 0 := by decide +kernel
    refine ⟨_, D, (lw y).map wd, rfl, rfl, .inl (SqL.of (by rw [List.map_map]; exact hD8)), by rw [sum_flat, flat_wd, lw_cd y ok, e0]; omega, ?_⟩
    rw [join_wd ok]
    walk_at "nx"
    have s58 := (s6.trans s7).trans s8
    have hu8 := ObjAt.keep (stillS (s7.trans s8)) _ _ hu
    have hv8 := WayAt.keep (Keep.of s58) _ _ hv5
    have hP8 := hP5.same s58
    have hsum : ((pcs y).map (·.length)).sum ≤ 1000000 := by rw [sum_flat, cod_pcs]; omega
    -- both ways as told
    refine ⟨_, rfl, u, y, rfl, hu8, u, y, rfl, hu8, by omega, hsum, fun H9 s9 => ⟨_, rfl, _, rfl, rfl, _, rfl, ?_⟩⟩
    rw [txt_cod, decide_eq_true rfl]
    refine iteF ?_
    have hrd := cod_reads ok (by omega) (by omega)
    have hu9 := ObjAt.keep (stillS s9) _ _ hu8
    refine ⟨rfl, _, rfl, _, cod y, y, rfl, hrd, fun u1 H10 s10 hu1 => ?_⟩
    refine ⟨_, rfl, ⟨y, by omega, hu1, ObjAt.keep (stillS s10) _ _ hu9⟩, fun H11 s11 => ⟨_, rfl, iteF ?_⟩⟩
    walk_at "nx"
    have s811 := (s9.trans s10).trans s11
    have hP11 := hP8.same s811
    have hu11 := ObjAt.keep (stillS s811) _ _ hu8
    have hv11 := WayAt.keep (Keep.of s811) _ _ hv8
    refine ⟨3, rfl, by decide, by decide, ?_⟩
    refine for_range (lo := 0) (n := 3) (fun j σ H' => ∃ x7 x8 x9 : Option V, σ = [some (.ref a), some (.ref p.d), some (.int (0 + (i : Nat))), some (.str (tx z)), some v, some u, some (.str (tx (cod y))), x7, x8, x9] ∧ Keep H11 H' ∧ PenAt K H' p (2000 * i + 1000 + 300 * j)) ?_ ?_ ?_
    · exact ⟨_, _, _, rfl, .refl _, hP11⟩
    · rintro j σ H12 hj ⟨x7', x8', x9', rfl, k12, hP12⟩
      walk_at "nx"
      refine ⟨_, rfl, _, rfl, _, rfl, p, v, y, _, rfl, hP12, by unfold LIM; omega, WayAt.keep k12 _ _ hv11, ok, by omega, fun q2 jj H13 hjj k13 hP13 hq2 => ?_⟩
      have hwl := wr_len jj (lw y)
      refine ⟨p, q2, wr jj (lw y), _, rfl, hP13, by unfold LIM; omega, SqL.of hq2, by omega, wr_tw jj (lw_tw y ok), fun zz H14 hsp hzl k14 hP14 => ?_⟩
      walk_at "nx"
      have hrr := wr_reads ok (by omega) hsp (by omega)
      have k1114 := (k12.trans k13).trans k14
      refine ⟨rfl, _, rfl, _, zz, y, rfl, hrr, fun u2 H15 s15 hu2 => ?_⟩
      refine ⟨_, rfl, ⟨y, by omega, hu2, ObjAt.keep (stillS s15) _ _ (ObjAt.keep k1114.still _ _ hu11)⟩, fun H16 s16 => ⟨_, rfl, iteF ?_⟩⟩
      refine ⟨rfl, _, rfl, _, zz, y, rfl, hrr, fun u3 H17 s17 hu3 => ⟨u3, y, rfl, hu3, u3, y, rfl, hu3, by omega, hsum, fun H18 s18 => ⟨_, rfl, _, rfl, rfl, _, rfl, ?_⟩⟩⟩
      rw [txt_cod, decide_eq_true rfl]
      refine iteF ?_
      walk_at "nx"
      have s1418 := ((s15.trans s16).trans s17).trans s18
      exact ⟨_, _, _, rfl, k1114.trans (.of s1418), (hP14.same s1418).mono (by omega)⟩
    · rintro σ H12 ⟨x7', x8', x9', rfl, k12, hP12⟩
      exact ⟨_, _, _, _, _, _, _, _, rfl, hP12.mono (by omega)⟩
  · rintro σ H1 ⟨x2, x3, x4, x5, x6, x7, x8, x9, rfl, hP1⟩
    walk_at "nx"
    exact k _
end
end Ws
namespace Wv
open PySem PySem.Spec PyProof.Rows L2
/-! ### what the program's top leaves -/
section
variable {P : Program} {w : World} {K : PySem.W.Frag} {mg : Str → Option Value} {h : Heap}
theorem here_mk {x : Str} {st : Stmt} {ps : List Str} (X : K.In h) (G : h.Ns mainGlobals mg) {f : Addr} {oc kV dc pm cd ct : Value} {od an : Option Addr} {sl : Array (Option Value)} (a : PySem.W.nsIn K mainGlobals x = some (some (.ref f)))
    (l : K.lookup f = some ⟨oc, od, .func (PySem.W.fnOf x x (defArgs st) (defBody st) (defScope st) .none kV dc pm an cd ct), sl⟩) (c : PySem.W.codeIn K cd x = true) (k : PySem.W.keepIn K (.ref f) = true)
    (b : ∀ (kV doc pm : Value) (an : Option Addr) (cdv ct : Value) (us : List Value), us.length = ps.length → bindArgs (PySem.W.fnOf x x (defArgs st) (defBody st) (defScope st) .none kV doc pm an cdv ct) ⟨us, []⟩ = pure (ps.zip us)) : Here K mg x st ps :=
  ⟨f, _, fun_mk l c k, PySem.W.mg_of X G a, (fun_mk l c k).binds b⟩
/-- a def within a class -/
structure In1 (K : PySem.W.Frag) (m q : Str) (st : Stmt) (ps : List Str) (f : Addr) : Prop where
  fn : PySem.W.isFn K (.ref f) = true
  ex : ∃ fd : FuncData, Fun K m q st f fd ∧ Binds K fd ps []
theorem in_mk {m q : Str} {st : Stmt} {ps : List Str} {f : Addr} {oc kV dc pm cd ct : Value} {od an : Option Addr} {sl : Array (Option Value)} (i : PySem.W.isFn K (.ref f) = true)
    (l : K.lookup f = some ⟨oc, od, .func (PySem.W.fnOf m q (defArgs st) (defBody st) (defScope st) .none kV dc pm an cd ct), sl⟩) (c : PySem.W.codeIn K cd q = true) (k : PySem.W.keepIn K (.ref f) = true)
    (b : ∀ (kV doc pm : Value) (an : Option Addr) (cdv ct : Value) (us : List Value), us.length = ps.length → bindArgs (PySem.W.fnOf m q (defArgs st) (defBody st) (defScope st) .none kV doc pm an cdv ct) ⟨us, []⟩ = pure (ps.zip us)) : In1 K m q st ps f :=
  ⟨i, _, fun_mk l c k, (fun_mk l c k).binds b⟩
/-- a class of ways -/
structure ClT (K : PySem.W.Frag) (mg : Str → Option Value) (x : Str) (C wy at_ eq_ len_ : Addr) : Prop where
  m : mg x = some (.ref C)
  f : ClsF K C
  mks : PySem.W.makesIn K C = true
  kc : PySem.W.keepIn K (.ref C) = true
  ty : PySem.W.typeIn K (.ref C) = some (.type "type")
  cls : ∃ cd, PySem.W.clsIn K C = some cd ∧ cd.mro = [.ref C, .ref wy, .type "object"]
  mat : PySem.W.findIn K (.ref C) "at" = some (some (.ref at_))
  meq : PySem.W.findIn K (.ref C) "__eq__" = some (some (.ref eq_))
  mln : PySem.W.findIn K (.ref C) "__len__" = some (some (.ref len_))
theorem clt_mk {x : Str} {C wy at_ eq_ len_ : Addr} {cd : ClassData} (X : K.In h) (G : h.Ns mainGlobals mg) (a : PySem.W.nsIn K mainGlobals x = some (some (.ref C))) (pg : PySem.W.plainGet K C Str.empty = true) (hd : PySem.W.hasDictIn K C = true) (po : PySem.W.plainOver K C = true)
    (sa : PySem.W.findIn K (.ref C) "__setattr__" = some (some (.builtin "object.__setattr__"))) (nl : PySem.W.findIn K (.ref C) "letter" = some none) (nn : PySem.W.findIn K (.ref C) "name" = some none) (nw : PySem.W.findIn K (.ref C) "ways" = some none) (np : PySem.W.findIn K (.ref C) "part" = some none) (nc : PySem.W.findIn K (.ref C) "called" = some none) (nr : PySem.W.findIn K (.ref C) "rounds" = some none) (nm : PySem.W.findIn K (.ref C) "mark" = some none)
    (ha : PySem.W.findIn K (.ref C) "__class__" = some (some (.builtin "object.__class__"))) (hm : PySem.W.mroIn K C (.type "object") = some true) (mk : PySem.W.makesIn K C = true) (kc : PySem.W.keepIn K (.ref C) = true) (ty : PySem.W.typeIn K (.ref C) = some (.type "type"))
    (cl : PySem.W.clsIn K C = some cd) (cm : cd.mro = [.ref C, .ref wy, .type "object"]) (mat : PySem.W.findIn K (.ref C) "at" = some (some (.ref at_))) (meq : PySem.W.findIn K (.ref C) "__eq__" = some (some (.ref eq_))) (mln : PySem.W.findIn K (.ref C) "__len__" = some (some (.ref len_))) : ClT K mg x C wy at_ eq_ len_ :=
  ⟨PySem.W.mg_of X G a, ⟨⟨pg, hd, po, sa⟩, nl, nn, nw, np, nc, nr, nm, ha, hm⟩, mk, kc, ty, ⟨cd, cl, cm⟩, mat, meq, mln⟩
theorem ClT.kit {x y : Str} {C D wy a1 a2 a3 b1 b2 b3 : Addr} (c : ClT K mg x C wy a1 a2 a3) (d : ClT K mg y D wy b1 b2 b3) (hw : D ≠ wy) : PySem.W.kitOne K (.ref C) (.ref D) = some (decide (C = D)) := by
  obtain ⟨cd, e1, e2⟩ := c.cls
  obtain ⟨dd, g1, _⟩ := d.cls
  by_cases h : C = D
  · subst h
    rw [decide_eq_true rfl]
    unfold PySem.W.kitOne
    rw [if_pos (beq_self_eq_true _)]
  · rw [decide_eq_false h]
    unfold PySem.W.kitOne
    rw [if_neg (by simpa using h)]
    show (if ((PySem.W.clsIn K D).isSome && PySem.W.typeIn K (.ref D) == some (.type "type")) = true then PySem.W.subIn K (.ref C) (.ref D) else none) = _
    rw [g1, d.ty, if_pos (by simp)]
    show PySem.W.mroIn K C (.ref D) = _
    unfold PySem.W.mroIn
    rw [e1, Option.bind_some, e2]
    have h' : D ≠ C := fun e => h e.symm
    simp [h', hw]
theorem ClT.kitWay {x : Str} {C wy a1 a2 a3 : Addr} (c : ClT K mg x C wy a1 a2 a3) (hc : PySem.W.isClsIn K wy = true) (ht : PySem.W.typeIn K (.ref wy) = some (.type "type")) : PySem.W.kitOne K (.ref C) (.ref wy) = some true := by
  obtain ⟨cd, e1, e2⟩ := c.cls
  by_cases h : C = wy
  · subst h
    unfold PySem.W.kitOne
    rw [if_pos (beq_self_eq_true _)]
  · unfold PySem.W.kitOne
    rw [if_neg (by simpa using h)]
    show (if ((PySem.W.clsIn K wy).isSome && PySem.W.typeIn K (.ref wy) == some (.type "type")) = true then PySem.W.subIn K (.ref C) (.ref wy) else none) = _
    rw [show (PySem.W.clsIn K wy).isSome = true from hc, ht, if_pos (by simp)]
    show PySem.W.mroIn K C (.ref wy) = _
    unfold PySem.W.mroIn
    rw [e1, Option.bind_some, e2]
    simp
/-- the classes -/
structure Tops (K : PySem.W.Frag) (mg : Str → Option Value) (c : Cs) (wy at_ eq_ len_ : Addr) : Prop where
  lt : ClT K mg "Letter" c.lt wy at_ eq_ len_
  on : ClT K mg "One" c.on wy at_ eq_ len_
  no : ClT K mg "Nothing" c.no wy at_ eq_ len_
  ro : ClT K mg "Row" c.ro wy at_ eq_ len_
  ch : ClT K mg "Choice" c.ch wy at_ eq_ len_
  ag : ClT K mg "Again" c.ag wy at_ eq_ len_
  ma : ClT K mg "Maybe" c.ma wy at_ eq_ len_
  ah : ClT K mg "Ahead" c.ah wy at_ eq_ len_
  un : ClT K mg "Unless" c.un wy at_ eq_ len_
  ca : ClT K mg "Call" c.ca wy at_ eq_ len_
  nd : [c.lt, c.on, c.no, c.ro, c.ch, c.ag, c.ma, c.ah, c.un, c.ca, wy].Nodup
def W.name : W → Str
  | .letter _ => "Letter" | .one => "One" | .nothing => "Nothing" | .row _ => "Row" | .choice _ => "Choice" | .again _ => "Again" | .maybe _ => "Maybe" | .ahead _ => "Ahead" | .unless _ => "Unless" | .call _ => "Call"
theorem Tops.of {c : Cs} {wy a1 a2 a3 : Addr} (t : Tops K mg c wy a1 a2 a3) : ∀ x : W, ClT K mg x.name (c.of x) wy a1 a2 a3
  | .letter _ => t.lt | .one => t.on | .nothing => t.no | .row _ => t.ro | .choice _ => t.ch | .again _ => t.ag | .maybe _ => t.ma | .ahead _ => t.ah | .unless _ => t.un | .call _ => t.ca
theorem get_inj {α : Type} {l : List α} (n : l.Nodup) {i j : Nat} {x y : α} (h1 : l[i]? = some x) (h2 : l[j]? = some y) : x = y ↔ i = j := by
  obtain ⟨a, e1⟩ := List.getElem?_eq_some_iff.mp h1
  obtain ⟨b, e2⟩ := List.getElem?_eq_some_iff.mp h2
  subst e1 e2
  first
    | exact List.Nodup.getElem_inj_iff n
    | exact List.getElem_inj n
    | exact List.nodup_getElem_inj n
    | (constructor
       · intro e
         rcases Nat.lt_trichotomy i j with q | q | q
         · exact absurd e (List.pairwise_iff_getElem.mp n i j a b q)
         · exact q
         · exact absurd e.symm (List.pairwise_iff_getElem.mp n j i b a q)
       · intro e; subst e; rfl)
theorem W.tag_get (x : W) : [Str.ofString "letter", Str.ofString "one", Str.ofString "nothing", Str.ofString "row", Str.ofString "choice", Str.ofString "again", Str.ofString "maybe", Str.ofString "ahead", Str.ofString "unless", Str.ofString "call"][x.kind]? = some x.tag := by
  cases x <;> rfl
theorem W.tag_kind (x y : W) : x.tag = y.tag ↔ x.kind = y.kind := get_inj (by decide +kernel) x.tag_get y.tag_get
theorem Cs.of_get (c : Cs) (wy : Addr) (x : W) : [c.lt, c.on, c.no, c.ro, c.ch, c.ag, c.ma, c.ah, c.un, c.ca, wy][x.kind]? = some (c.of x) := by
  cases x <;> rfl
theorem Tops.ne {c : Cs} {wy a1 a2 a3 : Addr} (t : Tops K mg c wy a1 a2 a3) (x : W) : c.of x ≠ wy := fun e => by
  have h := (get_inj t.nd (c.of_get wy x) (show _ = some wy from (rfl : [c.lt, c.on, c.no, c.ro, c.ch, c.ag, c.ma, c.ah, c.un, c.ca, wy][10]? = some wy))).mp e
  cases x <;> cases h
theorem Tops.same {c : Cs} {wy a1 a2 a3 : Addr} (t : Tops K mg c wy a1 a2 a3) (x y : W) : decide (c.of x = c.of y) = decide (x.tag = y.tag) := by
  have h := get_inj t.nd (c.of_get wy x) (c.of_get wy y)
  rw [decide_eq_decide, h, W.tag_kind]
theorem Tops.all {c : Cs} {wy a1 a2 a3 : Addr} (t : Tops K mg c wy a1 a2 a3) (hn : PySem.W.specialIn K (.builtin "object.__class__") "__get__" = some (some (.builtin "getset_descriptor.__get__"))) (ht : PySem.W.takesIn K (.builtin "object.__class__") = some true) : AllF K mg c :=
  ⟨fun x => (t.of x).f, hn, ht, fun x y => by rw [← t.same x y]; exact (t.of x).kit (t.of y) (t.ne y), t.lt.m, t.on.m, t.no.m, t.ro.m, t.ch.m, t.ag.m, t.ma.m, t.ah.m, t.un.m, t.ca.m⟩
theorem bs_mk (X : K.In h) (G : h.Ns mainGlobals mg) (z1 : PySem.W.nsIn K mainGlobals "len" = some none) (z2 : PySem.W.nsIn K mainGlobals "int" = some none) (z3 : PySem.W.nsIn K mainGlobals "list" = some none) (z4 : PySem.W.nsIn K mainGlobals "range" = some none)
    (z5 : PySem.W.nsIn K mainGlobals "min" = some none) (z6 : PySem.W.nsIn K mainGlobals "tuple" = some none) (z7 : PySem.W.nsIn K mainGlobals "isinstance" = some none) (z8 : PySem.W.nsIn K mainGlobals "zip" = some none) (z9 : PySem.W.nsIn K mainGlobals "sum" = some none)
    (z10 : PySem.W.nsIn K mainGlobals "max" = some none) (z11 : PySem.W.nsIn K mainGlobals "reversed" = some none) (z12 : PySem.W.nsIn K mainGlobals "enumerate" = some none) (z13 : PySem.W.nsIn K mainGlobals "repr" = some none) : Bs mg :=
  have n := fun {x : Str} (z : PySem.W.nsIn K mainGlobals x = some none) => PySem.W.mg_none_of X G z
  ⟨n z1, n z2, n z3, n z4, n z5, n z6, n z7, n z8, n z9, n z10, n z11, n z12, n z13⟩
theorem kc_mk (X : K.In h) (G : h.Ns mainGlobals mg) {t0 t1 t2 t3 t4 t5 t6 t7 t8 t9 : Tok} (z0 : PySem.W.nsIn K mainGlobals "LETTER" = some (some (.int 0 t0))) (z1 : PySem.W.nsIn K mainGlobals "ONE" = some (some (.int 1 t1))) (z2 : PySem.W.nsIn K mainGlobals "NOTHING" = some (some (.int 2 t2)))
    (z3 : PySem.W.nsIn K mainGlobals "ROW" = some (some (.int 3 t3))) (z4 : PySem.W.nsIn K mainGlobals "CHOICE" = some (some (.int 4 t4))) (z5 : PySem.W.nsIn K mainGlobals "AGAIN" = some (some (.int 5 t5))) (z6 : PySem.W.nsIn K mainGlobals "MAYBE" = some (some (.int 6 t6)))
    (z7 : PySem.W.nsIn K mainGlobals "AHEAD" = some (some (.int 7 t7))) (z8 : PySem.W.nsIn K mainGlobals "UNLESS" = some (some (.int 8 t8))) (z9 : PySem.W.nsIn K mainGlobals "CALL" = some (some (.int 9 t9))) : Kc mg :=
  have n := fun {x : Str} {v : Value} (z : PySem.W.nsIn K mainGlobals x = some (some v)) => PySem.W.mg_of X G z
  ⟨⟨_, n z0⟩, ⟨_, n z1⟩, ⟨_, n z2⟩, ⟨_, n z3⟩, ⟨_, n z4⟩, ⟨_, n z5⟩, ⟨_, n z6⟩, ⟨_, n z7⟩, ⟨_, n z8⟩, ⟨_, n z9⟩⟩
theorem mk0_mk {C : Addr} {x : Str} (X : K.In h) (G : h.Ns mainGlobals mg) (a : PySem.W.nsIn K mainGlobals x = some (some (.ref C))) (mk : PySem.W.makesIn K C = true) (f : PySem.W.findIn K (.ref C) "__init__" = some (some (.builtin "object.__init__"))) (kc : PySem.W.keepIn K (.ref C) = true) : Mk0 K mg x C :=
  ⟨PySem.W.mg_of X G a, mk, f, kc⟩
theorem cls_ok {k : Nat} {x q : Str} {st : Stmt} {C wy a1 a2 a3 f : Addr} {ps : List Str} {sp : Sp} {base : Heap} (t : ClT K mg x C wy a1 a2 a3) (i : PySem.W.findIn K (.ref C) "__init__" = some (some (.ref f))) (j : In1 K "__init__" q st ps f)
    (o : ∀ fd : FuncData, Fun K "__init__" q st f fd → FnOk P w K mg base CX0 k f fd ps sp) : ClsOk P w K mg base k x C ps sp := by
  obtain ⟨fd, F, b⟩ := j.ex
  exact ⟨f, fd, t.m, ⟨t.mks, i, j.fn, t.kc⟩, b, o fd F⟩
end
end Wv
namespace Ws
open PySem PySem.Spec PyProof.Rows L2 Wv
/-! ### what the program's top leaves: the scanner's class, Way.read, str -/
abbrev s_Scan_refuse : Stmt := inClass (top 17) 3
theorem sc_Scan_refuse : FnScope ["self"] ["self"] (defScope s_Scan_refuse) := ⟨rfl, rfl, rfl, by decide +kernel, rfl, by decide +kernel, by decide +kernel⟩
section
variable {P : Program} {w : World} {K : PySem.W.Frag} {mg : Str → Option Value} {h : Heap} {base : Heap}
theorem kcs_mk (X : K.In h) (G : h.Ns mainGlobals mg) {t0 t1 t2 t3 t4 t5 t6 t7 t8 t9 tN : Tok} (z0 : PySem.W.nsIn K mainGlobals "LETTER" = some (some (.int 0 t0))) (z1 : PySem.W.nsIn K mainGlobals "ONE" = some (some (.int 1 t1))) (z2 : PySem.W.nsIn K mainGlobals "NOTHING" = some (some (.int 2 t2)))
    (z3 : PySem.W.nsIn K mainGlobals "ROW" = some (some (.int 3 t3))) (z4 : PySem.W.nsIn K mainGlobals "CHOICE" = some (some (.int 4 t4))) (z5 : PySem.W.nsIn K mainGlobals "AGAIN" = some (some (.int 5 t5))) (z6 : PySem.W.nsIn K mainGlobals "MAYBE" = some (some (.int 6 t6)))
    (z7 : PySem.W.nsIn K mainGlobals "AHEAD" = some (some (.int 7 t7))) (z8 : PySem.W.nsIn K mainGlobals "UNLESS" = some (some (.int 8 t8))) (z9 : PySem.W.nsIn K mainGlobals "CALL" = some (some (.int 9 t9))) (zN : PySem.W.nsIn K mainGlobals "LONGEST_NAME" = some (some (.int 12 tN))) : Kc mg :=
  have n := fun {x : Str} {v : Value} (z : PySem.W.nsIn K mainGlobals x = some (some v)) => PySem.W.mg_of X G z
  ⟨⟨_, n z0⟩, ⟨_, n z1⟩, ⟨_, n z2⟩, ⟨_, n z3⟩, ⟨_, n z4⟩, ⟨_, n z5⟩, ⟨_, n z6⟩, ⟨_, n z7⟩, ⟨_, n z8⟩, ⟨_, n z9⟩, ⟨_, n zN⟩⟩
theorem Kc.wv (k : Kc mg) : Wv.Kc mg := ⟨k.k0, k.k1, k.k2, k.k3, k.k4, k.k5, k.k6, k.k7, k.k8, k.k9⟩
theorem kitStr {x : Str} {C wy a1 a2 a3 : Addr} (c : ClT K mg x C wy a1 a2 a3) : PySem.W.kitOne K (.ref C) (.type "str") = some false := by
  obtain ⟨cd, e1, e2⟩ := c.cls
  have hne : Str.ofString "object" ≠ Str.ofString "str" := by decide +kernel
  unfold PySem.W.kitOne
  rw [if_neg (by simp)]
  show (if PySem.W.kitMeta "str" = true then PySem.W.subIn K (.ref C) (.type "str") else none) = _
  rw [if_pos (by decide +kernel)]
  show PySem.W.mroIn K C (.type "str") = _
  unfold PySem.W.mroIn
  rw [e1, Option.bind_some, e2]
  simp [hne, hne.symm]
/-- the class Scan -/
structure ScT (K : PySem.W.Frag) (mg : Str → Option Value) (C : Addr) : Prop where
  m : mg "Scan" = some (.ref C)
  f : ScF K C
  mks : PySem.W.makesIn K C = true
  kc : PySem.W.keepIn K (.ref C) = true
theorem sct_mk {C : Addr} (X : K.In h) (G : h.Ns mainGlobals mg) (a : PySem.W.nsIn K mainGlobals "Scan" = some (some (.ref C))) (pg : PySem.W.plainGet K C Str.empty = true) (hd : PySem.W.hasDictIn K C = true) (po : PySem.W.plainOver K C = true)
    (sa : PySem.W.findIn K (.ref C) "__setattr__" = some (some (.builtin "object.__setattr__"))) (n1 : PySem.W.findIn K (.ref C) "text" = some none) (n2 : PySem.W.findIn K (.ref C) "line" = some none) (n3 : PySem.W.findIn K (.ref C) "place" = some none)
    (n4 : PySem.W.findIn K (.ref C) "steps" = some none) (n5 : PySem.W.findIn K (.ref C) "rows" = some none) (n6 : PySem.W.findIn K (.ref C) "many" = some none) (n7 : PySem.W.findIn K (.ref C) "looks" = some none)
    (mk : PySem.W.makesIn K C = true) (kc : PySem.W.keepIn K (.ref C) = true) : ScT K mg C :=
  ⟨PySem.W.mg_of X G a, ⟨⟨pg, hd, po, sa⟩, n1, n2, n3, n4, n5, n6, n7⟩, mk, kc⟩
/-- a method of it -/
structure ScM (K : PySem.W.Frag) (C : Addr) (m q : Str) (st : Stmt) (ps : List Str) : Prop where
  ex : ∃ f : Addr, PySem.W.findIn K (.ref C) m = some (some (.ref f)) ∧ In1 K m q st ps f
theorem ScM.ok {C : Addr} {m q : Str} {st : Stmt} {ps : List Str} {n : Nat} {sp : Sp} (j : ScM K C m q st ps) (T : ScT K mg C) (o : ∀ (f : Addr) (fd : FuncData), Fun K m q st f fd → FnOk P w K mg base CX0 n f fd ps sp) : ScOk P w K mg base C n m ps sp := by
  obtain ⟨f, a, i⟩ := j.ex
  obtain ⟨fd, F, b⟩ := i.ex
  exact ⟨T.f.cl, f, fd, o f fd F, ⟨a, i.fn, F.kp⟩, b⟩
theorem ScM.make {C : Addr} {q : Str} {st : Stmt} {ps : List Str} {n : Nat} {sp : Sp} (j : ScM K C "__init__" q st ps) (T : ScT K mg C) (o : ∀ (f : Addr) (fd : FuncData), Fun K "__init__" q st f fd → FnOk P w K mg base CX0 n f fd ps sp) : ClsOk P w K mg base n "Scan" C ps sp := by
  obtain ⟨f, a, i⟩ := j.ex
  obtain ⟨fd, F, b⟩ := i.ex
  exact ⟨f, fd, T.m, ⟨T.mks, a, i.fn, T.kc⟩, b, o f fd F⟩
theorem scm_mk {C : Addr} {m q : Str} {st : Stmt} {ps : List Str} {f : Addr} (a : PySem.W.findIn K (.ref C) m = some (some (.ref f))) (i : In1 K m q st ps f) : ScM K C m q st ps := ⟨f, a, i⟩
/-- all that the scanner is made of -/
structure Scs (K : PySem.W.Frag) (C : Addr) : Prop where
  ini : ScM K C "__init__" "Scan.__init__" s_Scan_init ["self", "text", "line"]
  m1 : ScM K C "sign_here" "Scan.sign_here" s_Scan_sign_here ["self"]
  m2 : ScM K C "sign" "Scan.sign" s_Scan_sign ["self"]
  m3 : ScM K C "refuse" "Scan.refuse" s_Scan_refuse ["self"]
  m4 : ScM K C "expect" "Scan.expect" s_Scan_expect ["self", "sign"]
  m5 : ScM K C "read_name" "Scan.read_name" s_Scan_read_name ["self"]
  m6 : ScM K C "read_way" "Scan.read_way" s_Scan_read_way ["self"]
  m7 : ScM K C "begin_way" "Scan.begin_way" s_Scan_begin_way ["self"]
  m8 : ScM K C "read_single" "Scan.read_single" s_Scan_read_single ["self", "sign"]
  m9 : ScM K C "end_way" "Scan.end_way" s_Scan_end_way ["self"]
  m10 : ScM K C "end_row" "Scan.end_row" s_Scan_end_row ["self"]
  m11 : ScM K C "end_choice" "Scan.end_choice" s_Scan_end_choice ["self"]
  m12 : ScM K C "enter_bracket" "Scan.enter_bracket" s_Scan_enter_bracket ["self"]
  m13 : ScM K C "leave_bracket" "Scan.leave_bracket" s_Scan_leave_bracket ["self"]
theorem scan_all {C : Addr} (T : ScT K mg C) (S : Scs K C) (B : Bs mg) (CN : Kc mg) (hi : Here K mg "is_letter" s_is_letter ["sign"]) :
    ClsOk P w K mg base 1 "Scan" C ["self", "text", "line"] (spNew C) ∧ ScOk P w K mg base C 6 "read_way" ["self"] (spWay C) := by
  have D0 := d_is_letter (P := P) (w := w) (base := base) hi
  have M1 := S.m1.ok (P := P) (w := w) (base := base) T fun _ _ F => ok_sign_here F T.f
  have M2 := S.m2.ok T fun _ _ F => ok_sign F T.f M1
  have M3 : ScOk P w K mg base C 1 "refuse" ["self"] spNo := S.m3.ok T fun _ _ _ => ok_no
  have M4 := S.m4.ok T fun _ _ F => ok_expect F T.f M2 M3
  have M5 := S.m5.ok T fun _ _ F => ok_read_name F T.f CN D0 M1 M2 M3
  have M8 := S.m8.ok T fun _ _ F => ok_read_single F T.f CN D0 M5 M4 M3
  have M12 := S.m12.ok (P := P) (w := w) (base := base) T fun _ _ F => ok_enter F T.f
  have M13 := S.m13.ok (P := P) (w := w) (base := base) T fun _ _ F => ok_leave F T.f
  have M7 := S.m7.ok T fun _ _ F => ok_begin_way F T.f CN M2 M12 M8
  have M9 := S.m9.ok T fun _ _ F => ok_end_way F T.f CN M2
  have M10 := S.m10.ok (P := P) (w := w) (base := base) T fun _ _ F => ok_end_row F T.f CN
  have M11 := S.m11.ok T fun _ _ F => ok_end_choice F T.f CN M10
  exact ⟨S.ini.make T fun _ _ F => ok_new F T.f, S.m6.ok T fun _ _ F => ok_read_way F T.f B M2 M7 M9 M10 M11 M13⟩
/-- Way.read off the class -/
structure RdT (K : PySem.W.Frag) (wy g : Addr) : Prop where
  ex : ∃ (mc : Value) (p : Addr), ClX.CRead K wy mc ∧ ClX.CMet K wy mc "read" p g
theorem rdt_mk {wy p g : Addr} {rest : List Value} (a : PySem.W.readsIn K wy (.type "type") = true) (b : PySem.W.specialIn K (.ref wy) "__getattribute__" = some (some (.builtin "type.__getattribute__")))
    (d : PySem.W.findCls K (.ref wy) (.type "type") "read" = some (.get (.builtin "classmethod.__get__") (.ref p) .none (.ref wy))) (e : PySem.W.recIn K p "classmethod" = some (.ref g :: rest)) (f : PySem.W.fnIn K g = true) : RdT K wy g :=
  ⟨_, p, ⟨a, b⟩, ⟨d, ⟨rest, e⟩, f⟩⟩
end
end Ws
namespace Ws
open PySem PySem.Spec PyProof.Rows L2 Wv
section
variable {P : Program} {w : World} {K : PySem.W.Frag} {mg : Str → Option Value} {h : Heap}
theorem fin {fa wy aat aeq aln ast ard sc i1 i2 i3 i4 i5 i6 i7 i8 i9 i10 mkC : Addr} {lt on no ro ch ag ma ah un ca : Addr} (X : K.In h) (G : h.Ns mainGlobals mg) (hfa : mg "law" = some (.ref fa))
    (tLt : ClT K mg "Letter" lt wy aat aeq aln) (tOn : ClT K mg "One" on wy aat aeq aln) (tNo : ClT K mg "Nothing" no wy aat aeq aln) (tRo : ClT K mg "Row" ro wy aat aeq aln) (tCh : ClT K mg "Choice" ch wy aat aeq aln)
    (tAg : ClT K mg "Again" ag wy aat aeq aln) (tMa : ClT K mg "Maybe" ma wy aat aeq aln) (tAh : ClT K mg "Ahead" ah wy aat aeq aln) (tUn : ClT K mg "Unless" un wy aat aeq aln) (tCa : ClT K mg "Call" ca wy aat aeq aln)
    (nd : [lt, on, no, ro, ch, ag, ma, ah, un, ca, wy].Nodup) (hn : PySem.W.specialIn K (.builtin "object.__class__") "__get__" = some (some (.builtin "getset_descriptor.__get__"))) (ht : PySem.W.takesIn K (.builtin "object.__class__") = some true)
    (wM : PySem.W.nsIn K mainGlobals "Way" = some (some (.ref wy))) (wc : PySem.W.isClsIn K wy = true) (wt : PySem.W.typeIn K (.ref wy) = some (.type "type"))
    (ieq : In1 K "__eq__" "Way.__eq__" s_Way_eq ["self", "other"] aeq) (ist : In1 K "__str__" "Way.__str__" s_Way_str ["self"] ast) (ird : In1 K "read" "Way.read" s_Way_read ["cls", "text"] ard)
    (s1 : PySem.W.findIn K (.ref lt) "__str__" = some (some (.ref ast))) (s2 : PySem.W.findIn K (.ref on) "__str__" = some (some (.ref ast))) (s3 : PySem.W.findIn K (.ref no) "__str__" = some (some (.ref ast))) (s4 : PySem.W.findIn K (.ref ro) "__str__" = some (some (.ref ast)))
    (s5 : PySem.W.findIn K (.ref ch) "__str__" = some (some (.ref ast))) (s6 : PySem.W.findIn K (.ref ag) "__str__" = some (some (.ref ast))) (s7 : PySem.W.findIn K (.ref ma) "__str__" = some (some (.ref ast))) (s8 : PySem.W.findIn K (.ref ah) "__str__" = some (some (.ref ast)))
    (s9 : PySem.W.findIn K (.ref un) "__str__" = some (some (.ref ast))) (s10 : PySem.W.findIn K (.ref ca) "__str__" = some (some (.ref ast)))
    (f1 : PySem.W.findIn K (.ref lt) "__init__" = some (some (.ref i1))) (j1 : In1 K "__init__" "Letter.__init__" s_Letter_init ["self", "letter"] i1)
    (f2 : PySem.W.findIn K (.ref ca) "__init__" = some (some (.ref i2))) (j2 : In1 K "__init__" "Call.__init__" s_Call_init ["self", "name"] i2)
    (f3 : PySem.W.findIn K (.ref ro) "__init__" = some (some (.ref i3))) (j3 : In1 K "__init__" "Row.__init__" s_Row_init ["self", "ways"] i3)
    (f4 : PySem.W.findIn K (.ref ch) "__init__" = some (some (.ref i4))) (j4 : In1 K "__init__" "Choice.__init__" s_Choice_init ["self", "ways"] i4)
    (f5 : PySem.W.findIn K (.ref ag) "__init__" = some (some (.ref i5))) (j5 : In1 K "__init__" "Again.__init__" s_Again_init ["self", "part"] i5)
    (f6 : PySem.W.findIn K (.ref ma) "__init__" = some (some (.ref i6))) (j6 : In1 K "__init__" "Maybe.__init__" s_Maybe_init ["self", "part"] i6)
    (f7 : PySem.W.findIn K (.ref ah) "__init__" = some (some (.ref i7))) (j7 : In1 K "__init__" "Ahead.__init__" s_Ahead_init ["self", "part"] i7)
    (f8 : PySem.W.findIn K (.ref un) "__init__" = some (some (.ref i8))) (j8 : In1 K "__init__" "Unless.__init__" s_Unless_init ["self", "part"] i8)
    (f9 : PySem.W.findIn K (.ref on) "__init__" = some (some (.ref i9))) (j9 : In1 K "__init__" "One.__init__" s_One_init ["self"] i9)
    (f10 : PySem.W.findIn K (.ref no) "__init__" = some (some (.ref i10))) (j10 : In1 K "__init__" "Nothing.__init__" s_Nothing_init ["self"] i10)
    (fM : Mk0 K mg "Mark" mkC) (k1 : Here K mg "first_call" s_first_call ["ways"]) (k2 : Here K mg "most_rounds" s_most_rounds ["ways"])
    (T : ScT K mg sc) (m0 : ScM K sc "__init__" "Scan.__init__" s_Scan_init ["self", "text", "line"]) (m1 : ScM K sc "sign_here" "Scan.sign_here" s_Scan_sign_here ["self"]) (m2 : ScM K sc "sign" "Scan.sign" s_Scan_sign ["self"])
    (m3 : ScM K sc "refuse" "Scan.refuse" s_Scan_refuse ["self"]) (m4 : ScM K sc "expect" "Scan.expect" s_Scan_expect ["self", "sign"]) (m5 : ScM K sc "read_name" "Scan.read_name" s_Scan_read_name ["self"])
    (m6 : ScM K sc "read_way" "Scan.read_way" s_Scan_read_way ["self"]) (m7 : ScM K sc "begin_way" "Scan.begin_way" s_Scan_begin_way ["self"]) (m8 : ScM K sc "read_single" "Scan.read_single" s_Scan_read_single ["self", "sign"])
    (m9 : ScM K sc "end_way" "Scan.end_way" s_Scan_end_way ["self"]) (m10 : ScM K sc "end_row" "Scan.end_row" s_Scan_end_row ["self"]) (m11 : ScM K sc "end_choice" "Scan.end_choice" s_Scan_end_choice ["self"])
    (m12 : ScM K sc "enter_bracket" "Scan.enter_bracket" s_Scan_enter_bracket ["self"]) (m13 : ScM K sc "leave_bracket" "Scan.leave_bracket" s_Scan_leave_bracket ["self"])
    (R : RdT K wy ard) (B : Bs mg) (bS : PySem.W.nsIn K mainGlobals "str" = some none) (C : Kc mg) (h1 : Here K mg "kind_of" s_kind_of ["way"]) (h2 : Here K mg "word_of" s_word_of ["way"]) (h3 : Here K mg "made_of" s_made_of ["way"]) (h5 : Here K mg "same_ways" s_same_ways ["one", "other"])
    (h6 : Here K mg "is_letter" s_is_letter ["sign"]) (h7 : Here K mg "built" s_built ["kind", "word", "inner"]) (h8 : Here K mg "way_of_steps" s_way_of_steps ["steps"]) (h9 : Here K mg "bracketed" s_bracketed ["part", "around"]) (h10 : Here K mg "joined" s_joined ["way", "between"])
    (h11 : Here K mg "spelled" s_spelled ["way"]) (h12 : Here K mg "pieces_of" s_pieces_of ["way"])
    (g1 : Here K mg "_law_pen" s_l_pen ["_law_script"]) (g2 : Here K mg "_law_draw" s_l_draw ["_law_pen_here", "_law_many"]) (g3 : Here K mg "_law_pick" s_l_pick ["_law_pen_here", "_law_items"]) (g4 : Here K mg "_law_signs" s_l_signs ["_law_pen_here", "_law_many"]) (g5 : Here K mg "_law_leaf" s_l_leaf ["_law_pen_here", "_law_signs_here"])
    (g6 : Here K mg "_law_way" s_l_way ["_law_pen_here", "_law_signs_here", "_law_most"]) (g7 : Here K mg "_law_way_of" s_l_way_of ["_law_pen_here", "_law_signs_here", "_law_size"]) (g8 : Here K mg "_law_inner" s_l_inner ["_law_way_here"]) (g9 : Here K mg "_law_made" s_l_made ["_law_way_here"]) (g10 : Here K mg "_law_with_calls" s_l_with_calls ["_law_pen_here", "_law_way_here"])
    (g12 : Here K mg "_law_bracketed" s_l_bracketed ["_law_way_here", "_law_around"]) (g13 : Here K mg "_law_words" s_l_words ["_law_way_here"]) (g14 : Here K mg "_law_loose" s_l_loose ["_law_pen_here", "_law_words_here"]) (g15 : Here K mg "_law_wrapped" s_l_wrapped ["_law_pen_here", "_law_way_here"]) (g11 : Here K mg "law" s_law ["_law_script"]) :
    ∃ fd : FuncData, (∀ (s : Shared) (v : Value), BindsTo s fd ⟨[v], []⟩ [("_law_script", v)]) ∧ ∀ base : Heap, K.In base → base.Ns mainGlobals mg → FnOk P w K mg base CX0 41 fa fd ["_law_script"] (spLaw K) := by
  obtain ⟨f, fd, F, m, b⟩ := g11.ex
  have e := hfa.symm.trans m
  cases e
  have bt : ∀ (s : Shared) (v : Value), BindsTo s fd ⟨[v], []⟩ [("_law_script", v)] := by
    obtain ⟨oc, od, kV, doc, pm, an, cdv, ct, osl, rfl, _, _⟩ := F.ex
    exact fun s v => .of_eq rfl
  refine ⟨fd, bt, fun base _ _ => ?_⟩
  have t : Tops K mg ⟨lt, on, no, ro, ch, ag, ma, ah, un, ca⟩ wy aat aeq aln := ⟨tLt, tOn, tNo, tRo, tCh, tAg, tMa, tAh, tUn, tCa, nd⟩
  have A := t.all hn ht
  have U1 := d_first_call (P := P) (w := w) (base := base) k1 A.f
  have U2 := d_most_rounds (P := P) (w := w) (base := base) k2 B A.f
  have g : Gs P w K mg base ⟨lt, on, no, ro, ch, ag, ma, ah, un, ca⟩ :=
    ⟨cls_ok tLt f1 j1 fun _ F => ok_Letter F tLt.f, cls_ok tCa f2 j2 fun _ F => ok_Call F tCa.f, cls_ok tRo f3 j3 fun _ F => ok_Row F tRo.f B U1 U2, cls_ok tCh f4 j4 fun _ F => ok_Choice F tCh.f B U1 U2, cls_ok tAg f5 j5 fun _ F => ok_Again F tAg.f A.f fM,
      cls_ok tMa f6 j6 fun _ F => ok_Maybe F tMa.f A.f, cls_ok tAh f7 j7 fun _ F => ok_Ahead F tAh.f A.f, cls_ok tUn f8 j8 fun _ F => ok_Unless F tUn.f A.f, cls_ok tOn f9 j9 fun _ F => ok_One F tOn.f, cls_ok tNo f10 j10 fun _ F => ok_Nothing F tNo.f⟩
  have bS' := PySem.W.mg_none_of X G bS
  have P1 := d_l_pen (P := P) (w := w) (base := base) g1 B
  have P2 := d_l_draw (P := P) (w := w) (base := base) g2 B
  have P3 := d_l_pick g3 B P2
  have P4 := d_l_signs g4 B P2
  have P5 := d_l_leaf g5 B P2 P3
  have P7 := d_l_way_of g7 B P2 P3 P5 30
  have P6 := d_l_way g6 P2 P7
  have P8 := d_l_inner (P := P) (w := w) (base := base) g8
  have P9 := d_l_made _ g9 g P8 30
  have P10 := d_l_with_calls g10 B P2 P3 30
  have P12 := d_l_bracketed (P := P) (w := w) (base := base) g12
  have P13 := d_l_words g13 P8 P12 30
  have P14 := d_l_loose g14 B P3
  have P15 := d_l_wrapped g15 B P2 P13
  have Q1 := d_kind_of (P := P) (w := w) (base := base) h1 A B C.wv
  have Q2 := d_word_of (P := P) (w := w) (base := base) h2 A B
  have Q3 := d_made_of (P := P) (w := w) (base := base) h3 A B
  have Q5 := d_same_ways h5 B Q3 Q1 Q2
  have Q7 := d_built h7 g C
  have Q8 := d_way_of_steps h8 B Q7
  have Q9 := d_bracketed h9 C Q1
  have Q10 := d_joined h10 A Q1 Q9
  have Q11 := d_spelled h11 A C Q1 Q9 Q10
  have Q12 := d_pieces_of h12 A (fun x => kitStr (t.of x)) bS' B Q11
  obtain ⟨N1, N2⟩ := scan_all (P := P) (w := w) (base := base) T ⟨m0, m1, m2, m3, m4, m5, m6, m7, m8, m9, m10, m11, m12, m13⟩ B C h6
  have R1 : StrOk P w K mg base ⟨lt, on, no, ro, ch, ag, ma, ah, un, ca⟩ 6 (spStr ⟨lt, on, no, ro, ch, ag, ma, ah, un, ca⟩) := by
    obtain ⟨fd, F, b⟩ := ist.ex
    refine ⟨ast, fd, _, ok_Way_str F Q12, fun u => ?_, ist.fn, b⟩
    cases u <;> assumption
  have R2 : EqOk P w K mg base ⟨lt, on, no, ro, ch, ag, ma, ah, un, ca⟩ 3 := by
    obtain ⟨fd, F, b⟩ := ieq.ex
    exact ⟨aeq, fd, _, ok_Way_eq F A (PySem.W.mg_of X G wM) (fun x => (t.of x).kitWay wc wt) B Q5, fun u => (t.of u).meq, ieq.fn, b⟩
  have R3 : ReadOk P w K mg base wy 7 (spRead ⟨lt, on, no, ro, ch, ag, ma, ah, un, ca⟩) := by
    obtain ⟨fd, F, b⟩ := ird.ex
    obtain ⟨mc, p, r1, r2⟩ := R.ex
    exact ⟨mc, p, ard, r1, r2, ((ok_read F N1 N2 Q8).raw b .nil).imp fun vs H Q E hs => by rw [List.append_nil]; exact hs⟩
  exact ok_law F B bS' (PySem.W.mg_of X G wM) P1 P2 P4 P6 P10 P9 P13 P15 P14 R1 R3 R2
end
theorem walk {l : PySem.W.OpenLaw} {q : Program} {loose : List Str} {XP : (Str → Option Value) → Heap → Prop} {YP : World → Heap → Prop} {d : DefRec} {K : Params → PySem.W.Frag} (hn : l.most = some 63) (hdf : d.params.defaults = [])
    (hY : ∀ (w : World) (h : Heap), YP w h → (K w.params).In h)
    (F : ∀ (w : World) (mg : Str → Option Value) (fa : Addr) (h : Heap), (K w.params).In h → h.Ns mainGlobals mg → mg d.name = some (.ref fa) →
      ∃ fd : FuncData, (∀ (s : Shared) (u : Value), BindsTo s fd ⟨[u], []⟩ [("_law_script", u)]) ∧ ∀ base : Heap, (K w.params).In base → base.Ns mainGlobals mg → L2.FnOk l.prog w (K w.params) mg base L2.CX0 41 fa fd ["_law_script"] (spLaw (K w.params))) :
    PySem.W.WalkO q loose XP YP l.row.toRowW d [] (fun f vs => PySem.call f vs) :=
  L2.walk_of (n := 63) (k := 41) (x := "_law_script") (CX := fun _ => L2.CX0) (sp := fun w => spLaw (K w.params)) hn (by decide) hdf ⟨rfl, by decide, by decide⟩ hY F (fun _ _ a ns hl _ hS => ⟨a, ns, rfl, hS, hl, fun _ => rfl⟩) fun _ _ _ _ _ z => z
end Ws
open PySem PySem.W PyProof.Rows
set_option maxHeartbeats 0 in
theorem PySem.Challenge.cw_waystaken_k04_texts_of_ways_holds : PySem.Challenge.rw_waystaken_k04_texts_of_ways.Holds := by
  w_on; o_law; k_head; (case hw => w_witness2)
  k_fill
  refine Ws.walk (l := PySem.Challenge.rw_waystaken_k04_texts_of_ways) rfl rfl (fun _ _ Y => PySem.W.kIn_of Y) ?F
  case F =>
    intro w mg fa h KX G hmg
    refine' Ws.fin KX G hmg ?tLt ?tOn ?tNo ?tRo ?tCh ?tAg ?tMa ?tAh ?tUn ?tCa ?nd ?hn ?ht ?wM ?wc ?wt ?ieq ?ist ?ird ?s1 ?s2 ?s3 ?s4 ?s5 ?s6 ?s7 ?s8 ?s9 ?s10 ?f1 ?j1 ?f2 ?j2 ?f3 ?j3 ?f4 ?j4 ?f5 ?j5 ?f6 ?j6 ?f7 ?j7 ?f8 ?j8 ?f9 ?j9 ?f10 ?j10 ?fM ?k1 ?k2 ?T ?m0 ?m1 ?m2 ?m3 ?m4 ?m5 ?m6 ?m7 ?m8 ?m9 ?m10 ?m11 ?m12 ?m13 ?R ?B ?bS ?C ?h1 ?h2 ?h3 ?h5 ?h6 ?h7 ?h8 ?h9 ?h10 ?h11 ?h12 ?g1 ?g2 ?g3 ?g4 ?g5 ?g6 ?g7 ?g8 ?g9 ?g10 ?g12 ?g13 ?g14 ?g15 ?g11
    (case wM => k_is)
    (case tLt => (refine' Wv.clt_mk KX G ?a ?pg ?hd ?po ?sa ?nl ?nn ?nw ?np ?nc ?nr ?nm ?ha ?hm ?mk ?kc ?ty ?cl ?cm ?mat ?meq ?mln; (case a => k_is); (case pg => k_is); (case hd => k_is); (case po => k_is); (case sa => k_is); (case nl => k_is); (case nn => k_is); (case nw => k_is); (case np => k_is); (case nc => k_is); (case nr => k_is); (case nm => k_is); (case ha => k_is); (case hm => k_is); (case mk => k_is); (case kc => k_is); (case ty => k_is); (case cl => k_is); (case cm => exact rfl); (case mat => k_is); (case meq => k_is); (case mln => k_is)))
    (case tOn => (refine' Wv.clt_mk KX G ?a ?pg ?hd ?po ?sa ?nl ?nn ?nw ?np ?nc ?nr ?nm ?ha ?hm ?mk ?kc ?ty ?cl ?cm ?mat ?meq ?mln; (case a => k_is); (case pg => k_is); (case hd => k_is); (case po => k_is); (case sa => k_is); (case nl => k_is); (case nn => k_is); (case nw => k_is); (case np => k_is); (case nc => k_is); (case nr => k_is); (case nm => k_is); (case ha => k_is); (case hm => k_is); (case mk => k_is); (case kc => k_is); (case ty => k_is); (case cl => k_is); (case cm => exact rfl); (case mat => k_is); (case meq => k_is); (case mln => k_is)))
    (case tNo => (refine' Wv.clt_mk KX G ?a ?pg ?hd ?po ?sa ?nl ?nn ?nw ?np ?nc ?nr ?nm ?ha ?hm ?mk ?kc ?ty ?cl ?cm ?mat ?meq ?mln; (case a => k_is); (case pg => k_is); (case hd => k_is); (case po => k_is); (case sa => k_is); (case nl => k_is); (case nn => k_is); (case nw => k_is); (case np => k_is); (case nc => k_is); (case nr => k_is); (case nm => k_is); (case ha => k_is); (case hm => k_is); (case mk => k_is); (case kc => k_is); (case ty => k_is); (case cl => k_is); (case cm => exact rfl); (case mat => k_is); (case meq => k_is); (case mln => k_is)))
    (case tRo => (refine' Wv.clt_mk KX G ?a ?pg ?hd ?po ?sa ?nl ?nn ?nw ?np ?nc ?nr ?nm ?ha ?hm ?mk ?kc ?ty ?cl ?cm ?mat ?meq ?mln; (case a => k_is); (case pg => k_is); (case hd => k_is); (case po => k_is); (case sa => k_is); (case nl => k_is); (case nn => k_is); (case nw => k_is); (case np => k_is); (case nc => k_is); (case nr => k_is); (case nm => k_is); (case ha => k_is); (case hm => k_is); (case mk => k_is); (case kc => k_is); (case ty => k_is); (case cl => k_is); (case cm => exact rfl); (case mat => k_is); (case meq => k_is); (case mln => k_is)))
    (case tCh => (refine' Wv.clt_mk KX G ?a ?pg ?hd ?po ?sa ?nl ?nn ?nw ?np ?nc ?nr ?nm ?ha ?hm ?mk ?kc ?ty ?cl ?cm ?mat ?meq ?mln; (case a => k_is); (case pg => k_is); (case hd => k_is); (case po => k_is); (case sa => k_is); (case nl => k_is); (case nn => k_is); (case nw => k_is); (case np => k_is); (case nc => k_is); (case nr => k_is); (case nm => k_is); (case ha => k_is); (case hm => k_is); (case mk => k_is); (case kc => k_is); (case ty => k_is); (case cl => k_is); (case cm => exact rfl); (case mat => k_is); (case meq => k_is); (case mln => k_is)))
    (case tAg => (refine' Wv.clt_mk KX G ?a ?pg ?hd ?po ?sa ?nl ?nn ?nw ?np ?nc ?nr ?nm ?ha ?hm ?mk ?kc ?ty ?cl ?cm ?mat ?meq ?mln; (case a => k_is); (case pg => k_is); (case hd => k_is); (case po => k_is); (case sa => k_is); (case nl => k_is); (case nn => k_is); (case nw => k_is); (case np => k_is); (case nc => k_is); (case nr => k_is); (case nm => k_is); (case ha => k_is); (case hm => k_is); (case mk => k_is); (case kc => k_is); (case ty => k_is); (case cl => k_is); (case cm => exact rfl); (case mat => k_is); (case meq => k_is); (case mln => k_is)))
    (case tMa => (refine' Wv.clt_mk KX G ?a ?pg ?hd ?po ?sa ?nl ?nn ?nw ?np ?nc ?nr ?nm ?ha ?hm ?mk ?kc ?ty ?cl ?cm ?mat ?meq ?mln; (case a => k_is); (case pg => k_is); (case hd => k_is); (case po => k_is); (case sa => k_is); (case nl => k_is); (case nn => k_is); (case nw => k_is); (case np => k_is); (case nc => k_is); (case nr => k_is); (case nm => k_is); (case ha => k_is); (case hm => k_is); (case mk => k_is); (case kc => k_is); (case ty => k_is); (case cl => k_is); (case cm => exact rfl); (case mat => k_is); (case meq => k_is); (case mln => k_is)))
    (case tAh => (refine' Wv.clt_mk KX G ?a ?pg ?hd ?po ?sa ?nl ?nn ?nw ?np ?nc ?nr ?nm ?ha ?hm ?mk ?kc ?ty ?cl ?cm ?mat ?meq ?mln; (case a => k_is); (case pg => k_is); (case hd => k_is); (case po => k_is); (case sa => k_is); (case nl => k_is); (case nn => k_is); (case nw => k_is); (case np => k_is); (case nc => k_is); (case nr => k_is); (case nm => k_is); (case ha => k_is); (case hm => k_is); (case mk => k_is); (case kc => k_is); (case ty => k_is); (case cl => k_is); (case cm => exact rfl); (case mat => k_is); (case meq => k_is); (case mln => k_is)))
    (case tUn => (refine' Wv.clt_mk KX G ?a ?pg ?hd ?po ?sa ?nl ?nn ?nw ?np ?nc ?nr ?nm ?ha ?hm ?mk ?kc ?ty ?cl ?cm ?mat ?meq ?mln; (case a => k_is); (case pg => k_is); (case hd => k_is); (case po => k_is); (case sa => k_is); (case nl => k_is); (case nn => k_is); (case nw => k_is); (case np => k_is); (case nc => k_is); (case nr => k_is); (case nm => k_is); (case ha => k_is); (case hm => k_is); (case mk => k_is); (case kc => k_is); (case ty => k_is); (case cl => k_is); (case cm => exact rfl); (case mat => k_is); (case meq => k_is); (case mln => k_is)))
    (case tCa => (refine' Wv.clt_mk KX G ?a ?pg ?hd ?po ?sa ?nl ?nn ?nw ?np ?nc ?nr ?nm ?ha ?hm ?mk ?kc ?ty ?cl ?cm ?mat ?meq ?mln; (case a => k_is); (case pg => k_is); (case hd => k_is); (case po => k_is); (case sa => k_is); (case nl => k_is); (case nn => k_is); (case nw => k_is); (case np => k_is); (case nc => k_is); (case nr => k_is); (case nm => k_is); (case ha => k_is); (case hm => k_is); (case mk => k_is); (case kc => k_is); (case ty => k_is); (case cl => k_is); (case cm => exact rfl); (case mat => k_is); (case meq => k_is); (case mln => k_is)))
    (case wc => k_is)
    (case wt => k_is)
    (case hn => k_is)
    (case ht => k_is)
    (case nd => decide)
    (case s1 => k_is)
    (case s2 => k_is)
    (case s3 => k_is)
    (case s4 => k_is)
    (case s5 => k_is)
    (case s6 => k_is)
    (case s7 => k_is)
    (case s8 => k_is)
    (case s9 => k_is)
    (case s10 => k_is)
    (case T => (refine' Ws.sct_mk KX G ?a ?pg ?hd ?po ?sa ?n1 ?n2 ?n3 ?n4 ?n5 ?n6 ?n7 ?mk ?kc; (case a => k_is); (case pg => k_is); (case hd => k_is); (case po => k_is); (case sa => k_is); (case n1 => k_is); (case n2 => k_is); (case n3 => k_is); (case n4 => k_is); (case n5 => k_is); (case n6 => k_is); (case n7 => k_is); (case mk => k_is); (case kc => k_is)))
    (case R => (refine' Ws.rdt_mk ?a ?b ?d ?e ?f; (case a => k_is); (case b => k_is); (case d => k_is); (case e => k_is); (case f => k_is)))
    (case ieq => (refine' Wv.in_mk ?i ?l ?c ?k ?b; (case i => k_is); (case l => k_is); (case c => k_is); (case k => k_is); (case b => exact fun _ _ _ _ _ _ us hl => match us, hl with | [_, _], _ => rfl)))
    (case ist => (refine' Wv.in_mk ?i ?l ?c ?k ?b; (case i => k_is); (case l => k_is); (case c => k_is); (case k => k_is); (case b => exact fun _ _ _ _ _ _ us hl => match us, hl with | [_], _ => rfl)))
    (case ird => (refine' Wv.in_mk ?i ?l ?c ?k ?b; (case i => k_is); (case l => k_is); (case c => k_is); (case k => k_is); (case b => exact fun _ _ _ _ _ _ us hl => match us, hl with | [_, _], _ => rfl)))
    (case f1 => k_is)
    (case j1 => (refine' Wv.in_mk ?i ?l ?c ?k ?b; (case i => k_is); (case l => k_is); (case c => k_is); (case k => k_is); (case b => exact fun _ _ _ _ _ _ us hl => match us, hl with | [_, _], _ => rfl)))
    (case f2 => k_is)
    (case j2 => (refine' Wv.in_mk ?i ?l ?c ?k ?b; (case i => k_is); (case l => k_is); (case c => k_is); (case k => k_is); (case b => exact fun _ _ _ _ _ _ us hl => match us, hl with | [_, _], _ => rfl)))
    (case f3 => k_is)
    (case j3 => (refine' Wv.in_mk ?i ?l ?c ?k ?b; (case i => k_is); (case l => k_is); (case c => k_is); (case k => k_is); (case b => exact fun _ _ _ _ _ _ us hl => match us, hl with | [_, _], _ => rfl)))
    (case f4 => k_is)
    (case j4 => (refine' Wv.in_mk ?i ?l ?c ?k ?b; (case i => k_is); (case l => k_is); (case c => k_is); (case k => k_is); (case b => exact fun _ _ _ _ _ _ us hl => match us, hl with | [_, _], _ => rfl)))
    (case f5 => k_is)
    (case j5 => (refine' Wv.in_mk ?i ?l ?c ?k ?b; (case i => k_is); (case l => k_is); (case c => k_is); (case k => k_is); (case b => exact fun _ _ _ _ _ _ us hl => match us, hl with | [_, _], _ => rfl)))
    (case f6 => k_is)
    (case j6 => (refine' Wv.in_mk ?i ?l ?c ?k ?b; (case i => k_is); (case l => k_is); (case c => k_is); (case k => k_is); (case b => exact fun _ _ _ _ _ _ us hl => match us, hl with | [_, _], _ => rfl)))
    (case f7 => k_is)
    (case j7 => (refine' Wv.in_mk ?i ?l ?c ?k ?b; (case i => k_is); (case l => k_is); (case c => k_is); (case k => k_is); (case b => exact fun _ _ _ _ _ _ us hl => match us, hl with | [_, _], _ => rfl)))
    (case f8 => k_is)
    (case j8 => (refine' Wv.in_mk ?i ?l ?c ?k ?b; (case i => k_is); (case l => k_is); (case c => k_is); (case k => k_is); (case b => exact fun _ _ _ _ _ _ us hl => match us, hl with | [_, _], _ => rfl)))
    (case f9 => k_is)
    (case j9 => (refine' Wv.in_mk ?i ?l ?c ?k ?b; (case i => k_is); (case l => k_is); (case c => k_is); (case k => k_is); (case b => exact fun _ _ _ _ _ _ us hl => match us, hl with | [_], _ => rfl)))
    (case f10 => k_is)
    (case j10 => (refine' Wv.in_mk ?i ?l ?c ?k ?b; (case i => k_is); (case l => k_is); (case c => k_is); (case k => k_is); (case b => exact fun _ _ _ _ _ _ us hl => match us, hl with | [_], _ => rfl)))
    (case m0 => (refine' Ws.scm_mk ?a (Wv.in_mk ?i ?l ?c ?k ?b); (case a => k_is); (case i => k_is); (case l => k_is); (case c => k_is); (case k => k_is); (case b => exact fun _ _ _ _ _ _ us hl => match us, hl with | [_, _, _], _ => rfl)))
    (case m1 => (refine' Ws.scm_mk ?a (Wv.in_mk ?i ?l ?c ?k ?b); (case a => k_is); (case i => k_is); (case l => k_is); (case c => k_is); (case k => k_is); (case b => exact fun _ _ _ _ _ _ us hl => match us, hl with | [_], _ => rfl)))
    (case m2 => (refine' Ws.scm_mk ?a (Wv.in_mk ?i ?l ?c ?k ?b); (case a => k_is); (case i => k_is); (case l => k_is); (case c => k_is); (case k => k_is); (case b => exact fun _ _ _ _ _ _ us hl => match us, hl with | [_], _ => rfl)))
    (case m3 => (refine' Ws.scm_mk ?a (Wv.in_mk ?i ?l ?c ?k ?b); (case a => k_is); (case i => k_is); (case l => k_is); (case c => k_is); (case k => k_is); (case b => exact fun _ _ _ _ _ _ us hl => match us, hl with | [_], _ => rfl)))
    (case m4 => (refine' Ws.scm_mk ?a (Wv.in_mk ?i ?l ?c ?k ?b); (case a => k_is); (case i => k_is); (case l => k_is); (case c => k_is); (case k => k_is); (case b => exact fun _ _ _ _ _ _ us hl => match us, hl with | [_, _], _ => rfl)))
    (case m5 => (refine' Ws.scm_mk ?a (Wv.in_mk ?i ?l ?c ?k ?b); (case a => k_is); (case i => k_is); (case l => k_is); (case c => k_is); (case k => k_is); (case b => exact fun _ _ _ _ _ _ us hl => match us, hl with | [_], _ => rfl)))
    (case m6 => (refine' Ws.scm_mk ?a (Wv.in_mk ?i ?l ?c ?k ?b); (case a => k_is); (case i => k_is); (case l => k_is); (case c => k_is); (case k => k_is); (case b => exact fun _ _ _ _ _ _ us hl => match us, hl with | [_], _ => rfl)))
    (case m7 => (refine' Ws.scm_mk ?a (Wv.in_mk ?i ?l ?c ?k ?b); (case a => k_is); (case i => k_is); (case l => k_is); (case c => k_is); (case k => k_is); (case b => exact fun _ _ _ _ _ _ us hl => match us, hl with | [_], _ => rfl)))
    (case m8 => (refine' Ws.scm_mk ?a (Wv.in_mk ?i ?l ?c ?k ?b); (case a => k_is); (case i => k_is); (case l => k_is); (case c => k_is); (case k => k_is); (case b => exact fun _ _ _ _ _ _ us hl => match us, hl with | [_, _], _ => rfl)))
    (case m9 => (refine' Ws.scm_mk ?a (Wv.in_mk ?i ?l ?c ?k ?b); (case a => k_is); (case i => k_is); (case l => k_is); (case c => k_is); (case k => k_is); (case b => exact fun _ _ _ _ _ _ us hl => match us, hl with | [_], _ => rfl)))
    (case m10 => (refine' Ws.scm_mk ?a (Wv.in_mk ?i ?l ?c ?k ?b); (case a => k_is); (case i => k_is); (case l => k_is); (case c => k_is); (case k => k_is); (case b => exact fun _ _ _ _ _ _ us hl => match us, hl with | [_], _ => rfl)))
    (case m11 => (refine' Ws.scm_mk ?a (Wv.in_mk ?i ?l ?c ?k ?b); (case a => k_is); (case i => k_is); (case l => k_is); (case c => k_is); (case k => k_is); (case b => exact fun _ _ _ _ _ _ us hl => match us, hl with | [_], _ => rfl)))
    (case m12 => (refine' Ws.scm_mk ?a (Wv.in_mk ?i ?l ?c ?k ?b); (case a => k_is); (case i => k_is); (case l => k_is); (case c => k_is); (case k => k_is); (case b => exact fun _ _ _ _ _ _ us hl => match us, hl with | [_], _ => rfl)))
    (case m13 => (refine' Ws.scm_mk ?a (Wv.in_mk ?i ?l ?c ?k ?b); (case a => k_is); (case i => k_is); (case l => k_is); (case c => k_is); (case k => k_is); (case b => exact fun _ _ _ _ _ _ us hl => match us, hl with | [_], _ => rfl)))
    (case fM => (refine' Wv.mk0_mk KX G ?a ?mk ?f ?kc; (case a => k_is); (case mk => k_is); (case f => k_is); (case kc => k_is)))
    (case k1 => (refine' Wv.here_mk KX G ?a ?l ?c ?k ?b; (case a => k_is); (case l => k_is); (case c => k_is); (case k => k_is); (case b => exact fun _ _ _ _ _ _ us hl => match us, hl with | [_], _ => rfl)))
    (case k2 => (refine' Wv.here_mk KX G ?a ?l ?c ?k ?b; (case a => k_is); (case l => k_is); (case c => k_is); (case k => k_is); (case b => exact fun _ _ _ _ _ _ us hl => match us, hl with | [_], _ => rfl)))
    (case B => (refine' Wv.bs_mk KX G ?z1 ?z2 ?z3 ?z4 ?z5 ?z6 ?z7 ?z8 ?z9 ?z10 ?z11 ?z12 ?z13; (case z1 => k_is); (case z2 => k_is); (case z3 => k_is); (case z4 => k_is); (case z5 => k_is); (case z6 => k_is); (case z7 => k_is); (case z8 => k_is); (case z9 => k_is); (case z10 => k_is); (case z11 => k_is); (case z12 => k_is); (case z13 => k_is)))
    (case bS => k_is)
    (case C => (refine' Ws.kcs_mk KX G ?z0 ?z1 ?z2 ?z3 ?z4 ?z5 ?z6 ?z7 ?z8 ?z9 ?zN; (case z0 => k_is); (case z1 => k_is); (case z2 => k_is); (case z3 => k_is); (case z4 => k_is); (case z5 => k_is); (case z6 => k_is); (case z7 => k_is); (case z8 => k_is); (case z9 => k_is); (case zN => k_is)))
    (case h1 => (refine' Wv.here_mk KX G ?a ?l ?c ?k ?b; (case a => k_is); (case l => k_is); (case c => k_is); (case k => k_is); (case b => exact fun _ _ _ _ _ _ us hl => match us, hl with | [_], _ => rfl)))
    (case h2 => (refine' Wv.here_mk KX G ?a ?l ?c ?k ?b; (case a => k_is); (case l => k_is); (case c => k_is); (case k => k_is); (case b => exact fun _ _ _ _ _ _ us hl => match us, hl with | [_], _ => rfl)))
    (case h3 => (refine' Wv.here_mk KX G ?a ?l ?c ?k ?b; (case a => k_is); (case l => k_is); (case c => k_is); (case k => k_is); (case b => exact fun _ _ _ _ _ _ us hl => match us, hl with | [_], _ => rfl)))
    (case h5 => (refine' Wv.here_mk KX G ?a ?l ?c ?k ?b; (case a => k_is); (case l => k_is); (case c => k_is); (case k => k_is); (case b => exact fun _ _ _ _ _ _ us hl => match us, hl with | [_, _], _ => rfl)))
    (case h6 => (refine' Wv.here_mk KX G ?a ?l ?c ?k ?b; (case a => k_is); (case l => k_is); (case c => k_is); (case k => k_is); (case b => exact fun _ _ _ _ _ _ us hl => match us, hl with | [_], _ => rfl)))
    (case h7 => (refine' Wv.here_mk KX G ?a ?l ?c ?k ?b; (case a => k_is); (case l => k_is); (case c => k_is); (case k => k_is); (case b => exact fun _ _ _ _ _ _ us hl => match us, hl with | [_, _, _], _ => rfl)))
    (case h8 => (refine' Wv.here_mk KX G ?a ?l ?c ?k ?b; (case a => k_is); (case l => k_is); (case c => k_is); (case k => k_is); (case b => exact fun _ _ _ _ _ _ us hl => match us, hl with | [_], _ => rfl)))
    (case h9 => (refine' Wv.here_mk KX G ?a ?l ?c ?k ?b; (case a => k_is); (case l => k_is); (case c => k_is); (case k => k_is); (case b => exact fun _ _ _ _ _ _ us hl => match us, hl with | [_, _], _ => rfl)))
    (case h10 => (refine' Wv.here_mk KX G ?a ?l ?c ?k ?b; (case a => k_is); (case l => k_is); (case c => k_is); (case k => k_is); (case b => exact fun _ _ _ _ _ _ us hl => match us, hl with | [_, _], _ => rfl)))
    (case h11 => (refine' Wv.here_mk KX G ?a ?l ?c ?k ?b; (case a => k_is); (case l => k_is); (case c => k_is); (case k => k_is); (case b => exact fun _ _ _ _ _ _ us hl => match us, hl with | [_], _ => rfl)))
    (case h12 => (refine' Wv.here_mk KX G ?a ?l ?c ?k ?b; (case a => k_is); (case l => k_is); (case c => k_is); (case k => k_is); (case b => exact fun _ _ _ _ _ _ us hl => match us, hl with | [_], _ => rfl)))
    (case g1 => (refine' Wv.here_mk KX G ?a ?l ?c ?k ?b; (case a => k_is); (case l => k_is); (case c => k_is); (case k => k_is); (case b => exact fun _ _ _ _ _ _ us hl => match us, hl with | [_], _ => rfl)))
    (case g2 => (refine' Wv.here_mk KX G ?a ?l ?c ?k ?b; (case a => k_is); (case l => k_is); (case c => k_is); (case k => k_is); (case b => exact fun _ _ _ _ _ _ us hl => match us, hl with | [_, _], _ => rfl)))
    (case g3 => (refine' Wv.here_mk KX G ?a ?l ?c ?k ?b; (case a => k_is); (case l => k_is); (case c => k_is); (case k => k_is); (case b => exact fun _ _ _ _ _ _ us hl => match us, hl with | [_, _], _ => rfl)))
    (case g4 => (refine' Wv.here_mk KX G ?a ?l ?c ?k ?b; (case a => k_is); (case l => k_is); (case c => k_is); (case k => k_is); (case b => exact fun _ _ _ _ _ _ us hl => match us, hl with | [_, _], _ => rfl)))
    (case g5 => (refine' Wv.here_mk KX G ?a ?l ?c ?k ?b; (case a => k_is); (case l => k_is); (case c => k_is); (case k => k_is); (case b => exact fun _ _ _ _ _ _ us hl => match us, hl with | [_, _], _ => rfl)))
    (case g6 => (refine' Wv.here_mk KX G ?a ?l ?c ?k ?b; (case a => k_is); (case l => k_is); (case c => k_is); (case k => k_is); (case b => exact fun _ _ _ _ _ _ us hl => match us, hl with | [_, _, _], _ => rfl)))
    (case g7 => (refine' Wv.here_mk KX G ?a ?l ?c ?k ?b; (case a => k_is); (case l => k_is); (case c => k_is); (case k => k_is); (case b => exact fun _ _ _ _ _ _ us hl => match us, hl with | [_, _, _], _ => rfl)))
    (case g8 => (refine' Wv.here_mk KX G ?a ?l ?c ?k ?b; (case a => k_is); (case l => k_is); (case c => k_is); (case k => k_is); (case b => exact fun _ _ _ _ _ _ us hl => match us, hl with | [_], _ => rfl)))
    (case g9 => (refine' Wv.here_mk KX G ?a ?l ?c ?k ?b; (case a => k_is); (case l => k_is); (case c => k_is); (case k => k_is); (case b => exact fun _ _ _ _ _ _ us hl => match us, hl with | [_], _ => rfl)))
    (case g10 => (refine' Wv.here_mk KX G ?a ?l ?c ?k ?b; (case a => k_is); (case l => k_is); (case c => k_is); (case k => k_is); (case b => exact fun _ _ _ _ _ _ us hl => match us, hl with | [_, _], _ => rfl)))
    (case g12 => (refine' Wv.here_mk KX G ?a ?l ?c ?k ?b; (case a => k_is); (case l => k_is); (case c => k_is); (case k => k_is); (case b => exact fun _ _ _ _ _ _ us hl => match us, hl with | [_, _], _ => rfl)))
    (case g13 => (refine' Wv.here_mk KX G ?a ?l ?c ?k ?b; (case a => k_is); (case l => k_is); (case c => k_is); (case k => k_is); (case b => exact fun _ _ _ _ _ _ us hl => match us, hl with | [_], _ => rfl)))
    (case g14 => (refine' Wv.here_mk KX G ?a ?l ?c ?k ?b; (case a => k_is); (case l => k_is); (case c => k_is); (case k => k_is); (case b => exact fun _ _ _ _ _ _ us hl => match us, hl with | [_, _], _ => rfl)))
    (case g15 => (refine' Wv.here_mk KX G ?a ?l ?c ?k ?b; (case a => k_is); (case l => k_is); (case c => k_is); (case k => k_is); (case b => exact fun _ _ _ _ _ _ us hl => match us, hl with | [_, _], _ => rfl)))
    (case g11 => (refine' Wv.here_mk KX G ?a ?l ?c ?k ?b; (case a => k_is); (case l => k_is); (case c => k_is); (case k => k_is); (case b => exact fun _ _ _ _ _ _ us hl => match us, hl with | [_], _ => rfl)))
