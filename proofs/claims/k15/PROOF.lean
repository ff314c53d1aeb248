import PyProof.Rows.All
import Wide.All
import OpenK.AllK
import Wide.FinOn
import HandS.ForMost
import HandS.IsInst
import HandS.Style
import HandS.RevRange
import HandS.OwnEq
import HandS.Deep
import HandS.Zip
import HandS.ListItems
import KE.KDictZip
import HandS.Ends
import HandS.RaiseMore
import PyProof.ReprRoads
import HandS.Star
import HandS.ClsMeth
import HandS.Defaults
import PyProof.StrOps2
import HandS.WideBits
import PySem.Challenge.RW_waystaken_k15_whole_ends_going_back
set_option Elab.async false
set_option linter.all false
set_option maxRecDepth 100000
set_option maxHeartbeats 4000000
namespace Wv
open PySem PySem.Spec PyProof.Rows L2
/-! ### a def of the module, called by its name -/
section
variable {P : Program} {w : World} {K : PySem.W.Frag} {mg : Str → Option Value} {base : Heap}
structure DefOk (P : Program) (w : World) (K : PySem.W.Frag) (mg : Str → Option Value) (base : Heap) (k : Nat) (x : Str) (ps : List Str) (sp : Sp) : Prop where
  ex : ∃ (f : Addr) (fd : FuncData), mg x = some (.ref f) ∧ PySem.W.keepIn K (.ref f) = true ∧ Binds K fd ps [] ∧ FnOk P w K mg base CX0 k f fd ps sp
theorem DefOk.mono {j k : Nat} {x : Str} {ps : List Str} {sp : Sp} (h : DefOk P w K mg base j x ps sp) (q : j ≤ k) : DefOk P w K mg base k x ps sp := by
  obtain ⟨f, fd, a, b, c, d⟩ := h.ex
  exact ⟨f, fd, a, b, c, d.mono q⟩
/-- the def as the top left it -/
structure Here (K : PySem.W.Frag) (mg : Str → Option Value) (x : Str) (st : Stmt) (ps : List Str) : Prop where
  ex : ∃ (f : Addr) (fd : FuncData), Fun K x x st f fd ∧ mg x = some (.ref f) ∧ Binds K fd ps []
theorem Here.ok {x : Str} {st : Stmt} {N ps : List Str} {k : Nat} {sp : Sp} (h : Here K mg x st ps) (S : FnScope N ps (defScope st)) (len : ∀ vs H Q E, sp vs H Q E → vs.length = ps.length)
    (hbody : ∀ (f : Addr) (cdv : Value) (A : Around) (outer : List Env) (s : Shared) (H : Hp) (vs : List V) (Q : VK) (E : XK), Room k (A.deeper (envOfC x (defScope st) s.heap.objs.size f cdv)) → sp vs H Q E →
      ∃ t, PSs (cxOf CX0 P w K mg base N x (defScope st) f cdv A outer s H E).nox (defBody st) t ∧ t { nx := fun _ H' => Q .non H', rt := Q } (start N vs) H) : DefOk P w K mg base (k + 1) x ps sp := by
  obtain ⟨f, fd, F, m, b⟩ := h.ex
  exact ⟨f, fd, m, F.kp, b, F.ok S len fun cdv A outer s H vs Q E hr q => hbody f cdv A outer s H vs Q E hr q⟩
end
section
variable {X : Cx} {k : Nat} {x : Str} {ps : List Str} {sp : Sp} {e : Expr} {es : List Expr} {t : TA} {p pos : Pos}
theorem pe_callD (G : DefOk X.prog X.w X.K X.mg X.base k x ps sp) (hr : Room k X.A) (hg : Gl X x) (ha : PA X (e :: es) t) (hdb : (x == ("__debug__" : Str)) = false := by decide)
    (he : starEach (e :: es) X.env = (false, eval e X.env) :: starEach es X.env := by rfl) (hpl : (backTo pos (starEach es X.env)).any (·.1) = false := by rfl) :
    PE X (.Call (.Name x p) (e :: es) [] pos) (tCall sp [] E0 t) := by
  obtain ⟨f, fd, m, kp, b, F⟩ := G.ex
  exact pe_call F hr hg m kp b .nil pass0 ha hdb he hpl
theorem pe_callD0 (G : DefOk X.prog X.w X.K X.mg X.base k x ps sp) (hr : Room k X.A) (hg : Gl X x) (hdb : (x == ("__debug__" : Str)) = false := by decide) :
    PE X (.Call (.Name x p) [] [] pos) (tCall sp [] E0 tNil) := by
  obtain ⟨f, fd, m, kp, b, F⟩ := G.ex
  exact pe_call0 F hr hg m kp b .nil pass0 hdb
end
/-! ### a class of the module, made by its name -/
structure ClsOk (P : Program) (w : World) (K : PySem.W.Frag) (mg : Str → Option Value) (base : Heap) (k : Nat) (x : Str) (C : Addr) (ps : List Str) (sp : Sp) : Prop where
  ex : ∃ (f : Addr) (fd : FuncData), mg x = some (.ref C) ∧ Mk K C f ∧ Binds K fd ps [] ∧ FnOk P w K mg base CX0 k f fd ps sp
section
variable {X : Cx} {k : Nat} {x : Str} {C : Addr} {ps : List Str} {sp : Sp} {e : Expr} {es : List Expr} {t : TA} {p pos : Pos}
theorem pe_makeD (G : ClsOk X.prog X.w X.K X.mg X.base k x C ps sp) (hr : Room (k + 1) X.A) (hg : Gl X x) (ha : PA X (e :: es) t) (hdb : (x == ("__debug__" : Str)) = false := by decide)
    (he : starEach (e :: es) X.env = (false, eval e X.env) :: starEach es X.env := by rfl) (hpl : (backTo pos (starEach es X.env)).any (·.1) = false := by rfl) :
    PE X (.Call (.Name x p) (e :: es) [] pos) (tMake C sp [] E0 t) := by
  obtain ⟨f, fd, m, M, b, F⟩ := G.ex
  exact pe_make M F hr hg m b .nil pass0 ha hdb he hpl
theorem pe_makeD0 (G : ClsOk X.prog X.w X.K X.mg X.base k x C ps sp) (hr : Room (k + 1) X.A) (hg : Gl X x) (hdb : (x == ("__debug__" : Str)) = false := by decide) :
    PE X (.Call (.Name x p) [] [] pos) (tMake C sp [] E0 tNil) := by
  obtain ⟨f, fd, m, M, b, F⟩ := G.ex
  exact pe_make0 M F hr hg m b .nil pass0 hdb
end
/-! ### a class of the module without an __init__ of its own -/
structure Mk0 (K : PySem.W.Frag) (mg : Str → Option Value) (x : Str) (C : Addr) : Prop where
  m : mg x = some (.ref C)
  makes : PySem.W.makesIn K C = true
  init : PySem.W.findIn K (.ref C) "__init__" = some (some (.builtin "object.__init__"))
  kp : PySem.W.keepIn K (.ref C) = true
def tMake0 (C : Addr) : TE := fun _ H Q => ∀ x dx, H x = none → H dx = none → dx ≠ x → Q (.ref x) (upd (upd H dx (.own x)) x (.ins C dx []))
section
open PySem.W
variable {X : Cx} {C : Addr} {x : Str} {p pos : Pos}
theorem make0_raw {prog : Program} {w : World} {A : Around} {K : Frag} {C : Addr} {s : Shared} {R : Result → Shared → Prop} (X : K.In s.heap) (hm : makesIn K C = true) (hi : findIn K (.ref C) "__init__" = some (some (.builtin "object.__init__")))
    (z : R (.ok (.ret (.ref (s.heap.objs.size + 1)))) { s with heap := (s.heap.push emptyDict).push (instObj C s.heap.objs.size) }) :
    codeAny (model prog w) A (.call (.ref C) ⟨[], []⟩) R s := by
  obtain ⟨hh, g, d, t, os⟩ := s
  have Y := makes_of (M := model prog w) X hm
  have hx : ((hh.push emptyDict).push (instObj C hh.objs.size)).get? (hh.objs.size + 1) = some (instObj C hh.objs.size) := by heap_get
  refine make_core Y (looks_findIn X hi) (fun self => Looks.of_pure (oi_bind self)) (.inr ⟨rfl, rfl⟩) ?_
  have t1 : Looks (model prog w) ((hh.push emptyDict).push (instObj C hh.objs.size)) (typeOf (.ref (hh.objs.size + 1))) (.ref C) := (Looks.ld hx).andThen .now
  have t2 : Looks (model prog w) ((hh.push emptyDict).push (instObj C hh.objs.size)) (isInstance (.ref (hh.objs.size + 1)) (.type "object")) true := t1.andThen (Y.top.keeps fun b o e => Heap.get?_push_of_some _ (Heap.get?_push_of_some _ e))
  refine codeAny_call_builtin oi_plain entry_oi (@check_slot (model prog w) _ _ _ "object.__init__" "object" "__init__" (.ref (hh.objs.size + 1)) [] [] _ oi_kind oi_split t2 (oi_args (.ref (hh.objs.size + 1))) ?_)
  rw [oi_run]
  exact wpAny_pure (And.intro rfl z)
theorem pe_make00 (M : Mk0 X.K X.mg x C) (hg : Gl X x) (hdb : (x == ("__debug__" : Str)) = false := by decide) : PE X (.Call (.Name x p) [] [] pos) (tMake0 C) := by
  refine ⟨fun pins s σ H Q I h => ?_⟩
  refine wpAny_Call_Name_kw (ld_glob I hg M.m ?_ hdb)
  refine PySem.W.callWith_K0 I.kIn M.kp ?_
  have hq := h (s.heap.objs.size + 1) s.heap.objs.size (I.hok.fresh (Nat.le_succ _)) (I.hok.fresh (Nat.le_refl _)) (Nat.ne_of_lt (Nat.lt_succ_self _))
  have I2 := Inv.made (C := C) I
  exact wpAny_call (make0_raw I.kIn M.makes M.init ⟨.ref _, _, I2, rfl, hq⟩)
end
/-- the built-ins' names that the text leaves as they are -/
structure Bs (mg : Str → Option Value) : Prop where
  len : mg "len" = none
  int : mg "int" = none
  list : mg "list" = none
  range : mg "range" = none
  min : mg "min" = none
  tuple : mg "tuple" = none
  isinstance : mg "isinstance" = none
  zip : mg "zip" = none
  sum : mg "sum" = none
  max : mg "max" = none
  reversed : mg "reversed" = none
  enumerate : mg "enumerate" = none
  repr : mg "repr" = none
/-! ### a part of a reading by itself: what it gives, whatever follows -/
theorem withQ {E : TE} {σ : L2.St} {H : Hp} {Q : VK} (C : V → Hp → Prop) (h : ∀ Q' : VK, (∀ x H', C x H' → Q' x H') → E σ H Q') (g : ∀ x H', C x H' → Q x H') : E σ H Q := h Q g
theorem withB {E : TT} {σ : L2.St} {H : Hp} {Q : Bool → Hp → Prop} (C : Bool → Hp → Prop) (h : ∀ Q' : Bool → Hp → Prop, (∀ x H', C x H' → Q' x H') → E σ H Q') (g : ∀ x H', C x H' → Q x H') : E σ H Q := h Q g
theorem gset {i : Nat} {x : V} {σ : L2.St} {H : Hp} {Q : L2.St → Hp → Prop} (h : Q (σ.set i (some x)) H) : gName i x σ H Q := h
theorem st_seq {t u : TS} {D : Ends} {σ : L2.St} {H : Hp} (h : t { D with nx := u D } σ H) : tSeq t u D σ H := h
theorem st_asg {te : TE} {g : TG} {D : Ends} {σ : L2.St} {H : Hp} (h : te σ H fun x H1 => g x σ H1 D.nx) : tAsg te g D σ H := h
theorem st_next {D : Ends} {σ : L2.St} {H : Hp} (h : D.nx σ H) : tNext D σ H := h
theorem st_drop {te : TE} {D : Ends} {σ : L2.St} {H : Hp} (h : te σ H fun _ H1 => D.nx σ H1) : tDrop te D σ H := h
theorem st_ret {te : TE} {D : Ends} {σ : L2.St} {H : Hp} (h : te σ H D.rt) : tRet te D σ H := h
/-! ### heaps: all but the dicts stay -/
def Keep (H H' : Hp) : Prop := ∀ b o, H b = some o → H' b = some o ∨ ∃ kvs kvs', o = .dK kvs ∧ H' b = some (.dK kvs')
theorem Keep.refl (H : Hp) : Keep H H := fun _ _ h => .inl h
theorem Keep.trans {H H1 H2 : Hp} (a : Keep H H1) (b : Keep H1 H2) : Keep H H2 := fun c o h => by
  rcases a c o h with h1 | ⟨k1, k2, e, h1⟩
  · exact b c o h1
  · rcases b c _ h1 with h2 | ⟨k3, k4, e2, h2⟩
    · exact .inr ⟨k1, k2, e, h2⟩
    · exact .inr ⟨k1, k4, e, h2⟩
theorem Keep.of {H H' : Hp} (s : Same H H') : Keep H H' := fun b o h => .inl (s b o h)
theorem Keep.at_ {H H' : Hp} {a : Addr} {o : HO} (k : Keep H H') (h : H a = some o) (n : ∀ kvs, o ≠ .dK kvs) : H' a = some o := by
  rcases k a o h with q | ⟨k1, _, e, _⟩
  · exact q
  · exact absurd e (n k1)
theorem Keep.free {H H' : Hp} {a : Addr} (k : Keep H H') (h : H' a = none) : H a = none := by
  cases e : H a with
  | none => rfl
  | some o =>
    rcases k a o e with q | ⟨_, _, _, q⟩
    · rw [h] at q; cases q
    · rw [h] at q; cases q
theorem Keep.lst {H H' : Hp} {a : Addr} {xs : List V} (k : Keep H H') (h : H a = some (.lst xs)) : H' a = some (.lst xs) := k.at_ h (fun _ z => by cases z)
theorem Keep.tup {H H' : Hp} {a : Addr} {xs : List V} (k : Keep H H') (h : H a = some (.tup xs)) : H' a = some (.tup xs) := k.at_ h (fun _ z => by cases z)
theorem Keep.ins {H H' : Hp} {a C d : Addr} {fs : List (Str × V)} (k : Keep H H') (h : H a = some (.ins C d fs)) : H' a = some (.ins C d fs) := k.at_ h (fun _ z => by cases z)
theorem Keep.seq {K : PySem.W.Frag} {H H' : Hp} {a : Addr} {xs : List V} (k : Keep H H') (h : SqL K H a xs) : SqL K H' a xs := by
  rcases h with (h | ⟨o, h⟩) | h
  · exact .inl (.inl (k.lst h))
  · exact .inl (.inr ⟨o, k.at_ h (fun _ z => by cases z)⟩)
  · exact .inr h
theorem Keep.seqT {K : PySem.W.Frag} {H H' : Hp} {a : Addr} {xs : List V} (k : Keep H H') (h : SqT K H a xs) : SqT K H' a xs := by
  rcases h with (h | ⟨o, h⟩) | h
  · exact .inl (.inl (k.tup h))
  · exact .inl (.inr ⟨o, k.at_ h (fun _ z => by cases z)⟩)
  · exact .inr h
theorem Same.new {H : Hp} {p : Addr} (h : H p = none) (o : HO) : Same H (upd H p o) := fun b u q => by rw [upd_ne (ne_of_none q h)]; exact q
theorem Same.put {H H' : Hp} {p : Addr} (h : H p = none) (s : Same H H') (o : HO) : Same H (upd H' p o) := fun b u q => by rw [upd_ne (ne_of_none q h)]; exact s b u q
theorem Keep.new {H : Hp} {p : Addr} (h : H p = none) (o : HO) : Keep H (upd H p o) := .of (Same.new h o)
theorem Keep.put {H H' : Hp} {p : Addr} (h : H p = none) (s : Keep H H') (o : HO) : Keep H (upd H' p o) := fun b u q => by rw [upd_ne (ne_of_none q h)]; exact s b u q
/-! ### what is new in a heap -/
def newer (H H' : Hp) : Hp := fun a => if (H a).isSome = true then none else H' a
theorem newer_at {H H' : Hp} {a : Addr} (h : H a = none) : newer H H' a = H' a := by unfold newer; rw [h]; exact if_neg (by decide)
theorem newer_old {H H' : Hp} {a : Addr} {o : HO} (h : H a = some o) : newer H H' a = none := by unfold newer; rw [h]; exact if_pos rfl
theorem newer_of {H H' : Hp} {a : Addr} {o : HO} (h : newer H H' a = some o) : H a = none ∧ H' a = some o := by
  cases e : H a with
  | none => rw [newer_at e] at h; exact ⟨rfl, h⟩
  | some u => rw [newer_old e] at h; cases h
theorem newer_le {H H' : Hp} : Keep (newer H H') H' := fun _ _ h => .inl (newer_of h).2
theorem newer_up {H H' H'' : Hp} (k : Keep H' H'') : Keep (newer H H') (newer H H'') := fun a o h => by
  obtain ⟨h1, h2⟩ := newer_of h
  rw [newer_at h1]
  exact k a o h2
theorem newer_down {H H0 H' : Hp} (k : Keep H H0) : Keep (newer H0 H') (newer H H') := fun a o h => by
  obtain ⟨h1, h2⟩ := newer_of h
  rw [newer_at (k.free h1)]
  exact .inl h2
def Sub (H H' : Hp) : Prop := ∀ a, H' a = none → H a = none
theorem Keep.sub {H H' : Hp} (k : Keep H H') : Sub H H' := fun _ h => k.free h
theorem Sub.trans {H H1 H2 : Hp} (a : Sub H H1) (b : Sub H1 H2) : Sub H H2 := fun c h => a c (b c h)
theorem Sub.put {H H' : Hp} (s : Sub H H') (p : Addr) (o : HO) : Sub H (upd H' p o) := fun a h => by
  by_cases e : a = p
  · rw [e, upd_same] at h; cases h
  · rw [upd_ne e] at h; exact s a h
theorem newer_sub {H H0 H' : Hp} (k : Sub H H0) : Keep (newer H0 H') (newer H H') := fun a o h => by
  obtain ⟨h1, h2⟩ := newer_of h
  rw [newer_at (k a h1)]
  exact .inl h2
theorem newer_put {H H' : Hp} {p : Addr} {o u : HO} (h : H p = some u) : newer H (upd H' p o) = newer H H' := by
  funext a
  unfold newer
  by_cases e : a = p
  · rw [e, h]; rfl
  · rw [upd_ne e]
/-! ### arithmetic -/
theorem fmod_in (x : Int) {m : Int} (h : 0 < m) : 0 ≤ x.fmod m ∧ x.fmod m < m := ⟨Int.fmod_nonneg_of_pos x h, Int.fmod_lt_of_pos x h⟩
theorem small' {n : Nat} (h : n ≤ 1000000) : n < sizeLine := Nat.lt_of_le_of_lt h (by decide)
theorem atI_of {xs : List V} {i : Int} (h0 : 0 ≤ i) (h1 : i < (xs.length : Int)) : ∃ v, xs[i.toNat]? = some v ∧ atI xs i = some v := by
  have hk : i.toNat < xs.length := by omega
  have ek : i = ((i.toNat : Nat) : Int) := by omega
  refine ⟨xs[i.toNat], List.getElem?_eq_getElem hk, ?_⟩
  have q : atI xs ((i.toNat : Nat) : Int) = some xs[i.toNat] := atI_nat (List.getElem?_eq_getElem hk)
  rw [← ek] at q
  exact q
/-- a text of one sign -/
abbrev sg (c : Nat) : Str := ⟨#[c]⟩
/-- a text by its codes -/
def tx (l : List Nat) : Str := ⟨l.toArray⟩
end Wv
local macro_rules | `(tactic| walk_at "rd") => `(tactic| (repeat (first | refine ⟨_, rfl, ?_⟩ | refine ⟨_, _, rfl, rfl, ?_⟩ | refine ⟨rfl, ?_⟩ | refine Or.inl ⟨_, rfl, ?_⟩)))
local macro_rules | `(tactic| walk_at "nx") => `(tactic| (repeat (first | (with_reducible refine Wv.gset ?_) | (with_reducible refine Wv.st_seq ?_) | (with_reducible refine Wv.st_asg ?_) | (with_reducible refine Wv.st_next ?_) | (with_reducible refine Wv.st_drop ?_) | (with_reducible refine Wv.st_ret ?_))))
namespace Wv
open PySem PySem.Spec PyProof.Rows L2
/-! ### ways as data -/
inductive W where
  | nothing | one | letter (c : Nat) | call (x : Str)
  | row (ws : List W) | choice (ws : List W)
  | again (w : W) | maybe (w : W) | ahead (w : W) | unless (w : W)
mutual
def W.size : W → Nat
  | .nothing => 1 | .one => 1 | .letter _ => 1 | .call _ => 1
  | .row ws => 1 + W.sizes ws | .choice ws => 1 + W.sizes ws
  | .again w => 1 + W.size w | .maybe w => 1 + W.size w | .ahead w => 1 + W.size w | .unless w => 1 + W.size w
def W.sizes : List W → Nat
  | [] => 0
  | w :: ws => W.size w + W.sizes ws
end
theorem W.size_pos (w : W) : 0 < w.size := by cases w <;> simp only [W.size] <;> omega
theorem W.sizes_app : ∀ (a b : List W), W.sizes (a ++ b) = W.sizes a + W.sizes b
  | [], b => by simp [W.sizes]
  | x :: a, b => by simp only [List.cons_append, W.sizes, W.sizes_app a b]; omega
theorem W.sizes_len : ∀ ws : List W, ws.length ≤ W.sizes ws
  | [] => Nat.le_refl _
  | w :: ws => by
    have h := W.sizes_len ws
    have h2 := w.size_pos
    simp only [List.length_cons, W.sizes]
    omega
-- letters among these codes, rows and choices of two or more, no calls
mutual
def W.wf (z : List Nat) : W → Prop
  | .nothing => True | .one => True | .letter c => c ∈ z | .call _ => False
  | .row ws => 2 ≤ ws.length ∧ W.wfs z ws | .choice ws => 2 ≤ ws.length ∧ W.wfs z ws
  | .again w => W.wf z w | .maybe w => W.wf z w | .ahead w => W.wf z w | .unless w => W.wf z w
def W.wfs (z : List Nat) : List W → Prop
  | [] => True
  | w :: ws => W.wf z w ∧ W.wfs z ws
end
theorem W.wfs_app (z : List Nat) : ∀ (a b : List W), W.wfs z (a ++ b) ↔ W.wfs z a ∧ W.wfs z b
  | [], b => by simp [W.wfs]
  | x :: a, b => by simp only [List.cons_append, W.wfs, W.wfs_app z a b, and_assoc]
mutual

def W.data : W → PyData
  | .nothing => .tuple [.str (Str.ofString "nothing")]
  | .one => .tuple [.str (Str.ofString "one")]
  | .letter c => .tuple [.str (Str.ofString "letter"), .str (sg c)]
  | .call x => .tuple [.str (Str.ofString "call"), .str x]
  | .row ws => .tuple [.str (Str.ofString "row"), .list (W.datas ws)]
  | .choice ws => .tuple [.str (Str.ofString "choice"), .list (W.datas ws)]
  | .again w => .tuple [.str (Str.ofString "again"), W.data w]
  | .maybe w => .tuple [.str (Str.ofString "maybe"), W.data w]
  | .ahead w => .tuple [.str (Str.ofString "ahead"), W.data w]
  | .unless w => .tuple [.str (Str.ofString "unless"), W.data w]
def W.datas : List W → List PyData
  | [] => []
  | w :: ws => W.data w :: W.datas ws
end
mutual
theorem W.depth_data : ∀ w : W, (W.data w).depth ≤ 2 * w.size
  | .nothing => by simp only [W.data, W.size, PyData.depth, PyData.depthAll]; omega
  | .one => by simp only [W.data, W.size, PyData.depth, PyData.depthAll]; omega
  | .letter c => by simp only [W.data, W.size, PyData.depth, PyData.depthAll]; omega
  | .call x => by simp only [W.data, W.size, PyData.depth, PyData.depthAll]; omega
  | .row ws => by
    have h := W.depth_datas ws
    simp only [W.data, W.size, PyData.depth, PyData.depthAll]; omega
  | .choice ws => by
    have h := W.depth_datas ws
    simp only [W.data, W.size, PyData.depth, PyData.depthAll]; omega
  | .again w => by
    have h := W.depth_data w
    simp only [W.data, W.size, PyData.depth, PyData.depthAll]; omega
  | .maybe w => by
    have h := W.depth_data w
    simp only [W.data, W.size, PyData.depth, PyData.depthAll]; omega
  | .ahead w => by
    have h := W.depth_data w
    simp only [W.data, W.size, PyData.depth, PyData.depthAll]; omega
  | .unless w => by
    have h := W.depth_data w
    simp only [W.data, W.size, PyData.depth, PyData.depthAll]; omega
theorem W.depth_datas : ∀ ws : List W, PyData.depthAll (W.datas ws) ≤ 2 * W.sizes ws
  | [] => by simp [W.datas, PyData.depthAll]
  | w :: ws => by
    have h := W.depth_data w
    have h2 := W.depth_datas ws
    simp only [W.datas, W.sizes, PyData.depthAll]; omega
end
def W.tag : W → Str
  | .nothing => Str.ofString "nothing"
  | .one => Str.ofString "one"
  | .again _ => Str.ofString "again"
  | .maybe _ => Str.ofString "maybe"
  | .ahead _ => Str.ofString "ahead"
  | .unless _ => Str.ofString "unless"
  | .letter _ => Str.ofString "letter"
  | .call _ => Str.ofString "call"
  | .row _ => Str.ofString "row"
  | .choice _ => Str.ofString "choice"
mutual
def WayAt (H : Hp) : V → W → Prop
  | v, .nothing => ∃ a, v = .ref a ∧ H a = some (.tup [.str (Str.ofString "nothing")])
  | v, .one => ∃ a, v = .ref a ∧ H a = some (.tup [.str (Str.ofString "one")])
  | v, .letter c => ∃ a, v = .ref a ∧ H a = some (.tup [.str (Str.ofString "letter"), .str (sg c)])
  | v, .call x => ∃ a, v = .ref a ∧ H a = some (.tup [.str (Str.ofString "call"), .str x])
  | v, .row ws => ∃ a l vs, v = .ref a ∧ H a = some (.tup [.str (Str.ofString "row"), .ref l]) ∧ H l = some (.lst vs) ∧ WaysAt H vs ws
  | v, .choice ws => ∃ a l vs, v = .ref a ∧ H a = some (.tup [.str (Str.ofString "choice"), .ref l]) ∧ H l = some (.lst vs) ∧ WaysAt H vs ws
  | v, .again w => ∃ a u, v = .ref a ∧ H a = some (.tup [.str (Str.ofString "again"), u]) ∧ WayAt H u w
  | v, .maybe w => ∃ a u, v = .ref a ∧ H a = some (.tup [.str (Str.ofString "maybe"), u]) ∧ WayAt H u w
  | v, .ahead w => ∃ a u, v = .ref a ∧ H a = some (.tup [.str (Str.ofString "ahead"), u]) ∧ WayAt H u w
  | v, .unless w => ∃ a u, v = .ref a ∧ H a = some (.tup [.str (Str.ofString "unless"), u]) ∧ WayAt H u w
def WaysAt (H : Hp) : List V → List W → Prop
  | vs, [] => vs = []
  | vs, w :: ws => ∃ u us, vs = u :: us ∧ WayAt H u w ∧ WaysAt H us ws
end
theorem WaysAt.len {H : Hp} : ∀ (ws : List W) (vs : List V), WaysAt H vs ws → vs.length = ws.length
  | [], vs, h => by rw [show vs = [] from h]; rfl
  | w :: ws, vs, ⟨u, us, e, _, h⟩ => by rw [e, List.length_cons, List.length_cons, WaysAt.len ws us h]
theorem WaysAt.app {H : Hp} : ∀ (ws : List W) (vs : List V) {us : List V} {xs : List W}, WaysAt H vs ws → WaysAt H us xs → WaysAt H (vs ++ us) (ws ++ xs)
  | [], vs, us, xs, h, h2 => by rw [show vs = [] from h]; exact h2
  | w :: ws, vs, us, xs, ⟨u, r, e, hu, h⟩, h2 => by rw [e]; exact ⟨u, r ++ us, rfl, hu, WaysAt.app ws r h h2⟩
theorem WaysAt.at_ {H : Hp} : ∀ (ws : List W) (vs : List V) (i : Nat) (w : W), WaysAt H vs ws → ws[i]? = some w → ∃ v, vs[i]? = some v ∧ WayAt H v w
  | [], vs, i, w, h, e => by simp at e
  | x :: ws, vs, 0, w, ⟨u, us, ev, hu, h⟩, e => by
    have q : x = w := by simpa using e
    subst q
    exact ⟨u, by rw [ev]; rfl, hu⟩
  | x :: ws, vs, i + 1, w, ⟨u, us, ev, hu, h⟩, e => by
    obtain ⟨v, h1, h2⟩ := WaysAt.at_ ws us i w h (by simpa using e)
    exact ⟨v, by rw [ev]; simpa using h1, h2⟩
mutual
theorem WayAt.keep {H H' : Hp} (k : Keep H H') : ∀ (w : W) (v : V), WayAt H v w → WayAt H' v w
  | .nothing, v, ⟨a, e, h⟩ => ⟨a, e, k.tup h⟩
  | .one, v, ⟨a, e, h⟩ => ⟨a, e, k.tup h⟩
  | .letter _, v, ⟨a, e, h⟩ => ⟨a, e, k.tup h⟩
  | .call _, v, ⟨a, e, h⟩ => ⟨a, e, k.tup h⟩
  | .row ws, v, ⟨a, l, vs, e, h, h2, h3⟩ => ⟨a, l, vs, e, k.tup h, k.lst h2, WaysAt.keep k ws vs h3⟩
  | .choice ws, v, ⟨a, l, vs, e, h, h2, h3⟩ => ⟨a, l, vs, e, k.tup h, k.lst h2, WaysAt.keep k ws vs h3⟩
  | .again w, v, ⟨a, u, e, h, h2⟩ => ⟨a, u, e, k.tup h, WayAt.keep k w u h2⟩
  | .maybe w, v, ⟨a, u, e, h, h2⟩ => ⟨a, u, e, k.tup h, WayAt.keep k w u h2⟩
  | .ahead w, v, ⟨a, u, e, h, h2⟩ => ⟨a, u, e, k.tup h, WayAt.keep k w u h2⟩
  | .unless w, v, ⟨a, u, e, h, h2⟩ => ⟨a, u, e, k.tup h, WayAt.keep k w u h2⟩
theorem WaysAt.keep {H H' : Hp} (k : Keep H H') : ∀ (ws : List W) (vs : List V), WaysAt H vs ws → WaysAt H' vs ws
  | [], _, h => h
  | w :: ws, vs, ⟨u, us, e, h, h2⟩ => ⟨u, us, e, WayAt.keep k w u h, WaysAt.keep k ws us h2⟩
end
mutual
theorem WayAt.dp {K : PySem.W.Frag} {H : Hp} : ∀ (w : W) (v : V), WayAt H v w → Dp K H v (W.data w)
  | .nothing, v, ⟨a, e, h⟩ => by rw [e]; exact .tup (SqT.of h) (.cons (.str _) .nil)
  | .one, v, ⟨a, e, h⟩ => by rw [e]; exact .tup (SqT.of h) (.cons (.str _) .nil)
  | .letter _, v, ⟨a, e, h⟩ => by rw [e]; exact .tup (SqT.of h) (.cons (.str _) (.cons (.str _) .nil))
  | .call _, v, ⟨a, e, h⟩ => by rw [e]; exact .tup (SqT.of h) (.cons (.str _) (.cons (.str _) .nil))
  | .row ws, v, ⟨a, l, vs, e, h, h2, h3⟩ => by rw [e]; exact .tup (SqT.of h) (.cons (.str _) (.cons (.lst (SqL.of h2) (WaysAt.dp ws vs h3)) .nil))
  | .choice ws, v, ⟨a, l, vs, e, h, h2, h3⟩ => by rw [e]; exact .tup (SqT.of h) (.cons (.str _) (.cons (.lst (SqL.of h2) (WaysAt.dp ws vs h3)) .nil))
  | .again w, v, ⟨a, u, e, h, h2⟩ => by rw [e]; exact .tup (SqT.of h) (.cons (.str _) (.cons (WayAt.dp w u h2) .nil))
  | .maybe w, v, ⟨a, u, e, h, h2⟩ => by rw [e]; exact .tup (SqT.of h) (.cons (.str _) (.cons (WayAt.dp w u h2) .nil))
  | .ahead w, v, ⟨a, u, e, h, h2⟩ => by rw [e]; exact .tup (SqT.of h) (.cons (.str _) (.cons (WayAt.dp w u h2) .nil))
  | .unless w, v, ⟨a, u, e, h, h2⟩ => by rw [e]; exact .tup (SqT.of h) (.cons (.str _) (.cons (WayAt.dp w u h2) .nil))
theorem WaysAt.dp {K : PySem.W.Frag} {H : Hp} : ∀ (ws : List W) (vs : List V), WaysAt H vs ws → DpAll K H vs (W.datas ws)
  | [], vs, h => by rw [show vs = [] from h]; exact .nil
  | w :: ws, vs, ⟨u, us, e, h, h2⟩ => by rw [e]; exact .cons (WayAt.dp w u h) (WaysAt.dp ws us h2)
end
-- letters that are letters
abbrev Az (z : List Nat) : Prop := ∀ c ∈ z, 97 ≤ c ∧ c ≤ 122
theorem strOk_sg {c : Nat} (h : c ≤ 122) : PyData.strOk (sg c) = true := by
  show (#[c] : Array Nat).all (fun x => decide (x < 0x110000)) = true
  simp
  omega
mutual
theorem W.lay {z : List Nat} (hz : Az z) : ∀ w : W, w.wf z → (W.data w).canLay0 = true
  | .nothing, _ => by decide +kernel
  | .one, _ => by decide +kernel
  | .letter c, h => by
    have q := strOk_sg (hz c h).2
    simp only [W.data, PyData.canLay0, PyData.canLayAll0, q, Bool.and_true, Bool.and_eq_true, and_true]
    decide +kernel
  | .call x, h => by cases h
  | .row ws, h => by
    have q := W.lays hz ws h.2
    simp only [W.data, PyData.canLay0, PyData.canLayAll0, q, Bool.and_true, Bool.and_eq_true, and_true]
    decide +kernel
  | .choice ws, h => by
    have q := W.lays hz ws h.2
    simp only [W.data, PyData.canLay0, PyData.canLayAll0, q, Bool.and_true, Bool.and_eq_true, and_true]
    decide +kernel
  | .again w, h => by
    have q := W.lay hz w h
    simp only [W.data, PyData.canLay0, PyData.canLayAll0, q, Bool.and_true, Bool.and_eq_true, and_true]
    decide +kernel
  | .maybe w, h => by
    have q := W.lay hz w h
    simp only [W.data, PyData.canLay0, PyData.canLayAll0, q, Bool.and_true, Bool.and_eq_true, and_true]
    decide +kernel
  | .ahead w, h => by
    have q := W.lay hz w h
    simp only [W.data, PyData.canLay0, PyData.canLayAll0, q, Bool.and_true, Bool.and_eq_true, and_true]
    decide +kernel
  | .unless w, h => by
    have q := W.lay hz w h
    simp only [W.data, PyData.canLay0, PyData.canLayAll0, q, Bool.and_true, Bool.and_eq_true, and_true]
    decide +kernel
theorem W.lays {z : List Nat} (hz : Az z) : ∀ ws : List W, W.wfs z ws → PyData.canLayAll0 (W.datas ws) = true
  | [], _ => rfl
  | w :: ws, h => by
    simp only [W.datas, PyData.canLayAll0, W.lay hz w h.1, W.lays hz ws h.2, Bool.and_self]
end
theorem W.shaped_list {z : List Nat} (hz : Az z) {ws : List W} (h : W.wfs z ws) (hs : W.sizes ws ≤ 31) : SeqAt.shaped (.list (W.datas ws)) = true := by
  unfold SeqAt.shaped
  have d := W.depth_datas ws
  rw [Bool.and_eq_true]
  refine ⟨W.lays hz ws h, decide_eq_true ?_⟩
  simp only [PyData.depth]
  omega
theorem datas_empty (ws : List W) : (W.datas ws).isEmpty = ws.isEmpty := by cases ws <;> rfl
end Wv
namespace Wv
open PySem PySem.Spec PyProof.Rows L2
def top (i : Nat) : Stmt := PySem.Challenge.pw_waystaken_k15_whole_ends_going_back.main.body.getD i (.Pass ⟨0, 0, 0, 0⟩)
/-! ### the source of draws: what holds of it, whatever it draws -/
abbrev kC : Key := .inr (Str.ofString "cells")
abbrev kA : Key := .inr (Str.ofString "at")
abbrev kL : Key := .inr (Str.ofString "left")
def penF (l : Addr) (a b : Int) : List (Key × V) := [(kC, .ref l), (kA, .int a), (kL, .int b)]
theorem k12 : ¬ (kC = kA) := by decide
theorem k13 : ¬ (kC = kL) := by decide
theorem k23 : ¬ (kA = kL) := by decide
theorem k32 : ¬ (kL = kA) := by decide
theorem pen_cells (l : Addr) (a b : Int) : valV (penF l a b) kC = some (.ref l) := by
  unfold penF; rw [valV_pos rfl]
theorem pen_at (l : Addr) (a b : Int) : valV (penF l a b) kA = some (.int a) := by
  unfold penF; rw [valV_neg k12, valV_pos rfl]
theorem pen_left (l : Addr) (a b : Int) : valV (penF l a b) kL = some (.int b) := by
  unfold penF; rw [valV_neg k13, valV_neg k23, valV_pos rfl]
theorem put_at (l : Addr) (a b c : Int) : putK (penF l a b) kA (.int c) = penF l c b := by
  unfold putK
  rw [valV_any, pen_at, if_pos (show (some (V.int a)).isSome = true from rfl)]
  have h1 := k12; have h2 := k32
  unfold penF
  rw [List.map_cons, List.map_cons, List.map_cons, List.map_nil, if_neg h1, if_pos rfl, if_neg h2]
theorem put_left (l : Addr) (a b c : Int) : putK (penF l a b) kL (.int c) = penF l a c := by
  unfold putK
  rw [valV_any, pen_left, if_pos (show (some (V.int b)).isSome = true from rfl)]
  have h1 := k13; have h2 := k23
  unfold penF
  rw [List.map_cons, List.map_cons, List.map_cons, List.map_nil, if_neg h1, if_neg h2, if_pos rfl]
theorem get_cells {H : Hp} {p l : Addr} {a b : Int} (h : H p = some (.dK (penF l a b))) : DGet H p (.str "cells") (some (.ref l)) := by
  rw [← pen_cells l a b]; exact DGet.k (k := kC) h
theorem get_at {H : Hp} {p l : Addr} {a b : Int} (h : H p = some (.dK (penF l a b))) : DGet H p (.str "at") (some (.int a)) := by
  rw [← pen_at l a b]; exact DGet.k (k := kA) h
theorem get_left {H : Hp} {p l : Addr} {a b : Int} (h : H p = some (.dK (penF l a b))) : DGet H p (.str "left") (some (.int b)) := by
  rw [← pen_left l a b]; exact DGet.k (k := kL) h
theorem dput_at {H : Hp} {p l : Addr} {a b : Int} (c : Int) (h : H p = some (.dK (penF l a b))) : DPut H p (.str "at") (.int c) (upd H p (.dK (penF l c b))) := by
  rw [← put_at l a b c]; exact DPut.k (k := kA) h (by show 3 < sizeLine; decide)
theorem dput_left {H : Hp} {p l : Addr} {a b : Int} (c : Int) (h : H p = some (.dK (penF l a b))) : DPut H p (.str "left") (.int c) (upd H p (.dK (penF l a c))) := by
  rw [← put_left l a b c]; exact DPut.k (k := kL) h (by show 3 < sizeLine; decide)
/-- a pen: its dict, the list of its cells -/
structure Pen where
  d : Addr
  l : Addr
/-- the pen p, of which at most n draws have been made -/
structure PenAt (K : PySem.W.Frag) (H : Hp) (p : Pen) (n : Nat) : Prop where
  ex : ∃ (a b : Int) (cs : List Int), H p.d = some (.dK (penF p.l a b)) ∧ SqL K H p.l (cs.map V.int) ∧ cs.length ≤ 63 ∧ 0 ≤ a ∧ a ≤ (n : Int)
theorem PenAt.same {K : PySem.W.Frag} {H H' : Hp} {p : Pen} {n : Nat} (h : PenAt K H p n) (s : Same H H') : PenAt K H' p n := by
  obtain ⟨a, b, cs, h1, h2, h3, h4⟩ := h.ex
  exact ⟨a, b, cs, s _ _ h1, s.seq h2, h3, h4⟩
theorem PenAt.mono {K : PySem.W.Frag} {H : Hp} {p : Pen} {n m : Nat} (h : PenAt K H p n) (q : n ≤ m) : PenAt K H p m := by
  obtain ⟨a, b, cs, h1, h2, h3, h4, h5⟩ := h.ex
  exact ⟨a, b, cs, h1, h2, h3, h4, by omega⟩
theorem Keep.pen {H : Hp} {p l : Addr} {a b a' b' : Int} (h : H p = some (.dK (penF l a b))) : Keep H (upd H p (.dK (penF l a' b'))) := fun c o e => by
  by_cases z : c = p
  · rw [z, h] at e
    exact .inr ⟨_, _, (Option.some.inj e).symm, by rw [z]; exact upd_same⟩
  · rw [upd_ne z]; exact .inl e
theorem PenAt.mk' {K : PySem.W.Frag} {H : Hp} {p : Pen} {a b a' b' : Int} {cs : List Int} {n : Nat} (h : H p.d = some (.dK (penF p.l a b))) (hs : SqL K H p.l (cs.map V.int)) (hl : cs.length ≤ 63) (h0 : 0 ≤ a') (h1 : a' ≤ (n : Int)) :
    PenAt K (upd H p.d (.dK (penF p.l a' b'))) p n := ⟨a', b', cs, upd_same, (Keep.pen h).seq hs, hl, h0, h1⟩
/-- a list that was new is written -/
theorem PenAt.put {K : PySem.W.Frag} {H H' : Hp} {p : Pen} {n m : Nat} {q : Addr} {xs ys : List V} (h0 : PenAt K H p m) (hq : H q = none) (h : PenAt K H' p n) (k : Keep H H') (e : H' q = some (.lst xs)) : PenAt K (upd H' q (.lst ys)) p n := by
  obtain ⟨_, _, cs, _, h2, h3, _⟩ := h0.ex
  obtain ⟨a, b, _, h1, _, _, h4, h5⟩ := h.ex
  have hpq : p.d ≠ q := ne_of h1 e (by intro z; cases z)
  exact ⟨a, b, cs, by rw [upd_ne hpq]; exact h1, (Keep.put hq k _).seq h2, h3, h4, h5⟩
/-! ### their promises -/
def LIM : Nat := 1000000000000
def spPen (K : PySem.W.Frag) : Sp := fun vs H Q _ => ∃ (a : Addr) (ns : List Int), vs = [.ref a] ∧ SqL K H a (ns.map V.int) ∧ ns.length ≤ 63 ∧ ∀ (p : Pen) (H' : Hp), Same H H' → PenAt K H' p 0 → Q (.ref p.d) H'
def spDraw (K : PySem.W.Frag) : Sp := fun vs H Q _ => ∃ (p : Pen) (m : Int) (n : Nat), vs = [.ref p.d, .int m] ∧ PenAt K H p n ∧ n < LIM ∧ 0 < m ∧ m < 1073741824 ∧
  ∀ (d : Int) (H' : Hp), 0 ≤ d → d < m → Keep H H' → PenAt K H' p (n + 1) → Q (.int d) H'
def spPick (K : PySem.W.Frag) : Sp := fun vs H Q _ => ∃ (p : Pen) (y : V) (n : Nat), vs = [.ref p.d, y] ∧ PenAt K H p n ∧ n < LIM ∧
  ((∃ (q : Addr) (xs : List V), y = .ref q ∧ SqL K H q xs ∧ 0 < xs.length ∧ xs.length ≤ 1000 ∧ ∀ (v : V) (H' : Hp), v ∈ xs → Keep H H' → PenAt K H' p (n + 1) → Q v H') ∨
   (∃ (z : List Nat), y = .str (tx z) ∧ 0 < z.length ∧ z.length ≤ 1000 ∧ ∀ (c : Nat) (H' : Hp), c ∈ z → Keep H H' → PenAt K H' p (n + 1) → Q (.str (sg c)) H'))
section
variable {P : Program} {w : World} {K : PySem.W.Frag} {mg : Str → Option Value} {base : Heap}
theorem dpAll_ints {H : Hp} : ∀ ns : List Int, DpAll K H (ns.map V.int) (ns.map PyData.int)
  | [] => .nil
  | n :: r => .cons (.int n) (dpAll_ints r)
theorem canLay_ints : ∀ ns : List Int, PyData.canLayAll0 (ns.map PyData.int) = true
  | [] => rfl
  | n :: r => by
    show (PyData.canLay0 (.int n) && PyData.canLayAll0 (r.map PyData.int)) = true
    rw [canLay_ints r]; rfl
theorem depth_ints : ∀ ns : List Int, PyData.depthAll (ns.map PyData.int) ≤ 1
  | [] => by decide
  | n :: r => by
    have h := depth_ints r
    simp only [List.map_cons, PyData.depthAll, PyData.depth]
    omega
theorem shaped_ints (ns : List Int) : SeqAt.shaped (.list (ns.map PyData.int)) = true := by
  unfold SeqAt.shaped
  have h := depth_ints ns
  rw [Bool.and_eq_true]
  refine ⟨?_, decide_eq_true ?_⟩
  · show PyData.canLayAll0 (ns.map PyData.int) = true
    exact canLay_ints ns
  · simp only [PyData.depth]
    omega
theorem eqv_nil (ds : List PyData) : PyData.eqv (.list ds) (.list []) = ds.isEmpty := by
  cases ds <;> simp [PyData.eqv, PyData.eqvAll]
theorem ints_get {ns : List Int} {i : Nat} {v : V} (h : (ns.map V.int)[i]? = some v) : ∃ z, v = .int z := by
  rw [List.getElem?_map] at h
  cases e : ns[i]? with
  | none => rw [e] at h; cases h
  | some z => rw [e] at h; exact ⟨z, (Option.some.inj h).symm⟩
theorem cmul_fmod (x : Int) {m : Int} (h0 : 0 < m) (h1 : m < 18446744073709551616) (j : Int) : CMul (x.fmod m) j := by
  have h := fmod_in x h0
  exact .inl ⟨by omega, by omega⟩
abbrev s_l_pen : Stmt := top 62
theorem sc_l_pen : FnScope ["_law_script"] ["_law_script"] (defScope s_l_pen) := ⟨rfl, rfl, rfl, by decide +kernel, rfl, by decide +kernel, by decide +kernel⟩
theorem cutV_len (xs : List V) (lo hi : Option Int) : (cutV xs lo hi).length ≤ xs.length := by
  unfold cutV
  rw [List.length_take, List.length_drop]
  omega
theorem cutV_ints (ns : List Int) (lo hi : Option Int) : ∃ cs : List Int, cutV (ns.map V.int) lo hi = cs.map V.int ∧ cs.length ≤ ns.length := by
  unfold cutV
  refine ⟨(ns.drop (HT.sIx (ns.map V.int).length 0 lo)).take (HT.sIx (ns.map V.int).length (ns.map V.int).length hi - HT.sIx (ns.map V.int).length 0 lo), by rw [List.map_take, List.map_drop], ?_⟩
  rw [List.length_take, List.length_drop]
  omega
theorem mergePen (l : Addr) : mergeK [] (penF l 0 0) = penF l 0 0 := by
  have e1 : putK ([] : List (Key × V)) kC (.ref l) = [(kC, V.ref l)] := putK_new _ rfl
  have e2 : putK ([(kC, V.ref l)] : List (Key × V)) kA (.int 0) = [(kC, V.ref l), (kA, V.int 0)] := putK_new _ (by rw [valV_neg k12]; rfl)
  have e3 : putK ([(kC, V.ref l), (kA, V.int 0)] : List (Key × V)) kL (.int 0) = penF l 0 0 := putK_new _ (by rw [valV_neg k13, valV_neg k23]; rfl)
  show putK (putK (putK ([] : List (Key × V)) kC (.ref l)) kA (.int 0)) kL (.int 0) = _
  rw [e1, e2, e3]
theorem d_l_pen (h : Here K mg "_law_pen" s_l_pen ["_law_script"]) (B : Bs mg) : DefOk P w K mg base 1 "_law_pen" ["_law_script"] (spPen K) := by
  have B_list := B.list
  refine h.ok sc_l_pen (fun vs H Q E h => by obtain ⟨a, ns, rfl, _⟩ := h; rfl) (fun f cdv A outer s H vs Q E hr h => ?_)
  obtain ⟨a, ns, rfl, hS, hl, k⟩ := h
  refine ⟨_, (pss_one (ps_ret (pe_disp (pps_cons pe_str (pe_callTy call_list_of rfl B_list (by decide +kernel) (pa_cons (pe_slice sl_list (pv 0) po_none (po_some pe_int)) pa_nil)) (pps_cons pe_str pe_int (pps_cons pe_str pe_int pps_nil))) (by rfl) (by rfl) (fun z => by cases z) (by decide)))), ?_⟩
  intro p hp
  have s0 : Same H (upd H p (.dK [])) := Same.new hp _
  refine ⟨_, rfl, _, rfl, a, _, rfl, s0.seq hS, fun q hq => ?_⟩
  obtain ⟨cs, ec, hc⟩ := cutV_ints ns none (some 63)
  have npq : p ≠ q := ne_of_none upd_same hq
  refine ⟨q, _, rfl, .inl (SqL.of upd_same), fun l hl' => ?_⟩
  have npl : p ≠ l := ne_of_none (by rw [upd_ne npq]; exact upd_same) hl'
  refine ⟨by rw [upd_ne npl, upd_ne npq, upd_same], penF l 0 0, rfl, by show 3 ≤ 15; decide, ?_⟩
  rw [mergePen]
  refine k ⟨p, l⟩ _ ?_ ⟨0, 0, cs, upd_same, ?_, by omega, by omega, by omega⟩
  · exact Same.put hp ((s0.trans (Same.new hq _)).trans (Same.new hl' _)) _
  · refine SqL.of ?_
    rw [upd_ne (Ne.symm npl), upd_same, ec]
abbrev s_l_draw : Stmt := top 63
theorem sc_l_draw : FnScope ["_law_pen_here", "_law_many", "_law_digit", "_law_at", "_law_cell", "_law_mixed"] ["_law_pen_here", "_law_many"] (defScope s_l_draw) := ⟨rfl, rfl, rfl, by decide +kernel, rfl, by decide +kernel, by decide +kernel⟩
theorem d_l_draw (h : Here K mg "_law_draw" s_l_draw ["_law_pen_here", "_law_many"]) (B : Bs mg) : DefOk P w K mg base 1 "_law_draw" ["_law_pen_here", "_law_many"] (spDraw K) := by
  have B_int := B.int
  have B_len := B.len
  refine h.ok sc_l_draw (fun vs H Q E h => by obtain ⟨a, ns, n, rfl, _⟩ := h; rfl) (fun f cdv A outer s H vs Q E hr h => ?_)
  obtain ⟨p, m, n, rfl, hP, hn, hm0, hm1, k⟩ := h
  obtain ⟨a, b, cs, hp, hS, hc, ha0, ha1⟩ := hP.ex
  have hu := hu_of hr
  have hnl : (n : Int) < 1000000000000 := by unfold LIM at hn; omega
  have hmn : m ≠ 0 := by omega
  have hdiv : CDivN b m := ⟨hmn, by omega⟩
  refine ⟨_, (pss_cons (ps_if (pt_cmpR op_ge (pe_dget hu (pv 0) pe_str (fun _ _ => rfl)) (pv 1) (nomark _)) (pss_cons (ps_set (i := 2) sc_l_draw.nd rfl (Or.inl rfl) (pe_op op_modN (pe_callTy call_int1 rfl B_int (by decide +kernel) (pa_cons (pe_dget hu (pv 0) pe_str (fun _ _ => rfl)) pa_nil)) (pv 1)))
  (pss_cons (ps_dput hu (pv 0) pe_str (pe_op op_fdivN (pe_dget hu (pv 0) pe_str (fun _ _ => rfl)) (pv 1)) rfl)
  (pss_one (ps_ret (pv 2))))) pss_nil)
  (pss_cons (ps_set (i := 3) sc_l_draw.nd rfl (Or.inl rfl) (pe_dget hu (pv 0) pe_str (fun _ _ => rfl)))
  (pss_cons (ps_dput hu (pv 0) pe_str (pe_op op_add (pv 3) pe_int) rfl)
  (pss_cons (ps_set (i := 4) sc_l_draw.nd rfl (Or.inl rfl) (pe_op op_add (pe_op op_mul pe_int (pv 3)) pe_int))
  (pss_cons (ps_if (pt_cmpR (op_neD hr.units) (pe_dget hu (pv 0) pe_str (fun _ _ => rfl)) (pe_lst pa_nil) (nomark _)) (pss_one (ps_set (i := 4) sc_l_draw.nd rfl (Or.inl rfl) (pe_ix ix_list (pe_dget hu (pv 0) pe_str (fun _ _ => rfl)) (pe_op op_modN (pe_callTy call_int1 rfl B_int (by decide +kernel) (pa_cons (pv 3) pa_nil)) (pe_callB call_len_seq rfl B_len PySem.boot_len (pa_cons (pe_dget hu (pv 0) pe_str (fun _ _ => rfl)) pa_nil))) (fun _ _ => rfl)))) pss_nil)
  (pss_cons (ps_if (PW.pt (pw_and (pt_cmpR op_lt (pv 3) (pe_callB call_len_seq rfl B_len PySem.boot_len (pa_cons (pe_dget hu (pv 0) pe_str (fun _ _ => rfl)) pa_nil)) (nomark _)) (pw_and1 (pt_cmpR op_ge (pv 4) (pe_op op_pow pe_int pe_int) (nomark _))))) (pss_cons (ps_dput hu (pv 0) pe_str (pe_op op_fdivN (pe_op op_sub (pv 4) (pe_op op_pow pe_int pe_int)) (pv 1)) rfl)
  (pss_one (ps_ret (pe_op op_modN (pe_callTy call_int1 rfl B_int (by decide +kernel) (pa_cons (pe_op op_sub (pv 4) (pe_op op_pow pe_int pe_int)) pa_nil)) (pv 1))))) pss_nil)
  (pss_cons (ps_set (i := 5) sc_l_draw.nd rfl (Or.inl rfl) (pe_op op_add (pe_op op_add (pe_op op_add (pe_op op_mul (pe_op op_modN (pe_callTy call_int1 rfl B_int (by decide +kernel) (pa_cons (pv 4) pa_nil)) pe_int) pe_int) (pe_op op_mul (pe_op op_mul pe_int (pv 3)) (pv 3))) (pe_op op_mul pe_int (pv 3))) pe_int))
  (pss_cons (ps_set (i := 5) sc_l_draw.nd rfl (Or.inl rfl) (pe_op op_modN (pe_callTy call_int1 rfl B_int (by decide +kernel) (pa_cons (pv 5) pa_nil)) pe_int))
  (pss_cons (ps_set (i := 5) sc_l_draw.nd rfl (Or.inl rfl) (pe_op op_modN (pe_callTy call_int1 rfl B_int (by decide +kernel) (pa_cons (pe_op op_mul (pv 5) (pe_op op_add (pv 5) pe_int)) pa_nil)) pe_int))
  (pss_one (ps_ret (pe_op op_modN (pe_callTy call_int1 rfl B_int (by decide +kernel) (pa_cons (pe_op op_fdivN (pe_op op_modN (pe_callTy call_int1 rfl B_int (by decide +kernel) (pa_cons (pe_op op_mul (pv 5) (pv 5)) pa_nil)) pe_int) pe_int) pa_nil)) (pv 1))))))))))))), ?_⟩
  -- if pen["left"] >= many
  refine ⟨_, rfl, p.d, _, rfl, get_left hp, _, rfl, _, _, rfl, rfl, _, rfl, ?_⟩
  refine ite2 (fun _ => ?_) (fun _ => ?_)
  · refine ⟨_, rfl, p.d, _, rfl, get_left hp, .inl ⟨_, rfl, _, rfl, _, _, rfl, rfl, hmn, ?_⟩⟩
    refine ⟨_, rfl, p.d, _, rfl, get_left hp, _, rfl, _, _, rfl, rfl, ⟨hmn, by omega⟩, _, rfl, p.d, _, rfl, dput_left _ hp, _, rfl, ?_⟩
    exact k _ _ (fmod_in _ hm0).1 (fmod_in _ hm0).2 (Keep.pen hp) (.mk' hp hS hc ha0 (by omega))
  · refine ⟨_, rfl, p.d, _, rfl, get_at hp, ?_⟩
    refine ⟨_, rfl, _, _, rfl, rfl, _, rfl, p.d, _, rfl, dput_at _ hp, ?_⟩
    have hp1 : upd H p.d (.dK (penF p.l (a + 1) b)) p.d = some (.dK (penF p.l (a + 1) b)) := upd_same
    have hS1 := (Keep.pen (a' := a + 1) (b' := b) hp).seq hS
    refine ⟨_, rfl, _, _, rfl, rfl, .inl ⟨by decide, by decide⟩, _, _, rfl, rfl, ?_⟩
    refine ⟨_, rfl, p.d, _, rfl, get_cells hp1, ?_⟩
    refine ⟨by show 0 ≤ sizeLine; decide, fun q hq => ?_⟩
    have s1 := Same.new hq (.lst [])
    have npq : p.d ≠ q := ne_of_none hp1 hq
    have hp2 := s1 _ _ hp1
    have hS2 := s1.seq hS1
    refine ⟨.list (cs.map PyData.int), .list [], .lst hS2 (dpAll_ints cs), .lst (SqL.of upd_same) .nil, shaped_ints cs, by decide, _, rfl, ?_⟩
    rw [eqv_nil]
    have hk : Keep H (upd (upd H p.d (.dK (penF p.l (a + 1) b))) q (.lst [])) := (Keep.pen hp).trans (.of s1)
    have hP2 : PenAt K (upd (upd H p.d (.dK (penF p.l (a + 1) b))) q (.lst [])) p (n + 1) := ⟨a + 1, b, cs, hp2, hS2, hc, by omega, by omega⟩
    have hlen : ((cs.map V.int).length : Int) ≤ 63 := by rw [List.length_map]; omega
    refine ite2 (fun e => ?_) (fun _ => ?_)
    · have hpos : 0 < ((cs.map V.int).length : Int) := by
        cases cs with
        | nil => simp at e
        | cons c r => rw [List.length_map, List.length_cons]; omega
      have hb := fmod_in a hpos
      obtain ⟨v, hv1, hv2⟩ := atI_of (xs := cs.map V.int) hb.1 hb.2
      obtain ⟨z, rfl⟩ := ints_get hv1
      refine ⟨_, rfl, p.d, _, rfl, get_cells hp2, ?_⟩
      walk_at "rd"
      refine ⟨p.d, _, rfl, get_cells hp2, _, _, rfl, .inl hS2, ?_⟩
      walk_at "rd"
      refine ⟨by omega, _, _, _, _, rfl, rfl, hS2, hv2, ?_⟩
      walk_at "rd"
      refine ⟨p.d, _, rfl, get_cells hp2, _, _, rfl, .inl hS2, ?_⟩
      walk_at "rd"
      refine ite2 (fun _ => ?_) (fun _ => ?_)
      · walk_at "rd"
        refine ⟨⟨by decide, by decide, by decide⟩, ?_⟩
        walk_at "rd"
        refine ite2 (fun _ => ?_) (fun _ => ?_)
        · walk_at "rd"
          refine ⟨⟨by decide, by decide, by decide⟩, ?_⟩
          walk_at "rd"
          refine ⟨⟨hmn, by omega⟩, ?_⟩
          walk_at "rd"
          refine ⟨p.d, _, rfl, dput_left _ hp2, ?_⟩
          walk_at "rd"
          refine ⟨⟨by decide, by decide, by decide⟩, ?_⟩
          walk_at "rd"
          refine ⟨hmn, ?_⟩
          exact k _ _ (fmod_in _ hm0).1 (fmod_in _ hm0).2 (hk.trans (Keep.pen hp2)) (.mk' hp2 hS2 hc (by omega) (by omega))
        · walk_at "rd"
          refine ⟨show (2147483587 : Int) ≠ 0 by decide, ?_⟩
          walk_at "rd"
          refine ⟨.inr ⟨by decide, by decide⟩, ?_⟩
          walk_at "rd"
          refine ⟨.inl ⟨by decide, by decide⟩, ?_⟩
          walk_at "rd"
          refine ⟨.inr ⟨by omega, by omega⟩, ?_⟩
          walk_at "rd"
          refine ⟨.inl ⟨by decide, by decide⟩, ?_⟩
          walk_at "rd"
          refine ⟨show (2147483629 : Int) ≠ 0 by decide, ?_⟩
          walk_at "rd"
          refine ⟨cmul_fmod _ (by decide) (by decide) _, ?_⟩
          walk_at "rd"
          refine ⟨show (2147483549 : Int) ≠ 0 by decide, ?_⟩
          walk_at "rd"
          refine ⟨cmul_fmod _ (by decide) (by decide) _, ?_⟩
          walk_at "rd"
          refine ⟨show (2147483579 : Int) ≠ 0 by decide, ?_⟩
          walk_at "rd"
          refine ⟨⟨by decide, by decide⟩, ?_⟩
          walk_at "rd"
          refine ⟨hmn, ?_⟩
          exact k _ _ (fmod_in _ hm0).1 (fmod_in _ hm0).2 hk hP2
      · walk_at "rd"
        refine ⟨show (2147483587 : Int) ≠ 0 by decide, ?_⟩
        walk_at "rd"
        refine ⟨.inr ⟨by decide, by decide⟩, ?_⟩
        walk_at "rd"
        refine ⟨.inl ⟨by decide, by decide⟩, ?_⟩
        walk_at "rd"
        refine ⟨.inr ⟨by omega, by omega⟩, ?_⟩
        walk_at "rd"
        refine ⟨.inl ⟨by decide, by decide⟩, ?_⟩
        walk_at "rd"
        refine ⟨show (2147483629 : Int) ≠ 0 by decide, ?_⟩
        walk_at "rd"
        refine ⟨cmul_fmod _ (by decide) (by decide) _, ?_⟩
        walk_at "rd"
        refine ⟨show (2147483549 : Int) ≠ 0 by decide, ?_⟩
        walk_at "rd"
        refine ⟨cmul_fmod _ (by decide) (by decide) _, ?_⟩
        walk_at "rd"
        refine ⟨show (2147483579 : Int) ≠ 0 by decide, ?_⟩
        walk_at "rd"
        refine ⟨⟨by decide, by decide⟩, ?_⟩
        walk_at "rd"
        refine ⟨hmn, ?_⟩
        exact k _ _ (fmod_in _ hm0).1 (fmod_in _ hm0).2 hk hP2
    · walk_at "rd"
      refine ⟨p.d, _, rfl, get_cells hp2, _, _, rfl, .inl hS2, ?_⟩
      walk_at "rd"
      refine ite2 (fun _ => ?_) (fun _ => ?_)
      · walk_at "rd"
        refine ⟨⟨by decide, by decide, by decide⟩, ?_⟩
        walk_at "rd"
        refine ite2 (fun _ => ?_) (fun _ => ?_)
        · walk_at "rd"
          refine ⟨⟨by decide, by decide, by decide⟩, ?_⟩
          walk_at "rd"
          refine ⟨⟨hmn, by omega⟩, ?_⟩
          walk_at "rd"
          refine ⟨p.d, _, rfl, dput_left _ hp2, ?_⟩
          walk_at "rd"
          refine ⟨⟨by decide, by decide, by decide⟩, ?_⟩
          walk_at "rd"
          refine ⟨hmn, ?_⟩
          exact k _ _ (fmod_in _ hm0).1 (fmod_in _ hm0).2 (hk.trans (Keep.pen hp2)) (.mk' hp2 hS2 hc (by omega) (by omega))
        · walk_at "rd"
          refine ⟨show (2147483587 : Int) ≠ 0 by decide, ?_⟩
          walk_at "rd"
          refine ⟨.inr ⟨by decide, by decide⟩, ?_⟩
          walk_at "rd"
          refine ⟨.inl ⟨by decide, by decide⟩, ?_⟩
          walk_at "rd"
          refine ⟨.inr ⟨by omega, by omega⟩, ?_⟩
          walk_at "rd"
          refine ⟨.inl ⟨by decide, by decide⟩, ?_⟩
          walk_at "rd"
          refine ⟨show (2147483629 : Int) ≠ 0 by decide, ?_⟩
          walk_at "rd"
          refine ⟨cmul_fmod _ (by decide) (by decide) _, ?_⟩
          walk_at "rd"
          refine ⟨show (2147483549 : Int) ≠ 0 by decide, ?_⟩
          walk_at "rd"
          refine ⟨cmul_fmod _ (by decide) (by decide) _, ?_⟩
          walk_at "rd"
          refine ⟨show (2147483579 : Int) ≠ 0 by decide, ?_⟩
          walk_at "rd"
          refine ⟨⟨by decide, by decide⟩, ?_⟩
          walk_at "rd"
          refine ⟨hmn, ?_⟩
          exact k _ _ (fmod_in _ hm0).1 (fmod_in _ hm0).2 hk hP2
      · walk_at "rd"
        refine ⟨show (2147483587 : Int) ≠ 0 by decide, ?_⟩
        walk_at "rd"
        refine ⟨.inr ⟨by decide, by decide⟩, ?_⟩
        walk_at "rd"
        refine ⟨.inl ⟨by decide, by decide⟩, ?_⟩
        walk_at "rd"
        refine ⟨.inr ⟨by omega, by omega⟩, ?_⟩
        walk_at "rd"
        refine ⟨.inl ⟨by decide, by decide⟩, ?_⟩
        walk_at "rd"
        refine ⟨show (2147483629 : Int) ≠ 0 by decide, ?_⟩
        walk_at "rd"
        refine ⟨cmul_fmod _ (by decide) (by decide) _, ?_⟩
        walk_at "rd"
        refine ⟨show (2147483549 : Int) ≠ 0 by decide, ?_⟩
        walk_at "rd"
        refine ⟨cmul_fmod _ (by decide) (by decide) _, ?_⟩
        walk_at "rd"
        refine ⟨show (2147483579 : Int) ≠ 0 by decide, ?_⟩
        walk_at "rd"
        refine ⟨⟨by decide, by decide⟩, ?_⟩
        walk_at "rd"
        refine ⟨hmn, ?_⟩
        exact k _ _ (fmod_in _ hm0).1 (fmod_in _ hm0).2 hk hP2
end
end Wv
namespace Wv
open PySem PySem.Spec PyProof.Rows L2
/-! ### texts as codes -/
theorem tx_len (l : List Nat) : (tx l).length = l.length := by simp [tx, Str.length]
theorem tx_app (a b : List Nat) : tx a ++ tx b = tx (a ++ b) := by
  show Str.mk (a.toArray ++ b.toArray) = Str.mk (a ++ b).toArray
  simp
theorem tx_list (l : List Nat) : (tx l).cps.toList = l := rfl
theorem tx_take (l : List Nat) (k : Nat) : cutS (tx l) none (some (k : Int)) = tx (l.take k) := by
  unfold cutS
  rw [tx_len, tx_list, HT.sIx_none, HT.sIx_nat, List.drop_zero, Nat.sub_zero]
  unfold tx
  congr 2
  rw [List.take_eq_take_iff]
  omega
theorem tx_drop (l : List Nat) (k : Nat) : cutS (tx l) (some (k : Int)) none = tx (l.drop k) := by
  unfold cutS
  rw [tx_len, tx_list, HT.sIx_none, HT.sIx_nat]
  unfold tx
  congr 2
  by_cases h : k ≤ l.length
  · rw [Nat.min_eq_left h, List.take_of_length_le (by rw [List.length_drop]; omega)]
  · rw [Nat.min_eq_right (by omega), Nat.sub_self, List.take_zero, List.drop_eq_nil_of_le (by omega)]
abbrev alpha : List Nat := [97, 98, 99, 100, 101, 102, 103, 104, 105, 106, 107, 108, 109, 110, 111, 112, 113, 114, 115, 116, 117, 118, 119, 120, 121, 122]
theorem alpha_tx : Str.ofString "abcdefghijklmnopqrstuvwxyz" = tx alpha := by decide +kernel
theorem empty_tx : Str.ofString "" = tx [] := by decide +kernel
theorem alpha_az : Az alpha := by decide
theorem alpha_nd : alpha.Nodup := by decide
theorem perm_move {l fd : List Nat} {k : Nat} (h : k < l.length) (q : (fd ++ l).Perm alpha) : ((fd ++ [l[k]]) ++ (l.take k ++ l.drop (k + 1))).Perm alpha := by
  refine List.Perm.trans ?_ q
  rw [List.append_assoc]
  refine List.Perm.append_left fd ?_
  have e : l = l.take k ++ (l[k] :: l.drop (k + 1)) := by rw [← List.drop_eq_getElem_cons h, List.take_append_drop]
  refine List.Perm.trans ?_ (List.Perm.of_eq e.symm)
  exact (List.perm_middle (a := l[k]) (l₁ := l.take k) (l₂ := l.drop (k + 1))).symm
def spSigns (K : PySem.W.Frag) : Sp := fun vs H Q _ => ∃ (p : Pen) (m n : Nat), vs = [.ref p.d, .int (m : Int)] ∧ PenAt K H p n ∧ n + 30 < LIM ∧ m ≤ 20 ∧
  ∀ (z : List Nat) (H' : Hp), z.length = m → z.Nodup → Az z → Keep H H' → PenAt K H' p (n + m) → Q (.str (tx z)) H'
/-- leaves: the draws that they may make are counted -/
def spLeaf (K : PySem.W.Frag) : Sp := fun vs H Q _ => ∃ (p : Pen) (z : List Nat) (n : Nat), vs = [.ref p.d, .str (tx z)] ∧ PenAt K H p n ∧ n + 30 < LIM ∧ 0 < z.length ∧ z.length ≤ 100 ∧
  ∀ (v : V) (w : W) (H' : Hp), w.size = 1 → w.wf z → WayAt (newer H H') v w → Keep H H' → PenAt K H' p (n + 2) → Q v H'
def spWayOf (K : PySem.W.Frag) (s : Nat) : Sp := fun vs H Q _ => ∃ (p : Pen) (z : List Nat) (m n : Nat), vs = [.ref p.d, .str (tx z), .int (m : Int)] ∧ PenAt K H p n ∧ n + 4 * m + 30 < LIM ∧ 0 < z.length ∧ z.length ≤ 100 ∧ Az z ∧ 0 < m ∧ m ≤ s ∧ m ≤ 30 ∧
  ∀ (v : V) (w : W) (H' : Hp), w.size = m → w.wf z → WayAt (newer H H') v w → Keep H H' → PenAt K H' p (n + (4 * m - 2)) → Q v H'
def spWay (K : PySem.W.Frag) : Sp := fun vs H Q _ => ∃ (p : Pen) (z : List Nat) (m n : Nat), vs = [.ref p.d, .str (tx z), .int (m : Int)] ∧ PenAt K H p n ∧ n + 300 < LIM ∧ 0 < z.length ∧ z.length ≤ 100 ∧ Az z ∧ 0 < m ∧ m ≤ 30 ∧
  ∀ (v : V) (w : W) (H' : Hp), w.size ≤ m → w.wf z → WayAt (newer H H') v w → Keep H H' → PenAt K H' p (n + 200) → Q v H'
section
variable {P : Program} {w : World} {K : PySem.W.Frag} {mg : Str → Option Value} {base : Heap}
abbrev s_l_pick : Stmt := top 64
theorem sc_l_pick : FnScope ["_law_pen_here", "_law_items"] ["_law_pen_here", "_law_items"] (defScope s_l_pick) := ⟨rfl, rfl, rfl, by decide +kernel, rfl, by decide +kernel, by decide +kernel⟩
theorem d_l_pick (h : Here K mg "_law_pick" s_l_pick ["_law_pen_here", "_law_items"]) (B : Bs mg) (G_l_draw : DefOk P w K mg base 1 "_law_draw" ["_law_pen_here", "_law_many"] (spDraw K)) : DefOk P w K mg base 2 "_law_pick" ["_law_pen_here", "_law_items"] (spPick K) := by
  have B_len := B.len
  refine h.ok sc_l_pick (fun vs H Q E h => by obtain ⟨a, q, n, rfl, _⟩ := h; rfl) (fun f cdv A outer s H vs Q E hr h => ?_)
  obtain ⟨p, y, n, rfl, hP, hn, ⟨q, xs, rfl, hS, h0, h1, k⟩ | ⟨z, rfl, h0, h1, k⟩⟩ := h
  · refine ⟨_, (pss_one (ps_ret (pe_ix (IxR.or ix_list (IxR.or ix_str ix_tup)) (pv 1) (pe_callD G_l_draw (hr.mono (by first | decide | omega)) rfl (pa_cons (pv 0) (pa_cons (pe_callB (CallR.or call_len_seq call_len_str) rfl B_len PySem.boot_len (pa_cons (pv 1) pa_nil)) pa_nil))) (fun _ _ => rfl)))), ?_⟩
    refine ⟨_, rfl, _, rfl, _, rfl, .inl ⟨q, _, rfl, .inl hS, ?_⟩⟩
    refine ⟨p, _, n, rfl, hP, hn, by omega, by omega, fun d H' d0 d1 kp hP' => ?_⟩
    obtain ⟨v, hv1, hv2⟩ := atI_of d0 d1
    exact .inl ⟨q, _, _, _, rfl, rfl, kp.seq hS, hv2, k v H' (List.mem_of_getElem? hv1) kp hP'⟩
  · have hl : (tx z).length = z.length := tx_len z
    have hz : (tx z).length ≤ sizeLine := by rw [hl]; exact Nat.le_of_lt (small' (by omega))
    refine ⟨_, (pss_one (ps_ret (pe_ix (IxR.or ix_list (IxR.or ix_str ix_tup)) (pv 1) (pe_callD G_l_draw (hr.mono (by first | decide | omega)) rfl (pa_cons (pv 0) (pa_cons (pe_callB (CallR.or call_len_seq call_len_str) rfl B_len PySem.boot_len (pa_cons (pv 1) pa_nil)) pa_nil))) (fun _ _ => rfl)))), ?_⟩
    refine ⟨_, rfl, _, rfl, _, rfl, .inr ⟨_, rfl, hz, ?_⟩⟩
    refine ⟨p, _, n, rfl, hP, hn, by rw [hl]; omega, by rw [hl]; omega, fun d H' d0 d1 kp hP' => ?_⟩
    rw [hl] at d1
    obtain ⟨j, rfl⟩ : ∃ j : Nat, d = (j : Int) := ⟨d.toNat, by omega⟩
    have hj : j < z.length := by omega
    exact .inr (.inl ⟨tx z, _, z[j], rfl, rfl, hz, atI_nat (by rw [tx_list]; exact List.getElem?_eq_getElem hj), k _ H' (List.getElem_mem hj) kp hP'⟩)
abbrev s_l_signs : Stmt := top 65
theorem sc_l_signs : FnScope ["_law_pen_here", "_law_many", "_law_left", "_law_found", "_law_turn", "_law_at"] ["_law_pen_here", "_law_many"] (defScope s_l_signs) := ⟨rfl, rfl, rfl, by decide +kernel, rfl, by decide +kernel, by decide +kernel⟩
theorem d_l_signs (h : Here K mg "_law_signs" s_l_signs ["_law_pen_here", "_law_many"]) (B : Bs mg) (G_l_draw : DefOk P w K mg base 1 "_law_draw" ["_law_pen_here", "_law_many"] (spDraw K)) : DefOk P w K mg base 2 "_law_signs" ["_law_pen_here", "_law_many"] (spSigns K) := by
  have B_len := B.len
  have B_range := B.range
  refine h.ok sc_l_signs (fun vs H Q E h => by obtain ⟨a, q, n, rfl, _⟩ := h; rfl) (fun f cdv A outer s H vs Q E hr h => ?_)
  obtain ⟨p, m, n, rfl, hP, hn, hm, k⟩ := h
  refine ⟨_, (pss_cons (ps_asg (pe_tup (pa_cons pe_str (pa_cons pe_str pa_nil))) (pg_tup rfl (pgs_cons (pg_name (i := 2) sc_l_signs.nd rfl (Or.inl rfl)) (pgs_cons (pg_name (i := 3) sc_l_signs.nd rfl (Or.inl rfl)) pgs_nil))))
  (pss_cons (ps_for PassesOwn.never rfl (pi_range1 rfl B_range (pa_cons (pv 1) pa_nil)) (pg_name (i := 4) sc_l_signs.nd rfl (Or.inl rfl))
   (pss_cons (ps_set (i := 5) sc_l_signs.nd rfl (Or.inl rfl) (pe_callD G_l_draw (hr.mono (by first | decide | omega)) rfl (pa_cons (pv 0) (pa_cons (pe_callB call_len_str rfl B_len PySem.boot_len (pa_cons (pv 2) pa_nil)) pa_nil))))
  (pss_one (ps_par (i := 3) (j := 2) rfl sc_l_signs.nd rfl rfl (by decide) rfl rfl (pa_cons (pe_op op_add_str (pv 3) (pe_ix ix_str (pv 2) (pv 5) (fun _ _ => rfl))) (pa_cons (pe_op op_add_str (pe_slice sl_str (pv 2) po_none (po_some (pv 5))) (pe_slice sl_str (pv 2) (po_some (pe_op op_add (pv 5) pe_int)) po_none)) pa_nil)) (by rfl)))))
  (pss_one (ps_ret (pv 3))))), ?_⟩
  refine ⟨by show 2 ≤ sizeLine; decide, fun t ht => ?_⟩
  have st := Same.new ht (.tup [.str (Str.ofString "abcdefghijklmnopqrstuvwxyz"), .str (Str.ofString "")])
  refine ⟨t, _, rfl, SqT.of upd_same, rfl, ?_⟩
  refine ⟨_, _, rfl, _, _, rfl, rfl, _, rfl, (m : Int), rfl, by omega, by omega, ?_⟩
  refine for_range (lo := 0) (n := (m : Int).toNat) (fun i σ H' => ∃ (lf fd : List Nat) (v4 v5 : Option V), σ = [some (.ref p.d), some (.int m), some (.str (tx lf)), some (.str (tx fd)), v4, v5] ∧ fd.length = i ∧ (fd ++ lf).Perm alpha ∧ Keep H H' ∧ PenAt K H' p (n + i)) ?_ ?_ ?_
  · exact ⟨alpha, [], none, none, by rw [← alpha_tx, ← empty_tx]; rfl, rfl, .refl _, .of st, hP.same st⟩
  · rintro i σ H1 hi ⟨lf, fd, v4, v5, rfl, hl, hp, hk, hP1⟩
    have e26 : fd.length + lf.length = 26 := by rw [← List.length_append, hp.length_eq]; rfl
    have hsz : (tx lf).length = lf.length := tx_len lf
    refine ⟨_, rfl, _, rfl, _, rfl, by rw [hsz]; exact Nat.le_of_lt (small' (by omega)), p, _, _, rfl, hP1, by omega, by rw [hsz]; omega, by rw [hsz]; omega, fun d H2 d0 d1 k2 hP2 => ?_⟩
    rw [hsz] at d1
    obtain ⟨j, rfl⟩ : ∃ j : Nat, d = (j : Int) := ⟨d.toNat, by omega⟩
    have hj : j < lf.length := by omega
    have g1 : (tx fd).length + (sg lf[j]).length ≤ sizeLine := by rw [tx_len]; exact Nat.le_of_lt (small' (by show fd.length + 1 ≤ _; omega))
    walk_at "rd"
    have hz : (tx lf).length ≤ sizeLine := by rw [tx_len]; exact Nat.le_of_lt (small' (by omega))
    refine ⟨tx lf, _, lf[j], rfl, rfl, hz, atI_nat (by rw [tx_list]; exact List.getElem?_eq_getElem hj), ?_⟩
    walk_at "rd"
    refine ⟨g1, ?_⟩
    walk_at "rd"
    refine ⟨hz, ?_⟩
    walk_at "rd"
    refine ⟨hz, ?_⟩
    walk_at "rd"
    have ej : ((j : Int) + 1) = ((j + 1 : Nat) : Int) := by omega
    have g2 : (cutS (tx lf) none (some (j : Int))).length + (cutS (tx lf) (some ((j : Int) + 1)) none).length ≤ sizeLine := by
      rw [ej, tx_take, tx_drop, tx_len, tx_len, List.length_take, List.length_drop]
      exact Nat.le_of_lt (small' (by omega))
    refine ⟨g2, ?_⟩
    walk_at "rd"
    refine ⟨_, _, rfl, lf.take j ++ lf.drop (j + 1), fd ++ [lf[j]], some (.int (0 + i)), some (.int j), ?_, by rw [List.length_append, hl]; rfl, perm_move hj hp, hk.trans k2, hP2⟩
    show [some (V.ref p.d), some (V.int m), some (V.str (cutS (tx lf) none (some (j : Int)) ++ cutS (tx lf) (some ((j : Int) + 1)) none)), some (V.str (tx fd ++ sg lf[j])), some (V.int (0 + i)), some (V.int j)] = _
    rw [ej, tx_take, tx_drop, tx_app, show sg lf[j] = tx [lf[j]] from rfl, tx_app]
  · rintro σ H1 ⟨lf, fd, v4, v5, rfl, hl, hp, hk, hP1⟩
    refine ⟨_, rfl, ?_⟩
    have nd : (fd ++ lf).Nodup := hp.nodup_iff.mpr alpha_nd
    exact k fd H1 (by omega) (List.nodup_append.mp nd).1 (fun c hc => alpha_az c (hp.mem_iff.mp (List.mem_append_left _ hc))) hk (by rw [Int.toNat_natCast] at hP1; exact hP1)
abbrev s_l_leaf : Stmt := top 66
theorem sc_l_leaf : FnScope ["_law_pen_here", "_law_signs_here", "_law_sort"] ["_law_pen_here", "_law_signs_here"] (defScope s_l_leaf) := ⟨rfl, rfl, rfl, by decide +kernel, rfl, by decide +kernel, by decide +kernel⟩
theorem d_l_leaf (h : Here K mg "_law_leaf" s_l_leaf ["_law_pen_here", "_law_signs_here"]) (B : Bs mg) (G_l_draw : DefOk P w K mg base 1 "_law_draw" ["_law_pen_here", "_law_many"] (spDraw K)) (G_l_pick : DefOk P w K mg base 2 "_law_pick" ["_law_pen_here", "_law_items"] (spPick K)) : DefOk P w K mg base 3 "_law_leaf" ["_law_pen_here", "_law_signs_here"] (spLeaf K) := by
  refine h.ok sc_l_leaf (fun vs H Q E h => by obtain ⟨a, q, n, rfl, _⟩ := h; rfl) (fun f cdv A outer s H vs Q E hr h => ?_)
  obtain ⟨p, z, n, rfl, hP, hn, hz0, hz1, k⟩ := h
  refine ⟨_, (pss_cons (ps_set (i := 2) sc_l_leaf.nd rfl (Or.inl rfl) (pe_callD G_l_draw (hr.mono (by first | decide | omega)) rfl (pa_cons (pv 0) (pa_cons pe_int pa_nil))))
  (pss_cons (ps_if (pt_cmpR op_eq (pv 2) pe_int (nomark _)) (pss_one (ps_ret (pe_tup (pa_cons pe_str pa_nil)))) pss_nil)
  (pss_one (ps_ret (pe_ifExp (pt_cmpR op_lt (pv 2) pe_int (nomark _)) (pe_tup (pa_cons pe_str pa_nil)) (pe_tup (pa_cons pe_str (pa_cons (pe_callD G_l_pick (hr.mono (by first | decide | omega)) rfl (pa_cons (pv 0) (pa_cons (pv 1) pa_nil))) pa_nil)))))))), ?_⟩
  refine ⟨_, rfl, p, 8, n, rfl, hP, by omega, by decide, by decide, fun d H1 d0 d1 k1 hP1 => ?_⟩
  walk_at "rd"
  refine ite2 (fun _ => ?_) (fun _ => ?_)
  · refine ⟨by show 1 ≤ sizeLine; decide, fun t ht => ?_⟩
    have s1 := Same.new ht (.tup [.str (Str.ofString "nothing")])
    exact k _ .nothing _ rfl trivial ⟨t, rfl, by rw [newer_at (k1.free ht)]; exact upd_same⟩ (k1.trans (.of s1)) ((hP1.same s1).mono (by omega))
  · walk_at "rd"
    refine ite2 (fun _ => ?_) (fun _ => ?_)
    · refine ⟨by show 1 ≤ sizeLine; decide, fun t ht => ?_⟩
      have s1 := Same.new ht (.tup [.str (Str.ofString "one")])
      exact k _ .one _ rfl trivial ⟨t, rfl, by rw [newer_at (k1.free ht)]; exact upd_same⟩ (k1.trans (.of s1)) ((hP1.same s1).mono (by omega))
    · walk_at "rd"
      refine ⟨p, _, n + 1, rfl, hP1, by omega, .inr ⟨z, rfl, hz0, by omega, fun c H2 hc k2 hP2 => ?_⟩⟩
      refine ⟨by show 2 ≤ sizeLine; decide, fun t ht => ?_⟩
      have s1 := Same.new ht (.tup [.str (Str.ofString "letter"), .str (sg c)])
      exact k _ (.letter c) _ rfl hc ⟨t, rfl, by rw [newer_at ((k1.trans k2).free ht)]; exact upd_same⟩ ((k1.trans k2).trans (.of s1)) (hP2.same s1)
/-- the number in a slot -/
def slotN (k : Nat) (σ : L2.St) : Nat := match σ[k]? with
  | some (some (V.int i)) => i.toNat
  | _ => 0
theorem dec_t {a b : Int} (h : decide (V.int a = V.int b) = true) : a = b := V.int.inj (of_decide_eq_true h)
theorem dec_f {a b : Int} (h : ¬ decide (V.int a = V.int b) = true) : a ≠ b := fun e => h (decide_eq_true (by rw [e]))
abbrev s_l_way_of : Stmt := top 68
theorem sc_l_way_of : FnScope ["_law_pen_here", "_law_signs_here", "_law_size", "_law_word", "_law_left", "_law_found", "_law_rest", "_law_share"] ["_law_pen_here", "_law_signs_here", "_law_size"] (defScope s_l_way_of) := ⟨rfl, rfl, rfl, by decide +kernel, rfl, by decide +kernel, by decide +kernel⟩
theorem none_way_of {f : Addr} {fd : FuncData} : FnOk P w K mg base CX0 3 f fd ["_law_pen_here", "_law_signs_here", "_law_size"] (spWayOf K 0) := by
  have no : ∀ vs H Q E, ¬ spWayOf K 0 vs H Q E := fun vs H Q E h => by
    obtain ⟨p, z, m, n, _, _, _, _, _, _, h1, h2, _⟩ := h
    omega
  exact ⟨fun vs H Q E h => absurd h (no vs H Q E), fun A outer s H args us vs Q E _ _ _ _ h => absurd h (no vs H Q E)⟩
theorem step_l_way_of (s : Nat) (h : Here K mg "_law_way_of" s_l_way_of ["_law_pen_here", "_law_signs_here", "_law_size"]) (B : Bs mg) (G_l_draw : DefOk P w K mg base 1 "_law_draw" ["_law_pen_here", "_law_many"] (spDraw K)) (G_l_pick : DefOk P w K mg base 2 "_law_pick" ["_law_pen_here", "_law_items"] (spPick K))
    (G_l_leaf : DefOk P w K mg base 3 "_law_leaf" ["_law_pen_here", "_law_signs_here"] (spLeaf K)) (G_l_way_of : DefOk P w K mg base (3 + s) "_law_way_of" ["_law_pen_here", "_law_signs_here", "_law_size"] (spWayOf K s)) : DefOk P w K mg base (3 + s + 1) "_law_way_of" ["_law_pen_here", "_law_signs_here", "_law_size"] (spWayOf K (s + 1)) := by
  refine h.ok sc_l_way_of (fun vs H Q E h => by obtain ⟨a, q, m, n, rfl, _⟩ := h; rfl) (fun f cdv A outer s' H vs Q E hr h => ?_)
  obtain ⟨p, z, m, n, rfl, hP, hn, hz0, hz1, hz, hm0, hm1, hm2, k⟩ := h
  refine ⟨_, (pss_cons (ps_if (pt_cmpR op_eq (pv 2) pe_int (nomark _)) (pss_one (ps_ret (pe_callD G_l_leaf (hr.mono (by first | decide | omega)) rfl (pa_cons (pv 0) (pa_cons (pv 1) pa_nil))))) pss_nil)
  (pss_cons (ps_if (PW.pt (pw_or (pt_cmpR op_eq (pv 2) pe_int (nomark _)) (pw_or1 (pt_cmpR op_eq (pe_callD G_l_draw (hr.mono (by first | decide | omega)) rfl (pa_cons (pv 0) (pa_cons pe_int pa_nil))) pe_int (nomark _))))) (pss_cons (ps_set (i := 3) sc_l_way_of.nd rfl (Or.inl rfl) (pe_callD G_l_pick (hr.mono (by first | decide | omega)) rfl (pa_cons (pv 0) (pa_cons (pe_lst (pa_cons pe_str (pa_cons pe_str (pa_cons pe_str (pa_cons pe_str (pa_cons pe_str pa_nil)))))) pa_nil))))
  (pss_one (ps_ret (pe_tup (pa_cons (pv 3) (pa_cons (pe_callD G_l_way_of (hr.mono (by first | decide | omega)) rfl (pa_cons (pv 0) (pa_cons (pv 1) (pa_cons (pe_op op_sub (pv 2) pe_int) pa_nil)))) pa_nil)))))) pss_nil)
  (pss_cons (ps_par3 (i := 3) (j := 4) (l := 5) rfl sc_l_way_of.nd rfl rfl rfl (by decide) (by decide) (by decide) rfl rfl rfl (pa_cons (pe_callD G_l_pick (hr.mono (by first | decide | omega)) rfl (pa_cons (pv 0) (pa_cons (pe_lst (pa_cons pe_str (pa_cons pe_str (pa_cons pe_str pa_nil)))) pa_nil))) (pa_cons (pe_op op_sub (pv 2) pe_int) (pa_cons (pe_lst pa_nil) pa_nil))) (by rfl))
  (pss_cons (ps_while PassesOwn.never (pt_cmpR op_gt (pv 4) pe_int (nomark _)) (pss_cons (ps_set (i := 6) sc_l_way_of.nd rfl (Or.inl rfl) (pe_and (pe_cmpR (op_neD hr.units) (pv 5) (pe_lst pa_nil) (nomark _)) (pe_one (pe_cmpR op_eq (pe_callD G_l_draw (hr.mono (by first | decide | omega)) rfl (pa_cons (pv 0) (pa_cons pe_int pa_nil))) pe_int (nomark _)))))
  (pss_cons (ps_set (i := 7) sc_l_way_of.nd rfl (Or.inl rfl) (pe_ifExp (pt_val (pv 6)) (pv 4) (pe_op op_add pe_int (pe_callD G_l_draw (hr.mono (by first | decide | omega)) rfl (pa_cons (pv 0) (pa_cons (pv 4) pa_nil))))))
  (pss_cons (ps_set (i := 7) sc_l_way_of.nd rfl (Or.inl rfl) (pe_ifExp (PW.pt (pw_and (pt_cmpR (op_eqD hr.units) (pv 5) (pe_lst pa_nil) (nomark _)) (pw_and1 (pt_cmpR op_eq (pv 7) (pv 4) (nomark _))))) (pe_op op_sub (pv 4) pe_int) (pv 7)))
  (pss_cons (ps_expr (pe_bm PySem.F.plainAttrs_list PySem.F.slot_list_append PySem.F.type_list_append mt_append (pv 5) (pa_cons (pe_callD G_l_way_of (hr.mono (by first | decide | omega)) rfl (pa_cons (pv 0) (pa_cons (pv 1) (pa_cons (pv 7) pa_nil)))) pa_nil)))
  (pss_one (ps_set (i := 4) sc_l_way_of.nd rfl (Or.inl rfl) (pe_op op_sub (pv 4) (pv 7)))))))))
  (pss_one (ps_ret (pe_tup (pa_cons (pv 3) (pa_cons (pv 5) pa_nil))))))))), ?_⟩
  walk_at "rd"
  refine ite2 (fun e1 => ?_) (fun e1 => ?_)
  · have e1 := dec_t e1
    walk_at "rd"
    refine ⟨p, z, n, rfl, hP, by omega, hz0, hz1, fun v w' H' hs hw hv kk hP' => k v w' H' (by omega) hw hv kk (hP'.mono (by omega))⟩
  · have e1 := dec_f e1
    walk_at "rd"
    refine ite2 (fun e2 => ?_) (fun e2 => ?_)
    · have e2 := dec_t e2
      obtain ⟨n1, hn1, en1⟩ : ∃ n1, n1 ≤ n + 1 ∧ n1 = n := ⟨n, by omega, rfl⟩
      have hP1 : PenAt K H p n1 := by rw [en1]; exact hP
      have k1 : Keep H H := .refl H
      refine iteT ?_
      walk_at "rd"
      refine ⟨by show 5 ≤ sizeLine; decide, fun q hq => ?_⟩
      have s2 := Same.new hq (.lst [.str (Str.ofString "again"), .str (Str.ofString "again"), .str (Str.ofString "maybe"), .str (Str.ofString "ahead"), .str (Str.ofString "unless")])
      refine ⟨p, _, n1, rfl, hP1.same s2, by omega, .inl ⟨q, _, rfl, SqL.of upd_same, by decide, by decide, fun v H2 hv k2 hP2 => ?_⟩⟩
      walk_at "rd"
      have em : ((m : Int) - 1) = ((m - 1 : Nat) : Int) := by omega
      have k12 := (k1.trans (.of s2)).trans k2
      refine ⟨p, z, m - 1, n1 + 1, by rw [← em]; rfl, hP2, by omega, hz0, hz1, hz, by omega, by omega, by omega, fun u wu H3 hs hw hu k3 hP3 => ?_⟩
      refine ⟨by show 2 ≤ sizeLine; decide, fun t ht => ?_⟩
      have s4 := Same.new ht (.tup [v, u])
      have k13 := k12.trans k3
      have hu' : WayAt (newer H (upd H3 t (.tup [v, u]))) u wu := WayAt.keep ((newer_down k12).trans (newer_up (.of s4))) _ _ hu
      have ht' : newer H (upd H3 t (.tup [v, u])) t = some (.tup [v, u]) := by rw [newer_at (k13.free ht)]; exact upd_same
      have kf := k13.trans (.of s4)
      have pf := (hP3.same s4).mono (show n1 + 1 + (4 * (m - 1) - 2) ≤ n + (4 * m - 2) by omega)
      simp only [List.mem_cons, List.not_mem_nil, or_false] at hv
      rcases hv with rfl | rfl | rfl | rfl | rfl
      · exact k _ (.again wu) _ (by simp only [W.size]; omega) hw ⟨t, u, rfl, ht', hu'⟩ kf pf
      · exact k _ (.again wu) _ (by simp only [W.size]; omega) hw ⟨t, u, rfl, ht', hu'⟩ kf pf
      · exact k _ (.maybe wu) _ (by simp only [W.size]; omega) hw ⟨t, u, rfl, ht', hu'⟩ kf pf
      · exact k _ (.ahead wu) _ (by simp only [W.size]; omega) hw ⟨t, u, rfl, ht', hu'⟩ kf pf
      · exact k _ (.unless wu) _ (by simp only [W.size]; omega) hw ⟨t, u, rfl, ht', hu'⟩ kf pf
    · have e2 := dec_f e2
      refine ⟨_, rfl, p, 3, n, rfl, hP, by omega, by decide, by decide, fun d H1 d0 d1 k1 hP1 => ?_⟩
      walk_at "rd"
      obtain ⟨n1, hn1, en1⟩ : ∃ n1, n1 ≤ n + 1 ∧ n1 = n + 1 := ⟨n + 1, by omega, rfl⟩
      rw [← en1] at hP1
      refine ite2 (fun e3 => ?_) (fun e3 => ?_)
      · walk_at "rd"
        refine ⟨by show 5 ≤ sizeLine; decide, fun q hq => ?_⟩
        have s2 := Same.new hq (.lst [.str (Str.ofString "again"), .str (Str.ofString "again"), .str (Str.ofString "maybe"), .str (Str.ofString "ahead"), .str (Str.ofString "unless")])
        refine ⟨p, _, n1, rfl, hP1.same s2, by omega, .inl ⟨q, _, rfl, SqL.of upd_same, by decide, by decide, fun v H2 hv k2 hP2 => ?_⟩⟩
        walk_at "rd"
        have em : ((m : Int) - 1) = ((m - 1 : Nat) : Int) := by omega
        have k12 := (k1.trans (.of s2)).trans k2
        refine ⟨p, z, m - 1, n1 + 1, by rw [← em]; rfl, hP2, by omega, hz0, hz1, hz, by omega, by omega, by omega, fun u wu H3 hs hw hu k3 hP3 => ?_⟩
        refine ⟨by show 2 ≤ sizeLine; decide, fun t ht => ?_⟩
        have s4 := Same.new ht (.tup [v, u])
        have k13 := k12.trans k3
        have hu' : WayAt (newer H (upd H3 t (.tup [v, u]))) u wu := WayAt.keep ((newer_down k12).trans (newer_up (.of s4))) _ _ hu
        have ht' : newer H (upd H3 t (.tup [v, u])) t = some (.tup [v, u]) := by rw [newer_at (k13.free ht)]; exact upd_same
        have kf := k13.trans (.of s4)
        have pf := (hP3.same s4).mono (show n1 + 1 + (4 * (m - 1) - 2) ≤ n + (4 * m - 2) by omega)
        simp only [List.mem_cons, List.not_mem_nil, or_false] at hv
        rcases hv with rfl | rfl | rfl | rfl | rfl
        · exact k _ (.again wu) _ (by simp only [W.size]; omega) hw ⟨t, u, rfl, ht', hu'⟩ kf pf
        · exact k _ (.again wu) _ (by simp only [W.size]; omega) hw ⟨t, u, rfl, ht', hu'⟩ kf pf
        · exact k _ (.maybe wu) _ (by simp only [W.size]; omega) hw ⟨t, u, rfl, ht', hu'⟩ kf pf
        · exact k _ (.ahead wu) _ (by simp only [W.size]; omega) hw ⟨t, u, rfl, ht', hu'⟩ kf pf
        · exact k _ (.unless wu) _ (by simp only [W.size]; omega) hw ⟨t, u, rfl, ht', hu'⟩ kf pf
      · walk_at "rd"
        refine ⟨by show 3 ≤ sizeLine; decide, fun q0 hq0 => ?_⟩
        have s2 := Same.new hq0 (.lst [.str (Str.ofString "row"), .str (Str.ofString "row"), .str (Str.ofString "choice")])
        refine ⟨p, _, n1, rfl, hP1.same s2, by omega, .inl ⟨q0, _, rfl, SqL.of upd_same, by decide, by decide, fun v H2 hv k2 hP2 => ?_⟩⟩
        walk_at "rd"
        refine ⟨Nat.zero_le _, fun q hq => ?_⟩
        have s3 := Same.new hq (.lst [])
        have k13 := (k1.trans (.of s2)).trans k2
        have k14 := k13.trans (.of s3)
        have hqH := k13.free hq
        have hP4 := hP2.same s3
        generalize hH4 : upd H2 q (.lst []) = H4 at *
        have hq4 : H4 q = some (.lst []) := by rw [← hH4]; exact upd_same
        refine ⟨_, _, _, rfl, ?_⟩
        refine while_by (fun σ H' => ∃ (lf : Nat) (ws : List W) (vs : List V) (v6 v7 : Option V), σ = [some (.ref p.d), some (.str (tx z)), some (.int m), some v, some (.int lf), some (.ref q), v6, v7] ∧ H' q = some (.lst vs) ∧ WaysAt (newer H4 H') vs ws ∧ W.wfs z ws ∧
            W.sizes ws + lf + 1 = m ∧ (lf = 0 → 2 ≤ ws.length) ∧ Keep H H' ∧ Sub H4 H' ∧ PenAt K H' p (n + 2 + 4 * W.sizes ws)) (fun σ _ => slotN 4 σ) ?_ ?_ (fun σ H Q Q' hq ⟨v, e, i, j, e1, e2, k, e3, h⟩ => ⟨v, e, i, j, e1, e2, k, e3, hq _ _ h⟩)
        · refine ⟨m - 1, [], [], none, none, ?_, hq4, rfl, trivial, by simp only [W.sizes]; omega, fun _ => by omega, k14, fun _ h => h, hP4.mono (by simp only [W.sizes]; omega)⟩
          have em : ((m : Int) - 1) = ((m - 1 : Nat) : Int) := by omega
          rw [← em]
          rfl
        · rintro σ H5 ⟨lf, ws, vs, v6, v7, rfl, hq5, hws, hwf, hsum, h0, k5, k45, hP5⟩
          walk_at "rd"
          refine ite2 (fun e4 => ?_) (fun e4 => ?_)
          · have e4 : (0 : Int) < lf := of_decide_eq_true e4
            have hlen := WaysAt.len _ _ hws
            have hll := W.sizes_len ws
            have hshape := W.shaped_list hz hwf (show W.sizes ws ≤ 31 by omega)
            -- whether the last one takes all that is left
            refine withQ (E := tAndV _ _) (fun x H6 => ∃ b : Bool, x = .bl b ∧ (b = true → ws ≠ []) ∧ Keep H5 H6 ∧ PenAt K H6 p (n + 2 + 4 * W.sizes ws + 1)) (fun Q' go => ?_) ?_
            · walk_at "rd"
              refine ⟨Nat.zero_le _, fun qe hqe => ?_⟩
              have se := Same.new hqe (.lst [])
              refine ⟨.list (W.datas ws), .list [], .lst (SqL.of (se _ _ hq5)) (WaysAt.dp _ _ (WaysAt.keep (newer_le.trans (.of se)) _ _ hws)), .lst (SqL.of upd_same) .nil, hshape, by decide, ?_⟩
              rw [eqv_nil, datas_empty]
              refine ⟨_, rfl, ?_⟩
              refine ite2 (fun e5 => ?_) (fun e5 => ?_)
              · refine ⟨_, rfl, p, 2, _, rfl, hP5.same se, by omega, by decide, by decide, fun d H6 d0 d1 k6 hP6 => ?_⟩
                refine ⟨rfl, go _ _ ⟨_, rfl, fun _ e => ?_, (Keep.of se).trans k6, hP6⟩⟩
                rw [e] at e5
                cases e5
              · exact go _ _ ⟨false, rfl, fun e => Bool.noConfusion e, Keep.of se, (hP5.same se).mono (by omega)⟩
            rintro x H6 ⟨b, rfl, hb, k6, hP6⟩
            -- the share
            walk_at "nx"
            refine withQ (E := tIf _ _ _) (fun x H7 => ∃ sh : Nat, x = .int sh ∧ 0 < sh ∧ sh ≤ lf ∧ Keep H5 H7 ∧ PenAt K H7 p (n + 2 + 4 * W.sizes ws + 2)) (fun Q' go => ?_) ?_
            · walk_at "rd"
              refine ite2 (fun e5 => ?_) (fun e5 => ?_)
              · walk_at "rd"
                exact go _ _ ⟨lf, rfl, by omega, Nat.le_refl _, k6, hP6.mono (by omega)⟩
              · refine ⟨_, rfl, _, rfl, p, lf, _, rfl, hP6, by omega, e4, by omega, fun d H7 d0 d1 k7 hP7 => ?_⟩
                walk_at "rd"
                exact go _ _ ⟨d.toNat + 1, by show V.int (1 + d) = _; congr 1; omega, by omega, by omega, k6.trans k7, hP7⟩
            rintro x H7 ⟨sh, rfl, hs0, hs1, k7, hP7⟩
            walk_at "nx"
            refine withQ (E := tIf _ _ _) (fun x H8 => ∃ sh : Nat, x = .int sh ∧ 0 < sh ∧ sh ≤ lf ∧ (ws = [] → sh < lf) ∧ Keep H5 H8 ∧ PenAt K H8 p (n + 2 + 4 * W.sizes ws + 2)) (fun Q' go => ?_) ?_
            · refine withB (E := tAnd _ _) (fun b H8 => (b = true ↔ (ws = [] ∧ sh = lf)) ∧ Keep H5 H8 ∧ PenAt K H8 p (n + 2 + 4 * W.sizes ws + 2)) (fun Q' go => ?_) ?_
              · walk_at "rd"
                refine ⟨Nat.zero_le _, fun qe hqe => ?_⟩
                have se := Same.new hqe (.lst [])
                have k75 : Keep H5 (upd H7 qe (.lst [])) := k7.trans (.of se)
                refine ⟨.list (W.datas ws), .list [], .lst (SqL.of (k75.lst hq5)) (WaysAt.dp _ _ (WaysAt.keep (newer_le.trans k75) _ _ hws)), .lst (SqL.of upd_same) .nil, hshape, by decide, _, rfl, ?_⟩
                rw [eqv_nil, datas_empty]
                refine ite2 (fun e5 => ?_) (fun e5 => ?_)
                · walk_at "rd"
                  refine go _ _ ⟨⟨fun e => ⟨List.isEmpty_iff.mp e5, ?_⟩, fun e => decide_eq_true (by rw [e.2])⟩, k75, hP7.same se⟩
                  have := dec_t e
                  omega
                · exact go _ _ ⟨⟨fun e => Bool.noConfusion e, fun e => absurd (List.isEmpty_iff.mpr e.1) e5⟩, k75, hP7.same se⟩
              · rintro b' H8 ⟨hb', k8, hP8⟩
                refine ite2 (fun e5 => ?_) (fun e5 => ?_)
                · obtain ⟨e6, e7⟩ := hb'.mp e5
                  walk_at "rd"
                  have hz0 : W.sizes ws = 0 := by rw [e6]; rfl
                  refine go _ _ ⟨lf - 1, ?_, by omega, by omega, fun _ => by omega, k8, hP8⟩
                  show V.int ((lf : Int) - 1) = _
                  congr 1
                  omega
                · walk_at "rd"
                  refine go _ _ ⟨sh, rfl, hs0, hs1, fun e => ?_, k8, hP8⟩
                  by_cases e7 : sh = lf
                  · exact absurd (hb'.mpr ⟨e, e7⟩) e5
                  · omega
            rintro x H8 ⟨sh', rfl, hs0', hs1', hne, k8, hP8⟩
            walk_at "nx"
            refine ⟨_, rfl, .inl ⟨rfl, _, SqL.of (k8.lst hq5)⟩, _, rfl, _, rfl, _, rfl, ?_⟩
            refine ⟨p, z, sh', _, rfl, hP8, by omega, hz0, hz1, hz, hs0', by omega, by omega, fun u wu H9 hs hw hu k9 hP9 => ?_⟩
            have k59 := k8.trans k9
            refine ⟨q, vs, u, rfl, rfl, k59.lst hq5, small' (by omega), ?_⟩
            walk_at "rd"
            have esz : W.sizes (ws ++ [wu]) = W.sizes ws + sh' := by rw [W.sizes_app]; simp only [W.sizes]; omega
            have elf : ((lf : Int) - sh') = ((lf - sh' : Nat) : Int) := by omega
            refine ⟨⟨lf - sh', ws ++ [wu], vs ++ [u], some (.bl b), some (.int sh'), ?_, upd_same, ?_, (W.wfs_app _ _ _).mpr ⟨hwf, hw, trivial⟩, by rw [esz]; omega, fun e => ?_, Keep.put hqH (k5.trans k59) _, (k45.trans k59.sub).put _ _, ?_⟩, ?_⟩
            · show [some (V.ref p.d), some (V.str (tx z)), some (V.int m), some v, some (V.int ((lf : Int) - sh')), some (V.ref q), some (V.bl b), some (V.int sh')] = _
              rw [elf]
            · rw [newer_put hq4]
              exact WaysAt.app _ _ (WaysAt.keep (newer_up k59) _ _ hws) ⟨u, [], rfl, WayAt.keep (newer_sub (k45.trans k8.sub)) _ _ hu, rfl⟩
            · have : ws ≠ [] := fun e' => by have := hne e'; omega
              have : 0 < ws.length := List.length_pos_iff.mpr this
              rw [List.length_append]
              show 2 ≤ ws.length + 1
              omega
            · rw [esz]
              exact hP.put hqH (hP9.mono (by omega)) (k5.trans k59) (k59.lst hq5)
            · show slotN 4 _ < slotN 4 _
              have e1 : slotN 4 [some (V.ref p.d), some (V.str (tx z)), some (V.int m), some v, some (V.int ((lf : Int) - sh')), some (V.ref q), some (V.bl b), some (V.int sh')] = ((lf : Int) - sh').toNat := rfl
              have e2 : slotN 4 [some (V.ref p.d), some (V.str (tx z)), some (V.int m), some v, some (V.int lf), some (V.ref q), v6, v7] = (lf : Int).toNat := rfl
              rw [show slotN 4 _ = _ from e2]
              refine Nat.lt_of_le_of_lt (Nat.le_of_eq e1) ?_
              omega
          · have e4 : lf = 0 := by
              by_cases h : lf = 0
              · exact h
              · exact absurd (decide_eq_true (show (0 : Int) < lf by omega)) e4
            walk_at "nx"
            walk_at "rd"
            refine ⟨by show 2 ≤ sizeLine; decide, fun t ht => ?_⟩
            have s6 := Same.new ht (.tup [v, .ref q])
            have kf := k5.trans (.of s6)
            have ht' : newer H (upd H5 t (.tup [v, .ref q])) t = some (.tup [v, .ref q]) := by rw [newer_at (k5.free ht)]; exact upd_same
            have hq' : newer H (upd H5 t (.tup [v, .ref q])) q = some (.lst vs) := by rw [newer_at hqH]; exact s6 _ _ hq5
            have hw' : WaysAt (newer H (upd H5 t (.tup [v, .ref q]))) vs ws := WaysAt.keep ((newer_up (.of s6)).trans (newer_down k14)) _ _ hws
            have pf := (hP5.same s6).mono (show n + 2 + 4 * W.sizes ws ≤ n + (4 * m - 2) by omega)
            simp only [List.mem_cons, List.not_mem_nil, or_false] at hv
            rcases hv with rfl | rfl | rfl
            · exact k _ (.row ws) _ (by simp only [W.size]; omega) ⟨h0 e4, hwf⟩ ⟨t, q, vs, rfl, ht', hq', hw'⟩ kf pf
            · exact k _ (.row ws) _ (by simp only [W.size]; omega) ⟨h0 e4, hwf⟩ ⟨t, q, vs, rfl, ht', hq', hw'⟩ kf pf
            · exact k _ (.choice ws) _ (by simp only [W.size]; omega) ⟨h0 e4, hwf⟩ ⟨t, q, vs, rfl, ht', hq', hw'⟩ kf pf
theorem d_l_way_of (h : Here K mg "_law_way_of" s_l_way_of ["_law_pen_here", "_law_signs_here", "_law_size"]) (B : Bs mg) (G_l_draw : DefOk P w K mg base 1 "_law_draw" ["_law_pen_here", "_law_many"] (spDraw K)) (G_l_pick : DefOk P w K mg base 2 "_law_pick" ["_law_pen_here", "_law_items"] (spPick K))
    (G_l_leaf : DefOk P w K mg base 3 "_law_leaf" ["_law_pen_here", "_law_signs_here"] (spLeaf K)) : ∀ s, DefOk P w K mg base (3 + s) "_law_way_of" ["_law_pen_here", "_law_signs_here", "_law_size"] (spWayOf K s)
  | 0 => by
    obtain ⟨f, fd, F, m, b⟩ := h.ex
    exact ⟨f, fd, m, F.kp, b, none_way_of⟩
  | s + 1 => step_l_way_of s h B G_l_draw G_l_pick G_l_leaf (d_l_way_of h B G_l_draw G_l_pick G_l_leaf s)
end
end Wv
namespace Wv
open PySem PySem.Spec PyProof.Rows L2
/-! ### ways as objects of the program -/
structure Cs where
  lt : Addr
  on : Addr
  no : Addr
  ro : Addr
  ch : Addr
  ag : Addr
  ma : Addr
  ah : Addr
  un : Addr
  ca : Addr
/-- the class of a way -/
def Cs.of (c : Cs) : W → Addr
  | .one => c.on
  | .nothing => c.no
  | .letter _ => c.lt
  | .call _ => c.ca
  | .row _ => c.ro
  | .choice _ => c.ch
  | .again _ => c.ag
  | .maybe _ => c.ma
  | .ahead _ => c.ah
  | .unless _ => c.un
mutual
def ObjAt (c : Cs) (H : Hp) : V → W → Prop
  | v, .one => ∃ a d, v = .ref a ∧ H a = some (.ins c.on d [])
  | v, .nothing => ∃ a d, v = .ref a ∧ H a = some (.ins c.no d [])
  | v, .letter x => ∃ a d, v = .ref a ∧ H a = some (.ins c.lt d [(Str.ofString "letter", .str (sg x))])
  | v, .call x => ∃ a d, v = .ref a ∧ H a = some (.ins c.ca d [(Str.ofString "name", .str x)])
  | v, .row ws => ∃ a d t vs, v = .ref a ∧ H a = some (.ins c.ro d [(Str.ofString "ways", .ref t)]) ∧ H t = some (.tup vs) ∧ ObjsAt c H vs ws
  | v, .choice ws => ∃ a d t vs, v = .ref a ∧ H a = some (.ins c.ch d [(Str.ofString "ways", .ref t)]) ∧ H t = some (.tup vs) ∧ ObjsAt c H vs ws
  | v, .again w => ∃ a d u, v = .ref a ∧ H a = some (.ins c.ag d [(Str.ofString "part", u)]) ∧ ObjAt c H u w
  | v, .maybe w => ∃ a d u, v = .ref a ∧ H a = some (.ins c.ma d [(Str.ofString "part", u)]) ∧ ObjAt c H u w
  | v, .ahead w => ∃ a d u, v = .ref a ∧ H a = some (.ins c.ah d [(Str.ofString "part", u)]) ∧ ObjAt c H u w
  | v, .unless w => ∃ a d u, v = .ref a ∧ H a = some (.ins c.un d [(Str.ofString "part", u)]) ∧ ObjAt c H u w
def ObjsAt (c : Cs) (H : Hp) : List V → List W → Prop
  | vs, [] => vs = []
  | vs, w :: ws => ∃ u us, vs = u :: us ∧ ObjAt c H u w ∧ ObjsAt c H us ws
end
theorem ObjsAt.len {c : Cs} {H : Hp} : ∀ (ws : List W) (vs : List V), ObjsAt c H vs ws → vs.length = ws.length
  | [], vs, h => by rw [show vs = [] from h]; rfl
  | w :: ws, vs, ⟨u, us, e, _, h⟩ => by rw [e, List.length_cons, List.length_cons, ObjsAt.len ws us h]
theorem ObjsAt.app {c : Cs} {H : Hp} : ∀ (ws : List W) (vs : List V) {us : List V} {xs : List W}, ObjsAt c H vs ws → ObjsAt c H us xs → ObjsAt c H (vs ++ us) (ws ++ xs)
  | [], vs, us, xs, h, h2 => by rw [show vs = [] from h]; exact h2
  | w :: ws, vs, us, xs, ⟨u, r, e, hu, h⟩, h2 => by rw [e]; exact ⟨u, r ++ us, rfl, hu, ObjsAt.app ws r h h2⟩
theorem ObjsAt.at_ {c : Cs} {H : Hp} : ∀ (ws : List W) (vs : List V) (i : Nat) (w : W), ObjsAt c H vs ws → ws[i]? = some w → ∃ v, vs[i]? = some v ∧ ObjAt c H v w
  | [], vs, i, w, h, e => by simp at e
  | x :: ws, vs, 0, w, ⟨u, us, ev, hu, h⟩, e => by
    have q : x = w := by simpa using e
    subst q
    exact ⟨u, by rw [ev]; rfl, hu⟩
  | x :: ws, vs, i + 1, w, ⟨u, us, ev, hu, h⟩, e => by
    obtain ⟨v, h1, h2⟩ := ObjsAt.at_ ws us i w h (by simpa using e)
    exact ⟨v, by rw [ev]; simpa using h1, h2⟩
theorem ObjsAt.rev {c : Cs} {H : Hp} : ∀ (ws : List W) (vs : List V), ObjsAt c H vs ws → ObjsAt c H vs.reverse ws.reverse
  | [], vs, h => by rw [show vs = [] from h]; rfl
  | w :: ws, vs, ⟨u, us, e, hu, h⟩ => by
    rw [e, List.reverse_cons, List.reverse_cons]
    exact ObjsAt.app _ _ (ObjsAt.rev ws us h) ⟨u, [], rfl, hu, rfl⟩
/-- tuples and instances stay -/
structure Still (H H' : Hp) : Prop where
  tup : ∀ {a : Addr} {xs : List V}, H a = some (.tup xs) → H' a = some (.tup xs)
  ins : ∀ {a C d : Addr} {fs : List (Str × V)}, H a = some (.ins C d fs) → H' a = some (.ins C d fs)
theorem Still.refl (H : Hp) : Still H H := ⟨fun h => h, fun h => h⟩
theorem Still.trans {H H1 H2 : Hp} (a : Still H H1) (b : Still H1 H2) : Still H H2 := ⟨fun h => b.tup (a.tup h), fun h => b.ins (a.ins h)⟩
theorem Keep.still {H H' : Hp} (k : Keep H H') : Still H H' := ⟨fun h => k.tup h, fun h => k.ins h⟩
theorem stillS {H H' : Hp} (k : Same H H') : Still H H' := (Keep.of k).still
theorem Still.put {H : Hp} {q : Addr} {xs ys : List V} (h : H q = some (.lst xs)) : Still H (upd H q (.lst ys)) :=
  ⟨fun {a} _ e => by rw [upd_ne (ne_of e h (by intro z; cases z))]; exact e, fun {a} _ _ _ e => by rw [upd_ne (ne_of e h (by intro z; cases z))]; exact e⟩
mutual
theorem ObjAt.keep {c : Cs} {H H' : Hp} (k : Still H H') : ∀ (w : W) (v : V), ObjAt c H v w → ObjAt c H' v w
  | .one, v, ⟨a, d, e, h⟩ => ⟨a, d, e, k.ins h⟩
  | .nothing, v, ⟨a, d, e, h⟩ => ⟨a, d, e, k.ins h⟩
  | .letter _, v, ⟨a, d, e, h⟩ => ⟨a, d, e, k.ins h⟩
  | .call _, v, ⟨a, d, e, h⟩ => ⟨a, d, e, k.ins h⟩
  | .row ws, v, ⟨a, d, t, vs, e, h, h2, h3⟩ => ⟨a, d, t, vs, e, k.ins h, k.tup h2, ObjsAt.keep k ws vs h3⟩
  | .choice ws, v, ⟨a, d, t, vs, e, h, h2, h3⟩ => ⟨a, d, t, vs, e, k.ins h, k.tup h2, ObjsAt.keep k ws vs h3⟩
  | .again w, v, ⟨a, d, u, e, h, h2⟩ => ⟨a, d, u, e, k.ins h, ObjAt.keep k w u h2⟩
  | .maybe w, v, ⟨a, d, u, e, h, h2⟩ => ⟨a, d, u, e, k.ins h, ObjAt.keep k w u h2⟩
  | .ahead w, v, ⟨a, d, u, e, h, h2⟩ => ⟨a, d, u, e, k.ins h, ObjAt.keep k w u h2⟩
  | .unless w, v, ⟨a, d, u, e, h, h2⟩ => ⟨a, d, u, e, k.ins h, ObjAt.keep k w u h2⟩
theorem ObjsAt.keep {c : Cs} {H H' : Hp} (k : Still H H') : ∀ (ws : List W) (vs : List V), ObjsAt c H vs ws → ObjsAt c H' vs ws
  | [], _, h => h
  | w :: ws, vs, ⟨u, us, e, h, h2⟩ => ⟨u, us, e, ObjAt.keep k w u h, ObjsAt.keep k ws us h2⟩
end
/-- the ways of which a way is made -/
def W.inner : W → List W
  | .row ws => ws
  | .choice ws => ws
  | .again w => [w]
  | .maybe w => [w]
  | .ahead w => [w]
  | .unless w => [w]
  | _ => []
theorem W.size_inner (w : W) : w.size = 1 + W.sizes w.inner := by
  cases w <;> simp [W.size, W.inner, W.sizes]
theorem W.size_mem : ∀ {ws : List W} {i : Nat} {w : W}, ws[i]? = some w → w.size ≤ W.sizes ws
  | [], i, w, h => by simp at h
  | x :: ws, 0, w, h => by
    have q : x = w := by simpa using h
    subst q
    simp only [W.sizes]; omega
  | x :: ws, i + 1, w, h => by
    have q := W.size_mem (ws := ws) (i := i) (w := w) (by simpa using h)
    simp only [W.sizes]; omega
theorem take_more' {α : Type} : ∀ {l : List α} {i : Nat} {x : α}, l[i]? = some x → l.take (i + 1) = l.take i ++ [x]
  | [], i, x, h => by simp at h
  | a :: l, 0, x, h => by
    have e : a = x := Option.some.inj h
    subst e
    rfl
  | a :: l, i + 1, x, h => by
    have ih := take_more' (l := l) (i := i) (x := x) h
    show a :: l.take (i + 1) = a :: l.take i ++ [x]
    rw [ih]
    rfl
/-! ### tests by the tag -/
def W.is_lc : W → Bool
  | .letter _ => true
  | .call _ => true
  | _ => false
theorem in_lc (w : W) : inV (.str w.tag) [.str (Str.ofString "letter"), .str (Str.ofString "call")] = w.is_lc := by cases w <;> (simp only [W.tag, W.is_lc]; decide +kernel)
def W.is_on : W → Bool
  | .one => true
  | .nothing => true
  | _ => false
theorem in_on (w : W) : inV (.str w.tag) [.str (Str.ofString "one"), .str (Str.ofString "nothing")] = w.is_on := by cases w <;> (simp only [W.tag, W.is_on]; decide +kernel)
def W.is_rc : W → Bool
  | .row _ => true
  | .choice _ => true
  | _ => false
theorem in_rc (w : W) : inV (.str w.tag) [.str (Str.ofString "row"), .str (Str.ofString "choice")] = w.is_rc := by cases w <;> (simp only [W.tag, W.is_rc]; decide +kernel)
def W.is_am : W → Bool
  | .again _ => true
  | .maybe _ => true
  | _ => false
theorem in_am (w : W) : inV (.str w.tag) [.str (Str.ofString "again"), .str (Str.ofString "maybe")] = w.is_am := by cases w <;> (simp only [W.tag, W.is_am]; decide +kernel)
def W.is_un : W → Bool
  | .again _ => true
  | .maybe _ => true
  | .ahead _ => true
  | .unless _ => true
  | _ => false
theorem in_un (w : W) : inV (.str w.tag) [.str (Str.ofString "again"), .str (Str.ofString "maybe"), .str (Str.ofString "ahead"), .str (Str.ofString "unless")] = w.is_un := by cases w <;> (simp only [W.tag, W.is_un]; decide +kernel)
def W.is_nothing' : W → Bool
  | .nothing => true
  | _ => false
theorem eq_nothing (w : W) : decide (V.str w.tag = V.str (Str.ofString "nothing")) = w.is_nothing' := by
  cases w <;> first
    | exact decide_eq_true rfl
    | exact decide_eq_false (fun h => absurd (V.str.inj h) (by simp only [W.tag]; decide +kernel))
def W.is_one' : W → Bool
  | .one => true
  | _ => false
theorem eq_one (w : W) : decide (V.str w.tag = V.str (Str.ofString "one")) = w.is_one' := by
  cases w <;> first
    | exact decide_eq_true rfl
    | exact decide_eq_false (fun h => absurd (V.str.inj h) (by simp only [W.tag]; decide +kernel))
def W.is_letter' : W → Bool
  | .letter _ => true
  | _ => false
theorem eq_letter (w : W) : decide (V.str w.tag = V.str (Str.ofString "letter")) = w.is_letter' := by
  cases w <;> first
    | exact decide_eq_true rfl
    | exact decide_eq_false (fun h => absurd (V.str.inj h) (by simp only [W.tag]; decide +kernel))
def W.is_call' : W → Bool
  | .call _ => true
  | _ => false
theorem eq_call (w : W) : decide (V.str w.tag = V.str (Str.ofString "call")) = w.is_call' := by
  cases w <;> first
    | exact decide_eq_true rfl
    | exact decide_eq_false (fun h => absurd (V.str.inj h) (by simp only [W.tag]; decide +kernel))
def W.is_row' : W → Bool
  | .row _ => true
  | _ => false
theorem eq_row (w : W) : decide (V.str w.tag = V.str (Str.ofString "row")) = w.is_row' := by
  cases w <;> first
    | exact decide_eq_true rfl
    | exact decide_eq_false (fun h => absurd (V.str.inj h) (by simp only [W.tag]; decide +kernel))
def W.is_choice' : W → Bool
  | .choice _ => true
  | _ => false
theorem eq_choice (w : W) : decide (V.str w.tag = V.str (Str.ofString "choice")) = w.is_choice' := by
  cases w <;> first
    | exact decide_eq_true rfl
    | exact decide_eq_false (fun h => absurd (V.str.inj h) (by simp only [W.tag]; decide +kernel))
def W.is_again' : W → Bool
  | .again _ => true
  | _ => false
theorem eq_again (w : W) : decide (V.str w.tag = V.str (Str.ofString "again")) = w.is_again' := by
  cases w <;> first
    | exact decide_eq_true rfl
    | exact decide_eq_false (fun h => absurd (V.str.inj h) (by simp only [W.tag]; decide +kernel))
def W.is_maybe' : W → Bool
  | .maybe _ => true
  | _ => false
theorem eq_maybe (w : W) : decide (V.str w.tag = V.str (Str.ofString "maybe")) = w.is_maybe' := by
  cases w <;> first
    | exact decide_eq_true rfl
    | exact decide_eq_false (fun h => absurd (V.str.inj h) (by simp only [W.tag]; decide +kernel))
def W.is_ahead' : W → Bool
  | .ahead _ => true
  | _ => false
theorem eq_ahead (w : W) : decide (V.str w.tag = V.str (Str.ofString "ahead")) = w.is_ahead' := by
  cases w <;> first
    | exact decide_eq_true rfl
    | exact decide_eq_false (fun h => absurd (V.str.inj h) (by simp only [W.tag]; decide +kernel))
def W.is_unless' : W → Bool
  | .unless _ => true
  | _ => false
theorem eq_unless (w : W) : decide (V.str w.tag = V.str (Str.ofString "unless")) = w.is_unless' := by
  cases w <;> first
    | exact decide_eq_true rfl
    | exact decide_eq_false (fun h => absurd (V.str.inj h) (by simp only [W.tag]; decide +kernel))
theorem WayAt.head {H : Hp} {v : V} {w : W} (h : WayAt H v w) : ∃ a rest, v = .ref a ∧ H a = some (.tup (.str w.tag :: rest)) := by
  cases w <;> first
    | (obtain ⟨a, e, h⟩ := h; exact ⟨a, _, e, h⟩)
    | (obtain ⟨a, u, e, h, _⟩ := h; exact ⟨a, _, e, h⟩)
    | (obtain ⟨a, l, vs, e, h, _⟩ := h; exact ⟨a, _, e, h⟩)
theorem atI0 {x : V} {r : List V} : atI (x :: r) 0 = some x := atI_nat (j := 0) rfl
theorem atI1 {x y : V} {r : List V} : atI (x :: y :: r) 1 = some y := atI_nat (j := 1) rfl
/-! ### what the written part says of a class of ways -/
structure ClsF (K : PySem.W.Frag) (C : Addr) : Prop where
  cl : Cls K C
  nl : NoAttr K C "letter"
  nn : NoAttr K C "name"
  nw : NoAttr K C "ways"
  np : NoAttr K C "part"
  ha : PySem.W.findIn K (.ref C) "__class__" = some (some (.builtin "object.__class__"))
  hm : PySem.W.mroIn K C (.type "object") = some true
/-- what kind_of asks of the classes -/
structure AllF (K : PySem.W.Frag) (mg : Str → Option Value) (c : Cs) : Prop where
  f : ∀ w : W, ClsF K (c.of w)
  hn : PySem.W.specialIn K (.builtin "object.__class__") "__get__" = some (some (.builtin "getset_descriptor.__get__"))
  ht : PySem.W.takesIn K (.builtin "object.__class__") = some true
  kit : ∀ w u : W, PySem.W.kitOne K (.ref (c.of w)) (.ref (c.of u)) = some (decide (w.tag = u.tag))
  mLt : mg "Letter" = some (.ref c.lt)
  mOn : mg "One" = some (.ref c.on)
  mNo : mg "Nothing" = some (.ref c.no)
  mRo : mg "Row" = some (.ref c.ro)
  mCh : mg "Choice" = some (.ref c.ch)
  mAg : mg "Again" = some (.ref c.ag)
  mMa : mg "Maybe" = some (.ref c.ma)
  mAh : mg "Ahead" = some (.ref c.ah)
  mUn : mg "Unless" = some (.ref c.un)
  mCa : mg "Call" = some (.ref c.ca)
end Wv
namespace Wv
open PySem PySem.Spec PyProof.Rows L2
/-! ### the classes' __init__, the law's inner, made, way -/
def spInit (C : Addr) (f : Str) : Sp := fun vs H Q _ => ∃ (p dx : Addr) (v : V), vs = [.ref p, v] ∧ H p = some (.ins C dx []) ∧ ∀ H' : Hp, H' p = some (.ins C dx [(f, v)]) → (∀ b o, H b = some o → b ≠ p → H' b = some o) → Q .non H'
def spInitT (K : PySem.W.Frag) (C : Addr) : Sp := fun vs H Q _ => ∃ (p dx q : Addr) (xs : List V), vs = [.ref p, .ref q] ∧ H p = some (.ins C dx []) ∧ (H q = some (.lst xs) ∨ H q = some (.tup xs)) ∧
  ∀ (t : Addr) (H' : Hp), H' t = some (.tup xs) → H' p = some (.ins C dx [(Str.ofString "ways", .ref t)]) → (∀ b o, H b = some o → b ≠ p → H' b = some o) → Q .non H'
theorem same_of {H H1 : Hp} {x dx C : Addr} (hx : H x = none) (hd : H dx = none) (k : ∀ b o, (upd (upd H dx (.own x)) x (.ins C dx [])) b = some o → b ≠ x → H1 b = some o) : Same H H1 := fun b o e =>
  k b o (by rw [upd_ne (ne_of_none e hx), upd_ne (ne_of_none e hd)]; exact e) (ne_of_none e hx)
theorem make1 {C : Addr} {f : Str} {v : V} {H : Hp} {Q : VK} {E : XK} (h : ∀ x dx H', Same H H' → H x = none → H' x = some (.ins C dx [(f, v)]) → Q (.ref x) H') :
    ∀ x dx, H x = none → H dx = none → dx ≠ x → spInit C f (.ref x :: ([v] ++ [])) (upd (upd H dx (.own x)) x (.ins C dx [])) (fun v H2 => v = .non ∧ Q (.ref x) H2) E := fun x dx hx hd _ =>
  ⟨x, dx, v, rfl, upd_same, fun H' e k => ⟨rfl, h x dx H' (same_of hx hd k) hx e⟩⟩
theorem makeT {K : PySem.W.Frag} {C q : Addr} {xs : List V} {H : Hp} {Q : VK} {E : XK} (hq : H q = some (.lst xs) ∨ H q = some (.tup xs)) (h : ∀ x dx t H', Same H H' → H x = none → H' t = some (.tup xs) → H' x = some (.ins C dx [(Str.ofString "ways", .ref t)]) → Q (.ref x) H') :
    ∀ x dx, H x = none → H dx = none → dx ≠ x → spInitT K C (.ref x :: ([.ref q] ++ [])) (upd (upd H dx (.own x)) x (.ins C dx [])) (fun v H2 => v = .non ∧ Q (.ref x) H2) E := fun x dx hx hd _ => by
  have s : Same H (upd (upd H dx (.own x)) x (.ins C dx [])) := fun b o e => by rw [upd_ne (ne_of_none e hx), upd_ne (ne_of_none e hd)]; exact e
  exact ⟨x, dx, q, xs, rfl, upd_same, hq.imp (s _ _) (s _ _), fun t H' et e k => ⟨rfl, h x dx t H' (same_of hx hd k) hx et e⟩⟩
theorem make0 {C : Addr} {H : Hp} {Q : VK} (h : ∀ x dx H', Same H H' → H x = none → H' x = some (.ins C dx []) → Q (.ref x) H') : ∀ x dx, H x = none → H dx = none → dx ≠ x → Q (.ref x) (upd (upd H dx (.own x)) x (.ins C dx [])) := fun x dx hx hd _ =>
  h x dx _ (fun b o e => by rw [upd_ne (ne_of_none e hx), upd_ne (ne_of_none e hd)]; exact e) hx upd_same
def spInner : Sp := fun vs H Q _ => ∃ (v : V) (w : W), vs = [v] ∧ WayAt H v w ∧ ∀ (q : Addr) (us : List V) (H' : Hp), Same H H' → H' q = some (.lst us) → WaysAt H' us w.inner → Q (.ref q) H'
def spMade (c : Cs) (s : Nat) : Sp := fun vs H Q _ => ∃ (v : V) (w : W), vs = [v] ∧ WayAt H v w ∧ w.size ≤ s ∧ w.size ≤ 1000 ∧ ∀ (u : V) (H' : Hp), Same H H' → ObjAt c H' u w → Q u H'
section
variable {P : Program} {w : World} {K : PySem.W.Frag} {mg : Str → Option Value} {base : Heap}
abbrev s_Letter_init : Stmt := inClass (top 20) 0
theorem sc_Letter_init : FnScope ["self", "letter"] ["self", "letter"] (defScope s_Letter_init) := ⟨rfl, rfl, rfl, by decide +kernel, rfl, by decide +kernel, by decide +kernel⟩
theorem ok_Letter {f C : Addr} {fd : FuncData} (F : Fun K "__init__" "Letter.__init__" s_Letter_init f fd) (T : ClsF K C) : FnOk P w K mg base CX0 1 f fd ["self", "letter"] (spInit C "letter") := by
  refine F.ok sc_Letter_init (fun vs H Q E h => by obtain ⟨p, dx, v, rfl, _⟩ := h; rfl) (fun cdv A outer s H vs Q E hr h => ?_)
  obtain ⟨p, dx, v, rfl, hp, k⟩ := h
  refine ⟨_, (pss_one (ps_fld (pv 0) (pv 1) rfl)), ?_⟩
  refine ⟨_, rfl, _, rfl, p, C, dx, [], rfl, hp, T.cl, T.nl, (by show 0 < 1000; decide), ?_⟩
  exact k _ upd_same fun b o e hb => by rw [upd_ne hb]; exact e
abbrev s_Call_init : Stmt := inClass (top 29) 0
theorem sc_Call_init : FnScope ["self", "name"] ["self", "name"] (defScope s_Call_init) := ⟨rfl, rfl, rfl, by decide +kernel, rfl, by decide +kernel, by decide +kernel⟩
theorem ok_Call {f C : Addr} {fd : FuncData} (F : Fun K "__init__" "Call.__init__" s_Call_init f fd) (T : ClsF K C) : FnOk P w K mg base CX0 1 f fd ["self", "name"] (spInit C "name") := by
  refine F.ok sc_Call_init (fun vs H Q E h => by obtain ⟨p, dx, v, rfl, _⟩ := h; rfl) (fun cdv A outer s H vs Q E hr h => ?_)
  obtain ⟨p, dx, v, rfl, hp, k⟩ := h
  refine ⟨_, (pss_one (ps_fld (pv 0) (pv 1) rfl)), ?_⟩
  refine ⟨_, rfl, _, rfl, p, C, dx, [], rfl, hp, T.cl, T.nn, (by show 0 < 1000; decide), ?_⟩
  exact k _ upd_same fun b o e hb => by rw [upd_ne hb]; exact e
abbrev s_Again_init : Stmt := inClass (top 25) 0
theorem sc_Again_init : FnScope ["self", "part"] ["self", "part"] (defScope s_Again_init) := ⟨rfl, rfl, rfl, by decide +kernel, rfl, by decide +kernel, by decide +kernel⟩
theorem ok_Again {f C : Addr} {fd : FuncData} (F : Fun K "__init__" "Again.__init__" s_Again_init f fd) (T : ClsF K C) : FnOk P w K mg base CX0 1 f fd ["self", "part"] (spInit C "part") := by
  refine F.ok sc_Again_init (fun vs H Q E h => by obtain ⟨p, dx, v, rfl, _⟩ := h; rfl) (fun cdv A outer s H vs Q E hr h => ?_)
  obtain ⟨p, dx, v, rfl, hp, k⟩ := h
  refine ⟨_, (pss_one (ps_fld (pv 0) (pv 1) rfl)), ?_⟩
  refine ⟨_, rfl, _, rfl, p, C, dx, [], rfl, hp, T.cl, T.np, (by show 0 < 1000; decide), ?_⟩
  exact k _ upd_same fun b o e hb => by rw [upd_ne hb]; exact e
abbrev s_Maybe_init : Stmt := inClass (top 26) 0
theorem sc_Maybe_init : FnScope ["self", "part"] ["self", "part"] (defScope s_Maybe_init) := ⟨rfl, rfl, rfl, by decide +kernel, rfl, by decide +kernel, by decide +kernel⟩
theorem ok_Maybe {f C : Addr} {fd : FuncData} (F : Fun K "__init__" "Maybe.__init__" s_Maybe_init f fd) (T : ClsF K C) : FnOk P w K mg base CX0 1 f fd ["self", "part"] (spInit C "part") := by
  refine F.ok sc_Maybe_init (fun vs H Q E h => by obtain ⟨p, dx, v, rfl, _⟩ := h; rfl) (fun cdv A outer s H vs Q E hr h => ?_)
  obtain ⟨p, dx, v, rfl, hp, k⟩ := h
  refine ⟨_, (pss_one (ps_fld (pv 0) (pv 1) rfl)), ?_⟩
  refine ⟨_, rfl, _, rfl, p, C, dx, [], rfl, hp, T.cl, T.np, (by show 0 < 1000; decide), ?_⟩
  exact k _ upd_same fun b o e hb => by rw [upd_ne hb]; exact e
abbrev s_Ahead_init : Stmt := inClass (top 27) 0
theorem sc_Ahead_init : FnScope ["self", "part"] ["self", "part"] (defScope s_Ahead_init) := ⟨rfl, rfl, rfl, by decide +kernel, rfl, by decide +kernel, by decide +kernel⟩
theorem ok_Ahead {f C : Addr} {fd : FuncData} (F : Fun K "__init__" "Ahead.__init__" s_Ahead_init f fd) (T : ClsF K C) : FnOk P w K mg base CX0 1 f fd ["self", "part"] (spInit C "part") := by
  refine F.ok sc_Ahead_init (fun vs H Q E h => by obtain ⟨p, dx, v, rfl, _⟩ := h; rfl) (fun cdv A outer s H vs Q E hr h => ?_)
  obtain ⟨p, dx, v, rfl, hp, k⟩ := h
  refine ⟨_, (pss_one (ps_fld (pv 0) (pv 1) rfl)), ?_⟩
  refine ⟨_, rfl, _, rfl, p, C, dx, [], rfl, hp, T.cl, T.np, (by show 0 < 1000; decide), ?_⟩
  exact k _ upd_same fun b o e hb => by rw [upd_ne hb]; exact e
abbrev s_Unless_init : Stmt := inClass (top 28) 0
theorem sc_Unless_init : FnScope ["self", "part"] ["self", "part"] (defScope s_Unless_init) := ⟨rfl, rfl, rfl, by decide +kernel, rfl, by decide +kernel, by decide +kernel⟩
theorem ok_Unless {f C : Addr} {fd : FuncData} (F : Fun K "__init__" "Unless.__init__" s_Unless_init f fd) (T : ClsF K C) : FnOk P w K mg base CX0 1 f fd ["self", "part"] (spInit C "part") := by
  refine F.ok sc_Unless_init (fun vs H Q E h => by obtain ⟨p, dx, v, rfl, _⟩ := h; rfl) (fun cdv A outer s H vs Q E hr h => ?_)
  obtain ⟨p, dx, v, rfl, hp, k⟩ := h
  refine ⟨_, (pss_one (ps_fld (pv 0) (pv 1) rfl)), ?_⟩
  refine ⟨_, rfl, _, rfl, p, C, dx, [], rfl, hp, T.cl, T.np, (by show 0 < 1000; decide), ?_⟩
  exact k _ upd_same fun b o e hb => by rw [upd_ne hb]; exact e
abbrev s_Row_init : Stmt := inClass (top 23) 0
theorem sc_Row_init : FnScope ["self", "ways"] ["self", "ways"] (defScope s_Row_init) := ⟨rfl, rfl, rfl, by decide +kernel, rfl, by decide +kernel, by decide +kernel⟩
theorem ok_Row {f C : Addr} {fd : FuncData} (F : Fun K "__init__" "Row.__init__" s_Row_init f fd) (T : ClsF K C) (B : Bs mg) : FnOk P w K mg base CX0 1 f fd ["self", "ways"] (spInitT K C) := by
  have B_tuple := B.tuple
  refine F.ok sc_Row_init (fun vs H Q E h => by obtain ⟨p, dx, v, xs, rfl, _⟩ := h; rfl) (fun cdv A outer s H vs Q E hr h => ?_)
  obtain ⟨p, dx, q, xs, rfl, hp, hq, k⟩ := h
  refine ⟨_, (pss_one (ps_fld (pv 0) (pe_callTy call_tuple_of rfl B_tuple (by decide +kernel) (pa_cons (pv 1) pa_nil)) rfl)), ?_⟩
  refine ⟨_, rfl, q, xs, rfl, ?_⟩
  rcases hq with hq | hq
  · refine .inl ⟨SqL.of hq, fun l hl => ?_⟩
    have npl : p ≠ l := ne_of_none hp hl
    refine ⟨_, rfl, p, C, dx, [], rfl, by rw [upd_ne npl]; exact hp, T.cl, T.nw, (by show 0 < 1000; decide), ?_⟩
    exact k l _ (by rw [upd_ne npl.symm]; exact upd_same) upd_same fun b o e hb => by rw [upd_ne hb, upd_ne (ne_of_none e hl)]; exact e
  · refine .inr ⟨SqT.of hq, _, rfl, p, C, dx, [], rfl, hp, T.cl, T.nw, (by show 0 < 1000; decide), ?_⟩
    exact k q _ (by rw [upd_ne (ne_of hq hp (by intro z; cases z))]; exact hq) upd_same fun b o e hb => by rw [upd_ne hb]; exact e
abbrev s_Choice_init : Stmt := inClass (top 24) 0
theorem sc_Choice_init : FnScope ["self", "ways"] ["self", "ways"] (defScope s_Choice_init) := ⟨rfl, rfl, rfl, by decide +kernel, rfl, by decide +kernel, by decide +kernel⟩
theorem ok_Choice {f C : Addr} {fd : FuncData} (F : Fun K "__init__" "Choice.__init__" s_Choice_init f fd) (T : ClsF K C) (B : Bs mg) : FnOk P w K mg base CX0 1 f fd ["self", "ways"] (spInitT K C) := by
  have B_tuple := B.tuple
  refine F.ok sc_Choice_init (fun vs H Q E h => by obtain ⟨p, dx, v, xs, rfl, _⟩ := h; rfl) (fun cdv A outer s H vs Q E hr h => ?_)
  obtain ⟨p, dx, q, xs, rfl, hp, hq, k⟩ := h
  refine ⟨_, (pss_one (ps_fld (pv 0) (pe_callTy call_tuple_of rfl B_tuple (by decide +kernel) (pa_cons (pv 1) pa_nil)) rfl)), ?_⟩
  refine ⟨_, rfl, q, xs, rfl, ?_⟩
  rcases hq with hq | hq
  · refine .inl ⟨SqL.of hq, fun l hl => ?_⟩
    have npl : p ≠ l := ne_of_none hp hl
    refine ⟨_, rfl, p, C, dx, [], rfl, by rw [upd_ne npl]; exact hp, T.cl, T.nw, (by show 0 < 1000; decide), ?_⟩
    exact k l _ (by rw [upd_ne npl.symm]; exact upd_same) upd_same fun b o e hb => by rw [upd_ne hb, upd_ne (ne_of_none e hl)]; exact e
  · refine .inr ⟨SqT.of hq, _, rfl, p, C, dx, [], rfl, hp, T.cl, T.nw, (by show 0 < 1000; decide), ?_⟩
    exact k q _ (by rw [upd_ne (ne_of hq hp (by intro z; cases z))]; exact hq) upd_same fun b o e hb => by rw [upd_ne hb]; exact e
/-- the classes as they are made -/
structure Gs (P : Program) (w : World) (K : PySem.W.Frag) (mg : Str → Option Value) (base : Heap) (c : Cs) : Prop where
  lt : ClsOk P w K mg base 1 "Letter" c.lt ["self", "letter"] (spInit c.lt "letter")
  ca : ClsOk P w K mg base 1 "Call" c.ca ["self", "name"] (spInit c.ca "name")
  ro : ClsOk P w K mg base 1 "Row" c.ro ["self", "ways"] (spInitT K c.ro)
  ch : ClsOk P w K mg base 1 "Choice" c.ch ["self", "ways"] (spInitT K c.ch)
  ag : ClsOk P w K mg base 1 "Again" c.ag ["self", "part"] (spInit c.ag "part")
  ma : ClsOk P w K mg base 1 "Maybe" c.ma ["self", "part"] (spInit c.ma "part")
  ah : ClsOk P w K mg base 1 "Ahead" c.ah ["self", "part"] (spInit c.ah "part")
  un : ClsOk P w K mg base 1 "Unless" c.un ["self", "part"] (spInit c.un "part")
  on : Mk0 K mg "One" c.on
  no : Mk0 K mg "Nothing" c.no
abbrev s_l_inner : Stmt := top 69
theorem sc_l_inner : FnScope ["_law_way_here"] ["_law_way_here"] (defScope s_l_inner) := ⟨rfl, rfl, rfl, by decide +kernel, rfl, by decide +kernel, by decide +kernel⟩
theorem d_l_inner (h : Here K mg "_law_inner" s_l_inner ["_law_way_here"]) : DefOk P w K mg base 1 "_law_inner" ["_law_way_here"] spInner := by
  refine h.ok sc_l_inner (fun vs H Q E h => by obtain ⟨p, v, rfl, _⟩ := h; rfl) (fun f cdv A outer s H vs Q E hr h => ?_)
  obtain ⟨v, w, rfl, hv, k⟩ := h
  refine ⟨_, (pss_cons (ps_if (pt_cmpR op_in_seq (pe_ix ix_tup (pv 0) pe_int (fun _ _ => rfl)) (pe_lst (pa_cons pe_str (pa_cons pe_str pa_nil))) (by rfl)) (pss_one (ps_ret (pe_ix ix_tup (pv 0) pe_int (fun _ _ => rfl)))) pss_nil)
  (pss_one (ps_ret (pe_ifExp (pt_cmpR op_in_seq (pe_ix ix_tup (pv 0) pe_int (fun _ _ => rfl)) (pe_lst (pa_cons pe_str (pa_cons pe_str (pa_cons pe_str (pa_cons pe_str pa_nil))))) (by rfl)) (pe_lst (pa_cons (pe_ix ix_tup (pv 0) pe_int (fun _ _ => rfl)) pa_nil)) (pe_lst pa_nil))))), ?_⟩
  obtain ⟨a, rest, rfl, ha⟩ := hv.head
  walk_at "rd"
  refine ⟨a, _, _, _, rfl, rfl, SqT.of ha, atI0, ?_⟩
  refine ⟨by show 2 ≤ sizeLine; decide, fun q hq => ?_⟩
  have s1 := Same.new hq (.lst [.str (Str.ofString "row"), .str (Str.ofString "choice")])
  refine ⟨q, _, rfl, .inl (SqL.of upd_same), rfl, by decide +kernel, ?_⟩
  rw [if_neg Bool.false_ne_true, in_rc]
  walk_at "rd"
  refine ite2 (fun e => ?_) (fun e => ?_)
  · have hv' := WayAt.keep (Keep.of s1) _ _ hv
    walk_at "rd"
    cases w <;> first | exact absurd e Bool.false_ne_true | skip
    all_goals
      obtain ⟨a', l, vs, e', h1, h2, h3⟩ := hv'
      cases e'
      refine ⟨a, _, _, _, rfl, rfl, SqT.of h1, atI1, ?_⟩
      exact k l vs _ s1 h2 h3
  · have hv' := WayAt.keep (Keep.of s1) _ _ hv
    walk_at "nx"
    walk_at "rd"
    refine ⟨a, _, _, _, rfl, rfl, SqT.of (s1 _ _ ha), atI0, ?_⟩
    refine ⟨by show 4 ≤ sizeLine; decide, fun q2 hq2 => ?_⟩
    have s2 := s1.trans (Same.new hq2 (.lst [.str (Str.ofString "again"), .str (Str.ofString "maybe"), .str (Str.ofString "ahead"), .str (Str.ofString "unless")]))
    refine ⟨q2, _, rfl, .inl (SqL.of upd_same), rfl, by decide +kernel, ?_⟩
    rw [if_neg Bool.false_ne_true, in_un]
    walk_at "rd"
    have hv2 := WayAt.keep (Keep.of s2) _ _ hv
    refine ite2 (fun e2 => ?_) (fun e2 => ?_)
    · cases w <;> first | exact absurd e2 Bool.false_ne_true | skip
      all_goals
        obtain ⟨a', u, e', h1, h2⟩ := hv2
        cases e'
        walk_at "rd"
        refine ⟨a, _, _, _, rfl, rfl, SqT.of h1, atI1, by show 1 ≤ sizeLine; decide, fun q3 hq3 => ?_⟩
        have s3 := Same.new hq3 (.lst [u])
        exact k q3 _ _ (s2.trans s3) upd_same ⟨u, [], rfl, WayAt.keep (Keep.of s3) _ _ h2, rfl⟩
    · refine ⟨Nat.zero_le _, fun q3 hq3 => ?_⟩
      have s3 := Same.new hq3 (.lst [])
      cases w <;> first | exact absurd rfl e2 | exact absurd rfl e | exact k q3 _ _ (s2.trans s3) upd_same rfl
abbrev s_l_made : Stmt := top 70
theorem sc_l_made : FnScope ["_law_way_here", "_law_ways", "_law_one"] ["_law_way_here"] (defScope s_l_made) := ⟨rfl, rfl, rfl, by decide +kernel, rfl, by decide +kernel, by decide +kernel⟩
theorem none_made (c : Cs) {f : Addr} {fd : FuncData} : FnOk P w K mg base CX0 2 f fd ["_law_way_here"] (spMade c 0) := by
  have no : ∀ vs H Q E, ¬ spMade c 0 vs H Q E := fun vs H Q E h => by
    obtain ⟨v, w, _, _, h1, _⟩ := h
    have := w.size_pos
    omega
  exact ⟨fun vs H Q E h => absurd h (no vs H Q E), fun A outer s H args us vs Q E _ _ _ _ h => absurd h (no vs H Q E)⟩
theorem step_l_made (c : Cs) (s : Nat) (h : Here K mg "_law_made" s_l_made ["_law_way_here"]) (g : Gs P w K mg base c) (G_l_inner : DefOk P w K mg base 1 "_law_inner" ["_law_way_here"] spInner) (G_l_made : DefOk P w K mg base (2 + s) "_law_made" ["_law_way_here"] (spMade c s)) :
    DefOk P w K mg base (2 + s + 1) "_law_made" ["_law_way_here"] (spMade c (s + 1)) := by
  have G_Letter := g.lt; have G_Call := g.ca; have G_Row := g.ro; have G_Choice := g.ch; have G_Again := g.ag; have G_Maybe := g.ma; have G_Ahead := g.ah; have G_Unless := g.un
  have G_One := g.on; have G_Nothing := g.no
  refine h.ok sc_l_made (fun vs H Q E h => by obtain ⟨p, v, rfl, _⟩ := h; rfl) (fun f cdv A outer s' H vs Q E hr h => ?_)
  obtain ⟨v, w, rfl, hv, hs, hs2, k⟩ := h
  refine ⟨_, (pss_cons (ps_if (pt_cmpR op_in_seq (pe_ix ix_tup (pv 0) pe_int (fun _ _ => rfl)) (pe_lst (pa_cons pe_str (pa_cons pe_str pa_nil))) (by rfl)) (pss_one (ps_ret (pe_ifExp (pt_cmpR op_eq (pe_ix ix_tup (pv 0) pe_int (fun _ _ => rfl)) pe_str (nomark _)) (pe_makeD G_Letter (hr.mono (by first | decide | omega)) rfl (pa_cons (pe_ix ix_tup (pv 0) pe_int (fun _ _ => rfl)) pa_nil)) (pe_makeD G_Call (hr.mono (by first | decide | omega)) rfl (pa_cons (pe_ix ix_tup (pv 0) pe_int (fun _ _ => rfl)) pa_nil))))) pss_nil)
  (pss_cons (ps_if (pt_cmpR op_in_seq (pe_ix ix_tup (pv 0) pe_int (fun _ _ => rfl)) (pe_lst (pa_cons pe_str (pa_cons pe_str pa_nil))) (by rfl)) (pss_one (ps_ret (pe_ifExp (pt_cmpR op_eq (pe_ix ix_tup (pv 0) pe_int (fun _ _ => rfl)) pe_str (nomark _)) (pe_make00 G_One rfl) (pe_make00 G_Nothing rfl)))) pss_nil)
  (pss_cons (ps_setLc (i := 1) (own := [("_law_one", 2)]) (g := (gName 2)) (tt := tYes) rfl sc_l_made.nd rfl rfl (sw_true rfl rfl rfl (by decide +kernel)) (pi_list (pe_callD G_l_inner (hr.mono (by first | decide | omega)) rfl (pa_cons (pv 0) pa_nil))) (blkOk_by (own := [("_law_one", 2)]) (N := ["_law_way_here", "_law_ways", "_law_one"]) (sc := defScope s_l_made) (by decide +kernel)) (fun _ _ _ _ _ => pg_name (i := 2) sc_l_made.nd rfl (Or.inl rfl)) (fun _ _ _ _ _ => pts_nil) (fun _ _ _ _ _ => (pe_callD G_l_made (hr.mono (by first | decide | omega)) rfl (pa_cons (pv 2) pa_nil))))
  (pss_cons (ps_if (pt_cmpR op_in_seq (pe_ix ix_tup (pv 0) pe_int (fun _ _ => rfl)) (pe_lst (pa_cons pe_str (pa_cons pe_str pa_nil))) (by rfl)) (pss_one (ps_ret (pe_ifExp (pt_cmpR op_eq (pe_ix ix_tup (pv 0) pe_int (fun _ _ => rfl)) pe_str (nomark _)) (pe_makeD G_Row (hr.mono (by first | decide | omega)) rfl (pa_cons (pv 1) pa_nil)) (pe_makeD G_Choice (hr.mono (by first | decide | omega)) rfl (pa_cons (pv 1) pa_nil))))) pss_nil)
  (pss_cons (ps_if (pt_cmpR op_in_seq (pe_ix ix_tup (pv 0) pe_int (fun _ _ => rfl)) (pe_lst (pa_cons pe_str (pa_cons pe_str pa_nil))) (by rfl)) (pss_one (ps_ret (pe_ifExp (pt_cmpR op_eq (pe_ix ix_tup (pv 0) pe_int (fun _ _ => rfl)) pe_str (nomark _)) (pe_makeD G_Again (hr.mono (by first | decide | omega)) rfl (pa_cons (pe_ix ix_list (pv 1) pe_int (fun _ _ => rfl)) pa_nil)) (pe_makeD G_Maybe (hr.mono (by first | decide | omega)) rfl (pa_cons (pe_ix ix_list (pv 1) pe_int (fun _ _ => rfl)) pa_nil))))) pss_nil)
  (pss_one (ps_ret (pe_ifExp (pt_cmpR op_eq (pe_ix ix_tup (pv 0) pe_int (fun _ _ => rfl)) pe_str (nomark _)) (pe_makeD G_Ahead (hr.mono (by first | decide | omega)) rfl (pa_cons (pe_ix ix_list (pv 1) pe_int (fun _ _ => rfl)) pa_nil)) (pe_makeD G_Unless (hr.mono (by first | decide | omega)) rfl (pa_cons (pe_ix ix_list (pv 1) pe_int (fun _ _ => rfl)) pa_nil)))))))))), ?_⟩
  obtain ⟨a, rest, rfl, ha⟩ := hv.head
  walk_at "rd"
  refine ⟨a, _, _, _, rfl, rfl, SqT.of ha, atI0, ?_⟩
  refine ⟨by show 2 ≤ sizeLine; decide, fun q hq => ?_⟩
  have s1 := Same.new hq (.lst [.str (Str.ofString "letter"), .str (Str.ofString "call")])
  refine ⟨q, _, rfl, .inl (SqL.of upd_same), rfl, by decide +kernel, ?_⟩
  rw [if_neg Bool.false_ne_true, in_lc]
  walk_at "rd"
  refine ite2 (fun e => ?_) (fun e => ?_)
  · have hv' := WayAt.keep (Keep.of s1) _ _ hv
    walk_at "rd"
    refine ⟨a, _, _, _, rfl, rfl, SqT.of (s1 _ _ ha), atI0, rfl, _, rfl, ?_⟩
    rw [eq_letter]
    cases w <;> first | exact absurd e Bool.false_ne_true | skip
    · obtain ⟨a', e', h1⟩ := hv'
      cases e'
      refine iteT ?_
      walk_at "rd"
      refine ⟨a, _, _, _, rfl, rfl, SqT.of h1, atI1, make1 fun x dx H' s2 hx h => ?_⟩
      exact k _ H' (s1.trans s2) ⟨x, dx, rfl, h⟩
    · obtain ⟨a', e', h1⟩ := hv'
      cases e'
      refine iteF ?_
      walk_at "rd"
      refine ⟨a, _, _, _, rfl, rfl, SqT.of h1, atI1, make1 fun x dx H' s2 hx h => ?_⟩
      exact k _ H' (s1.trans s2) ⟨x, dx, rfl, h⟩
  · walk_at "nx"
    walk_at "rd"
    refine ⟨a, _, _, _, rfl, rfl, SqT.of (s1 _ _ ha), atI0, ?_⟩
    refine ⟨by show 2 ≤ sizeLine; decide, fun q2 hq2 => ?_⟩
    have s2 := s1.trans (Same.new hq2 (.lst [.str (Str.ofString "one"), .str (Str.ofString "nothing")]))
    refine ⟨q2, _, rfl, .inl (SqL.of upd_same), rfl, by decide +kernel, ?_⟩
    rw [if_neg Bool.false_ne_true, in_on]
    walk_at "rd"
    refine ite2 (fun e2 => ?_) (fun e2 => ?_)
    · walk_at "rd"
      refine ⟨a, _, _, _, rfl, rfl, SqT.of (s2 _ _ ha), atI0, rfl, _, rfl, ?_⟩
      rw [eq_one]
      cases w <;> first | exact absurd e2 Bool.false_ne_true | skip
      · exact iteF (make0 fun x dx H' s3 hx h => k _ H' (s2.trans s3) ⟨x, dx, rfl, h⟩)
      · exact iteT (make0 fun x dx H' s3 hx h => k _ H' (s2.trans s3) ⟨x, dx, rfl, h⟩)
    · walk_at "nx"
      refine ⟨_, rfl, .ref a, w, rfl, WayAt.keep (Keep.of s2) _ _ hv, fun qi us Hi si hqi hus => ?_⟩
      have s3 := s2.trans si
      refine ⟨qi, rfl, ⟨us, SqL.of hqi⟩, fun D hD => ?_⟩
      have elen := WaysAt.len _ _ hus
      refine lc_list (K := K) (a := qi) (xs := us) (fun i H' => ∃ os, H' D = some (.lst os) ∧ os.length = i ∧ Same Hi H' ∧ ObjsAt c H' os (w.inner.take i)) ?_ ?_ ?_ ?_
      · exact ⟨[], upd_same, rfl, Same.new hD _, rfl⟩
      · rintro i H' _ ⟨os, _, _, s4, _⟩
        exact SqL.of (s4 _ _ hqi)
      · rintro i x H' hx ⟨os, hD', hlo, s4, hos⟩
        have hi : i < us.length := (List.getElem?_eq_some_iff.mp hx).1
        obtain ⟨wi, hwi⟩ : ∃ wi, w.inner[i]? = some wi := ⟨w.inner[i]'(by omega), List.getElem?_eq_getElem (by omega)⟩
        obtain ⟨x', hx', hxw⟩ := WaysAt.at_ _ _ _ _ hus hwi
        have ex : x = x' := Option.some.inj (hx.symm.trans hx')
        subst ex
        have hsz := W.size_mem hwi
        have hsi := w.size_inner
        refine ⟨rfl, _, rfl, x, wi, rfl, WayAt.keep (Keep.of s4) _ _ hxw, by omega, by omega, fun u H2 s5 hu => ?_⟩
        have hl := W.sizes_len w.inner
        refine ⟨os, s5 _ _ hD', small' (by omega), os ++ [u], upd_same, by rw [List.length_append, hlo]; rfl, Same.put hD (s4.trans s5) _, ?_⟩
        rw [take_more' hwi]
        have st : Still H2 (upd H2 D (.lst (os ++ [u]))) := Still.put (s5 _ _ hD')
        exact ObjsAt.app _ _ (ObjsAt.keep ((stillS s5).trans st) _ _ hos) ⟨u, [], rfl, ObjAt.keep st _ _ hu, rfl⟩
      · rintro H5 ⟨os, hD', hlo, s4, hos⟩
        rw [elen, List.take_length] at hos
        have s5 := s3.trans s4
        have ha5 := s5 _ _ ha
        walk_at "nx"
        walk_at "rd"
        refine ⟨a, _, _, _, rfl, rfl, SqT.of ha5, atI0, ?_⟩
        refine ⟨by show 2 ≤ sizeLine; decide, fun q3 hq3 => ?_⟩
        have s6 := Same.new hq3 (.lst [.str (Str.ofString "row"), .str (Str.ofString "choice")])
        refine ⟨q3, _, rfl, .inl (SqL.of upd_same), rfl, by decide +kernel, ?_⟩
        rw [if_neg Bool.false_ne_true, in_rc]
        walk_at "rd"
        refine ite2 (fun e3 => ?_) (fun e3 => ?_)
        · walk_at "rd"
          refine ⟨a, _, _, _, rfl, rfl, SqT.of (s6 _ _ ha5), atI0, rfl, _, rfl, ?_⟩
          rw [eq_row]
          cases w <;> first | exact absurd e3 Bool.false_ne_true | skip
          · refine iteT ⟨_, rfl, makeT (.inl (s6 _ _ hD')) fun x dx t H' s7 hx ht h => ?_⟩
            exact k _ H' ((s5.trans s6).trans s7) ⟨x, dx, t, os, rfl, h, ht, ObjsAt.keep (stillS (s6.trans s7)) _ _ hos⟩
          · refine iteF ⟨_, rfl, makeT (.inl (s6 _ _ hD')) fun x dx t H' s7 hx ht h => ?_⟩
            exact k _ H' ((s5.trans s6).trans s7) ⟨x, dx, t, os, rfl, h, ht, ObjsAt.keep (stillS (s6.trans s7)) _ _ hos⟩
        · walk_at "nx"
          walk_at "rd"
          refine ⟨a, _, _, _, rfl, rfl, SqT.of (s6 _ _ ha5), atI0, ?_⟩
          refine ⟨by show 2 ≤ sizeLine; decide, fun q4 hq4 => ?_⟩
          have s7 := s6.trans (Same.new hq4 (.lst [.str (Str.ofString "again"), .str (Str.ofString "maybe")]))
          refine ⟨q4, _, rfl, .inl (SqL.of upd_same), rfl, by decide +kernel, ?_⟩
          rw [if_neg Bool.false_ne_true, in_am]
          walk_at "rd"
          refine ite2 (fun e4 => ?_) (fun e4 => ?_)
          · walk_at "rd"
            refine ⟨a, _, _, _, rfl, rfl, SqT.of (s7 _ _ ha5), atI0, rfl, _, rfl, ?_⟩
            rw [eq_again]
            cases w <;> first | exact absurd e4 Bool.false_ne_true | skip
            · obtain ⟨u, us', rfl, hu, hn⟩ := hos
              refine iteT ⟨_, rfl, D, _, _, _, rfl, rfl, SqL.of (s7 _ _ hD'), atI0, make1 fun x dx H' s8 hx h => ?_⟩
              exact k _ H' ((s5.trans s7).trans s8) ⟨x, dx, u, rfl, h, ObjAt.keep (stillS (s7.trans s8)) _ _ hu⟩
            · obtain ⟨u, us', rfl, hu, hn⟩ := hos
              refine iteF ⟨_, rfl, D, _, _, _, rfl, rfl, SqL.of (s7 _ _ hD'), atI0, make1 fun x dx H' s8 hx h => ?_⟩
              exact k _ H' ((s5.trans s7).trans s8) ⟨x, dx, u, rfl, h, ObjAt.keep (stillS (s7.trans s8)) _ _ hu⟩
          · walk_at "nx"
            walk_at "rd"
            refine ⟨a, _, _, _, rfl, rfl, SqT.of (s7 _ _ ha5), atI0, rfl, _, rfl, ?_⟩
            rw [eq_ahead]
            cases w <;> first | exact absurd rfl e | exact absurd rfl e2 | exact absurd rfl e3 | exact absurd rfl e4 | skip
            · obtain ⟨u, us', rfl, hu, hn⟩ := hos
              refine iteT ⟨_, rfl, D, _, _, _, rfl, rfl, SqL.of (s7 _ _ hD'), atI0, make1 fun x dx H' s8 hx h => ?_⟩
              exact k _ H' ((s5.trans s7).trans s8) ⟨x, dx, u, rfl, h, ObjAt.keep (stillS (s7.trans s8)) _ _ hu⟩
            · obtain ⟨u, us', rfl, hu, hn⟩ := hos
              refine iteF ⟨_, rfl, D, _, _, _, rfl, rfl, SqL.of (s7 _ _ hD'), atI0, make1 fun x dx H' s8 hx h => ?_⟩
              exact k _ H' ((s5.trans s7).trans s8) ⟨x, dx, u, rfl, h, ObjAt.keep (stillS (s7.trans s8)) _ _ hu⟩
theorem d_l_made (c : Cs) (h : Here K mg "_law_made" s_l_made ["_law_way_here"]) (g : Gs P w K mg base c) (G_l_inner : DefOk P w K mg base 1 "_law_inner" ["_law_way_here"] spInner) : ∀ s, DefOk P w K mg base (2 + s) "_law_made" ["_law_way_here"] (spMade c s)
  | 0 => by
    obtain ⟨f, fd, F, m, b⟩ := h.ex
    exact ⟨f, fd, m, F.kp, b, none_made c⟩
  | s + 1 => step_l_made c s h g G_l_inner (d_l_made c h g G_l_inner s)
abbrev s_l_way : Stmt := top 67
theorem sc_l_way : FnScope ["_law_pen_here", "_law_signs_here", "_law_most", "_law_size"] ["_law_pen_here", "_law_signs_here", "_law_most"] (defScope s_l_way) := ⟨rfl, rfl, rfl, by decide +kernel, rfl, by decide +kernel, by decide +kernel⟩
theorem d_l_way (h : Here K mg "_law_way" s_l_way ["_law_pen_here", "_law_signs_here", "_law_most"]) (G_l_draw : DefOk P w K mg base 1 "_law_draw" ["_law_pen_here", "_law_many"] (spDraw K)) (G_l_way_of : DefOk P w K mg base (3 + 30) "_law_way_of" ["_law_pen_here", "_law_signs_here", "_law_size"] (spWayOf K 30)) :
    DefOk P w K mg base 34 "_law_way" ["_law_pen_here", "_law_signs_here", "_law_most"] (spWay K) := by
  refine h.ok sc_l_way (fun vs H Q E h => by obtain ⟨p, v, m, n, rfl, _⟩ := h; rfl) (fun f cdv A outer s' H vs Q E hr h => ?_)
  obtain ⟨p, z, m, n, rfl, hP, hn, hz0, hz1, hz, hm0, hm1, k⟩ := h
  refine ⟨_, (pss_cons (ps_set (i := 3) sc_l_way.nd rfl (Or.inl rfl) (pe_op op_add pe_int (pe_callD G_l_draw (hr.mono (by first | decide | omega)) rfl (pa_cons (pv 0) (pa_cons (pv 2) pa_nil)))))
  (pss_one (ps_ret (pe_callD G_l_way_of (hr.mono (by first | decide | omega)) rfl (pa_cons (pv 0) (pa_cons (pv 1) (pa_cons (pv 3) pa_nil))))))), ?_⟩
  refine ⟨_, rfl, _, rfl, p, m, n, rfl, hP, by omega, by omega, by omega, fun d H1 d0 d1 k1 hP1 => ?_⟩
  walk_at "rd"
  have e1 : (1 + d) = ((d.toNat + 1 : Nat) : Int) := by omega
  refine ⟨p, z, d.toNat + 1, n + 1, by rw [← e1]; rfl, hP1, by omega, hz0, hz1, hz, by omega, by omega, by omega, fun v w H2 hs hw hv k2 hP2 => ?_⟩
  exact k v w H2 (by omega) hw (WayAt.keep (newer_down k1) _ _ hv) (k1.trans k2) (hP2.mono (by omega))
end
end Wv
/-! Rules of my own: t[::-1] of a tuple, xs.extend(t) of a tuple, constants of the module. -/
namespace Wv
open PySem PySem.Spec PyProof.Rows L2 HT
section
variable {prog : Program} {w : World} {A : Around} {E : Value → Shared → Prop} {s : Shared}
theorem adj_back (n : Nat) : Builtin.Slice.sliceAdjust none none (-1) (n : Int) = ((n : Int) - 1, -1) := by
  unfold Builtin.Slice.sliceAdjust
  simp
theorem places_back (n : Nat) : Builtin.Slice.slicePlaces ((n : Int) - 1) (-1) (-1) = n := by
  unfold Builtin.Slice.slicePlaces
  simp
  omega
theorem applied_back {sl : Addr} {n : Nat} {t : Tok} {Q : Int × Int × Nat → Shared → Prop} (hs : s.heap.IsSliceOf sl .none .none (.int (-1) t)) (h : Q ((n : Int) - 1, -1, n) s) :
    wpAny (model prog w) A (Builtin.Slice.sliceApplied (.ref sl) (pure (n : Int))) Q E s := by
  obtain ⟨os, hos, hcs, hds⟩ := id hs
  unfold Builtin.Slice.sliceApplied Builtin.Slice.sliceFields
  refine wpAny_bind (wpAny_bind (wpAny_field hos hds (x := Value.none) rfl (wpAny_bind (wpAny_field hos hds (x := Value.none) rfl (wpAny_bind (wpAny_field hos hds (x := Value.int (-1) t) rfl (wpAny_pure ?_)))))))
  refine wpAny_bind (slicePart_int ?_)
  show wpAny _ _ (if ((-1 : Int) == 0) = true then _ else _) _ _ s
  rw [if_neg (by decide)]
  refine wpAny_bind (slicePart_none (wpAny_bind (slicePart_none (wpAny_bind (wpAny_pure ?_)))))
  show wpAny _ _ (match Builtin.Slice.sliceAdjust none none (-1) (n : Int) with | (lo, hi) => pure (lo, (-1 : Int), Builtin.Slice.slicePlaces lo hi (-1))) _ _ s
  rw [adj_back n]
  show wpAny _ _ (pure ((n : Int) - 1, (-1 : Int), Builtin.Slice.slicePlaces ((n : Int) - 1) (-1) (-1))) _ _ s
  rw [places_back]
  exact wpAny_pure h
theorem pick_back (xs : Array Value) : ((List.range xs.size).filterMap fun (m : Nat) => xs[(((xs.size : Int) - 1) + (m : Int) * (-1)).toNat]?).toArray = xs.toList.reverse.toArray := by
  have e : (fun (m : Nat) => xs[(((xs.size : Int) - 1) + (m : Int) * (-1)).toNat]?) = (fun i => xs[i]?) ∘ fun m => xs.size - 1 - m := by
    funext m
    have : (((xs.size : Int) - 1) + (m : Int) * (-1)).toNat = xs.size - 1 - m := by omega
    rw [this]
    rfl
  rw [e, ← List.filterMap_map, PySem.W.krv_range, List.filterMap_reverse, PySem.W.krv_all]
theorem getItem_tuple_back {t sl : Addr} {items : Array Value} {tk : Tok} {Q : Value → Shared → Prop} (ht : IsTup s.heap t items) (hs : s.heap.IsSliceOf sl .none .none (.int (-1) tk))
    (h : Q (.ref s.heap.objs.size) { s with heap := s.heap.push { cls := .type "tuple", data := .seq items.toList.reverse.toArray } }) (hsz : items.size ≤ sizeLine) : wpAny (model prog w) A (getItem (.ref t) (.ref sl)) Q E s := by
  have htake : sizeOk (.seq items.toList.reverse.toArray) := by
    show items.toList.reverse.toArray.size ≤ sizeLine
    rw [List.size_toArray, List.length_reverse, Array.length_toList]
    exact hsz
  obtain ⟨os, hos, hcs, _⟩ := id hs
  have isSl : s.TypeIs (.ref sl) "slice" := ⟨os, hos, hcs⟩
  unfold getItem
  try with_reducible refine wpAny_holding ?_
  first | refine wpAny_bind (wpAny_pure ?_) | skip
  refine wpAny_bind (wpAny_sequenceKey ht.typeIs (by decide) ?_)
  refine wpAny_bind (wpAny_callSpecial?_slot (name := Str.ofString "__getitem__") ht.typeIs slot_tuple_getitem (wpAny_call_entry slot_tuple_getitem ht.typeIs entry_tuple_getitem ?_ (args_tuple_getitem _ _)))
  show wpAny _ _ (Builtin.Tuple.tupleItemsOf (.ref t) >>= _) _ _ s
  refine wpAny_bind (tupleItemsOf_ ht (wpAny_bind (wpAny_typeOf isSl ?_)))
  rw [if_pos (by decide)]
  refine wpAny_bind (applied_back hs ?_)
  show wpAny _ _ (if (((items.size : Int) - 1) == 0 && (-1 : Int) == 1 && items.size == items.size) = true then _ else _) _ _ s
  rw [if_neg (by simp), pick_back]
  first
    | exact wpAny_bind (m := Builtin.Tuple.tupleExact _) (wpAny_newObj_type (wpAny_pure ⟨_, rfl, wpAny_pure h⟩) htake)
    | exact wpAny_bind (wpAny_bind (m := Builtin.Tuple.tupleExact _) (wpAny_newObj_type (wpAny_pure (wpAny_pure ⟨_, rfl, wpAny_pure h⟩)) htake))
    | exact wpAny_bind (wpAny_bind (m := Builtin.Tuple.tupleExact _) (wpAny_newObj_type (wpAny_pure ⟨_, rfl, wpAny_pure h⟩) htake))
    | exact wpAny_bind (m := Builtin.Tuple.tupleExact _) (wpAny_newObj_type (wpAny_bind (wpAny_pure (wpAny_pure ⟨_, rfl, wpAny_pure h⟩))) htake)
end
/-! ### t[::-1] -/
def tRevT (K : PySem.W.Frag) (te : TE) : TE := fun σ H Q => te σ H fun x H1 => ∃ a xs, x = .ref a ∧ SqT K H1 a xs ∧ ∀ p, H1 p = none → Q (.ref p) (upd H1 p (.tup xs.reverse))
section
variable {X : Cx}
theorem pe_revT {e : Expr} {te : TE} {k : Nat} {p1 p2 p3 pos : Pos} (he : PE X e te) : PE X (.Subscript e (.Slice none none (some (.UnaryOp .USub (.Constant (.int 1) k p1) p2)) p3) pos) (tRevT X.K te) := by
  refine ⟨fun pins s σ H Q I h => ?_⟩
  refine Subscript_ (thn (he.run pins s σ H _ I h) fun v s1 ⟨x, H1, I1, r1, q1⟩ => ?_)
  obtain ⟨a, xs, ex, hx, q⟩ := q1
  subst ex
  cases r1
  have hst : PO X (some (.UnaryOp .USub (.Constant (.int 1) k p1) p2)) (tPart (tUn (rU fun i => .int (-i)) (tC (.int 1)))) := po_some (pe_un un_neg pe_int)
  refine wpAny_Slice (thn (po_none.run pins s1 σ H1 (fun o H2 => o = none ∧ H2 = H1) I1 ⟨rfl, rfl⟩) fun vl s2 ⟨l, H2, I2, pl, el, e2⟩ => ?_)
  subst el e2
  refine thn (po_none.run pins s2 σ H2 (fun o H3 => o = none ∧ H3 = H2) I2 ⟨rfl, rfl⟩) fun vu s3 ⟨u, H3, I3, pu, eu, e3⟩ => ?_
  subst eu e3
  refine thn (hst.run pins s3 σ H3 (fun o H4 => o = some (-1) ∧ H4 = H3) I3 ⟨1, rfl, -1, rfl, rfl, rfl⟩) fun vs s4 ⟨o, H4, I4, ps, eo, e4⟩ => ?_
  subst eo e4
  cases pl
  cases pu
  generalize hv : (-1 : Int) = mi at ps
  cases ps with
  | int i tk =>
    subst hv
    have I5 : Inv X pins σ H4 { s4 with heap := s4.heap.push { cls := .type "slice", data := .fields #[.none, .none, .int (-1) tk] } } := I4.kept (t' := s4.toks) fun b ob q => Heap.get?_push_of_some _ q
    obtain ⟨its, r, ht, hz⟩ := I5.tuple hx
    have hlen := r.length
    show wpAny (model X.prog X.w) X.A (subscriptTail e (.Slice none none (some (.UnaryOp .USub (.Constant (.int 1) k p1) p2)) p3) (.ref a) (.ref s4.heap.objs.size)) (EP X pins σ Q) X.xe { s4 with heap := s4.heap.push { cls := .type "slice", data := .fields #[.none, .none, .int (-1) tk] } }
    refine tail_any (ops := [.ref a, .ref s4.heap.objs.size]) ht.typeIs (PyProof.Rows.slot_tuple_getitem.lookup) ?_ (by with_unfolding_all rfl)
    refine getItem_tuple_back ht (Heap.IsSliceOf.new _ .none .none (.int (-1) tk)) ?_ (by rw [List.size_toArray]; omega)
    refine ⟨.ref _, _, I5.laid (t' := s4.toks) (o := .tup xs.reverse) (fun b ob q => Heap.get?_push_of_some _ q) (Nat.le_refl _) ?_, rfl, q _ (I5.hok.fresh (Nat.le_refl _))⟩
    exact ⟨by rw [List.length_reverse]; exact hz, _, r.reverse, IsTup.new _ _⟩
/-! ### xs.extend(t), t a tuple -/
theorem ext_tup (l : Addr) (items : Array Value) (n : Nat) (b : Addr) (items2 : Array Value) (n2 : Nat) (dd : Option Addr) (sl : Array (Option Value)) (hs0 : ¬(!items.isEmpty && Builtin.List.listTooLong (items.size + items2.size)) = true) (hs1 : items.size ≤ sizeLine) (hs2 : items.size + items2.size ≤ sizeLine + 1) :
    Meets (Builtin.«list.extend» ⟨[.ref l, .ref b], []⟩) (fun _ R s => s.heap.get? l = some { cls := .type "list", dict := none, data := .seq items n, slots := #[] } ∧ s.heap.get? b = some { cls := .type "tuple", dict := dd, data := .seq items2 n2, slots := sl } ∧
      R (.ok (.ret Value.none)) { s with heap := s.heap.update l (Obj.mapSeq fun x => x ++ items2), toks := s.toks }) :=
  .of_wp fun prog w A R s h => by
    obtain ⟨hp, g, d, tk, os⟩ := s
    obtain ⟨hl, hb, h⟩ := h
    have f1 := AutoSeq1.idx_int; have f2 := AutoSeq1.sub_tuple_tuple; have f3 := AutoSeq1.sub_list_list; have f4 := AutoSeq1.sub_tuple_list; have f5 := AutoSeq1.sub_list_tuple
    have hz' : (items ++ items2).size ≤ sizeLine + 1 := by rw [Array.size_append]; omega
    wp_walk using (wpAny_updateSeq hl rfl (hz := hs1) (_hz' := hz')), wpAny_loadPart' hl, wpAny_loadPart' hb
    exact ⟨_, rfl, h⟩
def rExtT (K : PySem.W.Frag) : V → List V → Hp → VK → Prop := fun x vs H Q => ∃ l b xs zs, x = .ref l ∧ vs = [.ref b] ∧ H l = some (.lst xs) ∧ SqT K H b zs ∧ xs.length + zs.length ≤ sizeLine ∧ Q .non (upd H l (.lst (xs ++ zs)))
theorem mt_extendT : MtR X "list.extend" (rExtT X.K) := by
  intro pins s σ H x vs v us Q I rx rv h
  obtain ⟨l, b, xs, zs, rfl, rfl, hH, hB, hz, q⟩ := h
  cases rx
  obtain ⟨u, rfl, ru⟩ := rv.one
  cases ru
  obtain ⟨z, its, n, r, hl, e⟩ := I.lstM hH
  obtain ⟨its2, r2, ht2, hl2⟩ := I.tuple hB
  obtain ⟨⟨cls2, dd2, data2, sl2⟩, e2, hc2, n2, hd2⟩ := id ht2
  simp only at hc2 hd2
  subst hc2 hd2
  have hsz : its.toArray.size + its2.toArray.size ≤ sizeLine := by rw [List.size_toArray, List.size_toArray, ← r.length, ← r2.length]; exact hz
  have hlong : ¬ (!its.toArray.isEmpty && Builtin.List.listTooLong (its.toArray.size + its2.toArray.size)) = true := by
    rw [notLongL hsz, Bool.and_false]
    exact Bool.false_ne_true
  refine call_meets PySem.F.slot_list_extend ⟨_, e, rfl⟩ PySem.F.entry_list_extend (PySem.F.args_list_extend_2 _ _) (ext_tup l its.toArray n b its2.toArray n2 dd2 sl2 hlong (by omega) (by omega)) ⟨e, e2, ?_⟩
  refine ⟨.non, _, I.lset (its' := its ++ its2) hH e (by simp) (r.append r2) ?_, rfl, q⟩
  rw [List.length_append]
  exact hz
/-! ### a constant of the module -/
theorem pe_globI {x : Str} {i : Int} {pos : Pos} (hg : Gl X x) (hm : ∃ t, X.mg x = some (.int i t)) (hd : (x == ("__debug__" : Str)) = false := by decide) : PE X (.Name x pos) (tC (.int i)) := by
  obtain ⟨t, e⟩ := hm
  exact pe_glob hg e ⟨t, rfl⟩ hd
/-- a class of the module as a value -/
theorem pe_globC {x : Str} {C : Addr} {pos : Pos} (hg : Gl X x) (hm : X.mg x = some (.ref C)) (hd : (x == ("__debug__" : Str)) = false := by decide) : PE X (.Name x pos) (tC (.ref C)) := pe_glob hg hm rfl hd
/-- t + u, also of empty ones -/
def rCatA (K : PySem.W.Frag) : R2 := fun x y H Q => ∃ a b xs ys, x = .ref a ∧ y = .ref b ∧ SqT K H a xs ∧ SqT K H b ys ∧ xs.length + ys.length ≤ sizeLine ∧
  (xs = [] → Q (.ref b) H) ∧ (xs ≠ [] → ys = [] → Q (.ref a) H) ∧ (xs ≠ [] → ys ≠ [] → ∀ p, H p = none → Q (.ref p) (upd H p (.tup (xs ++ ys))))
theorem op_catA : OpR X (binaryOp .Add) (rCatA X.K) := by
  intro pins s σ H x y v u Q I rx ry h
  obtain ⟨a, b, xs, ys, rfl, rfl, ha, hb, hz, q0, q1, q2⟩ := h
  by_cases hx : xs = []
  · subst hx
    cases rx
    cases ry
    obtain ⟨its, r1, p1, _⟩ := I.tuple ha
    obtain ⟨its2, r2, p2, _⟩ := I.tuple hb
    cases r1
    obtain ⟨⟨cls, dd, data, sl⟩, ho, hc, n, hd⟩ := id p1
    obtain ⟨⟨cls2, dd2, data2, sl2⟩, ho2, hc2, n2, hd2⟩ := id p2
    simp only at hc hd hc2 hd2
    subst hc hd hc2 hd2
    exact concat_meets ⟨_, ho, rfl⟩ ⟨_, ho2, rfl⟩ noFill_tuple_add seq_tuple_add PySem.F.slot_tuple_add PySem.F.entry_tuple_add (PySem.F.args_tuple_add_2 _ _)
      (tuple_addW0 a b #[] its2.toArray n n2 dd dd2 sl sl2 (by rfl)) ⟨ho, ho2, ⟨.ref b, H, I, rfl, q0 rfl⟩⟩
  · exact op_catT pins s σ H _ _ v u Q I rx ry ⟨a, b, xs, ys, rfl, rfl, ha, hb, hx, hz, q1 hx, q2 hx⟩
/-- what does not name the part around it: for a comprehension's block -/
theorem op_catTK {K : PySem.W.Frag} (e : X.K = K) : OpR X (binaryOp .Add) (rCatT K) := e ▸ op_catT
theorem pg_tupK {K : PySem.W.Frag} {es : List Expr} {k : Nat} {t : TGs} {n : Nat} {pos : Pos} (e : X.K = K) (hc : X.calm = true) (h : PGs X es t)
    (hn : (assignEach es X.env).length = n := by rfl) (hst : (assignEach es X.env).findIdx? (·.1) = none := by rfl) : PG X (.Tuple es k pos) (gTup K n t) := e ▸ pg_tup hc h hn hst
end
end Wv
/-! list(zip(s, t)) of two tuples of one length: the pairs are kept, so that each turn makes its own. -/
namespace Wz
open PySem
open Sem (wp)
open PySem.W (kdx_alive)
section
variable {prog : Program} {w : World} {A : Around} {E : Value → Shared → Prop} {s : Shared}
theorem held_item {z TI TO T i1 i2 l1 l2 : Addr} {f : Bool} {oT : Obj} {k1 k2 : Nat} {xs ys : Array Value} {x y : Value} {Q : Value → Shared → Prop} (D : ZipApart z TI TO i1 i2 l1 l2)
    (zh : IsZipHeld s.heap z TI TO T f) (hT : s.heap.get? T = some oT) (hTI : IsPair s.heap TI (.ref i1) (.ref i2)) (t1 : s.heap.IsTupleIter i1 l1 k1) (t2 : s.heap.IsTupleIter i2 l2 k2) (u1 : s.heap.IsTuple l1 xs) (u2 : s.heap.IsTuple l2 ys)
    (hx : xs[k1]? = some x) (hy : ys[k2]? = some y)
    (go : ∀ h', IsZipHeld h' z TI TO T true → h'.IsTupleIter i1 l1 (k1 + 1) → h'.IsTupleIter i2 l2 (k2 + 1) → IsPair h' s.heap.objs.size x y → h'.objs.size = s.heap.objs.size + 1 → (∀ c o, c ≠ z → c ≠ i1 → c ≠ i2 → s.heap.get? c = some o → h'.get? c = some o) →
      Q (.ref s.heap.objs.size) { s with heap := h' }) : wpAny (model prog w) A (Builtin.«zip.__next__» ⟨[.ref z], []⟩) (fun fin s' => ∃ v, fin = .done (.ret v) ∧ Q v s') E s := by
  show wpAny _ _ (field (.ref z) 2 >>= _) _ _ _
  refine wpAny_bind (wpAny_field zh rfl (x := .bool false) rfl ?_); show wpAny _ _ (field (.ref z) 3 >>= _) _ _ _
  refine wpAny_bind (wpAny_field zh rfl (x := .ref TI) rfl (wpAny_bind (wpAny_seqItems hTI rfl ?_)))
  show wpAny _ _ (Builtin.SmallTypes.ownedTupleIsFree (.ref z) >>= _) _ _ _
  refine wpAny_bind (wpAny_tupleHeld_zip zh hT fun ha za sa => ?_)
  simp only [Bool.false_eq_true, if_false]
  refine wpAny_bind ?_
  rw [← Array.forIn_toList]; simp only [List.forIn_cons, List.forIn_nil]
  refine wpAny_bind (wpAny_bind (wpAny_holding ?_)); show wpAny _ _ (Builtin.SmallTypes.nextOf (.ref i1) >>= _) _ _ _
  refine wpAny_bind (RZ.nextOf_tuple_item (s := { s with heap := ha }) (t1.extBut sa.extBut D.i1z) (u1.extBut sa.extBut D.l1z) hx fun hb tb sb => wpAny_pure (wpAny_pure ?_))
  refine wpAny_bind (wpAny_bind (wpAny_holding ?_)); show wpAny _ _ (Builtin.SmallTypes.nextOf (.ref i2) >>= _) _ _ _
  refine wpAny_bind (RZ.nextOf_tuple_item (s := { s with heap := hb }) ((t2.extBut sa.extBut D.i2z).extBut sb.extBut D.i12.symm) ((u2.extBut sa.extBut D.l2z).extBut sb.extBut D.l2i1) hy fun hc tc sc => wpAny_pure (wpAny_pure (wpAny_pure ?_)))
  show wpAny _ _ (newTuple [x, y] >>= _) _ _ _
  refine wpAny_bind (wpAny_newTuple ?_)
  have ez : hc.objs.size = s.heap.objs.size := by rw [sc.1, sb.1, sa.1]
  have zc : IsZipHeld hc z TI TO T true := sc.extBut _ _ D.i2z.symm (sb.extBut _ _ D.i1z.symm za)
  have kc : ∀ c o, c ≠ z → c ≠ i1 → c ≠ i2 → s.heap.get? c = some o → hc.get? c = some o := fun c o c1 c2 c3 e => sc.extBut _ _ c3 (sb.extBut _ _ c2 (sa.extBut _ _ c1 e))
  have td : hc.IsTupleIter i1 l1 (k1 + 1) := tb.extBut sc.extBut D.i12
  refine wpAny_pure ⟨_, rfl, ?_⟩
  show Q (.ref hc.objs.size) _
  have pn : IsPair (hc.push { cls := .type "tuple", data := .seq #[x, y] }) hc.objs.size x y := Heap.get?_push_size _ rfl
  have sn : (hc.push { cls := .type "tuple", data := .seq #[x, y] }).objs.size = hc.objs.size + 1 := Heap.size_push ..
  rw [ez] at pn sn ⊢
  exact go _ (Heap.get?_push_of_some _ zc) (td.at fun o e => Heap.get?_push_of_some _ e) (tc.at fun o e => Heap.get?_push_of_some _ e) pn sn fun c o c1 c2 c3 e => Heap.get?_push_of_some _ (kc c o c1 c2 c3 e)
theorem held_end {z TI TO T i1 i2 l1 l2 : Addr} {f : Bool} {oT : Obj} {k1 : Nat} {xs : Array Value} {Q : Fin → Shared → Prop} (hh : A.handled = none) (D : ZipApart z TI TO i1 i2 l1 l2)
    (zh : IsZipHeld s.heap z TI TO T f) (hT : s.heap.get? T = some oT) (hTI : IsPair s.heap TI (.ref i1) (.ref i2)) (t1 : s.heap.IsTupleIter i1 l1 k1) (u1 : s.heap.IsTuple l1 xs) (hx : xs[k1]? = none)
    (go : ∀ h' e, (∀ c o, c ≠ z → c ≠ i1 → c ≠ i2 → s.heap.get? c = some o → h'.get? c = some o) → (∃ o, h'.get? e = some o ∧ o.cls = .type "StopIteration") → E (.ref e) { s with heap := h' }) :
    wpAny (model prog w) A (Builtin.«zip.__next__» ⟨[.ref z], []⟩) Q E s := by
  show wpAny _ _ (field (.ref z) 2 >>= _) _ _ _
  refine wpAny_bind (wpAny_field zh rfl (x := .bool false) rfl ?_); show wpAny _ _ (field (.ref z) 3 >>= _) _ _ _
  refine wpAny_bind (wpAny_field zh rfl (x := .ref TI) rfl (wpAny_bind (wpAny_seqItems hTI rfl ?_)))
  show wpAny _ _ (Builtin.SmallTypes.ownedTupleIsFree (.ref z) >>= _) _ _ _
  refine wpAny_bind (wpAny_tupleHeld_zip zh hT fun ha za sa => ?_)
  simp only [Bool.false_eq_true, if_false]
  refine wpAny_bind ?_
  rw [← Array.forIn_toList]; simp only [List.forIn_cons, List.forIn_nil]
  refine wpAny_bind (wpAny_bind (wpAny_holding ?_)); show wpAny _ _ (Builtin.SmallTypes.nextOf (.ref i1) >>= _) _ _ _
  refine wpAny_bind (RZ.nextOf_tuple_end (s := { s with heap := ha }) hh (t1.extBut sa.extBut D.i1z) (u1.extBut sa.extBut D.l1z) hx fun hb e sb he => ?_)
  exact go hb e (fun c o c1 c2 _ x => sb _ _ c2 (sa.extBut _ _ c1 x)) he
theorem next_held {z TI TO T i1 i2 l1 l2 : Addr} {f : Bool} {oT : Obj} {k1 k2 : Nat} {xs ys : Array Value} {x y : Value} {Q : Option Value → Shared → Prop} (D : ZipApart z TI TO i1 i2 l1 l2)
    (zh : IsZipHeld s.heap z TI TO T f) (hT : s.heap.get? T = some oT) (hTI : IsPair s.heap TI (.ref i1) (.ref i2)) (t1 : s.heap.IsTupleIter i1 l1 k1) (t2 : s.heap.IsTupleIter i2 l2 k2) (u1 : s.heap.IsTuple l1 xs) (u2 : s.heap.IsTuple l2 ys)
    (hx : xs[k1]? = some x) (hy : ys[k2]? = some y)
    (go : ∀ h', IsZipHeld h' z TI TO T true → h'.IsTupleIter i1 l1 (k1 + 1) → h'.IsTupleIter i2 l2 (k2 + 1) → IsPair h' s.heap.objs.size x y → h'.objs.size = s.heap.objs.size + 1 → (∀ c o, c ≠ z → c ≠ i1 → c ≠ i2 → s.heap.get? c = some o → h'.get? c = some o) →
      Q (some (.ref s.heap.objs.size)) { s with heap := h' }) : wpAny (model prog w) A (pyNext (.ref z)) Q E s := by
  have ty : s.TypeIs (.ref z) "zip" := ⟨_, zh, rfl⟩
  unfold pyNext
  exact wpAny_bind (wpAny_attempt (wpAny_callSpecial?_slot (name := Str.ofString "__next__") ty F.slot_zip_next (wpAny_call_entry F.slot_zip_next ty F.entry_zip_next
    (held_item D zh hT hTI t1 t2 u1 u2 hx hy fun h' a1 a3 a4 a5 a6 a7 => wpAny_pure (go h' a1 a3 a4 a5 a6 a7)) (F.args_zip_next_1 _))))
theorem next_held_end {z TI TO T i1 i2 l1 l2 : Addr} {f : Bool} {oT : Obj} {k1 : Nat} {xs : Array Value} {Q : Option Value → Shared → Prop} (hh : A.handled = none) (D : ZipApart z TI TO i1 i2 l1 l2)
    (zh : IsZipHeld s.heap z TI TO T f) (hT : s.heap.get? T = some oT) (hTI : IsPair s.heap TI (.ref i1) (.ref i2)) (t1 : s.heap.IsTupleIter i1 l1 k1) (u1 : s.heap.IsTuple l1 xs) (hx : xs[k1]? = none)
    (go : ∀ h', (∀ c o, c ≠ z → c ≠ i1 → c ≠ i2 → s.heap.get? c = some o → h'.get? c = some o) → Q none { s with heap := h' }) : wpAny (model prog w) A (pyNext (.ref z)) Q E s := by
  have ty : s.TypeIs (.ref z) "zip" := ⟨_, zh, rfl⟩
  unfold pyNext
  refine wpAny_bind (wpAny_attempt (wpAny_callSpecial?_slot (name := Str.ofString "__next__") ty F.slot_zip_next (wpAny_call_entry F.slot_zip_next ty F.entry_zip_next (held_end hh D zh hT hTI t1 u1 hx fun h' e hk he => ?_) (F.args_zip_next_1 _))))
  obtain ⟨o, ho, hc⟩ := he
  exact wpAny_bind (wpAny_isInstance (T := "StopIteration") (b := true) ⟨o, ho, hc⟩ isSubtype_stop (wpAny_pure (go _ hk)))
end
/-- the five records of a zip and its tuples, the list at S behind them -/
structure Apart (z TI TO i1 i2 l1 l2 S : Addr) : Prop where
  D : ZipApart z TI TO i1 i2 l1 l2
  zS : z < S
  TIS : TI < S
  TOS : TO < S
  i1S : i1 < S
  i2S : i2 < S
  l1S : l1 < S
  l2S : l2 < S
/-- the zip ahead of turn i -/
structure St (h : Heap) (z TI TO i1 i2 l1 l2 S : Addr) (xs ys : Array Value) (i : Nat) : Prop where
  ti : IsPair h TI (.ref i1) (.ref i2)
  t1 : h.IsTupleIter i1 l1 i
  t2 : h.IsTupleIter i2 l2 i
  u1 : h.IsTuple l1 xs
  u2 : h.IsTuple l2 ys
  own : (IsZip h z TI TO .none ∧ ∃ a b, IsPair h TO a b) ∨ ∃ T f oT, IsZipHeld h z TI TO T f ∧ h.get? T = some oT ∧ S < T
theorem St.keep {h h' : Heap} {z TI TO i1 i2 l1 l2 S : Addr} {xs ys : Array Value} {i : Nat} (A : Apart z TI TO i1 i2 l1 l2 S) (st : St h z TI TO i1 i2 l1 l2 S xs ys i) (k : ∀ b o, b ≠ S → h.get? b = some o → h'.get? b = some o) : St h' z TI TO i1 i2 l1 l2 S xs ys i where
  ti := k _ _ (Nat.ne_of_lt A.TIS) st.ti
  t1 := st.t1.at fun o e => k _ o (Nat.ne_of_lt A.i1S) e
  t2 := st.t2.at fun o e => k _ o (Nat.ne_of_lt A.i2S) e
  u1 := let ⟨o, e, r⟩ := st.u1; ⟨o, k _ _ (Nat.ne_of_lt A.l1S) e, r⟩
  u2 := let ⟨o, e, r⟩ := st.u2; ⟨o, k _ _ (Nat.ne_of_lt A.l2S) e, r⟩
  own := by
    rcases st.own with ⟨h1, a, b, h2⟩ | ⟨T, f, oT, h1, h2, h3⟩
    · exact .inl ⟨k _ _ (Nat.ne_of_lt A.zS) h1, a, b, k _ _ (Nat.ne_of_lt A.TOS) h2⟩
    · exact .inr ⟨T, f, oT, k _ _ (Nat.ne_of_lt A.zS) h1, k _ _ (Nat.ne_of_gt h3) h2, h3⟩
section
variable {prog : Program} {w : World} {A : Around} {E : Value → Shared → Prop} {s : Shared}
theorem far_ne {c m S i1 : Nat} (h : c < i1 ∨ S ≤ c) (a : i1 ≤ m) (b : m < S) : c ≠ m := by omega
theorem low_ne {c S i1 : Nat} (h : c < i1) (b : i1 < S) : c ≠ S := by omega
theorem turn_item {z TI TO i1 i2 l1 l2 S : Addr} {i : Nat} {xs ys : Array Value} {x y : Value} {Q : Option Value → Shared → Prop} (B : Apart z TI TO i1 i2 l1 l2 S) (hS : S < s.heap.objs.size) (st : St s.heap z TI TO i1 i2 l1 l2 S xs ys i) (hx : xs[i]? = some x) (hy : ys[i]? = some y)
    (go : ∀ h', St h' z TI TO i1 i2 l1 l2 S xs ys (i + 1) → IsPair h' s.heap.objs.size x y → h'.objs.size = s.heap.objs.size + 1 → (∀ c o, (c < i1 ∨ S ≤ c) → s.heap.get? c = some o → h'.get? c = some o) → Q (some (.ref s.heap.objs.size)) { s with heap := h' })
    (low : i1 ≤ i2 ∧ i1 ≤ TI ∧ i1 ≤ TO ∧ i1 ≤ z ∧ l1 < i1 ∧ l2 < i1) : wpAny (model prog w) A (pyNext (.ref z)) Q E s := by
  obtain ⟨b1, b2, b3, b4, b5, b6⟩ := low
  have D := B.D
  have zS := B.zS; have TOS := B.TOS; have i1S := B.i1S; have i2S := B.i2S; have TIS := B.TIS
  rcases st.own with ⟨h1, a, b, h2⟩ | ⟨T, f, oT, h1, h2, h3⟩
  · refine RZ.pyNext_zipT_item D h1 st.ti h2 st.t1 st.t2 st.u1 st.u2 hx hy fun h' z' TO' t1' t2' pn sz k => ?_
    refine go h' ⟨k _ _ D.TIz D.TITO D.TIi1 D.TIi2 st.ti, t1', t2', ?_, ?_, .inr ⟨_, false, _, z', pn, hS⟩⟩ pn sz fun c o hc e => k c o (far_ne hc b4 zS) (far_ne hc b3 TOS) (far_ne hc (Nat.le_refl _) i1S) (far_ne hc b1 i2S) e
    · obtain ⟨o, e, r⟩ := st.u1; exact ⟨o, k _ _ D.l1z D.l1TO D.l1i1 D.l1i2 e, r⟩
    · obtain ⟨o, e, r⟩ := st.u2; exact ⟨o, k _ _ D.l2z D.l2TO D.l2i1 D.l2i2 e, r⟩
  · refine next_held D h1 h2 st.ti st.t1 st.t2 st.u1 st.u2 hx hy fun h' z' t1' t2' pn sz k => ?_
    refine go h' ⟨k _ _ D.TIz D.TIi1 D.TIi2 st.ti, t1', t2', ?_, ?_, .inr ⟨T, true, oT, z', k _ _ (Nat.ne_of_gt (Nat.lt_trans zS h3)) (Nat.ne_of_gt (Nat.lt_trans i1S h3)) (Nat.ne_of_gt (Nat.lt_trans i2S h3)) h2, h3⟩⟩ pn sz fun c o hc e => k c o (far_ne hc b4 zS) (far_ne hc (Nat.le_refl _) i1S) (far_ne hc b1 i2S) e
    · obtain ⟨o, e, r⟩ := st.u1; exact ⟨o, k _ _ D.l1z D.l1i1 D.l1i2 e, r⟩
    · obtain ⟨o, e, r⟩ := st.u2; exact ⟨o, k _ _ D.l2z D.l2i1 D.l2i2 e, r⟩
theorem turn_end {z TI TO i1 i2 l1 l2 S : Addr} {i : Nat} {xs ys : Array Value} {Q : Option Value → Shared → Prop} (hh : A.handled = none) (B : Apart z TI TO i1 i2 l1 l2 S) (st : St s.heap z TI TO i1 i2 l1 l2 S xs ys i) (hx : xs[i]? = none)
    (go : ∀ h', (∀ c o, (c < i1 ∨ S ≤ c) → s.heap.get? c = some o → h'.get? c = some o) → Q none { s with heap := h' })
    (low : i1 ≤ i2 ∧ i1 ≤ TI ∧ i1 ≤ TO ∧ i1 ≤ z ∧ l1 < i1 ∧ l2 < i1) : wpAny (model prog w) A (pyNext (.ref z)) Q E s := by
  obtain ⟨b1, b2, b3, b4, b5, b6⟩ := low
  have D := B.D
  have zS := B.zS; have TOS := B.TOS; have i1S := B.i1S; have i2S := B.i2S; have TIS := B.TIS
  rcases st.own with ⟨h1, a, b, h2⟩ | ⟨T, f, oT, h1, h2, h3⟩
  · refine RZ.pyNext_zipT_end hh D h1 st.ti h2 st.t1 st.t2 st.u1 st.u2 (.inl hx) fun h' k => go h' fun c o hc e => k c o (far_ne hc b4 zS) (far_ne hc b3 TOS) (far_ne hc (Nat.le_refl _) i1S) (far_ne hc b1 i2S) e
  · refine next_held_end hh D h1 h2 st.ti st.t1 st.u1 hx fun h' k => go h' fun c o hc e => k c o (far_ne hc b4 zS) (far_ne hc (Nat.le_refl _) i1S) (far_ne hc b1 i2S) e
end
/-- the pairs made so far -/
structure Gv (xs ys : Array Value) (lo : Addr) (h : Heap) (as : List Addr) : Prop where
  rise : as.Pairwise (· < ·)
  above : ∀ a ∈ as, lo < a
  pairs : ∀ (j : Nat) (a : Addr), as[j]? = some a → ∃ x y, xs[j]? = some x ∧ ys[j]? = some y ∧ IsPair h a x y
theorem Gv.there {xs ys : Array Value} {lo : Addr} {h : Heap} {as : List Addr} (g : Gv xs ys lo h as) {a : Addr} (ha : a ∈ as) : a < h.objs.size := by
  obtain ⟨j, hj⟩ := List.mem_iff_getElem?.mp ha
  obtain ⟨_, _, _, _, e⟩ := g.pairs j a hj
  exact Heap.lt_size e
theorem Gv.keep {xs ys : Array Value} {lo : Addr} {h h' : Heap} {as : List Addr} (g : Gv xs ys lo h as) (k : ∀ b o, lo < b → h.get? b = some o → h'.get? b = some o) : Gv xs ys lo h' as := ⟨g.rise, g.above, fun j a hj => by
  obtain ⟨x, y, e1, e2, e3⟩ := g.pairs j a hj
  exact ⟨x, y, e1, e2, k a _ (g.above a (List.mem_of_getElem? hj)) e3⟩⟩
section
variable {prog : Program} {w : World} {A : Around} {s : Shared} {R : Result → Shared → Prop}
theorem z_loop {z TI TO i1 i2 l1 l2 S : Addr} {xs ys : Array Value} (hh : A.handled = none) (B : Apart z TI TO i1 i2 l1 l2 S) (low : i1 ≤ i2 ∧ i1 ≤ TI ∧ i1 ≤ TO ∧ i1 ≤ z ∧ l1 < i1 ∧ l2 < i1) (hl : xs.size = ys.size) (hn : xs.size ≤ sizeLine) (res : Value) {h0 : Heap}
    (go : ∀ h' tk acc c as, (∀ b o, b < i1 → h0.get? b = some o → h'.get? b = some o) → h'.get? S = some { cls := .type "list", dict := none, data := .seq acc c, slots := #[] } → as.length = xs.size → Gv xs ys S h' as → acc.toList = as.map Value.ref → R (.ok (.ret res)) { s with heap := h', toks := tk }) :
    ∀ (k i : Nat) (h : Heap) (tk c : Nat) (acc : Array Value) (as : List Addr), xs.size - i = k → i ≤ xs.size → St h z TI TO i1 i2 l1 l2 S xs ys i → (∀ b o, b < i1 → h0.get? b = some o → h.get? b = some o) →
      h.get? S = some { cls := .type "list", dict := none, data := .seq acc c, slots := #[] } → acc.toList = as.map Value.ref → as.length = i → Gv xs ys S h as →
      codeAny (model prog w) A (.builtin "list.extend.loop" ⟨[.ref S, .ref z, res], []⟩) R { s with heap := h, toks := tk } := by
  have i1S := B.i1S
  intro k
  induction k with
  | zero =>
    intro i h tk c acc as hk hi st keep hS hacc hal hG
    refine codeAny_builtin PySem.F.entry_extend_loop ?_
    rw [Around.under_plainId PySem.F.plain_extend_loop _]; show wpAny _ A.in1 (pyNext (.ref z) >>= _) _ _ _
    refine wpAny_bind (turn_end (s := { s with heap := h, toks := tk }) (A := A.in1) hh B st (Array.getElem?_eq_none (by omega)) (fun h' he => ?_) low)
    exact wpAny_pure (go h' tk acc c as (fun b o hb e => he b o (.inl hb) (keep b o hb e)) (he S _ (.inr (Nat.le_refl _)) hS) (by omega) (hG.keep fun b o hb e => he b o (.inr (Nat.le_of_lt hb)) e) hacc)
  | succ k ih =>
    intro i h tk c acc as hk hi st keep hS hacc hal hG
    have hlt : i < xs.size := by omega
    have hx : xs[i]? = some xs[i] := Array.getElem?_eq_getElem hlt
    have hy : ys[i]? = some (ys[i]'(by omega)) := Array.getElem?_eq_getElem (by omega)
    have hsz : acc.size = i := by rw [← Array.length_toList, hacc, List.length_map, hal]
    have hSl : S < h.objs.size := Heap.lt_size hS
    refine codeAny_builtin PySem.F.entry_extend_loop ?_
    rw [Around.under_plainId PySem.F.plain_extend_loop _]; show wpAny _ A.in1 (pyNext (.ref z) >>= _) _ _ _
    refine wpAny_bind (turn_item (s := { s with heap := h, toks := tk }) B hSl st hx hy (fun h' st' pn sz kp => ?_) low)
    dsimp only at pn sz kp ⊢
    have hS' := kp S _ (.inr (Nat.le_refl _)) hS
    have up : ∀ b o, b ≠ S → h'.get? b = some o → (h'.update S (Obj.mapSeq (·.push (Value.ref h.objs.size)))).get? b = some o := fun b o hb e => (Heap.get?_update_other _ _ (Ne.symm hb)).trans e
    show wpAny _ A.in1 (updateSeq S (·.push (Value.ref h.objs.size)) >>= _) _ _ _
    refine wpAny_bind (wpAny_updateSeq hS' rfl (wpAny_pure ⟨plainId_quiet PySem.F.plain_extend_loop _, ih (i + 1) _ tk _ (acc.push (Value.ref h.objs.size)) (as ++ [h.objs.size]) (by omega) hlt (st'.keep B up) (fun b o hb e => up b o (low_ne hb i1S) (kp b o (.inl hb) (keep b o hb e)))
      (Heap.get?_update_self _ hS' rfl) (by rw [Array.toList_push, hacc, List.map_append]; rfl) (by rw [List.length_append, hal]; rfl) ⟨?_, ?_, ?_⟩⟩) (by rw [hsz]; omega) (by show (acc.push (Value.ref h.objs.size)).size ≤ sizeLine + 1; rw [Array.size_push, hsz]; omega))
    · refine List.pairwise_append.mpr ⟨hG.rise, List.pairwise_singleton _ _, fun a ha b hb => ?_⟩
      rw [List.mem_singleton.mp hb]; exact hG.there ha
    · intro a ha
      rcases List.mem_append.mp ha with ha | ha
      · exact hG.above a ha
      · rw [List.mem_singleton.mp ha]; exact hSl
    · intro j b hj
      rcases Nat.lt_trichotomy j as.length with q | q | q
      · rw [List.getElem?_append_left q] at hj
        obtain ⟨x', y', e1, e2, e3⟩ := hG.pairs j b hj
        have hb := hG.above b (List.mem_of_getElem? hj)
        exact ⟨x', y', e1, e2, up b _ (Nat.ne_of_gt hb) (kp b _ (.inr (Nat.le_of_lt hb)) e3)⟩
      · subst q
        have hb : h.objs.size = b := by simpa using hj
        subst hb
        exact ⟨_, _, by rw [hal]; exact hx, by rw [hal]; exact hy, up _ _ (Nat.ne_of_gt hSl) pn⟩
      · have no : (as ++ [h.objs.size])[j]? = none := List.getElem?_eq_none (by rw [List.length_append, List.length_singleton]; omega)
        rw [no] at hj; cases hj
end
theorem zip_no_len : typeLookup (.type "zip") "__len__" = pure none := by rw [typeLookup_type, builtinLookup_eq_fast]; kernel_rfl
theorem zip_no_hint : typeLookup (.type "zip") "__length_hint__" = pure none := by rw [typeLookup_type, builtinLookup_eq_fast]; kernel_rfl
section
variable {prog : Program} {w : World} {A : Around} {E : Value → Shared → Prop} {s : Shared}
theorem z_extend {z TI TO i1 i2 l1 l2 S : Addr} {xs ys : Array Value} {c₀ : Nat} {R : Result → Shared → Prop} (hh : A.handled = none) (B : Apart z TI TO i1 i2 l1 l2 S) (low : i1 ≤ i2 ∧ i1 ≤ TI ∧ i1 ≤ TO ∧ i1 ≤ z ∧ l1 < i1 ∧ l2 < i1) (hl : xs.size = ys.size) (hn : xs.size ≤ sizeLine) (res : Value)
    (st : St s.heap z TI TO i1 i2 l1 l2 S xs ys 0) (hz : IsZip s.heap z TI TO .none) (hS : s.heap.get? S = some { cls := .type "list", data := .seq #[] c₀ })
    (go : ∀ h' tk acc c as, (∀ b o, b < i1 → s.heap.get? b = some o → h'.get? b = some o) → h'.get? S = some { cls := .type "list", dict := none, data := .seq acc c, slots := #[] } → as.length = xs.size → Gv xs ys S h' as → acc.toList = as.map Value.ref → R (.ok (.ret res)) { s with heap := h', toks := tk }) :
    wpAny (model prog w) A.in1 (Builtin.List.listExtendWith (.ref S) (.ref z) res)
      (fun fin s' => match fin with | .done f => R (.ok f) s' | .again c' => c'.quiet = true ∧ codeAny (model prog w) A c' R s') (fun e s' => R (.error e) s') s := by
  have i1S := B.i1S
  have ty : s.TypeIs (.ref z) "zip" := ⟨_, hz, rfl⟩
  have key : ∀ (h : Heap) (c₁ tk : Nat), (∀ b o, b ≠ S → s.heap.get? b = some o → h.get? b = some o) → h.get? S = some { cls := .type "list", data := .seq #[] c₁ } →
      codeAny (model prog w) A (.builtin "list.extend.loop" ⟨[.ref S, .ref z, res], []⟩) R { s with heap := h, toks := tk } := fun h c₁ tk hk hS₁ =>
    z_loop (s := s) (h0 := s.heap) hh B low hl hn res go xs.size 0 h tk c₁ #[] [] (Nat.sub_zero _) (Nat.zero_le _) (st.keep B hk) (fun b o hb e => hk b o (low_ne hb i1S) e) hS₁ rfl rfl ⟨List.Pairwise.nil, (fun _ ha => nomatch ha), (fun j a hj => by simp at hj)⟩
  unfold Builtin.List.listExtendWith
  refine wpAny_bind (wpAny_typeOf (T := "zip") ty ?_)
  have e1 : Builtin.List.listSameRef (.ref S) (.ref z) = false := by simp [Builtin.List.listSameRef, Nat.ne_of_gt B.zS]
  have e2 : (Value.type "zip" == Value.type "list") = false := by decide
  have e3 : (Value.type "zip" == Value.type "tuple") = false := by decide
  simp only [e1, e2, e3, Bool.or_false, Bool.false_eq_true, if_false]
  refine wpAny_bind (wpAny_pyIter_zip hz (wpAny_bind (wpAny_holding ?_)))
  unfold Builtin.List.listLengthHint
  refine wpAny_bind (wpAny_specialOf ty zip_no_len ?_)
  show wpAny _ A.in1 (specialOf (Value.ref z) (Str.ofString "__length_hint__") >>= _) _ _ _
  refine wpAny_bind (wpAny_specialOf ty zip_no_hint (wpAny_pure ?_))
  show wpAny _ A.in1 (rule "list.extend.makes-room" >>= fun _ => Builtin.List.listTouch (.ref S) >>= fun _ => again (.builtin "list.extend.loop" ⟨[.ref S, .ref z, res], []⟩)) _ _ _
  refine wpAny_bind (wpAny_rule (wpAny_bind ?_))
  show wpAny _ A.in1 (updateSeq S (·.push .none) >>= fun _ => updateSeq S (·.pop)) _ _ _
  refine wpAny_bind (wpAny_updateSeq hS rfl ?_)
  have g1 := Heap.get?_update_self (Obj.mapSeq (·.push Value.none)) hS rfl
  refine wpAny_updateSeq (hz := by seq_fits) g1 rfl ?_
  have g2 := Heap.get?_update_self (Obj.mapSeq (·.pop)) g1 rfl
  refine wpAny_pure ⟨plainId_quiet PySem.F.plain_extend_loop _, key _ _ _ (fun b o hb e => ?_) g2⟩
  exact (Heap.get?_update_other _ _ (Ne.symm hb)).trans ((Heap.get?_update_other _ _ (Ne.symm hb)).trans e)
theorem z_init {z TI TO i1 i2 l1 l2 S : Addr} {xs ys : Array Value} {R : Result → Shared → Prop} (hh : A.handled = none) (B : Apart z TI TO i1 i2 l1 l2 S) (low : i1 ≤ i2 ∧ i1 ≤ TI ∧ i1 ≤ TO ∧ i1 ≤ z ∧ l1 < i1 ∧ l2 < i1) (hl : xs.size = ys.size) (hn : xs.size ≤ sizeLine)
    (st : St s.heap z TI TO i1 i2 l1 l2 S xs ys 0) (hz : IsZip s.heap z TI TO .none) (hS : s.heap.get? S = some { cls := .type "list", data := .seq #[] })
    (go : ∀ h' tk acc c as, (∀ b o, b < i1 → s.heap.get? b = some o → h'.get? b = some o) → h'.get? S = some { cls := .type "list", dict := none, data := .seq acc c, slots := #[] } → as.length = xs.size → Gv xs ys S h' as → acc.toList = as.map Value.ref → R (.ok (.ret .none)) { s with heap := h', toks := tk }) :
    wpAny (model prog w) A.in1 (Builtin.«list.__init__» ⟨[.ref S, .ref z], []⟩)
      (fun fin s' => match fin with | .done f => R (.ok f) s' | .again c' => c'.quiet = true ∧ codeAny (model prog w) A c' R s') (fun e s' => R (.error e) s') s := by
  show wpAny _ _ (do let old ← Builtin.List.listItems (.ref S); Builtin.List.listUpdate (.ref S) (fun _ => #[]); letGo old.toList.reverse; Builtin.List.listExtendWith (.ref S) (.ref z) .none) _ _ s
  refine wpAny_bind ?_
  unfold Builtin.List.listItems
  refine wpAny_bind (wpAny_seqItems hS rfl (wpAny_pure ?_))
  show wpAny _ _ (updateSeq S (fun _ => #[]) >>= fun _ => letGo (#[] : Array Value).toList.reverse >>= fun _ => Builtin.List.listExtendWith (.ref S) (.ref z) .none) _ _ s
  refine wpAny_bind (wpAny_updateSeq hS rfl ?_)
  have g2 := Heap.get?_update_self (Obj.mapSeq (fun _ => (#[] : Array Value))) hS rfl
  have oth : ∀ b o, b ≠ S → s.heap.get? b = some o → (s.heap.update S (Obj.mapSeq (fun _ => (#[] : Array Value)))).get? b = some o := fun b o hb e => (Heap.get?_update_other _ _ (Ne.symm hb)).trans e
  refine wpAny_bind (wpAny_letGo ?_)
  exact z_extend hh B low hl hn .none (st.keep B oth) (oth _ _ (Nat.ne_of_lt B.zS) hz) g2 fun h' tk acc c as hk => go h' tk acc c as fun b o hb e => hk b o hb (oth b o (low_ne hb B.i1S) e)
theorem z_call {z TI TO i1 i2 l1 l2 : Addr} {xs ys : Array Value} {Q : Value → Shared → Prop} (hh : A.handled = none) (D : ZipApart z TI TO i1 i2 l1 l2) (low : i1 ≤ i2 ∧ i1 ≤ TI ∧ i1 ≤ TO ∧ i1 ≤ z ∧ l1 < i1 ∧ l2 < i1) (hl : xs.size = ys.size) (hn : xs.size ≤ sizeLine)
    (hz : IsZip s.heap z TI TO .none) (hTI : IsPair s.heap TI (.ref i1) (.ref i2)) (hTO : ∃ a b, IsPair s.heap TO a b) (t1 : s.heap.IsTupleIter i1 l1 0) (t2 : s.heap.IsTupleIter i2 l2 0) (u1 : s.heap.IsTuple l1 xs) (u2 : s.heap.IsTuple l2 ys)
    (go : ∀ h' tk acc c as, (∀ b o, b < i1 → s.heap.get? b = some o → h'.get? b = some o) → h'.get? s.heap.objs.size = some { cls := .type "list", dict := none, data := .seq acc c, slots := #[] } → as.length = xs.size → Gv xs ys s.heap.objs.size h' as → acc.toList = as.map Value.ref →
      Q (.ref s.heap.objs.size) { s with heap := h', toks := tk }) : wpAny (model prog w) A (call (.type "list") [.ref z]) Q E s := by
  refine callType_codes (Q₁ := fun obj s₁ => obj = .ref s.heap.objs.size ∧ s₁ = { s with heap := s.heap.push { cls := .type "list", data := .seq #[] } }) PySem.F.called_list (PySem.F.typeCall_list_1 _) PySem.F.entry_list_init
    (code_list_new _ ⟨rfl, rfl⟩) fun obj s₁ h₁ => ?_
  obtain ⟨rfl, rfl⟩ := h₁
  have hS : (s.heap.push { cls := .type "list", data := .seq #[] }).get? s.heap.objs.size = some { cls := .type "list", data := .seq #[] } := Heap.get?_push_size _ rfl
  have up : ∀ b o, s.heap.get? b = some o → (s.heap.push { cls := .type "list", data := .seq #[] }).get? b = some o := fun b o e => Heap.get?_push_of_some _ e
  obtain ⟨a, b, hTO⟩ := hTO
  have B : Apart z TI TO i1 i2 l1 l2 s.heap.objs.size := ⟨D, Heap.lt_size hz, Heap.lt_size hTI, Heap.lt_size hTO, (let ⟨_, e, _⟩ := t1; Heap.lt_size e), (let ⟨_, e, _⟩ := t2; Heap.lt_size e), (let ⟨_, e, _⟩ := u1; Heap.lt_size e), (let ⟨_, e, _⟩ := u2; Heap.lt_size e)⟩
  refine ⟨⟨_, hS, rfl⟩, PySem.F.args_list_init_2 _ _, z_init (A := A.in1) (xs := xs) (ys := ys) hh B low hl hn ⟨up _ _ hTI, t1.at fun o e => up _ o e, t2.at fun o e => up _ o e, (let ⟨o, e, r⟩ := u1; ⟨o, up _ _ e, r⟩), (let ⟨o, e, r⟩ := u2; ⟨o, up _ _ e, r⟩), .inl ⟨up _ _ hz, a, b, up _ _ hTO⟩⟩ (up _ _ hz) hS
    fun h' tk acc c as hk hS' hl' hG hacc => ?_⟩
  exact ⟨rfl, go h' tk acc c as (fun b o hb e => hk b o hb (up _ _ e)) hS' hl' hG hacc⟩
end
end Wz
namespace Wz
open PySem PySem.Spec PyProof.Rows L2
/-! ### the rule -/
def putP : Hp → List Addr → List (V × V) → Hp
  | H, a :: as, p :: ps => putP (upd H a (.tup [p.1, p.2])) as ps
  | H, _, _ => H
theorem putP_off {b : Addr} : ∀ (as : List Addr) (ps : List (V × V)) (H : Hp), b ∉ as → putP H as ps b = H b
  | [], _, _, _ => rfl
  | _ :: _, [], _, _ => rfl
  | a :: as, p :: ps, H, h => by
    show putP (upd H a (.tup [p.1, p.2])) as ps b = H b
    rw [putP_off as ps _ (fun q => h (List.mem_cons_of_mem _ q)), upd_ne (fun q => h (by rw [q]; exact List.mem_cons_self))]
theorem putP_at : ∀ (as : List Addr) (ps : List (V × V)) (H : Hp), as.length = ps.length → as.Nodup → ∀ (j : Nat) (a : Addr) (p : V × V), as[j]? = some a → ps[j]? = some p → putP H as ps a = some (.tup [p.1, p.2])
  | [], _, _, _, _, j, a, p, h, _ => by simp at h
  | _ :: _, [], _, _, _, j, a, p, _, h => by simp at h
  | b :: as, q :: ps, H, hl, hn, 0, a, p, h1, h2 => by
    have hn' := List.nodup_cons.mp hn
    have e1 : b = a := by simpa using h1
    have e2 : q = p := by simpa using h2
    subst e1 e2
    show putP (upd H b (.tup [q.1, q.2])) as ps b = _
    rw [putP_off as ps _ hn'.1, upd_same]
  | b :: as, q :: ps, H, hl, hn, j + 1, a, p, h1, h2 => putP_at as ps _ (Nat.succ.inj hl) (List.nodup_cons.mp hn).2 j a p (by simpa using h1) (by simpa using h2)
/-- pairs of values at addresses -/
structure PairsAt (H : Hp) (ts : List Addr) (xs ys : List V) : Prop where
  len : ts.length = xs.length
  at_ : ∀ (j : Nat) (t : Addr), ts[j]? = some t → ∃ x y, xs[j]? = some x ∧ ys[j]? = some y ∧ H t = some (.tup [x, y])
def rListZip (K : PySem.W.Frag) : List V → Hp → VK → Prop := fun vs H Q => ∃ (a b : Addr) (xs ys : List V), vs = [.ref a, .ref b] ∧ SqT K H a xs ∧ SqT K H b ys ∧ xs.length = ys.length ∧
  ∀ (H' : Hp) (p : Addr) (ts : List Addr), Same H H' → H p = none → H' p = some (.lst (ts.map V.ref)) → PairsAt H' ts xs ys → Q (.ref p) H'
def tListZip (K : PySem.W.Frag) (ta : TA) : TE := fun σ H Q => ta σ H fun vs H1 => rListZip K vs H1 Q
section
variable {X : Cx}
theorem pairs_laid {pins : List (Addr × Obj)} {σ : L2.St} {H : Hp} {s : Shared} {h' : Heap} {tk S : Nat} {xs ys : List V} {its its2 : List Value} {acc : Array Value} {c : Nat} {as : List Addr} (I : Inv X pins σ H s) (hz : xs.length ≤ sizeLine) (r : Vals xs its) (r2 : Vals ys its2) (el : xs.length = ys.length) (hSz : s.heap.objs.size ≤ S)
    (hk : ∀ b o, s.heap.get? b = some o → h'.get? b = some o) (hS : h'.get? S = some { cls := .type "list", dict := none, data := .seq acc c, slots := #[] }) (hl : as.length = its.length) (hG : Gv its.toArray its2.toArray S h' as) (hacc : acc.toList = as.map Value.ref) :
    ∃ H' : Hp, Same H H' ∧ H S = none ∧ H' S = some (.lst (as.map V.ref)) ∧ PairsAt H' as xs ys ∧ Inv X pins σ H' { s with heap := h', toks := tk } := by
  have l1 := r.length
  have l2 := r2.length
  have hSn : S ∉ as := fun q => Nat.lt_irrefl _ (hG.above _ q)
  have nd : as.Nodup := List.Pairwise.imp (fun {a b} (h : a < b) => Nat.ne_of_lt h) hG.rise
  have fresh : ∀ t ∈ as, H t = none := fun t ht => I.hok.fresh (Nat.le_trans hSz (Nat.le_of_lt (hG.above t ht)))
  have freshS : H S = none := I.hok.fresh hSz
  have lz : as.length = (xs.zip ys).length := by rw [List.length_zip]; omega
  have off : ∀ b, b ∉ as → b ≠ S → putP (upd H S (.lst (as.map V.ref))) as (xs.zip ys) b = H b := fun b h1 h2 => by rw [putP_off as _ _ h1, upd_ne h2]
  have kp : Same H (putP (upd H S (.lst (as.map V.ref))) as (xs.zip ys)) := fun b u e => by
    rw [off b (fun q => by rw [fresh b q] at e; cases e) (fun q => by rw [q, freshS] at e; cases e)]
    exact e
  have eS : putP (upd H S (.lst (as.map V.ref))) as (xs.zip ys) S = some (.lst (as.map V.ref)) := by rw [putP_off as _ _ hSn, upd_same]
  have at2 : ∀ (j : Nat) (t : Addr), as[j]? = some t → ∃ x y, xs[j]? = some x ∧ ys[j]? = some y ∧ putP (upd H S (.lst (as.map V.ref))) as (xs.zip ys) t = some (.tup [x, y]) := fun j t ht => by
    have hj : j < as.length := (List.getElem?_eq_some_iff.mp ht).1
    refine ⟨xs[j]'(by omega), ys[j]'(by omega), List.getElem?_eq_getElem (by omega), List.getElem?_eq_getElem (by omega), ?_⟩
    exact putP_at as (xs.zip ys) _ lz nd j t (xs[j]'(by omega), ys[j]'(by omega)) ht (by rw [List.getElem?_zip_eq_some]; exact ⟨List.getElem?_eq_getElem (by omega), List.getElem?_eq_getElem (by omega)⟩)
  have low : ∀ b o, s.heap.get? b = some o → b ∉ as ∧ b ≠ S := fun b o e => ⟨fun q => absurd (Heap.lt_size e) (Nat.not_lt.mpr (Nat.le_trans hSz (Nat.le_of_lt (hG.above b q)))), Nat.ne_of_lt (Nat.lt_of_lt_of_le (Heap.lt_size e) hSz)⟩
  refine ⟨putP (upd H S (.lst (as.map V.ref))) as (xs.zip ys), kp, freshS, eS, ⟨by omega, at2⟩, ?_⟩
  refine I.call' (ch := []) rfl ⟨fun b o q _ _ _ => hk b o q, fun b o q _ _ _ => ⟨o.slots, hk b o q⟩, fun b o q n _ => ?_, fun b o q _ => ⟨o, hk b o q⟩, fun b xs q => kp b _ q, fun b o u q => kp b _ q, fun b ps q => ⟨#[], by rw [kp b _ q]; simp⟩⟩ (fun b u q => ?_) I.bare fun b q => by simp at q
  · obtain ⟨z1, z2⟩ := low b o q
    rw [off b z1 z2]
    exact n
  · by_cases hb : b ∈ as
    · obtain ⟨j, hj⟩ := List.mem_iff_getElem?.mp hb
      obtain ⟨x, y, e1, e2, e3⟩ := at2 j b hj
      rw [e3] at q
      cases q
      obtain ⟨u, v, f1, f2, f3⟩ := hG.pairs j b hj
      obtain ⟨u', g1, ru⟩ := r.get e1
      obtain ⟨v', g2, rv⟩ := r2.get e2
      have q1 : u = u' := Option.some.inj ((by simpa using f1.symm : some u = its[j]?).trans g1)
      have q2 : v = v' := Option.some.inj ((by simpa using f2.symm : some v = its2[j]?).trans g2)
      subst q1 q2
      exact ⟨by show 2 ≤ sizeLine; decide, [u, v], .cons ru (.cons rv .nil), ⟨_, f3, rfl, _, rfl⟩⟩
    · by_cases hb2 : b = S
      · rw [hb2] at q ⊢
        rw [eS] at q
        cases q
        refine ⟨by rw [List.length_map]; omega, acc.toList, c, by rw [hacc]; exact LiI.vals_refs as, ?_⟩
        rw [Array.toArray_toList]
        exact hS
      · rw [off b hb hb2] at q
        exact (I.hok b u q).stay (fun d v _ y => hk d v y) (fun d y => kp d _ y) fun d xs y => kp d _ y
/-- list(zip(e, e2)) -/
theorem pe_listZip {e e2 : Expr} {ta : TA} {p p2 pos pos2 : Pos} (hc : X.calm = true) (hg : Gl X "list") (hm : X.mg "list" = none) (hg2 : Gl X "zip") (hm2 : X.mg "zip" = none) (ha : PA X [e, e2] ta)
    (hs : starEach [.Call (.Name "zip" p2) [e, e2] [] pos2] X.env = (false, eval (.Call (.Name "zip" p2) [e, e2] [] pos2) X.env) :: starEach [] X.env := by rfl)
    (hs2 : starEach [e, e2] X.env = (false, eval e X.env) :: starEach [e2] X.env := by rfl) (hpl : (backTo pos2 (starEach [e2] X.env)).any (·.1) = false := by rfl) :
    PE X (.Call (.Name "list" p) [.Call (.Name "zip" p2) [e, e2] [] pos2] [] pos) (tListZip X.K ta) := by
  refine ⟨fun pins s σ H Q I hq => ?_⟩
  refine wpAny_Call_Name_kw (ld_blt I hg hm (by decide +kernel : bootBuiltins "list" = some (.type "list")) ?_)
  refine PyProof.Rows.callWith_type1 ?_ hs rfl
  rw [hs]
  show wpAny _ _ (spliced ((false, eval (.Call (.Name "zip" p2) [e, e2] [] pos2) X.env) :: backTo pos (starEach [] X.env))) _ _ s
  refine Calls.spliced_cons ?_
  refine Call_ (ld_blt I hg2 hm2 PyProof.Rows.boot_zip (PyProof.Rows.callWith_type1 (thn (ha.run pos2 pins s σ H _ I hq) fun us s1 ⟨vs, H1, I1, r1, q1⟩ => ?_) hs2 hpl))
  obtain ⟨a, b, xs, ys, ex, hqx, hqy, el, q⟩ := q1
  subst ex
  cases r1 with
  | cons r rr =>
    cases rr with
    | cons r' rr =>
      cases rr
      cases r
      cases r'
      obtain ⟨its, rv, u1, hz1⟩ := I1.tuple hqx
      obtain ⟨its2, rv2, u2, hz2⟩ := I1.tuple hqy
      obtain ⟨o1, ho1, _⟩ := id u1
      obtain ⟨o2, ho2, _⟩ := id u2
      refine RZ.call_zipT (show s1.heap.IsTuple a its.toArray from u1) (show s1.heap.IsTuple b its2.toArray from u2) fun h' hz hTI hTO t1 t2 hsz hk => ?_
      have n1 : a < s1.heap.objs.size := Heap.lt_size ho1
      have n2 : b < s1.heap.objs.size := Heap.lt_size ho2
      refine Calls.spliced_nil ?_
      have e1 := rv.length
      have e2 := rv2.length
      refine z_call (s := { s1 with heap := h' }) (xs := its.toArray) (ys := its2.toArray) (I1.ok.hd hc) (PySem.W.ktu_apart s1.heap.objs.size a b n1 n2) ⟨Nat.le_succ _, Nat.le_add_right _ _, Nat.le_add_right _ _, Nat.le_add_right _ _, n1, n2⟩
        (by rw [List.size_toArray, List.size_toArray]; omega) (by rw [List.size_toArray]; omega) hz hTI ⟨_, _, hTO⟩ t1 t2 (let ⟨o, q1, r⟩ := u1; ⟨o, hk _ _ q1, r⟩) (let ⟨o, q1, r⟩ := u2; ⟨o, hk _ _ q1, r⟩) fun h'' tk acc c as k2 hS hl hG hacc => ?_
      obtain ⟨H', j1, j2, j3, j4, J⟩ := pairs_laid (tk := tk) I1 (by omega) rv rv2 el (show s1.heap.objs.size ≤ h'.objs.size by omega) (fun b o q1 => k2 b o (Heap.lt_size q1) (hk b o q1)) hS (by rw [hl, List.size_toArray]) hG hacc
      exact ⟨.ref _, H', J, rfl, q H' _ as j1 j2 j3 j4⟩
end
end Wz
/-! == and len of ways, by the text's own __eq__ and __len__ -/
namespace Wv
open PySem PySem.Spec PyProof.Rows L2
/-- both are the same way -/
def DW (c : Cs) : Eqv := fun x y H => ∃ w : W, w.size ≤ 1000 ∧ ObjAt c H x w ∧ ObjAt c H y w
theorem ObjAt.head {c : Cs} {H : Hp} {v : V} {w : W} (h : ObjAt c H v w) : ∃ a d fs, v = .ref a ∧ H a = some (.ins (c.of w) d fs) := by
  cases w <;> first
    | (obtain ⟨a, d, e, h⟩ := h; exact ⟨a, d, _, e, h⟩)
    | (obtain ⟨a, d, u, e, h, _⟩ := h; exact ⟨a, d, _, e, h⟩)
    | (obtain ⟨a, d, t, vs, e, h, _⟩ := h; exact ⟨a, d, _, e, h⟩)
/-- no attribute of a way has another name -/
theorem ObjAt.head' {c : Cs} {H : Hp} {v : V} {w : W} (h : ObjAt c H v w) : ∃ a d fs, v = .ref a ∧ H a = some (.ins (c.of w) d fs) ∧ ∀ m : Str, m ≠ Str.ofString "letter" → m ≠ Str.ofString "name" → m ≠ Str.ofString "ways" → m ≠ Str.ofString "part" → fs.lookup m = none := by
  have one : ∀ (f : Str) (v : V) (m : Str), m ≠ f → List.lookup m [(f, v)] = none := fun f v m h => by
    have q : (m == f) = false := by simpa using h
    simp [List.lookup, q]
  cases w <;> first
    | (obtain ⟨a, d, e, h⟩ := h; exact ⟨a, d, _, e, h, fun m h1 h2 h3 h4 => by first | rfl | exact one _ _ _ h1 | exact one _ _ _ h2⟩)
    | (obtain ⟨a, d, u, e, h, _⟩ := h; exact ⟨a, d, _, e, h, fun m h1 h2 h3 h4 => one _ _ _ h4⟩)
    | (obtain ⟨a, d, t, vs, e, h, _⟩ := h; exact ⟨a, d, _, e, h, fun m h1 h2 h3 h4 => one _ _ _ h3⟩)
structure EqOk (P : Program) (w : World) (K : PySem.W.Frag) (mg : Str → Option Value) (base : Heap) (c : Cs) (n : Nat) : Prop where
  ex : ∃ (f : Addr) (fd : FuncData) (ps : List Str), FnOk P w K mg base CX0 n f fd ps (spEq fun a b H => DW c (.ref a) (.ref b) H) ∧ (∀ u : W, PySem.W.findIn K (.ref (c.of u)) "__eq__" = some (some (.ref f))) ∧ PySem.W.isFn K (.ref f) = true ∧ Binds K fd ps []
structure LenOk (P : Program) (w : World) (K : PySem.W.Frag) (mg : Str → Option Value) (base : Heap) (c : Cs) (n : Nat) (sp : Sp) : Prop where
  ex : ∃ (f : Addr) (fd : FuncData) (ps : List Str), FnOk P w K mg base CX0 n f fd ps sp ∧ (∀ u : W, PySem.W.findIn K (.ref (c.of u)) "__len__" = some (some (.ref f))) ∧ PySem.W.isFn K (.ref f) = true ∧ Binds K fd ps []
section
variable {X : Cx} {c : Cs} {n : Nat} {sp : Sp}
theorem op_way (G : EqOk X.prog X.w X.K X.mg X.base c n) (hr : Room n X.A) : OpR X (compareOp .Eq) (rEqG (DW c)) := by
  obtain ⟨f, fd, ps, F, hs, hf, hb⟩ := G.ex
  refine op_eqG (n := n) (fun A pins s σ H x y u v sb I rx ry d => ?_) hr
  obtain ⟨w, _, hx, hy⟩ := id d
  obtain ⟨a, da, fa, ea, ha⟩ := hx.head
  obtain ⟨b, db, fb, eb, hb'⟩ := hy.head
  subst ea eb
  exact rcG_ins (C := c.of w) (R := fun a b H => DW c (.ref a) (.ref b) H) F (hs w) hf hb pass0 A pins s σ H _ _ u v sb I rx ry ⟨a, b, da, db, fa, fb, rfl, rfl, ha, hb', d⟩
/-- len(x) of a way -/
def rLenW (c : Cs) (sp : Sp) : List V → Hp → VK → Prop := fun xs H Q => ∃ (v : V) (w : W), xs = [v] ∧ ObjAt c H v w ∧ sp [v] H (fun z H' => ∃ i : Int, z = .int i ∧ 0 ≤ i ∧ i < 2 ^ 63 ∧ Q (.int i) H') E0
theorem call_lenW (G : LenOk X.prog X.w X.K X.mg X.base c n sp) (hr : Room (n + 1) X.A) : CallR X (.builtin "len") (rLenW c sp) := by
  obtain ⟨f, fd, ps, F, hs, hf, hb⟩ := G.ex
  intro pins s σ H xs us Q I r h
  obtain ⟨v, w, rfl, hv, hsp⟩ := h
  obtain ⟨u, rfl, ru⟩ := r.one
  obtain ⟨a, d, fs, ev, ha⟩ := hv.head
  subst ev
  cases ru
  obtain ⟨mA, J, _⟩ := ins_get I.hok ha
  obtain ⟨od, J, _⟩ := J.look
  obtain ⟨m, hF⟩ := I.fr
  have hl := F.len _ _ _ _ hsp
  have r2 : Vals [V.ref a] [Value.ref a] := .cons rfl .nil
  refine PySem.W.len_K hF I.ok.mod.kin J (hs w) hf (wpAny_call (codeAny_mono (F.run X.A.in1 X.stack s H ⟨[.ref a], []⟩ [.ref a] [.ref a] _ E0 hr.in1 (I.env0.in1) (by
    have q := hb s [.ref a] I.kIn (by simpa using hl)
    simpa using q) r2 hsp) fun r s' hq => ?_))
  cases r with
  | error e => exact (pass0 (X := X) pins σ H s e s' I hq)
  | ok fl =>
    cases fl with
    | ret x =>
      obtain ⟨z, H', I', rz, i, ez, h0, h1, q⟩ := I.after hq
      subst ez
      obtain ⟨t, ex⟩ := rz
      subst ex
      exact ⟨⟨h0, h1⟩, ⟨.int i, H', I'.tok _, ⟨_, rfl⟩, q⟩⟩
    | next => exact False.elim hq
    | brk => exact False.elim hq
    | cont => exact False.elim hq
/-! ### a method of a way, called -/
structure MethOk (P : Program) (w : World) (K : PySem.W.Frag) (mg : Str → Option Value) (base : Heap) (c : Cs) (n : Nat) (m : Str) (ps : List Str) (sp : Sp) : Prop where
  ex : ∃ (f : Addr) (fd : FuncData), FnOk P w K mg base CX0 n f fd ps sp ∧ (∀ u : W, Meth K (c.of u) m f) ∧ (∀ u : W, Cls K (c.of u)) ∧ Binds K fd ps []
def tMethW (c : Cs) (m : Str) (sp : Sp) (ta : TE) (t : TA) : TE := fun σ H Q => ta σ H fun x H1 => ∃ w, ObjAt c H1 x w ∧ t σ H1 fun vs H2 => sp (x :: vs) H2 Q E0
theorem pe_methW {pl : Sem Bool} {m : Str} {ps : List Str} {o e : Expr} {es : List Expr} {ta : TE} {t : TA} {apos pos : Pos} (G : MethOk X.prog X.w X.K X.mg X.base c n m ps sp) (hr : Room n X.A) (he : PE X o ta) (ha : PA X (e :: es) t)
    (nl : m ≠ Str.ofString "letter" ∧ m ≠ Str.ofString "name" ∧ m ≠ Str.ofString "ways" ∧ m ≠ Str.ofString "part" := by decide +kernel)
    (hst : starEach (e :: es) X.env = (false, eval e X.env) :: starEach es X.env := by rfl) (hpl : (backTo pos (starEach es X.env)).any (·.1) = false := by rfl)
    (ht : eval (.Call (.Attribute o m apos) (e :: es) [] pos) X.env = (do
      let ov ← eval o X.env
      standAt apos.atName
      let (f, first) ← holding [ov] (getMethod ov m pl)
      callWith pos f first (backTo pos (starEach (e :: es) X.env)) (backToKw pos (keywordEach [] X.env))) := by rfl) :
    PE X (.Call (.Attribute o m apos) (e :: es) [] pos) (tMethW c m sp ta t) := by
  obtain ⟨f, fd, F, hm, hc, hb⟩ := G.ex
  refine ⟨fun pins s σ H Q I h => ?_⟩
  refine PySem.W.methodCall_KW (pl := pl) (thn (he.run pins s σ H _ I h) fun u s1 ⟨x, H1, I1, rx, w, hx, q⟩ => ?_) ht
  obtain ⟨a, dx, fs, ex, ea, l⟩ := hx.head'
  subst ex
  obtain rfl : u = Value.ref a := rx
  refine getmeth_ok I1 ea (hc w) (hm w) (l m nl.1 nl.2.1 nl.2.2.1 nl.2.2.2) ?_
  refine PySem.W.callWith_K (first := [.ref a]) (h₀ := X.base) I.ok.mod.kin (hm w).kp (thn (ha.run pos pins s1 σ H1 _ I1 q) fun us s2 ⟨vs, H2, I2, r, q2⟩ => ⟨I2.kIn, ?_⟩) hst hpl
  exact run_fn (us := .ref a :: us) (vs := .ref a :: vs) (dvs := []) (ds := []) F hr hb .nil pass0 I2 (.cons rfl r) (by simpa using q2)
end
end Wv
namespace Wv
open PySem PySem.Spec PyProof.Rows L2
/-! ### kind, word and inner ways of a way -/
def W.kind : W → Nat
  | .letter _ => 0 | .one => 1 | .nothing => 2 | .row _ => 3 | .choice _ => 4 | .again _ => 5 | .maybe _ => 6 | .ahead _ => 7 | .unless _ => 8 | .call _ => 9
def W.word : W → Str
  | .letter x => sg x
  | .call x => x
  | _ => Str.ofString ""
def spKind (c : Cs) : Sp := fun vs H Q _ => ∃ (v : V) (w : W), vs = [v] ∧ ObjAt c H v w ∧ Q (.int w.kind) H
def spWord (c : Cs) : Sp := fun vs H Q _ => ∃ (v : V) (w : W), vs = [v] ∧ ObjAt c H v w ∧ Q (.str w.word) H
def spMadeOf (c : Cs) : Sp := fun vs H Q _ => ∃ (v : V) (w : W), vs = [v] ∧ ObjAt c H v w ∧ ∀ (t : Addr) (us : List V) (H' : Hp), Same H H' → H' t = some (.tup us) → ObjsAt c H' us w.inner → Q (.ref t) H'
structure Kc (mg : Str → Option Value) : Prop where
  k0 : ∃ t, mg "LETTER" = some (.int 0 t)
  k1 : ∃ t, mg "ONE" = some (.int 1 t)
  k2 : ∃ t, mg "NOTHING" = some (.int 2 t)
  k3 : ∃ t, mg "ROW" = some (.int 3 t)
  k4 : ∃ t, mg "CHOICE" = some (.int 4 t)
  k5 : ∃ t, mg "AGAIN" = some (.int 5 t)
  k6 : ∃ t, mg "MAYBE" = some (.int 6 t)
  k7 : ∃ t, mg "AHEAD" = some (.int 7 t)
  k8 : ∃ t, mg "UNLESS" = some (.int 8 t)
  k9 : ∃ t, mg "CALL" = some (.int 9 t)
section
variable {P : Program} {w : World} {K : PySem.W.Frag} {mg : Str → Option Value} {base : Heap} {c : Cs} {H : Hp} {v : V} {x : W} {Q : VK}
theorem ObjAt.ty (A : AllF K mg c) (h : ObjAt c H v x) : TyX K H v (.ref (c.of x)) := by
  obtain ⟨a, d, fs, e, ha⟩ := h.head
  subst e
  have f := A.f x
  exact .base (.ins ha f.cl f.ha A.hn A.ht f.hm)
theorem st_isi (A : AllF K mg c) (h : ObjAt c H v x) (u : W) {tb r : TS} {D : Ends} (hy : x.tag = u.tag → tb { D with nx := r D } [some v] H) (hn : x.tag ≠ u.tag → r D [some v] H) :
    (tSeq (tIfS (tB (tCB (rIsi K) (tCons (tVar 0) (tCons (tC (V.ref (c.of u))) tNil)))) tb tNext) r) D [some v] H := by
  refine ⟨v, rfl, v, .ref (c.of u), _, _, _, rfl, .own _, h.ty A, A.kit x u, _, rfl, ?_⟩
  refine ite2 (fun e => hy (of_decide_eq_true e)) (fun e => hn fun e2 => e (decide_eq_true e2))
theorem kitAny2 (A : AllF K mg c) (x : W) : ∀ us : List W, PySem.W.kitAny K (.ref (c.of x)) (us.map fun u => .ref (c.of u)) = some (us.any fun u => decide (x.tag = u.tag))
  | [] => kitAny_nil
  | u :: us => by
    refine kitAny_cons (A.kit x u) (fun e => ?_) (fun e => ?_)
    · rw [List.any_cons, e, Bool.false_or]; exact kitAny2 A x us
    · rw [List.any_cons, e]; rfl
def fRc (t : Str) : Bool := decide (t = Str.ofString "row") || (decide (t = Str.ofString "choice") || false)
def fUn (t : Str) : Bool := decide (t = Str.ofString "again") || (decide (t = Str.ofString "maybe") || (decide (t = Str.ofString "ahead") || (decide (t = Str.ofString "unless") || false)))
theorem any_rc (x : W) : ([W.row [], .choice []].any fun u => decide (x.tag = u.tag)) = x.is_rc := by
  show fRc x.tag = x.is_rc
  cases x <;> (simp only [W.tag, W.is_rc]; decide +kernel)
theorem any_un (x : W) : ([W.again .one, .maybe .one, .ahead .one, .unless .one].any fun u => decide (x.tag = u.tag)) = x.is_un := by
  show fUn x.tag = x.is_un
  cases x <;> (simp only [W.tag, W.is_un]; decide +kernel)
theorem kit_rc (A : AllF K mg c) (x : W) : PySem.W.kitAny K (.ref (c.of x)) [.ref c.ro, .ref c.ch] = some x.is_rc := by rw [← any_rc]; exact kitAny2 A x [.row [], .choice []]
theorem kit_un (A : AllF K mg c) (x : W) : PySem.W.kitAny K (.ref (c.of x)) [.ref c.ag, .ref c.ma, .ref c.ah, .ref c.un] = some x.is_un := by rw [← any_un]; exact kitAny2 A x [.again .one, .maybe .one, .ahead .one, .unless .one]
theorem clsv (c : Cs) : ∀ us : List W, Paired ClsV (us.map fun u => V.ref (c.of u)) (us.map fun u => Value.ref (c.of u))
  | [] => .nil
  | u :: us => .cons (.own _) (clsv c us)
abbrev s_kind_of : Stmt := top 30
theorem sc_kind_of : FnScope ["way"] ["way"] (defScope s_kind_of) := ⟨rfl, rfl, rfl, by decide +kernel, rfl, by decide +kernel, by decide +kernel⟩
theorem d_kind_of (h : Here K mg "kind_of" s_kind_of ["way"]) (A : AllF K mg c) (B : Bs mg) (C : Kc mg) : DefOk P w K mg base 1 "kind_of" ["way"] (spKind c) := by
  have B_isinstance := B.isinstance
  have GK_Letter := A.mLt; have GK_One := A.mOn; have GK_Nothing := A.mNo; have GK_Row := A.mRo; have GK_Choice := A.mCh; have GK_Again := A.mAg; have GK_Maybe := A.mMa; have GK_Ahead := A.mAh; have GK_Unless := A.mUn
  have GC_LETTER := C.k0; have GC_ONE := C.k1; have GC_NOTHING := C.k2; have GC_ROW := C.k3; have GC_CHOICE := C.k4; have GC_AGAIN := C.k5; have GC_MAYBE := C.k6; have GC_AHEAD := C.k7; have GC_UNLESS := C.k8; have GC_CALL := C.k9
  refine h.ok sc_kind_of (fun vs H Q E h => by obtain ⟨v, w, rfl, _⟩ := h; rfl) (fun f cdv A' outer s H vs Q E hr h => ?_)
  obtain ⟨v, x, rfl, hv, k⟩ := h
  refine ⟨_, (pss_cons (ps_if (pt_val (pe_callB call_isi rfl B_isinstance (by decide +kernel) (pa_cons (pv 0) (pa_cons (pe_globC rfl GK_Letter) pa_nil)))) (pss_one (ps_ret (pe_globI rfl GC_LETTER))) pss_nil)
  (pss_cons (ps_if (pt_val (pe_callB call_isi rfl B_isinstance (by decide +kernel) (pa_cons (pv 0) (pa_cons (pe_globC rfl GK_One) pa_nil)))) (pss_one (ps_ret (pe_globI rfl GC_ONE))) pss_nil)
  (pss_cons (ps_if (pt_val (pe_callB call_isi rfl B_isinstance (by decide +kernel) (pa_cons (pv 0) (pa_cons (pe_globC rfl GK_Nothing) pa_nil)))) (pss_one (ps_ret (pe_globI rfl GC_NOTHING))) pss_nil)
  (pss_cons (ps_if (pt_val (pe_callB call_isi rfl B_isinstance (by decide +kernel) (pa_cons (pv 0) (pa_cons (pe_globC rfl GK_Row) pa_nil)))) (pss_one (ps_ret (pe_globI rfl GC_ROW))) pss_nil)
  (pss_cons (ps_if (pt_val (pe_callB call_isi rfl B_isinstance (by decide +kernel) (pa_cons (pv 0) (pa_cons (pe_globC rfl GK_Choice) pa_nil)))) (pss_one (ps_ret (pe_globI rfl GC_CHOICE))) pss_nil)
  (pss_cons (ps_if (pt_val (pe_callB call_isi rfl B_isinstance (by decide +kernel) (pa_cons (pv 0) (pa_cons (pe_globC rfl GK_Again) pa_nil)))) (pss_one (ps_ret (pe_globI rfl GC_AGAIN))) pss_nil)
  (pss_cons (ps_if (pt_val (pe_callB call_isi rfl B_isinstance (by decide +kernel) (pa_cons (pv 0) (pa_cons (pe_globC rfl GK_Maybe) pa_nil)))) (pss_one (ps_ret (pe_globI rfl GC_MAYBE))) pss_nil)
  (pss_cons (ps_if (pt_val (pe_callB call_isi rfl B_isinstance (by decide +kernel) (pa_cons (pv 0) (pa_cons (pe_globC rfl GK_Ahead) pa_nil)))) (pss_one (ps_ret (pe_globI rfl GC_AHEAD))) pss_nil)
  (pss_cons (ps_if (pt_val (pe_callB call_isi rfl B_isinstance (by decide +kernel) (pa_cons (pv 0) (pa_cons (pe_globC rfl GK_Unless) pa_nil)))) (pss_one (ps_ret (pe_globI rfl GC_UNLESS))) pss_nil)
  (pss_one (ps_ret (pe_globI rfl GC_CALL)))))))))))), ?_⟩
  refine st_isi A hv (.letter 0) (fun e => ?_) (fun e0 => ?_)
  · cases x <;> first | exact k | exact absurd e (by simp only [W.tag]; decide +kernel)
  refine st_isi A hv .one (fun e => ?_) (fun e1 => ?_)
  · cases x <;> first | exact k | exact absurd e (by simp only [W.tag]; decide +kernel)
  refine st_isi A hv .nothing (fun e => ?_) (fun e2 => ?_)
  · cases x <;> first | exact k | exact absurd e (by simp only [W.tag]; decide +kernel)
  refine st_isi A hv (.row []) (fun e => ?_) (fun e3 => ?_)
  · cases x <;> first | exact k | exact absurd e (by simp only [W.tag]; decide +kernel)
  refine st_isi A hv (.choice []) (fun e => ?_) (fun e4 => ?_)
  · cases x <;> first | exact k | exact absurd e (by simp only [W.tag]; decide +kernel)
  refine st_isi A hv (.again .one) (fun e => ?_) (fun e5 => ?_)
  · cases x <;> first | exact k | exact absurd e (by simp only [W.tag]; decide +kernel)
  refine st_isi A hv (.maybe .one) (fun e => ?_) (fun e6 => ?_)
  · cases x <;> first | exact k | exact absurd e (by simp only [W.tag]; decide +kernel)
  refine st_isi A hv (.ahead .one) (fun e => ?_) (fun e7 => ?_)
  · cases x <;> first | exact k | exact absurd e (by simp only [W.tag]; decide +kernel)
  refine st_isi A hv (.unless .one) (fun e => ?_) (fun e8 => ?_)
  · cases x <;> first | exact k | exact absurd e (by simp only [W.tag]; decide +kernel)
  cases x <;> first | exact absurd rfl e0 | exact absurd rfl e1 | exact absurd rfl e2 | exact absurd rfl e3 | exact absurd rfl e4 | exact absurd rfl e5 | exact absurd rfl e6 | exact absurd rfl e7 | exact absurd rfl e8 | exact k
abbrev s_word_of : Stmt := top 31
theorem sc_word_of : FnScope ["way"] ["way"] (defScope s_word_of) := ⟨rfl, rfl, rfl, by decide +kernel, rfl, by decide +kernel, by decide +kernel⟩
theorem d_word_of (h : Here K mg "word_of" s_word_of ["way"]) (A : AllF K mg c) (B : Bs mg) : DefOk P w K mg base 1 "word_of" ["way"] (spWord c) := by
  have B_isinstance := B.isinstance
  have GK_Letter := A.mLt; have GK_Call := A.mCa
  refine h.ok sc_word_of (fun vs H Q E h => by obtain ⟨v, w, rfl, _⟩ := h; rfl) (fun f cdv A' outer s H vs Q E hr h => ?_)
  obtain ⟨v, x, rfl, hv, k⟩ := h
  refine ⟨_, (pss_cons (ps_if (pt_val (pe_callB call_isi rfl B_isinstance (by decide +kernel) (pa_cons (pv 0) (pa_cons (pe_globC rfl GK_Letter) pa_nil)))) (pss_one (ps_ret (pe_fld (pv 0) rfl))) pss_nil)
  (pss_cons (ps_if (pt_val (pe_callB call_isi rfl B_isinstance (by decide +kernel) (pa_cons (pv 0) (pa_cons (pe_globC rfl GK_Call) pa_nil)))) (pss_one (ps_ret (pe_fld (pv 0) rfl))) pss_nil)
  (pss_one (ps_ret pe_str)))), ?_⟩
  refine st_isi A hv (.letter 0) (fun e => ?_) (fun e0 => ?_)
  · cases x <;> first | exact absurd e (by simp only [W.tag]; decide +kernel) | skip
    obtain ⟨a, d, ev, ha⟩ := id hv
    exact ⟨_, rfl, a, c.lt, d, _, _, ev, ha, (A.f (.letter 0)).cl, (A.f (.letter 0)).nl, rfl, k⟩
  refine st_isi A hv (.call (Str.ofString "")) (fun e => ?_) (fun e1 => ?_)
  · cases x <;> first | exact absurd e (by simp only [W.tag]; decide +kernel) | skip
    obtain ⟨a, d, ev, ha⟩ := id hv
    exact ⟨_, rfl, a, c.ca, d, _, _, ev, ha, (A.f (.call (Str.ofString ""))).cl, (A.f (.call (Str.ofString ""))).nn, rfl, k⟩
  cases x <;> first | exact absurd rfl e0 | exact absurd rfl e1 | exact k
abbrev s_made_of : Stmt := top 32
theorem sc_made_of : FnScope ["way"] ["way"] (defScope s_made_of) := ⟨rfl, rfl, rfl, by decide +kernel, rfl, by decide +kernel, by decide +kernel⟩
theorem d_made_of (h : Here K mg "made_of" s_made_of ["way"]) (A : AllF K mg c) (B : Bs mg) : DefOk P w K mg base 1 "made_of" ["way"] (spMadeOf c) := by
  have B_isinstance := B.isinstance
  have GK_Row := A.mRo; have GK_Choice := A.mCh; have GK_Again := A.mAg; have GK_Maybe := A.mMa; have GK_Ahead := A.mAh; have GK_Unless := A.mUn
  refine h.ok sc_made_of (fun vs H Q E h => by obtain ⟨v, w, rfl, _⟩ := h; rfl) (fun f cdv A' outer s H vs Q E hr h => ?_)
  obtain ⟨v, x, rfl, hv, k⟩ := h
  refine ⟨_, (pss_cons (ps_if (pt_val (pe_callB call_isiT rfl B_isinstance (by decide +kernel) (pa_cons (pv 0) (pa_cons (pe_tup (pa_cons (pe_globC rfl GK_Row) (pa_cons (pe_globC rfl GK_Choice) pa_nil))) pa_nil)))) (pss_one (ps_ret (pe_fld (pv 0) rfl))) pss_nil)
  (pss_cons (ps_if (pt_val (pe_callB call_isiT rfl B_isinstance (by decide +kernel) (pa_cons (pv 0) (pa_cons (pe_tup (pa_cons (pe_globC rfl GK_Again) (pa_cons (pe_globC rfl GK_Maybe) (pa_cons (pe_globC rfl GK_Ahead) (pa_cons (pe_globC rfl GK_Unless) pa_nil))))) pa_nil)))) (pss_one (ps_ret (pe_tup (pa_cons (pe_fld (pv 0) rfl) pa_nil)))) pss_nil)
  (pss_one (ps_ret (pe_tup pa_nil))))), ?_⟩
  walk_at "rd"
  refine ⟨by show 2 ≤ sizeLine; decide, fun tp htp => ?_⟩
  have s1 := Same.new htp (.tup [.ref c.ro, .ref c.ch])
  have hv1 := ObjAt.keep (stillS s1) _ _ hv
  refine ⟨v, tp, _, _, _, _, rfl, upd_same, clsv c [.row [], .choice []], hv1.ty A, kit_rc A x, _, rfl, ?_⟩
  refine ite2 (fun e => ?_) (fun e0 => ?_)
  · cases x <;> first | exact absurd e Bool.false_ne_true | skip
    all_goals
      obtain ⟨a, d, t, us, ev, ha, ht, hus⟩ := id hv1
      refine ⟨_, rfl, a, _, d, _, _, ev, ha, ?_, ?_, rfl, k t us _ s1 ht hus⟩
      · first | exact (A.f (.row [])).cl | exact (A.f (.choice [])).cl
      · first | exact (A.f (.row [])).nw | exact (A.f (.choice [])).nw
  walk_at "nx"
  walk_at "rd"
  refine ⟨by show 4 ≤ sizeLine; decide, fun tq htq => ?_⟩
  have s2 := s1.trans (Same.new htq (.tup [.ref c.ag, .ref c.ma, .ref c.ah, .ref c.un]))
  have hv2 := ObjAt.keep (stillS s2) _ _ hv
  refine ⟨v, tq, _, _, _, _, rfl, upd_same, clsv c [.again .one, .maybe .one, .ahead .one, .unless .one], hv2.ty A, kit_un A x, _, rfl, ?_⟩
  refine ite2 (fun e => ?_) (fun e1 => ?_)
  · cases x <;> first | exact absurd e Bool.false_ne_true | skip
    all_goals
      obtain ⟨a, d, u, ev, ha, hu⟩ := id hv2
      refine ⟨_, rfl, a, _, d, _, _, ev, ha, ?_, ?_, rfl, by show 1 ≤ sizeLine; decide, fun p hp => ?_⟩
      · first | exact (A.f (.again .one)).cl | exact (A.f (.maybe .one)).cl | exact (A.f (.ahead .one)).cl | exact (A.f (.unless .one)).cl
      · first | exact (A.f (.again .one)).np | exact (A.f (.maybe .one)).np | exact (A.f (.ahead .one)).np | exact (A.f (.unless .one)).np
      have s3 := s2.trans (Same.new hp (.tup [u]))
      exact k p _ _ s3 upd_same ⟨u, [], rfl, ObjAt.keep (stillS (Same.new hp _)) _ _ hu, rfl⟩
  walk_at "nx"
  walk_at "rd"
  refine ⟨Nat.zero_le _, fun p hp => ?_⟩
  have s3 := s2.trans (Same.new hp (.tup []))
  cases x <;> first | exact absurd rfl e0 | exact absurd rfl e1 | exact k p _ _ s3 upd_same rfl
end
end Wv
namespace Wv
open PySem PySem.Spec PyProof.Rows L2
/-! ### the parts of a way, == and len -/
theorem while_m {c : TT} {tb : TS} {D : Ends} {σ : L2.St} {H : Hp} (Pv : Nat → L2.St → Hp → Prop) (m : Nat) (h0 : Pv m σ H)
    (hs : ∀ m σ H, Pv m σ H → c σ H fun b H1 => if b = true then tb { D with nx := fun σ' H' => ∃ m', m' < m ∧ Pv m' σ' H', ct := fun σ' H' => ∃ m', m' < m ∧ Pv m' σ' H', bk := D.nx } σ H1 else D.nx σ H1)
    (mono : ∀ σ H Q Q', (∀ b H1, Q b H1 → Q' b H1) → c σ H Q → c σ H Q') : tWhile c tb D σ H := by
  refine ⟨Pv, ⟨m, h0⟩, fun m σ H p => mono σ H _ _ (fun b H1 q => ?_) (hs m σ H p)⟩
  cases b with
  | true => exact ⟨_, fun _ _ h => h, q⟩
  | false => exact q
theorem ObjsAt.split {c : Cs} {H : Hp} : ∀ (a : List W) (w : W) (vs : List V), ObjsAt c H vs (a ++ [w]) → ∃ us u, vs = us ++ [u] ∧ ObjsAt c H us a ∧ ObjAt c H u w
  | [], w, vs, ⟨u, us, e, h, h2⟩ => ⟨[], u, by rw [e, show us = [] from h2]; rfl, rfl, h⟩
  | x :: a, w, vs, ⟨u, us, e, h, h2⟩ => by
    obtain ⟨us', u', e', h3, h4⟩ := ObjsAt.split a w us h2
    exact ⟨u :: us', u', by rw [e, e']; rfl, ⟨u, us', rfl, h, h3⟩, h4⟩
theorem W.sizes_rev : ∀ ws : List W, W.sizes ws.reverse = W.sizes ws
  | [] => rfl
  | w :: ws => by rw [List.reverse_cons, W.sizes_app, W.sizes_rev ws]; simp only [W.sizes]; omega
theorem last_get {α : Type} (us : List α) (u : α) : (us ++ [u])[(us ++ [u]).length - 1]? = some u := by
  rw [List.length_append, List.length_singleton, Nat.add_sub_cancel, List.getElem?_append_right (Nat.le_refl _), Nat.sub_self]; rfl
theorem tru_lst {K : PySem.W.Frag} {H : Hp} {t : Addr} {xs : List V} (h : H t = some (.lst xs)) : TruV K (.ref t) H (!xs.isEmpty) := .inl ⟨xs, SqL.of h, rfl⟩
theorem iteT' {b : Bool} {T F : Prop} (h : b = true) (t : T) : if b = true then T else F := by rw [h]; exact t
mutual
/-- all parts of a way, one after the other -/
def W.parts : W → List W
  | .nothing => [.nothing] | .one => [.one] | .letter x => [.letter x] | .call x => [.call x]
  | .row ws => .row ws :: W.partss ws
  | .choice ws => .choice ws :: W.partss ws
  | .again w => .again w :: (W.parts w ++ [])
  | .maybe w => .maybe w :: (W.parts w ++ [])
  | .ahead w => .ahead w :: (W.parts w ++ [])
  | .unless w => .unless w :: (W.parts w ++ [])
def W.partss : List W → List W
  | [] => []
  | w :: ws => W.parts w ++ W.partss ws
end
theorem W.parts_eq (w : W) : w.parts = w :: W.partss w.inner := by cases w <;> rfl
theorem W.partss_app : ∀ a b : List W, W.partss (a ++ b) = W.partss a ++ W.partss b
  | [], b => rfl
  | x :: a, b => by rw [List.cons_append, W.partss, W.partss_app a b, W.partss, List.append_assoc]
def spParts (c : Cs) : Sp := fun vs H Q _ => ∃ (v : V) (w : W), vs = [v] ∧ ObjAt c H v w ∧ w.size ≤ 1000 ∧ ∀ (p : Addr) (ps : List V) (H' : Hp), Same H H' → H' p = some (.lst ps) → ps.length = w.size → ObjsAt c H' ps w.parts → Q (.ref p) H'
section
variable {P : Program} {w : World} {K : PySem.W.Frag} {mg : Str → Option Value} {base : Heap} {c : Cs} {H : Hp} {v : V} {x : W} {Q : VK}
abbrev s_parts_of : Stmt := top 33
theorem sc_parts_of : FnScope ["way", "parts", "todo", "part"] ["way"] (defScope s_parts_of) := ⟨rfl, rfl, rfl, by decide +kernel, rfl, by decide +kernel, by decide +kernel⟩
theorem d_parts_of (h : Here K mg "parts_of" s_parts_of ["way"]) (G_made_of : DefOk P w K mg base 1 "made_of" ["way"] (spMadeOf c)) : DefOk P w K mg base 2 "parts_of" ["way"] (spParts c) := by
  refine h.ok sc_parts_of (fun vs H Q E h => by obtain ⟨v, w, rfl, _⟩ := h; rfl) (fun f cdv A' outer s H vs Q E hr h => ?_)
  obtain ⟨v, x, rfl, hv, hx, k⟩ := h
  refine ⟨_, (pss_cons (ps_set (i := 1) sc_parts_of.nd rfl (Or.inl rfl) (pe_lst pa_nil))
  (pss_cons (ps_set (i := 2) sc_parts_of.nd rfl (Or.inl rfl) (pe_lst (pa_cons (pv 0) pa_nil)))
  (pss_cons (ps_while PassesOwn.never (pt_truth (pv 2) (by intro _; rfl)) (pss_cons (ps_set (i := 3) sc_parts_of.nd rfl (Or.inl rfl) (pe_bm0 PySem.F.plainAttrs_list PySem.F.slot_list_pop PySem.F.type_list_pop mt_pop (pv 2)))
  (pss_cons (ps_expr (pe_bm PySem.F.plainAttrs_list PySem.F.slot_list_append PySem.F.type_list_append mt_append (pv 1) (pa_cons (pv 3) pa_nil)))
  (pss_one (ps_expr (pe_bm PySem.F.plainAttrs_list PySem.F.slot_list_extend PySem.F.type_list_extend mt_extendT (pv 2) (pa_cons (pe_revT (pe_callD G_made_of (hr.mono (by first | decide | omega)) rfl (pa_cons (pv 3) pa_nil))) pa_nil)))))))
  (pss_one (ps_ret (pv 1)))))), ?_⟩
  refine ⟨Nat.zero_le _, fun p hp => ?_⟩
  have s1 := Same.new hp (.lst [])
  walk_at "nx"
  walk_at "rd"
  refine ⟨by show 1 ≤ sizeLine; decide, fun t ht => ?_⟩
  have s2 := s1.trans (Same.new ht (.lst [v]))
  have npt : p ≠ t := ne_of_none upd_same ht
  have htH : H t = none := by rw [upd_ne npt.symm] at ht; exact ht
  walk_at "nx"
  refine while_m (fun m σ H' => ∃ (ps ts : List V) (ws : List W) (x3 : Option V), σ = [some v, some (.ref p), some (.ref t), x3] ∧ H' p = some (.lst ps) ∧ H' t = some (.lst ts) ∧ ObjsAt c H' ts ws ∧ W.sizes ws = m ∧ ps.length + m = x.size ∧ (∃ dn : List W, ObjsAt c H' ps dn ∧ dn ++ W.partss ws.reverse = x.parts) ∧ Same H H') x.size ?_ ?_
    (fun σ H Q Q' hq ⟨v, e, b, tv, h⟩ => ⟨v, e, b, tv, hq _ _ h⟩)
  · exact ⟨[], [v], [x], none, rfl, by rw [upd_ne npt]; exact upd_same, upd_same, ⟨v, [], rfl, ObjAt.keep (stillS s2) _ _ hv, rfl⟩, by simp only [W.sizes]; omega, by simp, ⟨[], rfl, by simp [W.partss]⟩, s2⟩
  · rintro m σ H1 ⟨ps, ts, ws, x3, rfl, hp1, ht1, hts, hm, hlen, ⟨dn, hdn, edn⟩, s3⟩
    refine ⟨_, rfl, _, tru_lst ht1, ?_⟩
    rcases List.eq_nil_or_concat ws with e | ⟨wa, wl, e⟩
    · subst e
      have e2 : ts = [] := hts
      subst e2
      refine iteF ?_
      walk_at "nx"
      walk_at "rd"
      have : m = 0 := hm.symm
      exact k p ps H1 s3 hp1 (by omega) (by rw [← edn]; simpa [W.partss] using hdn)
    · have e' : ws = wa ++ [wl] := by rw [e]; simp
      clear e
      subst e'
      obtain ⟨ta, tl, e2, hta, htl⟩ := ObjsAt.split _ _ _ hts
      subst e2
      have hsz : W.sizes wa + wl.size = m := by rw [← hm, W.sizes_app]; simp only [W.sizes]; omega
      have hin := wl.size_inner
      refine iteT' (by simp) ?_
      walk_at "nx"
      refine ⟨_, rfl, .inl ⟨rfl, _, SqL.of ht1⟩, t, _, _, rfl, rfl, ht1, last_get _ _, ?_⟩
      rw [List.dropLast_concat]
      walk_at "nx"
      have hp2 : upd H1 t (.lst ta) p = some (.lst ps) := by rw [upd_ne npt]; exact hp1
      refine ⟨_, rfl, .inl ⟨rfl, _, SqL.of hp2⟩, _, rfl, p, _, _, rfl, rfl, hp2, small' (by omega), ?_⟩
      walk_at "nx"
      have k1 : Still H1 (upd H1 t (.lst ta)) := Still.put ht1
      have k2 : Still (upd H1 t (.lst ta)) (upd (upd H1 t (.lst ta)) p (.lst (ps ++ [tl]))) := Still.put hp2
      have k12 := k1.trans k2
      have ht3 : upd (upd H1 t (.lst ta)) p (.lst (ps ++ [tl])) t = some (.lst ta) := by rw [upd_ne npt.symm]; exact upd_same
      have hp3 : upd (upd H1 t (.lst ta)) p (.lst (ps ++ [tl])) p = some (.lst (ps ++ [tl])) := upd_same
      have s4 : Same H (upd (upd H1 t (.lst ta)) p (.lst (ps ++ [tl]))) := Same.put hp (Same.put htH s3 _) _
      generalize upd (upd H1 t (.lst ta)) p (.lst (ps ++ [tl])) = H2 at *
      refine ⟨_, rfl, .inl ⟨rfl, _, SqL.of ht3⟩, _, rfl, tl, wl, rfl, ObjAt.keep k12 _ _ htl, fun u us H3 s5 hu hus => ?_⟩
      refine ⟨u, us, rfl, SqT.of hu, fun r hr => ?_⟩
      have s6 := Same.new hr (.tup us.reverse)
      have ll := ObjsAt.len _ _ hta
      have l2 := W.sizes_len wa
      have l3 := ObjsAt.len _ _ hus
      have l4 := W.sizes_len wl.inner
      have ht4 := s6 _ _ (s5 _ _ ht3)
      refine ⟨t, r, _, _, rfl, rfl, ht4, SqT.of upd_same, ?_, ?_⟩
      · rw [List.length_reverse]
        exact Nat.le_of_lt (small' (by omega))
      · walk_at "nx"
        have k7 : Still _ (upd (upd H3 r (.tup us.reverse)) t (.lst (ta ++ us.reverse))) := Still.put ht4
        have k36 := (stillS s6).trans k7
        refine ⟨W.sizes (wa ++ wl.inner.reverse), ?_, ps ++ [tl], _, wa ++ wl.inner.reverse, _, rfl, ?_, upd_same, ?_, rfl, ?_, ?_⟩
        · rw [W.sizes_app, W.sizes_rev]; omega
        · rw [upd_ne npt]; exact s6 _ _ (s5 _ _ hp3)
        · exact ObjsAt.app _ _ (ObjsAt.keep ((k12.trans (stillS s5)).trans k36) _ _ hta) (ObjsAt.keep k36 _ _ (ObjsAt.rev _ _ hus))
        · rw [W.sizes_app, W.sizes_rev, List.length_append, List.length_singleton]; omega
        · refine ⟨⟨dn ++ [wl], ?_, ?_⟩, Same.put htH ((s4.trans s5).trans s6) _⟩
          · exact ObjsAt.app _ _ (ObjsAt.keep ((k12.trans (stillS s5)).trans k36) _ _ hdn) ⟨tl, [], rfl, ObjAt.keep ((k12.trans (stillS s5)).trans k36) _ _ htl, rfl⟩
          · rw [← edn, List.reverse_append, List.reverse_append, List.reverse_reverse, W.partss_app, List.reverse_singleton, List.singleton_append, W.partss, W.parts_eq wl]
            simp
/-- pairs of two ways that are the same -/
def TwoAt (c : Cs) (H : Hp) : List V → List W → Prop
  | ts, [] => ts = []
  | ts, w :: ws => ∃ r a b us, ts = V.ref r :: us ∧ H r = some (.tup [a, b]) ∧ ObjAt c H a w ∧ ObjAt c H b w ∧ TwoAt c H us ws
theorem TwoAt.keep {H H' : Hp} (k : Still H H') : ∀ (ws : List W) (ts : List V), TwoAt c H ts ws → TwoAt c H' ts ws
  | [], _, h => h
  | w :: ws, ts, ⟨r, a, b, us, e, h, h1, h2, h3⟩ => ⟨r, a, b, us, e, k.tup h, ObjAt.keep k _ _ h1, ObjAt.keep k _ _ h2, TwoAt.keep k ws us h3⟩
theorem TwoAt.len : ∀ (ws : List W) (ts : List V), TwoAt c H ts ws → ts.length = ws.length
  | [], ts, h => by rw [show ts = [] from h]; rfl
  | w :: ws, ts, ⟨r, a, b, us, e, _, _, _, h3⟩ => by rw [e, List.length_cons, List.length_cons, TwoAt.len ws us h3]
theorem TwoAt.app : ∀ (ws : List W) (ts : List V) {us : List V} {xs : List W}, TwoAt c H ts ws → TwoAt c H us xs → TwoAt c H (ts ++ us) (ws ++ xs)
  | [], ts, us, xs, h, h2 => by rw [show ts = [] from h]; exact h2
  | w :: ws, ts, us, xs, ⟨r, a, b, r', e, h, h1, h3, h4⟩, h2 => by rw [e]; exact ⟨r, a, b, r' ++ us, rfl, h, h1, h3, TwoAt.app ws r' h4 h2⟩
theorem TwoAt.split : ∀ (a : List W) (w : W) (vs : List V), TwoAt c H vs (a ++ [w]) → ∃ us r x y, vs = us ++ [V.ref r] ∧ TwoAt c H us a ∧ H r = some (.tup [x, y]) ∧ ObjAt c H x w ∧ ObjAt c H y w
  | [], w, vs, ⟨r, a, b, us, e, h, h1, h2, h3⟩ => ⟨[], r, a, b, by rw [e, show us = [] from h3]; rfl, rfl, h, h1, h2⟩
  | x :: a, w, vs, ⟨r, y, z, us, e, h, h1, h2, h3⟩ => by
    obtain ⟨us', r', x', y', e', g1, g2, g3, g4⟩ := TwoAt.split a w us h3
    exact ⟨V.ref r :: us', r', x', y', by rw [e, e']; rfl, ⟨r, y, z, us', rfl, h, h1, h2, g1⟩, g2, g3, g4⟩
theorem TwoAt.of : ∀ (ws : List W) (ts : List Addr) (xs ys : List V), Wz.PairsAt H ts xs ys → ObjsAt c H xs ws → ObjsAt c H ys ws → TwoAt c H (ts.map V.ref) ws
  | [], ts, xs, ys, p, hx, hy => by
    have e : xs = [] := hx
    have l := p.len
    rw [e] at l
    rw [List.eq_nil_of_length_eq_zero l]
    rfl
  | w :: ws, ts, xs, ys, p, ⟨u, us, e, hu, hus⟩, ⟨u2, us2, e2, hu2, hus2⟩ => by
    subst e e2
    have l := p.len
    cases ts with
    | nil => cases l
    | cons t ts =>
      obtain ⟨x, y, h1, h2, h3⟩ := p.at_ 0 t rfl
      have e1 : u = x := Option.some.inj h1
      have e2 : u2 = y := Option.some.inj h2
      subst e1 e2
      exact ⟨t, u, u2, _, rfl, h3, hu, hu2, TwoAt.of ws ts us us2 ⟨by simpa using l, fun j t' hj => p.at_ (j + 1) t' (by simpa using hj)⟩ hus hus2⟩
def spSameW (c : Cs) : Sp := fun vs H Q _ => ∃ (a b : V) (w : W), vs = [a, b] ∧ ObjAt c H a w ∧ ObjAt c H b w ∧ w.size ≤ 1000 ∧ ∀ H', Same H H' → Q (.bl true) H'
abbrev s_same_ways : Stmt := top 34
theorem sc_same_ways : FnScope ["one", "other", "todo", "left", "right"] ["one", "other"] (defScope s_same_ways) := ⟨rfl, rfl, rfl, by decide +kernel, rfl, by decide +kernel, by decide +kernel⟩
theorem d_same_ways (h : Here K mg "same_ways" s_same_ways ["one", "other"]) (B : Bs mg) (G_made_of : DefOk P w K mg base 1 "made_of" ["way"] (spMadeOf c)) (G_kind_of : DefOk P w K mg base 1 "kind_of" ["way"] (spKind c)) (G_word_of : DefOk P w K mg base 1 "word_of" ["way"] (spWord c)) :
    DefOk P w K mg base 2 "same_ways" ["one", "other"] (spSameW c) := by
  have B_len := B.len; have B_list := B.list; have B_zip := B.zip
  refine h.ok sc_same_ways (fun vs H Q E h => by obtain ⟨a, b, w, rfl, _⟩ := h; rfl) (fun f cdv A' outer s H vs Q E hr h => ?_)
  obtain ⟨a, b, x, rfl, ha, hb, hx, k⟩ := h
  refine ⟨_, (pss_cons (ps_set (i := 2) sc_same_ways.nd rfl (Or.inl rfl) (pe_lst (pa_cons (pe_tup (pa_cons (pv 0) (pa_cons (pv 1) pa_nil))) pa_nil)))
  (pss_cons (ps_while PassesOwn.never (pt_truth (pv 2) (by intro _; rfl)) (pss_cons (ps_asg (pe_bm0 PySem.F.plainAttrs_list PySem.F.slot_list_pop PySem.F.type_list_pop mt_pop (pv 2)) (pg_tup rfl (pgs_cons (pg_name (i := 3) sc_same_ways.nd rfl (Or.inl rfl)) (pgs_cons (pg_name (i := 4) sc_same_ways.nd rfl (Or.inl rfl)) pgs_nil))))
  (pss_cons (ps_if (PW.pt (pw_or (pt_cmpR op_ne (pe_callD G_kind_of (hr.mono (by first | decide | omega)) rfl (pa_cons (pv 3) pa_nil)) (pe_callD G_kind_of (hr.mono (by first | decide | omega)) rfl (pa_cons (pv 4) pa_nil)) (nomark _)) (pw_or1 (pt_cmpR op_ne (pe_callD G_word_of (hr.mono (by first | decide | omega)) rfl (pa_cons (pv 3) pa_nil)) (pe_callD G_word_of (hr.mono (by first | decide | omega)) rfl (pa_cons (pv 4) pa_nil)) (nomark _))))) (pss_one (ps_ret pe_bl)) pss_nil)
  (pss_cons (ps_if (pt_cmpR op_ne (pe_callB call_len_seq rfl B_len PySem.boot_len (pa_cons (pe_callD G_made_of (hr.mono (by first | decide | omega)) rfl (pa_cons (pv 3) pa_nil)) pa_nil)) (pe_callB call_len_seq rfl B_len PySem.boot_len (pa_cons (pe_callD G_made_of (hr.mono (by first | decide | omega)) rfl (pa_cons (pv 4) pa_nil)) pa_nil)) (nomark _)) (pss_one (ps_ret pe_bl)) pss_nil)
  (pss_one (ps_expr (pe_bm PySem.F.plainAttrs_list PySem.F.slot_list_extend PySem.F.type_list_extend mt_extend (pv 2) (pa_cons (Wz.pe_listZip rfl rfl B_list rfl B_zip (pa_cons (pe_callD G_made_of (hr.mono (by first | decide | omega)) rfl (pa_cons (pv 3) pa_nil)) (pa_cons (pe_callD G_made_of (hr.mono (by first | decide | omega)) rfl (pa_cons (pv 4) pa_nil)) pa_nil))) pa_nil))))))))
  (pss_one (ps_ret pe_bl)))), ?_⟩
  walk_at "rd"
  refine ⟨by show 2 ≤ sizeLine; decide, fun r hr => ?_⟩
  have s1 := Same.new hr (.tup [a, b])
  refine ⟨by show 1 ≤ sizeLine; decide, fun t ht => ?_⟩
  have s2 := s1.trans (Same.new ht (.lst [.ref r]))
  have nrt : r ≠ t := ne_of_none upd_same ht
  have htH : H t = none := by rw [upd_ne nrt.symm] at ht; exact ht
  walk_at "nx"
  refine while_m (fun m σ H' => ∃ (ts : List V) (ws : List W) (x3 x4 : Option V), σ = [some a, some b, some (.ref t), x3, x4] ∧ H' t = some (.lst ts) ∧ TwoAt c H' ts ws ∧ W.sizes ws = m ∧ m ≤ 1000 ∧ Same H H') x.size ?_ ?_
    (fun σ H Q Q' hq ⟨v, e, b, tv, h⟩ => ⟨v, e, b, tv, hq _ _ h⟩)
  · exact ⟨_, [x], none, none, rfl, upd_same, ⟨r, a, b, [], rfl, by rw [upd_ne nrt]; exact upd_same, ObjAt.keep (stillS s2) _ _ ha, ObjAt.keep (stillS s2) _ _ hb, rfl⟩, by simp only [W.sizes]; omega, hx, s2⟩
  · rintro m σ H1 ⟨ts, ws, x3, x4, rfl, ht1, hts, hm, hmx, s3⟩
    refine ⟨_, rfl, _, tru_lst ht1, ?_⟩
    rcases List.eq_nil_or_concat ws with e | ⟨wa, wl, e⟩
    · subst e
      have e2 : ts = [] := hts
      subst e2
      refine iteF ?_
      walk_at "nx"
      walk_at "rd"
      exact k H1 s3
    · have e' : ws = wa ++ [wl] := by rw [e]; simp
      clear e
      subst e'
      obtain ⟨ta, tl, y, z, e2, hta, htl, hy, hz⟩ := TwoAt.split _ _ _ hts
      subst e2
      have hsz : W.sizes wa + wl.size = m := by rw [← hm, W.sizes_app]; simp only [W.sizes]; omega
      have hin := wl.size_inner
      refine iteT' (by simp) ?_
      walk_at "nx"
      refine ⟨_, rfl, .inl ⟨rfl, _, SqL.of ht1⟩, t, _, _, rfl, rfl, ht1, last_get _ _, ?_⟩
      rw [List.dropLast_concat]
      have k1 : Still H1 (upd H1 t (.lst ta)) := Still.put ht1
      have s4 : Same H (upd H1 t (.lst ta)) := Same.put htH s3 _
      have ht2 : upd H1 t (.lst ta) t = some (.lst ta) := upd_same
      generalize upd H1 t (.lst ta) = H2 at *
      refine ⟨tl, [y, z], rfl, SqT.of (k1.tup htl), rfl, ?_⟩
      have hy2 := ObjAt.keep k1 _ _ hy
      have hz2 := ObjAt.keep k1 _ _ hz
      refine ⟨y, [z], rfl, ?_⟩
      walk_at "nx"
      refine ⟨z, [], rfl, ?_⟩
      walk_at "nx"
      refine ⟨rfl, ?_⟩
      walk_at "nx"
      refine ⟨_, rfl, y, wl, rfl, hy2, _, rfl, z, wl, rfl, hz2, rfl, ?_⟩
      rw [decide_eq_true rfl]
      refine ⟨_, rfl, iteF ?_⟩
      refine ⟨_, rfl, y, wl, rfl, hy2, _, rfl, z, wl, rfl, hz2, rfl, ?_⟩
      rw [decide_eq_true rfl]
      refine ⟨_, rfl, iteF ?_⟩
      walk_at "nx"
      refine ⟨_, rfl, y, wl, rfl, hy2, fun u1 us1 H3 s5 hu1 hus1 => ?_⟩
      have hz3 := ObjAt.keep (stillS s5) _ _ hz2
      refine ⟨u1, us1, rfl, .inr (SqT.of hu1), ?_⟩
      refine ⟨_, rfl, z, wl, rfl, hz3, fun u2 us2 H4 s6 hu2 hus2 => ?_⟩
      refine ⟨u2, us2, rfl, .inr (SqT.of hu2), ?_⟩
      have l1 := ObjsAt.len _ _ hus1
      have l2 := ObjsAt.len _ _ hus2
      rw [l1, l2]
      refine ⟨rfl, ?_⟩
      rw [decide_eq_true rfl]
      refine ⟨_, rfl, iteF ?_⟩
      walk_at "nx"
      have s24 := s5.trans s6
      have ht4 := s24 _ _ ht2
      have hy4 := ObjAt.keep (stillS s24) _ _ hy2
      have hz4 := ObjAt.keep (stillS s24) _ _ hz2
      refine ⟨_, rfl, .inl ⟨rfl, _, SqL.of ht4⟩, ?_⟩
      refine ⟨_, rfl, y, wl, rfl, hy4, fun u3 us3 H5 s7 hu3 hus3 => ?_⟩
      have hz5 := ObjAt.keep (stillS s7) _ _ hz4
      refine ⟨_, rfl, z, wl, rfl, hz5, fun u4 us4 H6 s8 hu4 hus4 => ?_⟩
      have l3 := ObjsAt.len _ _ hus3
      have l4 := ObjsAt.len _ _ hus4
      refine ⟨u3, u4, us3, us4, rfl, SqT.of (s8 _ _ hu3), SqT.of hu4, by omega, fun H7 p ts s9 hp7 hl7 hpr => ?_⟩
      have s69 := (s7.trans s8).trans s9
      have s29 := s24.trans s69
      have ht7 := s69 _ _ ht4
      have lp := hpr.len
      have la := TwoAt.len _ _ hta
      have lb := W.sizes_len wa
      have lc := W.sizes_len wl.inner
      refine ⟨t, p, _, _, rfl, rfl, ht7, hl7, by rw [List.length_map]; exact Nat.le_of_lt (small' (by omega)), ?_⟩
      walk_at "nx"
      have k8 : Still H7 (upd H7 t (.lst (ta ++ ts.map V.ref))) := Still.put ht7
      refine ⟨W.sizes (wa ++ wl.inner), by rw [W.sizes_app]; omega, _, wa ++ wl.inner, _, _, rfl, upd_same, ?_, rfl, by rw [W.sizes_app]; omega, Same.put htH (s4.trans s29) _⟩
      have hx7 := ObjsAt.keep (stillS (s8.trans s9)) _ _ hus3
      have hy7 := ObjsAt.keep (stillS s9) _ _ hus4
      exact TwoAt.app _ _ (TwoAt.keep ((k1.trans (stillS s29)).trans k8) _ _ hta) (TwoAt.keep k8 _ _ (TwoAt.of _ _ _ _ hpr hx7 hy7))
end
end Wv
namespace Tk
open PySem PySem.Spec PyProof.Rows L2 Wv
/-! ### ranges as values -/
section
variable {X : Cx} {tg : Expr} {e : Expr} {te : TE} {tr : L2.St → Hp → (Int → Int → Hp → Prop) → Prop}
theorem cr_range1 : CallR X (.type "range") (fun vs H Q => ∃ j, vs = [V.int j] ∧ ∀ p, H p = none → Q (.ref p) (upd H p (.rng 0 j))) := by
  intro pins s σ H vs us Q I r h
  obtain ⟨j, rfl, q⟩ := h
  obtain ⟨u1, rfl, ri⟩ := vals1 r
  obtain ⟨t, rfl⟩ := ri
  refine call_range_1 ⟨.ref s.heap.objs.size, upd H s.heap.objs.size (.rng 0 j), I.laid (fun b o e => Heap.get?_push_of_some _ e) (Nat.le_refl _) ?_, rfl, q _ (I.hok.fresh (Nat.le_refl _))⟩
  exact ⟨_, _, _, Heap.get?_push_size _ rfl⟩
def tRgV (te : TE) : L2.St → Hp → (Int → Int → Hp → Prop) → Prop := fun σ H Q => te σ H fun x H1 => ∃ a lo hi, x = .ref a ∧ H1 a = some (.rng lo hi) ∧ Q lo hi H1
theorem prg_v (he : PE X e te) : PRg X e (tRgV te) := by
  intro pins s σ H Q I h
  refine thn (he.run pins s σ H _ I h) fun v s1 ⟨x, H1, I1, r1, a, lo, hi, ex, ha, q⟩ => ?_
  subst ex
  cases r1
  obtain ⟨t1, t2, t3, ho⟩ := I1.hok a _ ha
  exact ⟨a, lo, hi, t1, t2, t3, H1, rfl, ho, I1, q⟩
def iRg (tr : L2.St → Hp → (Int → Int → Hp → Prop) → Prop) : TI := fun σ H R => tr σ H fun a b H1 => (-(2 ^ 62) ≤ a ∧ a < 2 ^ 62 ∧ -(2 ^ 62) ≤ b ∧ b < 2 ^ 62) ∧ R (Itr a (b - a).toNat) H1
theorem pi_rg (he : PRg X e tr) : PI X tg e (iRg tr) := by
  refine ⟨fun pins s σ H R I h => ?_⟩
  refine thn (he pins s σ H _ I h) fun u s1 ⟨r, a, b, t, w1, v, H1, eu, hr, I1, ⟨b1, b2, b3, b4⟩, q⟩ => ?_
  subst eu
  refine wpAny_pyIter_range hr (small_one b1 b2 b3 b4) ?_
  refine pi_one (tk := s1.toks) I1 _ (turn_range _ a (b - a).toNat) ?_ q
  have hn : Builtin.Range.rangeSize a b 1 = (((b - a).toNat : Nat) : Int) := rangeSize_nat a b
  have e1 : a + ((0 : Nat) : Int) * 1 = a := by simp
  have e2 : (((b - a).toNat : Nat) : Int) - ((0 : Nat) : Int) = Builtin.Range.rangeSize a b 1 := by rw [hn]; omega
  show IsRangeIter _ _ (a + ((0 : Nat) : Int) * 1) ((((b - a).toNat : Nat) : Int) - ((0 : Nat) : Int)) 1
  rw [e1, e2]
  exact Heap.get?_push_size _ rfl
end
theorem ix_listK {X : Cx} {K : PySem.W.Frag} (e : X.K = K) : IxR X (rIxL K) := e ▸ ix_list
/-! ### the parts of a way in order, and their numbers -/
mutual
theorem W.parts_len : ∀ w : W, (W.parts w).length = w.size
  | .nothing => rfl | .one => rfl | .letter _ => rfl | .call _ => rfl
  | .row ws => by simp only [W.parts, W.size, List.length_cons, W.partss_len ws]; omega
  | .choice ws => by simp only [W.parts, W.size, List.length_cons, W.partss_len ws]; omega
  | .again w => by simp only [W.parts, W.size, List.length_append, List.length_nil, List.length_cons, W.parts_len w]; omega
  | .maybe w => by simp only [W.parts, W.size, List.length_append, List.length_nil, List.length_cons, W.parts_len w]; omega
  | .ahead w => by simp only [W.parts, W.size, List.length_append, List.length_nil, List.length_cons, W.parts_len w]; omega
  | .unless w => by simp only [W.parts, W.size, List.length_append, List.length_nil, List.length_cons, W.parts_len w]; omega
theorem W.partss_len : ∀ ws : List W, (W.partss ws).length = W.sizes ws
  | [] => rfl
  | w :: ws => by simp only [W.partss, W.sizes, List.length_append, W.parts_len w, W.partss_len ws]
end
/-- the numbers of ways one behind another, the first one's being n -/
def offs : Nat → List W → List Nat
  | _, [] => []
  | n, w :: ws => n :: offs (n + w.size) ws
theorem offs_len : ∀ (ws : List W) (n : Nat), (offs n ws).length = ws.length
  | [], _ => rfl
  | w :: ws, n => by simp only [offs, List.length_cons, offs_len ws]
theorem offs_le : ∀ (ws : List W) (n m : Nat), m ∈ offs n ws → n ≤ m ∧ m < n + W.sizes ws
  | w :: ws, n, m, h => by
    have := w.size_pos
    simp only [offs, List.mem_cons] at h
    simp only [W.sizes]
    rcases h with rfl | h
    · omega
    · have := offs_le ws _ m h
      omega
theorem offs_at : ∀ (ws : List W) (n j m : Nat) (pre rest : List W), pre.length = n → (offs n ws)[j]? = some m → ∃ x, ws[j]? = some x ∧ (pre ++ W.partss ws ++ rest)[m]? = some x
  | [], n, j, m, pre, rest, _, h => by simp [offs] at h
  | w :: ws, n, j, m, pre, rest, hp, h => by
    cases j with
    | zero =>
      simp only [offs, List.getElem?_cons_zero, Option.some.injEq] at h
      subst h
      refine ⟨w, rfl, ?_⟩
      rw [List.append_assoc, List.getElem?_append_right (by omega), hp, Nat.sub_self, W.partss, W.parts_eq]
      rfl
    | succ j =>
      simp only [offs, List.getElem?_cons_succ] at h
      obtain ⟨x, h1, h2⟩ := offs_at ws _ j m (pre ++ W.parts w) rest (by rw [List.length_append, hp, W.parts_len]) h
      refine ⟨x, by rw [List.getElem?_cons_succ]; exact h1, ?_⟩
      rw [W.partss]
      simpa only [List.append_assoc] using h2
mutual
/-- where a part stands, its own parts follow it -/
theorem W.parts_at : ∀ (w : W) (i : Nat) (x : W), (W.parts w)[i]? = some x → ∃ pre rest, W.parts w = pre ++ W.parts x ++ rest ∧ pre.length = i
  | w, 0, x, h => by
    rw [W.parts_eq] at h
    cases h
    exact ⟨[], [], by simp, rfl⟩
  | w, i + 1, x, h => by
    rw [W.parts_eq, List.getElem?_cons_succ] at h
    obtain ⟨pre, rest, e, hl⟩ : ∃ pre rest, W.partss w.inner = pre ++ W.parts x ++ rest ∧ pre.length = i := by
      match w, h with
      | .nothing, h => simp [W.inner, W.partss] at h
      | .one, h => simp [W.inner, W.partss] at h
      | .letter _, h => simp [W.inner, W.partss] at h
      | .call _, h => simp [W.inner, W.partss] at h
      | .row ws, h => exact W.partss_at ws i x h
      | .choice ws, h => exact W.partss_at ws i x h
      | .again u, h =>
        obtain ⟨pre, rest, e, hl⟩ := W.parts_at u i x (by simpa [W.inner, W.partss] using h)
        exact ⟨pre, rest, by simpa [W.inner, W.partss] using e, hl⟩
      | .maybe u, h =>
        obtain ⟨pre, rest, e, hl⟩ := W.parts_at u i x (by simpa [W.inner, W.partss] using h)
        exact ⟨pre, rest, by simpa [W.inner, W.partss] using e, hl⟩
      | .ahead u, h =>
        obtain ⟨pre, rest, e, hl⟩ := W.parts_at u i x (by simpa [W.inner, W.partss] using h)
        exact ⟨pre, rest, by simpa [W.inner, W.partss] using e, hl⟩
      | .unless u, h =>
        obtain ⟨pre, rest, e, hl⟩ := W.parts_at u i x (by simpa [W.inner, W.partss] using h)
        exact ⟨pre, rest, by simpa [W.inner, W.partss] using e, hl⟩
    exact ⟨w :: pre, rest, by rw [W.parts_eq w, e]; rfl, by rw [List.length_cons, hl]⟩
theorem W.partss_at : ∀ (ws : List W) (i : Nat) (x : W), (W.partss ws)[i]? = some x → ∃ pre rest, W.partss ws = pre ++ W.parts x ++ rest ∧ pre.length = i
  | [], i, x, h => by simp [W.partss] at h
  | w :: ws, i, x, h => by
    rw [W.partss] at h
    by_cases hi : i < (W.parts w).length
    · rw [List.getElem?_append_left hi] at h
      obtain ⟨pre, rest, e, hl⟩ := W.parts_at w i x h
      exact ⟨pre, rest ++ W.partss ws, by rw [W.partss, e]; simp only [List.append_assoc], hl⟩
    · rw [List.getElem?_append_right (by omega)] at h
      obtain ⟨pre, rest, e, hl⟩ := W.partss_at ws _ x h
      exact ⟨W.parts w ++ pre, rest, by rw [W.partss, e]; simp only [List.append_assoc], by rw [List.length_append, hl]; omega⟩
end
/-- the numbers of the parts inside the part at i -/
def kids (w : W) (i : Nat) : List Nat := match (W.parts w)[i]? with | some x => offs (i + 1) x.inner | none => []
theorem kids_at {w x : W} {i : Nat} (h : (W.parts w)[i]? = some x) {j m : Nat} (hm : (kids w i)[j]? = some m) : ∃ y, x.inner[j]? = some y ∧ (W.parts w)[m]? = some y ∧ i < m := by
  unfold kids at hm
  rw [h] at hm
  obtain ⟨pre, rest, e, hl⟩ := W.parts_at w i x h
  obtain ⟨y, h1, h2⟩ := offs_at x.inner (i + 1) j m (pre ++ [x]) rest (by simp [hl]) hm
  refine ⟨y, h1, ?_, ?_⟩
  · rw [e, W.parts_eq]
    simpa only [List.append_assoc, List.cons_append, List.nil_append] using h2
  · have := (offs_le x.inner (i + 1) m (List.mem_of_getElem? hm)).1
    omega
theorem kids_len {w x : W} {i : Nat} (h : (W.parts w)[i]? = some x) : (kids w i).length = x.inner.length := by
  unfold kids
  rw [h]
  exact offs_len _ _
/-! ### where a way ends -/
/-- rounds of a way, with so many places left -/
def ag (f : Nat → Option Nat) : Nat → Nat → Nat
  | 0, p => p
  | k + 1, p => match f p with
    | some q => if p < q then ag f k q else p
    | none => p
mutual
def ew (z : List Nat) : W → Nat → Option Nat
  | .letter c, p => if z[p]? = some c then some (p + 1) else none
  | .one, p => if p < z.length then some (p + 1) else none
  | .nothing, p => some p
  | .call _, _ => none
  | .row ws, p => ewR z ws p
  | .choice ws, p => ewC z ws p
  | .again w, p => some (ag (fun q => ew z w q) (z.length + 1 - p) p)
  | .maybe w, p => some ((ew z w p).getD p)
  | .ahead w, p => if (ew z w p).isSome = true then some p else none
  | .unless w, p => if (ew z w p).isSome = true then none else some p
def ewR (z : List Nat) : List W → Nat → Option Nat
  | [], p => some p
  | w :: ws, p => match ew z w p with
    | some q => ewR z ws q
    | none => none
def ewC (z : List Nat) : List W → Nat → Option Nat
  | [], _ => none
  | w :: ws, p => match ew z w p with
    | some q => some q
    | none => ewC z ws p
end
theorem ag_in {f : Nat → Option Nat} {n : Nat} (hf : ∀ p q, p ≤ n → f p = some q → p ≤ q ∧ q ≤ n) : ∀ (k p : Nat), p ≤ n → p ≤ ag f k p ∧ ag f k p ≤ n
  | 0, p, h => ⟨Nat.le_refl _, h⟩
  | k + 1, p, h => by
    unfold ag
    cases e : f p with
    | none => exact ⟨Nat.le_refl _, h⟩
    | some q =>
      dsimp only
      have := hf p q h e
      split
      · have := ag_in hf k q this.2
        omega
      · omega
/-- enough is enough -/
theorem ag_more {f : Nat → Option Nat} {n : Nat} (hf : ∀ p q, p ≤ n → f p = some q → p ≤ q ∧ q ≤ n) : ∀ (k j p : Nat), p ≤ n → n + 1 ≤ k + p → n + 1 ≤ j + p → ag f k p = ag f j p
  | 0, j, p, h, h1, h2 => by omega
  | k + 1, 0, p, h, h1, h2 => by omega
  | k + 1, j + 1, p, h, h1, h2 => by
    unfold ag
    cases e : f p with
    | none => rfl
    | some q =>
      dsimp only
      have := hf p q h e
      split
      · exact ag_more hf k j q this.2 (by omega) (by omega)
      · rfl
mutual
theorem ew_in (z : List Nat) : ∀ (w : W) (p q : Nat), p ≤ z.length → ew z w p = some q → p ≤ q ∧ q ≤ z.length
  | .letter c, p, q, h, e => by
    unfold ew at e
    split at e
    · have h1 := (List.getElem?_eq_some_iff.mp ‹_›).1
      cases e
      omega
    · cases e
  | .one, p, q, h, e => by
    unfold ew at e
    split at e
    · cases e; omega
    · cases e
  | .nothing, p, q, h, e => by unfold ew at e; cases e; omega
  | .call _, p, q, h, e => by unfold ew at e; cases e
  | .row ws, p, q, h, e => by unfold ew at e; exact ewR_in z ws p q h e
  | .choice ws, p, q, h, e => by unfold ew at e; exact ewC_in z ws p q h e
  | .again w, p, q, h, e => by
    unfold ew at e
    cases e
    exact ag_in (fun p q h e => ew_in z w p q h e) _ p h
  | .maybe w, p, q, h, e => by
    unfold ew at e
    cases e2 : ew z w p with
    | none => rw [e2] at e; cases e; exact ⟨Nat.le_refl _, h⟩
    | some r => rw [e2] at e; cases e; exact ew_in z w p _ h e2
  | .ahead w, p, q, h, e => by
    unfold ew at e
    split at e
    · cases e; omega
    · cases e
  | .unless w, p, q, h, e => by
    unfold ew at e
    split at e
    · cases e
    · cases e; omega
theorem ewR_in (z : List Nat) : ∀ (ws : List W) (p q : Nat), p ≤ z.length → ewR z ws p = some q → p ≤ q ∧ q ≤ z.length
  | [], p, q, h, e => by unfold ewR at e; cases e; omega
  | w :: ws, p, q, h, e => by
    unfold ewR at e
    cases e2 : ew z w p with
    | none => rw [e2] at e; cases e
    | some r =>
      rw [e2] at e
      have h1 := ew_in z w p r h e2
      have h2 := ewR_in z ws r q h1.2 e
      omega
theorem ewC_in (z : List Nat) : ∀ (ws : List W) (p q : Nat), p ≤ z.length → ewC z ws p = some q → p ≤ q ∧ q ≤ z.length
  | [], p, q, h, e => by unfold ewC at e; cases e
  | w :: ws, p, q, h, e => by
    unfold ewC at e
    cases e2 : ew z w p with
    | none => rw [e2] at e; exact ewC_in z ws p q h e
    | some r => rw [e2] at e; cases e; exact ew_in z w p _ h e2
end
/-- rounds: one, then the rest -/
theorem ew_again (z : List Nat) (w : W) (p : Nat) (h : p ≤ z.length) : ew z (.again w) p = match ew z w p with | some q => if p < q then ew z (.again w) q else some p | none => some p := by
  have hf : ∀ p q, p ≤ z.length → (fun q => ew z w q) p = some q → p ≤ q ∧ q ≤ z.length := fun p q h e => ew_in z w p q h e
  conv => lhs; unfold ew
  rw [show z.length + 1 - p = (z.length - p) + 1 by omega]
  unfold ag
  cases e : ew z w p with
  | none => rfl
  | some q =>
    dsimp only
    have hq := ew_in z w p q h e
    split
    · conv => rhs; unfold ew
      rw [ag_more hf (z.length - p) (z.length + 1 - q) q hq.2 (by omega) (by omega)]
    · rfl
/-! ### the same behind what is cut off -/
def sh (k : Nat) (o : Option Nat) : Option Nat := o.map (· + k)
theorem ag_shift {f g : Nat → Option Nat} {k n : Nat} (hfg : ∀ p, p ≤ n → g (p + k) = sh k (f p)) (hf : ∀ p q, p ≤ n → f p = some q → p ≤ q ∧ q ≤ n) : ∀ (j p : Nat), p ≤ n → ag g j (p + k) = ag f j p + k
  | 0, p, h => rfl
  | j + 1, p, h => by
    unfold ag
    rw [hfg p h]
    cases e : f p with
    | none => rfl
    | some q =>
      show (if p + k < q + k then ag g j (q + k) else p + k) = (if p < q then ag f j q else p) + k
      have := hf p q h e
      by_cases c : p < q
      · rw [if_pos c, if_pos (by omega), ag_shift hfg hf j q this.2]
      · rw [if_neg c, if_neg (by omega)]
mutual
theorem ew_shift (z : List Nat) (k : Nat) (hk : k ≤ z.length) : ∀ (w : W) (p : Nat), p ≤ z.length - k → ew z w (p + k) = sh k (ew (z.drop k) w p)
  | .letter c, p, h => by
    unfold ew
    rw [List.getElem?_drop, Nat.add_comm k p]
    split
    · show some (p + k + 1) = some (p + 1 + k)
      congr 1; omega
    · rfl
  | .one, p, h => by
    unfold ew
    rw [List.length_drop]
    by_cases c : p + k < z.length
    · rw [if_pos c, if_pos (by omega)]; show some (p + k + 1) = some (p + 1 + k); congr 1; omega
    · rw [if_neg c, if_neg (by omega)]; rfl
  | .nothing, p, h => by unfold ew; rfl
  | .call _, p, h => by unfold ew; rfl
  | .row ws, p, h => by unfold ew; exact ewR_shift z k hk ws p h
  | .choice ws, p, h => by unfold ew; exact ewC_shift z k hk ws p h
  | .again w, p, h => by
    unfold ew
    show some _ = some _
    congr 1
    have hl : (z.drop k).length = z.length - k := List.length_drop
    rw [hl, show z.length + 1 - (p + k) = z.length - k + 1 - p by omega]
    exact ag_shift (f := fun q => ew (z.drop k) w q) (g := fun q => ew z w q) (n := z.length - k) (fun p h => ew_shift z k hk w p h) (fun p q h e => by
      have := ew_in (z.drop k) w p q (by rw [hl]; exact h) e
      rw [hl] at this; exact this) _ p h
  | .maybe w, p, h => by
    unfold ew
    rw [ew_shift z k hk w p h]
    cases ew (z.drop k) w p <;> rfl
  | .ahead w, p, h => by
    unfold ew
    rw [ew_shift z k hk w p h]
    cases ew (z.drop k) w p <;> rfl
  | .unless w, p, h => by
    unfold ew
    rw [ew_shift z k hk w p h]
    cases ew (z.drop k) w p <;> rfl
theorem ewR_shift (z : List Nat) (k : Nat) (hk : k ≤ z.length) : ∀ (ws : List W) (p : Nat), p ≤ z.length - k → ewR z ws (p + k) = sh k (ewR (z.drop k) ws p)
  | [], p, h => by unfold ewR; rfl
  | w :: ws, p, h => by
    unfold ewR
    rw [ew_shift z k hk w p h]
    cases e : ew (z.drop k) w p with
    | none => rfl
    | some q =>
      have := ew_in (z.drop k) w p q (by rw [List.length_drop]; exact h) e
      rw [List.length_drop] at this
      exact ewR_shift z k hk ws q this.2
theorem ewC_shift (z : List Nat) (k : Nat) (hk : k ≤ z.length) : ∀ (ws : List W) (p : Nat), p ≤ z.length - k → ewC z ws (p + k) = sh k (ewC (z.drop k) ws p)
  | [], p, h => by unfold ewC; rfl
  | w :: ws, p, h => by
    unfold ewC
    rw [ew_shift z k hk w p h]
    cases e : ew (z.drop k) w p with
    | none => exact ewC_shift z k hk ws p h
    | some q => rfl
end
/-! ### tables of ends -/
def eI : Option Nat → Int
  | some n => (n : Nat)
  | none => -1
def tab (z : List Nat) (w : W) : List V := (List.range (z.length + 1)).map fun p => V.int (eI (ew z w p))
theorem tab_len (z : List Nat) (w : W) : (tab z w).length = z.length + 1 := by simp [tab]
theorem tab_at {z : List Nat} {w : W} {p : Nat} (h : p ≤ z.length) : (tab z w)[p]? = some (.int (eI (ew z w p))) := by
  unfold tab
  rw [List.getElem?_map, List.getElem?_range (by omega)]
  rfl
theorem tab_ix {z : List Nat} {w : W} {p : Nat} (h : p ≤ z.length) : atI (tab z w) ((p : Nat) : Int) = some (.int (eI (ew z w p))) := atI_nat (tab_at h)
theorem eI_no (o : Option Nat) : decide (V.int (eI o) = V.int (-1)) = o.isNone := by
  cases o with
  | none => exact decide_eq_true rfl
  | some n => exact decide_eq_false fun h => by have := V.int.inj h; simp only [eI] at this; omega
def TabsAt (z : List Nat) (H : Hp) : List V → List W → Prop
  | vs, [] => vs = []
  | vs, w :: ws => ∃ a us, vs = V.ref a :: us ∧ H a = some (.lst (tab z w)) ∧ TabsAt z H us ws
theorem TabsAt.len {z : List Nat} {H : Hp} : ∀ (ws : List W) (vs : List V), TabsAt z H vs ws → vs.length = ws.length
  | [], vs, h => by rw [show vs = [] from h]; rfl
  | w :: ws, vs, ⟨a, us, e, _, h⟩ => by rw [e, List.length_cons, List.length_cons, TabsAt.len ws us h]
theorem TabsAt.at_ {z : List Nat} {H : Hp} : ∀ (ws : List W) (vs : List V) (j : Nat) (v : V), TabsAt z H vs ws → vs[j]? = some v → ∃ a w, v = .ref a ∧ ws[j]? = some w ∧ H a = some (.lst (tab z w))
  | [], vs, j, v, h, e => by rw [show vs = [] from h] at e; simp at e
  | w :: ws, vs, j, v, ⟨a, us, e, h1, h2⟩, q => by
    subst e
    cases j with
    | zero => cases q; exact ⟨a, w, rfl, rfl, h1⟩
    | succ j =>
      rw [List.getElem?_cons_succ] at q
      obtain ⟨b, y, e1, e2, e3⟩ := TabsAt.at_ ws us j v h2 q
      exact ⟨b, y, e1, by rw [List.getElem?_cons_succ]; exact e2, e3⟩
theorem TabsAt.of {z : List Nat} {H : Hp} : ∀ (ws : List W) (vs : List V), vs.length = ws.length → (∀ (j : Nat) (w : W), ws[j]? = some w → ∃ a, vs[j]? = some (.ref a) ∧ H a = some (.lst (tab z w))) → TabsAt z H vs ws
  | [], vs, h, _ => List.length_eq_zero_iff.mp h
  | w :: ws, vs, h, f => by
    cases vs with
    | nil => cases h
    | cons v us =>
      obtain ⟨a, e, h1⟩ := f 0 w rfl
      cases e
      exact ⟨a, us, rfl, h1, TabsAt.of ws us (by simpa using h) fun j y hy => by
        obtain ⟨b, e1, e2⟩ := f (j + 1) y (by rw [List.getElem?_cons_succ]; exact hy)
        exact ⟨b, by rw [List.getElem?_cons_succ] at e1; exact e1, e2⟩⟩
theorem TabsAt.keep {z : List Nat} {H H' : Hp} (k : Same H H') : ∀ (ws : List W) (vs : List V), TabsAt z H vs ws → TabsAt z H' vs ws
  | [], _, h => h
  | w :: ws, vs, ⟨a, us, e, h1, h2⟩ => ⟨a, us, e, k _ _ h1, TabsAt.keep k ws us h2⟩
end Tk
namespace Tk
open PySem PySem.Spec PyProof.Rows L2 Wv
/-! ### no calls -/
mutual
theorem wf_parts {z : List Nat} : ∀ w : W, w.wf z → ∀ x ∈ w.parts, x.wf z
  | .nothing, h, x, hx => by simp only [W.parts, List.mem_singleton] at hx; subst hx; exact h
  | .one, h, x, hx => by simp only [W.parts, List.mem_singleton] at hx; subst hx; exact h
  | .letter _, h, x, hx => by simp only [W.parts, List.mem_singleton] at hx; subst hx; exact h
  | .call _, h, x, hx => h.elim
  | .row ws, h, x, hx => by
    simp only [W.parts, List.mem_cons] at hx
    rcases hx with rfl | hx
    · exact h
    · exact wfs_parts ws h.2 x hx
  | .choice ws, h, x, hx => by
    simp only [W.parts, List.mem_cons] at hx
    rcases hx with rfl | hx
    · exact h
    · exact wfs_parts ws h.2 x hx
  | .again w, h, x, hx => by
    simp only [W.parts, List.append_nil, List.mem_cons] at hx
    rcases hx with rfl | hx
    · exact h
    · exact wf_parts w h x hx
  | .maybe w, h, x, hx => by
    simp only [W.parts, List.append_nil, List.mem_cons] at hx
    rcases hx with rfl | hx
    · exact h
    · exact wf_parts w h x hx
  | .ahead w, h, x, hx => by
    simp only [W.parts, List.append_nil, List.mem_cons] at hx
    rcases hx with rfl | hx
    · exact h
    · exact wf_parts w h x hx
  | .unless w, h, x, hx => by
    simp only [W.parts, List.append_nil, List.mem_cons] at hx
    rcases hx with rfl | hx
    · exact h
    · exact wf_parts w h x hx
theorem wfs_parts {z : List Nat} : ∀ ws : List W, W.wfs z ws → ∀ x ∈ W.partss ws, x.wf z
  | [], h, x, hx => by simp [W.partss] at hx
  | w :: ws, h, x, hx => by
    simp only [W.partss, List.mem_append] at hx
    rcases hx with hx | hx
    · exact wf_parts w h.1 x hx
    · exact wfs_parts ws h.2 x hx
end
theorem wf_kind {z : List Nat} {w : W} (h : w.wf z) : w.kind < 9 := by cases w <;> first | (simp only [W.kind]; decide) | exact h.elim
theorem objs_get {c : Cs} {H : Hp} {ws : List W} {vs : List V} {j : Nat} {v : V} (h : ObjsAt c H vs ws) (e : vs[j]? = some v) : ∃ w, ws[j]? = some w ∧ ObjAt c H v w := by
  have hl := ObjsAt.len _ _ h
  have hj := (List.getElem?_eq_some_iff.mp e).1
  obtain ⟨w, hw⟩ : ∃ w, ws[j]? = some w := ⟨ws[j]'(by omega), List.getElem?_eq_getElem (by omega)⟩
  obtain ⟨u, e2, h2⟩ := ObjsAt.at_ _ _ _ _ h hw
  rw [e] at e2
  cases e2
  exact ⟨w, hw, h2⟩
def spRefuse (c : Cs) : Sp := fun vs H Q _ => ∃ (l : Addr) (v : V) (w : W) (z : List Nat), vs = [.ref l] ∧ H l = some (.lst [v]) ∧ ObjAt c H v w ∧ w.wf z ∧ w.size ≤ 100 ∧ ∀ H', Same H H' → Q .non H'
section
variable {P : Program} {w : World} {K : PySem.W.Frag} {mg : Str → Option Value} {base : Heap} {c : Cs}
abbrev s_refuse_calls : Stmt := top 42
theorem sc_refuse_calls : FnScope ["ways", "way", "part"] ["ways"] (defScope s_refuse_calls) := ⟨rfl, rfl, rfl, by decide +kernel, rfl, by decide +kernel, by decide +kernel⟩
theorem d_refuse_calls (h : Here K mg "refuse_calls" s_refuse_calls ["ways"]) (C : Kc mg) (G_parts_of : DefOk P w K mg base 2 "parts_of" ["way"] (spParts c)) (G_kind_of : DefOk P w K mg base 1 "kind_of" ["way"] (spKind c)) :
    DefOk P w K mg base 3 "refuse_calls" ["ways"] (spRefuse c) := by
  have GC_CALL := C.k9
  refine h.ok sc_refuse_calls (fun vs H Q E h => by obtain ⟨_, _, _, _, rfl, _⟩ := h; rfl) (fun f cdv A' outer s H vs Q E hr h => ?_)
  obtain ⟨l, v, x, z, rfl, hl, hv, hx, hs, k⟩ := h
  refine ⟨_, (pss_one (ps_for PassesOwn.never rfl (pi_list (pv 0)) (pg_name (i := 1) sc_refuse_calls.nd rfl (Or.inl rfl))
   (pss_one (ps_for PassesOwn.never rfl (pi_list (pe_callD G_parts_of (hr.mono (by first | decide | omega)) rfl (pa_cons (pv 1) pa_nil))) (pg_name (i := 2) sc_refuse_calls.nd rfl (Or.inl rfl))
   (pss_one (ps_if (pt_cmpR op_eq (pe_callD G_kind_of (hr.mono (by first | decide | omega)) rfl (pa_cons (pv 2) pa_nil)) (pe_globI rfl GC_CALL) (nomark _)) (pss_one ps_never) pss_nil)))))), ?_⟩
  refine ⟨_, rfl, l, rfl, ⟨_, SqL.of hl⟩, ?_⟩
  refine for_list (K := K) (a := l) (xs := [v]) (fun i σ H' => ∃ x1 x2 : Option V, σ = [some (.ref l), x1, x2] ∧ Same H H') ?_ ?_ ?_ ?_
  · exact ⟨none, none, rfl, fun _ _ h => h⟩
  · rintro i σ H' _ ⟨_, _, rfl, s2⟩
    exact SqL.of (s2 _ _ hl)
  · rintro i e σ H1 he ⟨x1, x2, rfl, s2⟩
    have ee : e = v := by
      cases i with
      | zero => exact (Option.some.inj he).symm
      | succ i => simp at he
    subst ee
    refine gset ?_
    refine ⟨_, rfl, e, x, rfl, ObjAt.keep (stillS s2) _ _ hv, Nat.le_trans hs (by decide), fun p ps H2 s3 hp hpl hps => ?_⟩
    refine ⟨p, rfl, ⟨ps, SqL.of hp⟩, ?_⟩
    refine for_list (K := K) (a := p) (xs := ps) (fun j σ H' => ∃ x2 : Option V, σ = [some (.ref l), some e, x2] ∧ Same H2 H') ?_ ?_ ?_ ?_
    · exact ⟨_, rfl, fun _ _ h => h⟩
    · rintro j σ H' _ ⟨_, rfl, s4⟩
      exact SqL.of (s4 _ _ hp)
    · rintro j e2 σ H3 he2 ⟨x2', rfl, s4⟩
      refine gset ?_
      obtain ⟨y, hy, hyo⟩ := objs_get hps he2
      refine ⟨_, rfl, e2, y, rfl, ObjAt.keep (stillS s4) _ _ hyo, ?_⟩
      have hk := wf_kind (wf_parts x hx y (List.mem_of_getElem? hy))
      refine ⟨rfl, _, rfl, ite2 (fun q => ?_) (fun _ => ⟨_, rfl, s4⟩)⟩
      have := V.int.inj (of_decide_eq_true q)
      omega
    · rintro σ H3 ⟨_, rfl, s4⟩
      exact ⟨_, _, rfl, (s2.trans s3).trans s4⟩
  · rintro σ H1 ⟨_, _, rfl, s2⟩
    exact k H1 s2
end
end Tk
namespace Tk
open PySem PySem.Spec PyProof.Rows L2 Wv
/-! ### what a def owns: addresses, and what stands there -/
structure Own (H0 H : Hp) (ks : List Addr) (vs : List HO) : Prop where
  len : ks.length = vs.length
  at_ : ∀ (j : Nat) (k : Addr), ks[j]? = some k → H k = vs[j]?
  nd : ks.Nodup
  fresh : ∀ k ∈ ks, H0 k = none
  same : Same H0 H
section
variable {H0 H H' : Hp} {ks : List Addr} {vs : List HO}
theorem Own.nil (H : Hp) : Own H H [] [] := ⟨rfl, fun j k h => by simp at h, List.nodup_nil, fun k h => (nomatch h), fun _ _ h => h⟩
theorem Own.has (h : Own H0 H ks vs) {k : Addr} (hk : k ∈ ks) : ∃ o, H k = some o := by
  obtain ⟨j, hj⟩ := List.getElem?_of_mem hk
  have hl := (List.getElem?_eq_some_iff.mp hj).1
  have := h.len
  exact ⟨_, (h.at_ j k hj).trans (List.getElem?_eq_getElem (by omega))⟩
theorem Own.put (h : Own H0 H ks vs) {j : Nat} {b : Addr} (e : ks[j]? = some b) (o : HO) : Own H0 (upd H b o) ks (vs.set j o) where
  len := by rw [List.length_set]; exact h.len
  at_ := fun i k hk => by
    have hl := (List.getElem?_eq_some_iff.mp hk).1
    have := h.len
    by_cases q : i = j
    · subst q
      rw [hk] at e
      cases e
      rw [upd_same, List.getElem?_set_self (by omega)]
    · have nb : k ≠ b := fun q2 => q ((List.getElem?_inj hl h.nd).mp (by rw [hk, e, q2]))
      rw [upd_ne nb, List.getElem?_set_ne (Ne.symm q)]
      exact h.at_ i k hk
  nd := h.nd
  fresh := h.fresh
  same := Same.put (h.fresh b (List.mem_of_getElem? e)) h.same o
theorem Own.free (h : Own H0 H ks vs) {q : Addr} (hq : H q = none) : H0 q = none := by
  cases e : H0 q with
  | none => rfl
  | some o => rw [h.same _ _ e] at hq; cases hq
theorem Own.notin (h : Own H0 H ks vs) {q : Addr} (hq : H q = none) : q ∉ ks := fun m => by
  obtain ⟨o, e⟩ := h.has m
  rw [hq] at e
  cases e
theorem Own.snoc (h : Own H0 H ks vs) {q : Addr} (hq : H q = none) (o : HO) : Own H0 (upd H q o) (ks ++ [q]) (vs ++ [o]) where
  len := by rw [List.length_append, List.length_append, h.len]; rfl
  at_ := fun i k hk => by
    have hl := h.len
    by_cases c : i < ks.length
    · rw [List.getElem?_append_left c] at hk
      have nb : k ≠ q := fun e => h.notin hq (by rw [← e]; exact List.mem_of_getElem? hk)
      rw [upd_ne nb, List.getElem?_append_left (by omega)]
      exact h.at_ i k hk
    · have hi := (List.getElem?_eq_some_iff.mp hk).1
      rw [List.length_append, List.length_singleton] at hi
      have ei : i = ks.length := by omega
      subst ei
      rw [List.getElem?_append_right (Nat.le_refl _), Nat.sub_self] at hk
      cases hk
      rw [upd_same, hl, List.getElem?_append_right (Nat.le_refl _), Nat.sub_self]
      rfl
  nd := by
    rw [List.nodup_append]
    refine ⟨h.nd, by simp, fun a ha b hb e => ?_⟩
    rw [List.mem_singleton] at hb
    subst hb
    subst e
    exact h.notin hq ha
  fresh := fun k hk => by
    rcases List.mem_append.mp hk with hk | hk
    · exact h.fresh k hk
    · rw [List.mem_singleton] at hk
      subst hk
      exact h.free hq
  same := h.same.trans (Same.new hq o)
theorem Own.cons (h : Own H0 H ks vs) {q : Addr} (hq : H q = none) (o : HO) : Own H0 (upd H q o) (q :: ks) (o :: vs) where
  len := by rw [List.length_cons, List.length_cons, h.len]
  at_ := fun i k hk => by
    cases i with
    | zero => cases hk; rw [upd_same]; rfl
    | succ i =>
      rw [List.getElem?_cons_succ] at hk
      have nb : k ≠ q := fun e => h.notin hq (by rw [← e]; exact List.mem_of_getElem? hk)
      rw [upd_ne nb, List.getElem?_cons_succ]
      exact h.at_ i k hk
  nd := List.nodup_cons.mpr ⟨h.notin hq, h.nd⟩
  fresh := fun k hk => by
    rcases List.mem_cons.mp hk with rfl | hk
    · exact h.free hq
    · exact h.fresh k hk
  same := h.same.trans (Same.new hq o)
theorem Own.tail {k : Addr} {o : HO} (h : Own H0 H (k :: ks) (o :: vs)) : Own H0 H ks vs :=
  ⟨by have := h.len; simpa using this, fun j b e => by have := h.at_ (j + 1) b (by rw [List.getElem?_cons_succ]; exact e); rwa [List.getElem?_cons_succ] at this, (List.nodup_cons.mp h.nd).2, fun b hb => h.fresh b (List.mem_cons_of_mem _ hb), h.same⟩
theorem Own.of_same (h : Own H0 H ks vs) (s : Same H H') : Own H0 H' ks vs :=
  ⟨h.len, fun j k e => by
    obtain ⟨o, q⟩ := h.has (List.mem_of_getElem? e)
    rw [s _ _ q, ← q]
    exact h.at_ j k e, h.nd, h.fresh, h.same.trans s⟩
theorem Own.low {H1 : Hp} (h : Own H0 H ks vs) (s : Same H1 H0) : Own H1 H ks vs :=
  ⟨h.len, h.at_, h.nd, fun k hk => (by
    cases e : H1 k with
    | none => rfl
    | some o => have := s _ _ e; rw [h.fresh k hk] at this; cases this), s.trans h.same⟩
end
/-- one of these, one of those -/
def il {α : Type} : List α → List α → List α
  | x :: xs, y :: ys => x :: y :: il xs ys
  | _, _ => []
section
variable {α : Type}
theorem il_snoc {x y : α} : ∀ (xs ys : List α), xs.length = ys.length → il (xs ++ [x]) (ys ++ [y]) = il xs ys ++ [x, y]
  | [], [], _ => rfl
  | [], _ :: _, h => by cases h
  | _ :: _, [], h => by cases h
  | a :: xs, b :: ys, h => by simp only [List.cons_append, il, il_snoc xs ys (by simpa using h)]
theorem il_get0 : ∀ (xs ys : List α) (j : Nat), xs.length = ys.length → (il xs ys)[2 * j]? = xs[j]?
  | [], [], j, _ => by simp [il]
  | [], _ :: _, _, h => by cases h
  | _ :: _, [], _, h => by cases h
  | a :: xs, b :: ys, 0, h => rfl
  | a :: xs, b :: ys, j + 1, h => by
    rw [show 2 * (j + 1) = 2 * j + 1 + 1 by omega, il, List.getElem?_cons_succ, List.getElem?_cons_succ, List.getElem?_cons_succ]
    exact il_get0 xs ys j (by simpa using h)
theorem il_get1 : ∀ (xs ys : List α) (j : Nat), xs.length = ys.length → (il xs ys)[2 * j + 1]? = ys[j]?
  | [], [], j, _ => by simp [il]
  | [], _ :: _, _, h => by cases h
  | _ :: _, [], _, h => by cases h
  | a :: xs, b :: ys, 0, h => rfl
  | a :: xs, b :: ys, j + 1, h => by
    rw [show 2 * (j + 1) + 1 = 2 * j + 1 + 1 + 1 by omega, il, List.getElem?_cons_succ, List.getElem?_cons_succ, List.getElem?_cons_succ]
    exact il_get1 xs ys j (by simpa using h)
theorem il_set0 {v : α} : ∀ (xs ys : List α) (j : Nat), xs.length = ys.length → (il xs ys).set (2 * j) v = il (xs.set j v) ys
  | [], [], j, _ => by simp [il]
  | [], _ :: _, _, h => by cases h
  | _ :: _, [], _, h => by cases h
  | a :: xs, b :: ys, 0, h => rfl
  | a :: xs, b :: ys, j + 1, h => by
    rw [show 2 * (j + 1) = 2 * j + 1 + 1 by omega, il, List.set_cons_succ, List.set_cons_succ, List.set_cons_succ, il, il_set0 xs ys j (by simpa using h)]
theorem il_set1 {v : α} : ∀ (xs ys : List α) (j : Nat), xs.length = ys.length → (il xs ys).set (2 * j + 1) v = il xs (ys.set j v)
  | [], [], j, _ => by simp [il]
  | [], _ :: _, _, h => by cases h
  | _ :: _, [], _, h => by cases h
  | a :: xs, b :: ys, 0, h => rfl
  | a :: xs, b :: ys, j + 1, h => by
    rw [show 2 * (j + 1) + 1 = 2 * j + 1 + 1 + 1 by omega, il, List.set_cons_succ, List.set_cons_succ, List.set_cons_succ, il, il_set1 xs ys j (by simpa using h)]
end
/-! ### the object Parts -/
abbrev iV (l : List Nat) : List V := l.map fun n => V.int (n : Nat)
structure Pp where
  a : Addr
  ks : Addr
  ws : Addr
  ni : Addr
  ab : Addr
  la : Addr
  wh : Addr
  is : List Addr
  ls : List Addr
structure Pd where
  kinds : List Nat
  words : List Str
  inn : List (List Nat)
  ab : List V
  lat : List (List V)
  wh : List V
def Pp.fs (p : Pp) : List (Str × V) := [(Str.ofString "kinds", .ref p.ks), (Str.ofString "words", .ref p.ws), (Str.ofString "inner", .ref p.ni), (Str.ofString "above", .ref p.ab), (Str.ofString "later", .ref p.la), (Str.ofString "wholes", .ref p.wh)]
def Pp.keys (p : Pp) : List Addr := p.a :: p.ks :: p.ws :: p.ni :: p.ab :: p.la :: p.wh :: il p.is p.ls
def Pp.vals (C dx : Addr) (p : Pp) (d : Pd) : List HO := .ins C dx p.fs :: .lst (iV d.kinds) :: .lst (d.words.map V.str) :: .lst (p.is.map V.ref) :: .lst d.ab :: .lst (p.ls.map V.ref) :: .lst d.wh :: il (d.inn.map fun l => .lst (iV l)) (d.lat.map .lst)
structure PtF (K : PySem.W.Frag) (C : Addr) : Prop where
  cl : Cls K C
  n1 : NoAttr K C "kinds"
  n2 : NoAttr K C "words"
  n3 : NoAttr K C "inner"
  n4 : NoAttr K C "above"
  n5 : NoAttr K C "later"
  n6 : NoAttr K C "wholes"
/-- all its lists of the same length -/
structure Pz (p : Pp) (d : Pd) (n : Nat) : Prop where
  ks : d.kinds.length = n
  ws : d.words.length = n
  inn : d.inn.length = n
  ab : d.ab.length = n
  lat : d.lat.length = n
  is : p.is.length = n
  ls : p.ls.length = n
section
variable {H0 H H' : Hp} {p : Pp} {d : Pd} {n : Nat} {C dx t : Addr} {tv : HO}
theorem Own.inn (h : Own H0 H (t :: p.keys) (tv :: p.vals C dx d)) (z : Pz p d n) {j : Nat} {b : Addr} (e : p.is[j]? = some b) : ∃ l, d.inn[j]? = some l ∧ H b = some (.lst (iV l)) := by
  have h1 := h.at_ (8 + 2 * j) b (by
    rw [show 8 + 2 * j = 2 * j + 1 + 1 + 1 + 1 + 1 + 1 + 1 + 1 by omega]
    unfold Pp.keys
    simp only [List.getElem?_cons_succ]
    rw [il_get0 _ _ _ (by rw [z.is, z.ls])]; exact e)
  have hj := (List.getElem?_eq_some_iff.mp e).1
  have z1 := z.is
  have z2 := z.inn
  obtain ⟨l, hl⟩ : ∃ l, d.inn[j]? = some l := ⟨d.inn[j]'(by omega), List.getElem?_eq_getElem (by omega)⟩
  refine ⟨l, hl, h1.trans ?_⟩
  rw [show 8 + 2 * j = 2 * j + 1 + 1 + 1 + 1 + 1 + 1 + 1 + 1 by omega]
  unfold Pp.vals
  simp only [List.getElem?_cons_succ]
  rw [il_get0 _ _ _ (by rw [List.length_map, List.length_map, z.inn, z.lat]), List.getElem?_map, hl]
  rfl
theorem Own.lat (h : Own H0 H (t :: p.keys) (tv :: p.vals C dx d)) (z : Pz p d n) {j : Nat} {b : Addr} (e : p.ls[j]? = some b) : ∃ l, d.lat[j]? = some l ∧ H b = some (.lst l) := by
  have h1 := h.at_ (8 + 2 * j + 1) b (by
    rw [show 8 + 2 * j + 1 = 2 * j + 1 + 1 + 1 + 1 + 1 + 1 + 1 + 1 + 1 by omega]
    unfold Pp.keys
    rw [List.getElem?_cons_succ, List.getElem?_cons_succ, List.getElem?_cons_succ, List.getElem?_cons_succ, List.getElem?_cons_succ, List.getElem?_cons_succ, List.getElem?_cons_succ, List.getElem?_cons_succ]
    rw [il_get1 _ _ _ (by rw [z.is, z.ls])]; exact e)
  have hj := (List.getElem?_eq_some_iff.mp e).1
  have z1 := z.ls
  have z2 := z.lat
  obtain ⟨l, hl⟩ : ∃ l, d.lat[j]? = some l := ⟨d.lat[j]'(by omega), List.getElem?_eq_getElem (by omega)⟩
  refine ⟨l, hl, h1.trans ?_⟩
  rw [show 8 + 2 * j + 1 = 2 * j + 1 + 1 + 1 + 1 + 1 + 1 + 1 + 1 + 1 by omega]
  unfold Pp.vals
  rw [List.getElem?_cons_succ, List.getElem?_cons_succ, List.getElem?_cons_succ, List.getElem?_cons_succ, List.getElem?_cons_succ, List.getElem?_cons_succ, List.getElem?_cons_succ, List.getElem?_cons_succ]
  rw [il_get1 _ _ _ (by rw [List.length_map, List.length_map, z.inn, z.lat]), List.getElem?_map, hl]
  rfl
theorem Own.putInn (h : Own H0 H (t :: p.keys) (tv :: p.vals C dx d)) (z : Pz p d n) {j : Nat} {b : Addr} (e : p.is[j]? = some b) (l : List Nat) : Own H0 (upd H b (.lst (iV l))) (t :: p.keys) (tv :: p.vals C dx { d with inn := d.inn.set j l }) := by
  have h1 := h.put (j := 8 + 2 * j) (b := b) (by
    rw [show 8 + 2 * j = 2 * j + 1 + 1 + 1 + 1 + 1 + 1 + 1 + 1 by omega]
    unfold Pp.keys
    simp only [List.getElem?_cons_succ]
    rw [il_get0 _ _ _ (by rw [z.is, z.ls])]; exact e) (.lst (iV l))
  have ev : (tv :: p.vals C dx d).set (8 + 2 * j) (.lst (iV l)) = tv :: p.vals C dx { d with inn := d.inn.set j l } := by
    rw [show 8 + 2 * j = 2 * j + 1 + 1 + 1 + 1 + 1 + 1 + 1 + 1 by omega]
    unfold Pp.vals
    simp only [List.set_cons_succ]
    rw [il_set0 _ _ _ (by rw [List.length_map, List.length_map, z.inn, z.lat]), List.map_set]
  rw [ev] at h1
  exact h1
theorem Own.putLat (h : Own H0 H (t :: p.keys) (tv :: p.vals C dx d)) (z : Pz p d n) {j : Nat} {b : Addr} (e : p.ls[j]? = some b) (l : List V) : Own H0 (upd H b (.lst l)) (t :: p.keys) (tv :: p.vals C dx { d with lat := d.lat.set j l }) := by
  have h1 := h.put (j := 2 * j + 1 + 1 + 1 + 1 + 1 + 1 + 1 + 1 + 1) (b := b) (by
    unfold Pp.keys
    rw [List.getElem?_cons_succ, List.getElem?_cons_succ, List.getElem?_cons_succ, List.getElem?_cons_succ, List.getElem?_cons_succ, List.getElem?_cons_succ, List.getElem?_cons_succ, List.getElem?_cons_succ]
    rw [il_get1 _ _ _ (by rw [z.is, z.ls])]; exact e) (.lst l)
  have ev : (tv :: p.vals C dx d).set (2 * j + 1 + 1 + 1 + 1 + 1 + 1 + 1 + 1 + 1) (.lst l) = tv :: p.vals C dx { d with lat := d.lat.set j l } := by
    unfold Pp.vals
    rw [List.set_cons_succ, List.set_cons_succ, List.set_cons_succ, List.set_cons_succ, List.set_cons_succ, List.set_cons_succ, List.set_cons_succ, List.set_cons_succ]
    rw [il_set1 _ _ _ (by rw [List.length_map, List.length_map, z.inn, z.lat]), List.map_set]
  rw [ev] at h1
  exact h1
end
/-! ### a method of an own class -/
structure ScOk (P : Program) (w : World) (K : PySem.W.Frag) (mg : Str → Option Value) (base : Heap) (C : Addr) (n : Nat) (m : Str) (ps : List Str) (sp : Sp) : Prop where
  cl : Cls K C
  ex : ∃ (f : Addr) (fd : FuncData), FnOk P w K mg base CX0 n f fd ps sp ∧ Meth K C m f ∧ Binds K fd ps []
section
variable {X : Cx} {C : Addr} {n : Nat} {sp : Sp} {m : Str} {ps : List Str} {o e : Expr} {es : List Expr} {ta : TE} {t : TA} {apos pos : Pos}
theorem pe_methS {pl : Sem Bool} (G : ScOk X.prog X.w X.K X.mg X.base C n m ps sp) (hr : Room n X.A) (he : PE X o ta) (ha : PA X (e :: es) t)
    (hst : starEach (e :: es) X.env = (false, eval e X.env) :: starEach es X.env := by rfl) (hpl : (backTo pos (starEach es X.env)).any (·.1) = false := by rfl)
    (ht : eval (.Call (.Attribute o m apos) (e :: es) [] pos) X.env = (do
      let ov ← eval o X.env
      standAt apos.atName
      let (f, first) ← holding [ov] (getMethod ov m pl)
      callWith pos f first (backTo pos (starEach (e :: es) X.env)) (backToKw pos (keywordEach [] X.env))) := by rfl) :
    PE X (.Call (.Attribute o m apos) (e :: es) [] pos) (tMeth C m sp [] E0 ta t) := by
  obtain ⟨f, fd, F, hm, hb⟩ := G.ex
  exact pe_meth he G.cl hm F hr hb .nil pass0 ha hst hpl ht
theorem pe_methS0 {pl : Sem Bool} (G : ScOk X.prog X.w X.K X.mg X.base C n m ps sp) (hr : Room n X.A) (he : PE X o ta)
    (ht : eval (.Call (.Attribute o m apos) [] [] pos) X.env = (do
      let ov ← eval o X.env
      standAt apos.atName
      let (f, first) ← holding [ov] (getMethod ov m pl)
      callWith pos f first (backTo pos (starEach [] X.env)) (backToKw pos (keywordEach [] X.env))) := by rfl) :
    PE X (.Call (.Attribute o m apos) [] [] pos) (tMeth C m sp [] E0 ta tNil) := by
  obtain ⟨f, fd, F, hm, hb⟩ := G.ex
  exact pe_meth0 he G.cl hm F hr hb .nil pass0 ht
end
end Tk
namespace Tk
open PySem PySem.Spec PyProof.Rows L2 Wv
theorem st_cut {X Y : TS} {D : Ends} {σ : L2.St} {H : Hp} (Cn : L2.St → Hp → Prop) (h1 : ∀ nx', (∀ σ' H', Cn σ' H' → nx' σ' H') → X { D with nx := nx' } σ H) (h2 : ∀ σ' H', Cn σ' H' → Y D σ' H') : tSeq X Y D σ H := h1 _ h2
theorem iV_at {l : List Nat} {j x : Nat} (h : l[j]? = some x) : (iV l)[j]? = some (.int (x : Nat)) := by unfold iV; rw [List.getElem?_map, h]; rfl
theorem iV_back {l : List Nat} {j : Nat} {v : V} (h : (iV l)[j]? = some v) : ∃ x, l[j]? = some x ∧ v = .int (x : Nat) := by
  unfold iV at h
  rw [List.getElem?_map] at h
  cases e : l[j]? with
  | none => rw [e] at h; cases h
  | some x => rw [e] at h; cases h; exact ⟨x, rfl, rfl⟩
theorem rV_at {l : List Addr} {j : Nat} {x : Addr} (h : l[j]? = some x) : (l.map V.ref)[j]? = some (.ref x) := by rw [List.getElem?_map, h]; rfl
theorem iV_snoc (l : List Nat) (v : Nat) : iV (l ++ [v]) = iV l ++ [.int (v : Nat)] := by simp [iV]
theorem get_lt {α : Type} {l : List α} {j : Nat} (h : j < l.length) : ∃ x, l[j]? = some x := ⟨_, List.getElem?_eq_getElem h⟩
def spPut (C : Addr) : Sp := fun vs H Q _ => ∃ (H0 : Hp) (p : Pp) (d : Pd) (t dx : Addr) (tv : HO) (m a B : Nat) (l : List Nat), vs = [.ref p.a, .int (m : Nat), .int (a : Nat)] ∧ Own H0 H (t :: p.keys) (tv :: p.vals C dx d) ∧ Pz p d (m + 1) ∧ a < m ∧
  d.inn[a]? = some l ∧ (∀ x ∈ l, x < m) ∧ l.length ≤ 100 ∧ (∀ x ∈ d.lat, x.length ≤ B) ∧ B ≤ 100000 ∧
  ∀ (H' : Hp) (lat' : List (List V)), Own H0 H' (t :: p.keys) (tv :: p.vals C dx { d with inn := d.inn.set a (l ++ [m]), lat := lat' }) → lat'.length = m + 1 → (∀ x ∈ lat', x.length ≤ B + 100) → Still H H' → Q .non H'
section
variable {P : Program} {w : World} {K : PySem.W.Frag} {mg : Str → Option Value} {base : Heap} {C : Addr}
abbrev s_Parts_put_inside : Stmt := inClass (top 43) 2
theorem sc_Parts_put_inside : FnScope ["self", "number", "above", "earlier"] ["self", "number", "above"] (defScope s_Parts_put_inside) := ⟨rfl, rfl, rfl, by decide +kernel, rfl, by decide +kernel, by decide +kernel⟩
theorem ok_put {f : Addr} {fd : FuncData} (F : Fun K "put_inside" "Parts.put_inside" s_Parts_put_inside f fd) (T : PtF K C) (Cc : Kc mg) : FnOk P w K mg base CX0 1 f fd ["self", "number", "above"] (spPut C) := by
  have GC_ROW := Cc.k3
  refine F.ok sc_Parts_put_inside (fun vs H Q E h => by obtain ⟨_, _, _, _, _, _, _, _, _, _, rfl, _⟩ := h; rfl) (fun cdv A outer s' H vs Q E hr h => ?_)
  obtain ⟨H0, p, d, t, dx, tv, m, a, B, l, rfl, h, z, ham, hl, hlm, hll, hB, hB2, k⟩ := h
  refine ⟨_, (pss_cons (ps_if (pt_cmpR op_eq (pe_ix ix_list (pe_fld (pv 0) rfl) (pv 2) (fun _ _ => rfl)) (pe_globI rfl GC_ROW) (nomark _)) (pss_one (ps_for PassesOwn.never rfl (pi_list (pe_ix ix_list (pe_fld (pv 0) rfl) (pv 2) (fun _ _ => rfl))) (pg_name (i := 3) sc_Parts_put_inside.nd rfl (Or.inl rfl))
   (pss_one (ps_expr (pe_bm PySem.F.plainAttrs_list PySem.F.slot_list_append PySem.F.type_list_append mt_append (pe_ix ix_list (pe_fld (pv 0) rfl) (pv 3) (fun _ _ => rfl)) (pa_cons (pv 1) pa_nil)))))) pss_nil)
  (pss_one (ps_expr (pe_bm PySem.F.plainAttrs_list PySem.F.slot_list_append PySem.F.type_list_append mt_append (pe_ix ix_list (pe_fld (pv 0) rfl) (pv 2) (fun _ _ => rfl)) (pa_cons (pv 1) pa_nil))))), ?_⟩
  have hi : H p.a = some (.ins C dx p.fs) := h.at_ 1 p.a rfl
  have hk : H p.ks = some (.lst (iV d.kinds)) := h.at_ 2 p.ks rfl
  have hn : H p.ni = some (.lst (p.is.map V.ref)) := h.at_ 4 p.ni rfl
  obtain ⟨kd, hkd⟩ := get_lt (l := d.kinds) (j := a) (by rw [z.ks]; omega)
  obtain ⟨b, hb⟩ := get_lt (l := p.is) (j := a) (by rw [z.is]; omega)
  obtain ⟨l', hl', hbl⟩ := h.inn z hb
  rw [hl] at hl'
  cases hl'
  refine st_cut (fun σ' H' => ∃ (x3 : Option V) (lat' : List (List V)), σ' = [some (.ref p.a), some (.int (m : Nat)), some (.int (a : Nat)), x3] ∧ Own H0 H' (t :: p.keys) (tv :: p.vals C dx { d with lat := lat' }) ∧ lat'.length = m + 1 ∧ (∀ x ∈ lat', x.length ≤ B + 100) ∧ Still H H') (fun nx' hnx => ?_) (fun σ' H' hc => ?_)
  · refine ⟨_, rfl, p.a, C, dx, _, _, rfl, hi, T.cl, T.n1, rfl, _, rfl, p.ks, _, _, _, rfl, rfl, SqL.of hk, atI_nat (iV_at hkd), rfl, _, rfl, ?_⟩
    refine ite2 (fun _ => ?_) (fun _ => hnx _ _ ⟨none, d.lat, rfl, h, z.lat, fun x hx => Nat.le_trans (hB x hx) (by omega), .refl _⟩)
    refine ⟨_, rfl, p.a, C, dx, _, _, rfl, hi, T.cl, T.n3, rfl, _, rfl, p.ni, _, _, _, rfl, rfl, SqL.of hn, atI_nat (rV_at hb), b, rfl, ⟨_, SqL.of hbl⟩, ?_⟩
    refine for_list (K := K) (a := b) (xs := iV l) (fun j σ H' => ∃ (x3 : Option V) (lat' : List (List V)), σ = [some (.ref p.a), some (.int (m : Nat)), some (.int (a : Nat)), x3] ∧ Own H0 H' (t :: p.keys) (tv :: p.vals C dx { d with lat := lat' }) ∧ lat'.length = m + 1 ∧ (∀ x ∈ lat', x.length ≤ B + j) ∧ Still H H') ?_ ?_ ?_ ?_
    · exact ⟨none, d.lat, rfl, h, z.lat, hB, .refl _⟩
    · rintro j σ H' _ ⟨_, lat', rfl, h', zl, _, _⟩
      have z' : Pz p { d with lat := lat' } (m + 1) := ⟨z.ks, z.ws, z.inn, z.ab, zl, z.is, z.ls⟩
      obtain ⟨l2, e2, q2⟩ := h'.inn z' hb
      have e3 : d.inn[a]? = some l2 := e2
      rw [hl] at e3
      cases e3
      exact SqL.of q2
    · rintro j e σ H1 he ⟨x3, lat', rfl, h', zl, hbd, st⟩
      have z' : Pz p { d with lat := lat' } (m + 1) := ⟨z.ks, z.ws, z.inn, z.ab, zl, z.is, z.ls⟩
      obtain ⟨x, hx, rfl⟩ := iV_back he
      have hxm := hlm x (List.mem_of_getElem? hx)
      have hj : j < l.length := (List.getElem?_eq_some_iff.mp hx).1
      have hi' : H1 p.a = some (.ins C dx p.fs) := h'.at_ 1 p.a rfl
      have hla : H1 p.la = some (.lst (p.ls.map V.ref)) := h'.at_ 6 p.la rfl
      obtain ⟨bl, hbl2⟩ := get_lt (l := p.ls) (j := x) (by rw [z.ls]; omega)
      obtain ⟨xs, hxs, hbx⟩ := h'.lat z' hbl2
      have hxs' : lat'[x]? = some xs := hxs
      have hxl := hbd xs (List.mem_of_getElem? hxs')
      refine gset ?_
      refine ⟨_, rfl, p.a, C, dx, _, _, rfl, hi', T.cl, T.n5, rfl, _, rfl, p.la, _, _, _, rfl, rfl, SqL.of hla, atI_nat (rV_at hbl2), .inl ⟨rfl, _, SqL.of hbx⟩, _, rfl, bl, _, _, rfl, rfl, hbx, small' (by omega), ?_⟩
      have h2 := h'.putLat z' hbl2 (xs ++ [.int (m : Nat)])
      refine ⟨_, lat'.set x (xs ++ [.int (m : Nat)]), rfl, h2, by rw [List.length_set]; exact zl, fun y hy => ?_, st.trans (Still.put hbx)⟩
      rcases List.mem_or_eq_of_mem_set hy with hy | rfl
      · exact Nat.le_trans (hbd y hy) (by omega)
      · rw [List.length_append, List.length_singleton]; omega
    · rintro σ H1 ⟨x3, lat', rfl, h', zl, hbd, st⟩
      refine hnx _ _ ⟨x3, lat', rfl, h', zl, fun y hy => Nat.le_trans (hbd y hy) ?_, st⟩
      simp only [iV, List.length_map]
      omega
  · obtain ⟨x3, lat', rfl, h', zl, hbd, st⟩ := hc
    have z' : Pz p { d with lat := lat' } (m + 1) := ⟨z.ks, z.ws, z.inn, z.ab, zl, z.is, z.ls⟩
    have hi' : H' p.a = some (.ins C dx p.fs) := h'.at_ 1 p.a rfl
    have hn' : H' p.ni = some (.lst (p.is.map V.ref)) := h'.at_ 4 p.ni rfl
    obtain ⟨l2, e2, q2⟩ := h'.inn z' hb
    have e3 : d.inn[a]? = some l2 := e2
    rw [hl] at e3
    cases e3
    refine ⟨_, rfl, p.a, C, dx, _, _, rfl, hi', T.cl, T.n3, rfl, _, rfl, p.ni, _, _, _, rfl, rfl, SqL.of hn', atI_nat (rV_at hb), .inl ⟨rfl, _, SqL.of q2⟩, _, rfl, b, _, _, rfl, rfl, q2, small' (by simp only [iV, List.length_map]; omega), ?_⟩
    have h2 := h'.putInn z' hb (l ++ [m])
    rw [iV_snoc] at h2
    exact k _ lat' h2 zl hbd (st.trans (Still.put q2))
end
end Tk
namespace Tk
open PySem PySem.Spec PyProof.Rows L2 Wv
/-! ### the layout as numbers -/
def pend (i : Nat) : Nat → List (W × Option Nat) → List Nat
  | _, [] => []
  | n, e :: r => (if e.2 = some i then [n] else []) ++ pend i (n + e.1.size) r
theorem pend_app (i : Nat) : ∀ (xs ys : List (W × Option Nat)) (n : Nat), pend i n (xs ++ ys) = pend i n xs ++ pend i (n + W.sizes (xs.map (·.1))) ys
  | [], ys, n => rfl
  | e :: xs, ys, n => by
    simp only [List.cons_append, pend, pend_app i xs ys, List.map_cons, W.sizes, List.append_assoc]
    rw [show n + e.1.size + W.sizes (xs.map (·.1)) = n + (e.1.size + W.sizes (xs.map (·.1))) by omega]
theorem pend_kids (m : Nat) : ∀ (ws : List W) (n : Nat), pend m n (ws.map fun w => (w, some m)) = offs n ws
  | [], _ => rfl
  | w :: ws, n => by simp only [List.map_cons, pend, offs, if_true, List.singleton_append, pend_kids m ws]
theorem pend_none {i : Nat} : ∀ (r : List (W × Option Nat)) (n : Nat), (∀ e ∈ r, e.2 ≠ some i) → pend i n r = []
  | [], _, _ => rfl
  | e :: r, n, h => by
    rw [pend, if_neg (h e List.mem_cons_self), pend_none r _ (fun x hx => h x (List.mem_cons_of_mem _ hx))]
    rfl
theorem map_fst (ws : List W) (m : Nat) : (ws.map fun w => ((w, some m) : W × Option Nat)).map (·.1) = ws := by
  rw [List.map_map]
  exact List.map_id ws
structure PInv (w : W) (n : Nat) (dn : List W) (st : List (W × Option Nat)) (inn : List (List Nat)) : Prop where
  parts : w.parts = dn ++ W.partss (st.reverse.map (·.1))
  len : dn.length = n
  il : inn.length = n
  kid : ∀ (i : Nat) (l : List Nat), inn[i]? = some l → l ++ pend i n st.reverse = kids w i
  low : ∀ (i : Nat) (l : List Nat), inn[i]? = some l → (∀ x ∈ l, x < n) ∧ l.length ≤ n
  ab : ∀ e ∈ st, ∀ a, e.2 = some a → a < n
theorem PInv.start (w : W) : PInv w 0 [] [(w, none)] [] :=
  ⟨by simp [W.partss], rfl, rfl, fun i l h => by simp at h, fun i l h => by simp at h, fun e he a ha => by
    simp only [List.mem_singleton] at he
    subst he
    cases ha⟩
def nxt (n : Nat) (inn : List (List Nat)) : Option Nat → List (List Nat)
  | none => inn ++ [[]]
  | some i => (inn ++ [[]]).set i ((inn[i]?.getD []) ++ [n])
theorem PInv.at_ {w x : W} {n : Nat} {dn : List W} {st : List (W × Option Nat)} {a : Option Nat} {inn : List (List Nat)} (h : PInv w n dn (st ++ [(x, a)]) inn) : w.parts[n]? = some x := by
  rw [h.parts, List.reverse_append, List.reverse_singleton, List.singleton_append, List.map_cons, W.partss, W.parts_eq, List.getElem?_append_right (by rw [h.len]; exact Nat.le_refl _), h.len, Nat.sub_self]
  rfl
theorem size_in (x : W) : x.size = 1 + W.sizes x.inner := by
  cases x <;> simp [W.size, W.inner, W.sizes]
theorem PInv.step {w x : W} {n : Nat} {dn : List W} {st : List (W × Option Nat)} {a : Option Nat} {inn : List (List Nat)} (h : PInv w n dn (st ++ [(x, a)]) inn) :
    PInv w (n + 1) (dn ++ [x]) (st ++ x.inner.reverse.map fun y => (y, some n)) (nxt n inn a) := by
  have hat := h.at_
  have hkn : kids w n = offs (n + 1) x.inner := by unfold kids; rw [hat]
  have er : (st ++ x.inner.reverse.map fun y => ((y, some n) : W × Option Nat)).reverse = (x.inner.map fun y => ((y, some n) : W × Option Nat)) ++ st.reverse := by
    rw [List.reverse_append, ← List.map_reverse, List.reverse_reverse]
  have er0 : (st ++ [(x, a)]).reverse = (x, a) :: st.reverse := by rw [List.reverse_append]; rfl
  have ab0 : ∀ e ∈ st, ∀ i, e.2 = some i → i < n := fun e he => h.ab e (List.mem_append.mpr (.inl he))
  have hpn : ∀ m, pend n m st.reverse = [] := fun m => pend_none _ _ fun e he q => Nat.lt_irrefl _ (ab0 e (List.mem_reverse.mp he) n q)
  have new : ∀ i, i ≠ n → pend i (n + 1) ((x.inner.map fun y => ((y, some n) : W × Option Nat)) ++ st.reverse) = pend i (n + x.size) st.reverse := fun i hi => by
    rw [pend_app, pend_none (i := i) _ _ (fun e he q => hi ?_), map_fst, List.nil_append, size_in x, Nat.add_assoc]
    obtain ⟨y, _, rfl⟩ := List.mem_map.mp he
    exact (Option.some.inj q).symm
  have newn : pend n (n + 1) ((x.inner.map fun y => ((y, some n) : W × Option Nat)) ++ st.reverse) = kids w n := by
    rw [pend_app, pend_kids, hpn, List.append_nil, hkn]
  have old : ∀ (i : Nat) (l : List Nat), inn[i]? = some l → l ++ ((if a = some i then [n] else []) ++ pend i (n + x.size) st.reverse) = kids w i := fun i l hl => by
    have := h.kid i l hl
    rw [er0, pend] at this
    exact this
  refine ⟨?_, by rw [List.length_append, h.len]; rfl, ?_, ?_, ?_, ?_⟩
  · rw [er, List.map_append, map_fst, W.partss_app, h.parts, er0, List.map_cons, W.partss, W.parts_eq x]
    simp only [List.append_assoc, List.cons_append, List.nil_append]
  · cases a with
    | none => show (inn ++ [[]]).length = n + 1; rw [List.length_append, h.il]; rfl
    | some i => show ((inn ++ [[]]).set i _).length = n + 1; rw [List.length_set, List.length_append, h.il]; rfl
  · intro i l hl
    rw [er]
    have base : ∀ l : List Nat, (inn ++ [[]])[i]? = some l → (i < n ∧ inn[i]? = some l) ∨ (i = n ∧ l = []) := fun l q => by
      by_cases c : i < inn.length
      · rw [List.getElem?_append_left c] at q
        exact .inl ⟨by rw [← h.il]; exact c, q⟩
      · have hi := (List.getElem?_eq_some_iff.mp q).1
        rw [List.length_append, List.length_singleton] at hi
        have ei : i = inn.length := by omega
        rw [ei, List.getElem?_append_right (Nat.le_refl _), Nat.sub_self] at q
        cases q
        exact .inr ⟨by rw [ei, h.il], rfl⟩
    cases a with
    | none =>
      rcases base l hl with ⟨c, q⟩ | ⟨rfl, rfl⟩
      · rw [new i (by omega), ← old i l q, if_neg (by simp)]; rfl
      · rw [newn]; rfl
    | some j =>
      have hj : j < n := h.ab (x, some j) (by simp) j rfl
      by_cases c : i = j
      · subst c
        have hl2 : ((inn ++ [[]]).set i ((inn[i]?.getD []) ++ [n]))[i]? = some l := hl
        rw [List.getElem?_set_self (by rw [List.length_append, h.il]; omega)] at hl2
        cases hl2
        obtain ⟨l0, hl0⟩ := get_lt (l := inn) (j := i) (by rw [h.il]; exact hj)
        rw [hl0, new i (by omega), ← old i l0 hl0, if_pos rfl]
        simp only [Option.getD_some, List.append_assoc]
      · have hl2 : ((inn ++ [[]]).set j ((inn[j]?.getD []) ++ [n]))[i]? = some l := hl
        rw [List.getElem?_set_ne (Ne.symm c)] at hl2
        rcases base l hl2 with ⟨c2, q⟩ | ⟨rfl, rfl⟩
        · rw [new i (by omega), ← old i l q, if_neg (fun e => c (Option.some.inj e).symm)]; rfl
        · rw [newn]; rfl
  · intro i l hl
    have base : ∀ l : List Nat, (inn ++ [[]])[i]? = some l → (∀ x ∈ l, x < n) ∧ l.length ≤ n := fun l q => by
      by_cases c : i < inn.length
      · rw [List.getElem?_append_left c] at q
        exact h.low i l q
      · have hi := (List.getElem?_eq_some_iff.mp q).1
        rw [List.length_append, List.length_singleton] at hi
        have ei : i = inn.length := by omega
        rw [ei, List.getElem?_append_right (Nat.le_refl _), Nat.sub_self] at q
        cases q
        exact ⟨fun x hx => (nomatch hx), Nat.zero_le _⟩
    cases a with
    | none =>
      obtain ⟨h1, h2⟩ := base l hl
      exact ⟨fun x hx => Nat.lt_succ_of_lt (h1 x hx), Nat.le_succ_of_le h2⟩
    | some j =>
      have hj : j < n := h.ab (x, some j) (by simp) j rfl
      by_cases c : i = j
      · subst c
        have hl2 : ((inn ++ [[]]).set i ((inn[i]?.getD []) ++ [n]))[i]? = some l := hl
        rw [List.getElem?_set_self (by rw [List.length_append, h.il]; omega)] at hl2
        cases hl2
        obtain ⟨l0, hl0⟩ := get_lt (l := inn) (j := i) (by rw [h.il]; exact hj)
        obtain ⟨h1, h2⟩ := h.low i l0 hl0
        rw [hl0]
        refine ⟨fun x hx => ?_, by rw [Option.getD_some, List.length_append]; show l0.length + 1 ≤ n + 1; omega⟩
        rcases List.mem_append.mp hx with hx | hx
        · exact Nat.lt_succ_of_lt (h1 x hx)
        · rw [List.mem_singleton] at hx; omega
      · have hl2 : ((inn ++ [[]]).set j ((inn[j]?.getD []) ++ [n]))[i]? = some l := hl
        rw [List.getElem?_set_ne (Ne.symm c)] at hl2
        obtain ⟨h1, h2⟩ := base l hl2
        exact ⟨fun x hx => Nat.lt_succ_of_lt (h1 x hx), Nat.le_succ_of_le h2⟩
  · intro e he i hi
    rcases List.mem_append.mp he with he | he
    · exact Nat.lt_succ_of_lt (ab0 e he i hi)
    · obtain ⟨y, _, rfl⟩ := List.mem_map.mp he
      cases hi
      exact Nat.lt_succ_self _
/-- pairs of a way and the number above it -/
def StackAt (c : Cs) (H : Hp) : List V → List (W × Option Nat) → Prop
  | vs, [] => vs = []
  | vs, e :: es => ∃ r v us, vs = V.ref r :: us ∧ H r = some (.tup [v, .int (eI e.2)]) ∧ ObjAt c H v e.1 ∧ StackAt c H us es
section
variable {c : Cs} {H H' : Hp}
theorem StackAt.keep (k : Still H H') : ∀ (es : List (W × Option Nat)) (vs : List V), StackAt c H vs es → StackAt c H' vs es
  | [], _, h => h
  | e :: es, vs, ⟨r, v, us, e1, h1, h2, h3⟩ => ⟨r, v, us, e1, k.tup h1, ObjAt.keep k _ _ h2, StackAt.keep k es us h3⟩
theorem StackAt.len : ∀ (es : List (W × Option Nat)) (vs : List V), StackAt c H vs es → vs.length = es.length
  | [], vs, h => by rw [show vs = [] from h]; rfl
  | e :: es, vs, ⟨r, v, us, e1, _, _, h3⟩ => by rw [e1, List.length_cons, List.length_cons, StackAt.len es us h3]
theorem StackAt.app : ∀ (es : List (W × Option Nat)) (vs : List V) {us : List V} {xs : List (W × Option Nat)}, StackAt c H vs es → StackAt c H us xs → StackAt c H (vs ++ us) (es ++ xs)
  | [], vs, us, xs, h, h2 => by rw [show vs = [] from h]; exact h2
  | e :: es, vs, us, xs, ⟨r, v, us', e1, h1, h3, h4⟩, h2 => by rw [e1]; exact ⟨r, v, us' ++ us, rfl, h1, h3, StackAt.app es us' h4 h2⟩
theorem StackAt.split : ∀ (es : List (W × Option Nat)) (e : W × Option Nat) (vs : List V), StackAt c H vs (es ++ [e]) → ∃ us r v, vs = us ++ [V.ref r] ∧ StackAt c H us es ∧ H r = some (.tup [v, .int (eI e.2)]) ∧ ObjAt c H v e.1
  | [], e, vs, ⟨r, v, us, e1, h1, h2, h3⟩ => ⟨[], r, v, by rw [e1, show us = [] from h3]; rfl, rfl, h1, h2⟩
  | x :: es, e, vs, ⟨r, v, us, e1, h1, h2, h3⟩ => by
    obtain ⟨us', r', v', e', g1, g2, g3⟩ := StackAt.split es e us h3
    exact ⟨V.ref r :: us', r', v', by rw [e1, e']; rfl, ⟨r, v, us', rfl, h1, h2, g1⟩, g2, g3⟩
end
end Tk
namespace Tk
open PySem PySem.Spec PyProof.Rows L2 Wv
structure Laid (C : Addr) (H0 H : Hp) (w : W) (p : Pp) (d : Pd) (dx t : Addr) (tv : HO) : Prop where
  own : Own H0 H (t :: p.keys) (tv :: p.vals C dx d)
  z : Pz p d w.size
  ks : d.kinds = w.parts.map W.kind
  ws : d.words = w.parts.map W.word
  kid : ∀ (i : Nat) (l : List Nat), d.inn[i]? = some l → l = kids w i
def LaidAt (C : Addr) (H0 H : Hp) (a : Addr) (w : W) : Prop := ∃ p d dx t tv, p.a = a ∧ Laid C H0 H w p d dx t tv
def spLay (c : Cs) (C : Addr) : Sp := fun vs H Q _ => ∃ (H0 : Hp) (p : Pp) (dx : Addr) (wh : List V) (v : V) (w : W), vs = [.ref p.a, v] ∧ Own H0 H p.keys (p.vals C dx ⟨[], [], [], [], [], wh⟩) ∧ p.is = [] ∧ p.ls = [] ∧ ObjAt c H v w ∧ w.size ≤ 100 ∧
  ∀ H', LaidAt C H0 H' p.a w → Still H H' → Q .non H'
theorem st_cutN {X : TS} {nx : L2.St → Hp → Prop} {rt : VK} {bk ct : L2.St → Hp → Prop} {σ : L2.St} {H : Hp} (Cn : L2.St → Hp → Prop) (h1 : ∀ nx' : L2.St → Hp → Prop, (∀ σ' H', Cn σ' H' → nx' σ' H') → X (Ends.mk nx' rt bk ct) σ H) (h2 : ∀ σ' H', Cn σ' H' → nx σ' H') : X (Ends.mk nx rt bk ct) σ H := h1 nx h2
theorem st_nx {nx : L2.St → Hp → Prop} {rt : VK} {bk ct : L2.St → Hp → Prop} {σ : L2.St} {H : Hp} (h : nx σ H) : (Ends.mk nx rt bk ct).nx σ H := h
theorem while_m {c : TT} {tb : TS} {D : Ends} {σ : L2.St} {H : Hp} (Pv : Nat → L2.St → Hp → Prop) (m : Nat) (h0 : Pv m σ H)
    (hs : ∀ m σ H, Pv m σ H → c σ H fun b H1 => if b = true then tb { D with nx := fun σ' H' => ∃ m', m' < m ∧ Pv m' σ' H', ct := fun σ' H' => ∃ m', m' < m ∧ Pv m' σ' H', bk := D.nx } σ H1 else D.nx σ H1)
    (mono : ∀ σ H Q Q', (∀ b H1, Q b H1 → Q' b H1) → c σ H Q → c σ H Q') : tWhile c tb D σ H := by
  refine ⟨Pv, ⟨m, h0⟩, fun m σ H p => mono σ H _ _ (fun b H1 q => ?_) (hs m σ H p)⟩
  cases b with
  | true => exact ⟨_, fun _ _ h => h, q⟩
  | false => exact q
section
variable {P : Program} {w : World} {K : PySem.W.Frag} {mg : Str → Option Value} {base : Heap} {C : Addr} {c : Cs}
theorem sV_snoc (l : List Str) (v : Str) : (l ++ [v]).map V.str = l.map V.str ++ [.str v] := by simp
theorem rV_snoc (l : List Addr) (v : Addr) : (l ++ [v]).map V.ref = l.map V.ref ++ [.ref v] := by simp
abbrev s_Parts_lay_out : Stmt := inClass (top 43) 1
theorem sc_Parts_lay_out : FnScope ["self", "whole", "todo", "way", "above", "number", "part"] ["self", "whole"] (defScope s_Parts_lay_out) := ⟨rfl, rfl, rfl, by decide +kernel, rfl, by decide +kernel, by decide +kernel⟩
theorem ok_lay {f : Addr} {fd : FuncData} (F : Fun K "lay_out" "Parts.lay_out" s_Parts_lay_out f fd) (T : PtF K C) (B : Bs mg) (G_kind_of : DefOk P w K mg base 1 "kind_of" ["way"] (spKind c)) (G_word_of : DefOk P w K mg base 1 "word_of" ["way"] (spWord c))
    (G_made_of : DefOk P w K mg base 1 "made_of" ["way"] (spMadeOf c)) (G_put_inside : ScOk P w K mg base C 1 "put_inside" ["self", "number", "above"] (spPut C)) : FnOk P w K mg base CX0 2 f fd ["self", "whole"] (spLay c C) := by
  have B_len := B.len
  refine F.ok sc_Parts_lay_out (fun vs H Q E h => by obtain ⟨_, _, _, _, _, _, rfl, _⟩ := h; rfl) (fun cdv A outer s' H vs Q E hr h => ?_)
  obtain ⟨H0, p, dx, wh, v, x, rfl, h, eis, els, hv, hz, k⟩ := h
  refine ⟨_, (pss_cons (ps_set (i := 2) sc_Parts_lay_out.nd rfl (Or.inl rfl) (pe_lst (pa_cons (pe_tup (pa_cons (pv 1) (pa_cons (pe_un un_neg pe_int) pa_nil))) pa_nil)))
  (pss_one (ps_while PassesOwn.never (pt_truth (pv 2) (by intro _; rfl)) (pss_cons (ps_asg (pe_bm0 PySem.F.plainAttrs_list PySem.F.slot_list_pop PySem.F.type_list_pop mt_pop (pv 2)) (pg_tup rfl (pgs_cons (pg_name (i := 3) sc_Parts_lay_out.nd rfl (Or.inl rfl)) (pgs_cons (pg_name (i := 4) sc_Parts_lay_out.nd rfl (Or.inl rfl)) pgs_nil))))
  (pss_cons (ps_set (i := 5) sc_Parts_lay_out.nd rfl (Or.inr rfl) (pe_callB call_len_seq rfl B_len PySem.boot_len (pa_cons (pe_fld (pv 0) rfl) pa_nil)))
  (pss_cons (ps_expr (pe_bm PySem.F.plainAttrs_list PySem.F.slot_list_append PySem.F.type_list_append mt_append (pe_fld (pv 0) rfl) (pa_cons (pe_callD G_kind_of (hr.mono (by first | decide | omega)) rfl (pa_cons (pv 3) pa_nil)) pa_nil)))
  (pss_cons (ps_expr (pe_bm PySem.F.plainAttrs_list PySem.F.slot_list_append PySem.F.type_list_append mt_append (pe_fld (pv 0) rfl) (pa_cons (pe_callD G_word_of (hr.mono (by first | decide | omega)) rfl (pa_cons (pv 3) pa_nil)) pa_nil)))
  (pss_cons (ps_expr (pe_bm PySem.F.plainAttrs_list PySem.F.slot_list_append PySem.F.type_list_append mt_append (pe_fld (pv 0) rfl) (pa_cons (pe_lst pa_nil) pa_nil)))
  (pss_cons (ps_expr (pe_bm PySem.F.plainAttrs_list PySem.F.slot_list_append PySem.F.type_list_append mt_append (pe_fld (pv 0) rfl) (pa_cons (pv 4) pa_nil)))
  (pss_cons (ps_expr (pe_bm PySem.F.plainAttrs_list PySem.F.slot_list_append PySem.F.type_list_append mt_append (pe_fld (pv 0) rfl) (pa_cons (pe_lst pa_nil) pa_nil)))
  (pss_cons (ps_if (pt_cmpR op_ge (pv 4) pe_int (nomark _)) (pss_one (ps_expr (pe_methS G_put_inside (hr.mono (by first | decide | omega)) (pv 0) (pa_cons (pv 5) (pa_cons (pv 4) pa_nil))))) pss_nil)
  (pss_one (ps_expr (pe_bm PySem.F.plainAttrs_list PySem.F.slot_list_extend PySem.F.type_list_extend mt_extend (pv 2) (pa_cons (pe_lc (own := [("part", 6)]) (g := (gName 6)) (tt := tYes) rfl sc_Parts_lay_out.nd (pi_tup (pe_revT (pe_callD G_made_of (hr.mono (by first | decide | omega)) rfl (pa_cons (pv 3) pa_nil)))) (blkOk_by (own := [("part", 6)]) (N := ["self", "whole", "todo", "way", "above", "number", "part"]) (sc := defScope s_Parts_lay_out) (by decide +kernel)) (fun _ _ _ _ _ => pg_name (i := 6) sc_Parts_lay_out.nd rfl (Or.inl rfl)) (fun _ _ _ _ _ => pts_nil) (fun _ _ _ _ _ => (pe_tup (pa_cons (pv 6) (pa_cons (pv 5) pa_nil))))) pa_nil))))))))))))))), ?_⟩
  walk_at "rd"
  refine ⟨by show 2 ≤ sizeLine; decide, fun r hr => ?_⟩
  have s1 := Same.new hr (.tup [v, .int (-1)])
  refine ⟨by show 1 ≤ sizeLine; decide, fun t ht => ?_⟩
  have s2 := s1.trans (Same.new ht (.lst [.ref r]))
  have nrt : r ≠ t := ne_of_none upd_same ht
  have h1 := (h.of_same s1).cons ht (.lst [.ref r])
  refine gset ?_
  refine st_nx ?_
  refine while_m (fun m σ H' => ∃ (ts : List V) (st : List (W × Option Nat)) (dn : List W) (x3 x4 x5 x6 : Option V) (p' : Pp) (d' : Pd) (n : Nat), σ = [some (.ref p.a), some v, some (.ref t), x3, x4, x5, x6] ∧ p'.a = p.a ∧ Own H0 H' (t :: p'.keys) (.lst ts :: p'.vals C dx d') ∧ Pz p' d' n ∧
    d'.kinds = dn.map W.kind ∧ d'.words = dn.map W.word ∧ StackAt c H' ts st ∧ PInv x n dn st d'.inn ∧ (∀ y ∈ d'.lat, y.length ≤ 100 * n) ∧ W.sizes (st.map (·.1)) = m ∧ n + m = x.size ∧ Still H H') x.size ?_ ?_
    (fun σ H Q Q' hq ⟨v, e, b, tv, h⟩ => ⟨v, e, b, tv, hq _ _ h⟩)
  · refine ⟨[.ref r], [(x, none)], [], none, none, none, none, p, ⟨[], [], [], [], [], wh⟩, 0, rfl, rfl, h1, ⟨rfl, rfl, rfl, rfl, rfl, by rw [eis]; rfl, by rw [els]; rfl⟩, rfl, rfl, ⟨r, v, [], rfl, by rw [upd_ne nrt]; exact upd_same, ObjAt.keep (stillS s2) _ _ hv, rfl⟩, PInv.start x, fun y hy => (nomatch hy), by simp [W.sizes], by simp, stillS s2⟩
  · rintro m σ H1 ⟨ts, st, dn, x3, x4, x5, x6, p', d', n, rfl, ea, h', z, ek, ew, hst, hI, hB, hm, hnm, hS⟩
    have ht1 : H1 t = some (.lst ts) := h'.at_ 0 t rfl
    refine ⟨_, rfl, _, tru_lst ht1, ?_⟩
    rcases List.eq_nil_or_concat st with e | ⟨sa, sl, e⟩
    · subst e
      have e2 : ts = [] := hst
      subst e2
      refine iteF ?_
      have : m = 0 := hm.symm
      subst this
      have en : n = x.size := by omega
      subst en
      have ep : dn = x.parts := by
        have := hI.parts
        simpa [W.partss] using this.symm
      subst ep
      refine k H1 ⟨p', d', dx, t, _, ea, h', z, ek, ew, fun i l hl => ?_⟩ hS
      have := hI.kid i l hl
      simpa [pend] using this
    · have e' : st = sa ++ [sl] := by rw [e]; simp
      clear e
      subst e'
      obtain ⟨xl, al⟩ := sl
      obtain ⟨tsa, r1, v1, e2, hsa, hr1, hv1⟩ := StackAt.split _ _ _ hst
      subst e2
      have hsz : W.sizes (sa.map (·.1)) + xl.size = m := by rw [← hm, List.map_append, W.sizes_app]; simp [W.sizes]
      have xin := size_in xl
      have sp := xl.size_pos
      have hstep := hI.step
      have hab : ∀ a, al = some a → a < n := fun a ha => hI.ab (xl, al) (by simp) a ha
      refine iteT' (by simp) ?_
      walk_at "nx"
      refine ⟨_, rfl, .inl ⟨rfl, _, SqL.of ht1⟩, t, _, _, rfl, rfl, ht1, last_get _ _, ?_⟩
      rw [List.dropLast_concat]
      have k1 : Still H1 (upd H1 t (.lst tsa)) := Still.put ht1
      refine ⟨r1, _, rfl, SqT.of (k1.tup hr1), rfl, _, _, rfl, _, _, rfl, rfl, ?_⟩
      walk_at "nx"
      have h2 : Own H0 (upd H1 t (.lst tsa)) (t :: p'.keys) (.lst tsa :: p'.vals C dx d') := h'.put (j := 0) rfl _
      have hv2 := ObjAt.keep k1 _ _ hv1
      have hsa2 := StackAt.keep k1 _ _ hsa
      generalize upd H1 t (.lst tsa) = H2 at *
      have hi2 : H2 p.a = some (.ins C dx p'.fs) := by rw [← ea]; exact h2.at_ 1 p'.a rfl
      have hk2 : H2 p'.ks = some (.lst (iV d'.kinds)) := h2.at_ 2 p'.ks rfl
      refine ⟨_, rfl, p.a, C, dx, _, _, rfl, hi2, T.cl, T.n1, rfl, p'.ks, _, rfl, .inl (SqL.of hk2), ?_⟩
      rw [show (iV d'.kinds).length = n by simp only [iV, List.length_map, z.ks]]
      walk_at "nx"
      refine ⟨_, rfl, p.a, C, dx, _, _, rfl, hi2, T.cl, T.n1, rfl, .inl ⟨rfl, _, SqL.of hk2⟩, _, rfl, v1, xl, rfl, hv2, p'.ks, _, _, rfl, rfl, hk2, small' (by simp only [iV, List.length_map, z.ks]; omega), ?_⟩
      have h3 : Own H0 (upd H2 p'.ks (.lst (iV (d'.kinds ++ [xl.kind])))) (t :: p'.keys) (.lst tsa :: p'.vals C dx { d' with kinds := d'.kinds ++ [xl.kind] }) := h2.put (j := 2) rfl _
      rw [iV_snoc] at h3
      have k3 : Still H2 (upd H2 p'.ks (.lst (iV d'.kinds ++ [.int (xl.kind : Nat)]))) := Still.put hk2
      have hv3 := ObjAt.keep k3 _ _ hv2
      have hsa3 := StackAt.keep k3 _ _ hsa2
      generalize upd H2 p'.ks (.lst (iV d'.kinds ++ [.int (xl.kind : Nat)])) = H3 at *
      walk_at "nx"
      have hi3 : H3 p.a = some (.ins C dx p'.fs) := by rw [← ea]; exact h3.at_ 1 p'.a rfl
      have hw3 : H3 p'.ws = some (.lst (d'.words.map V.str)) := h3.at_ 3 p'.ws rfl
      refine ⟨_, rfl, p.a, C, dx, _, _, rfl, hi3, T.cl, T.n2, rfl, .inl ⟨rfl, _, SqL.of hw3⟩, _, rfl, v1, xl, rfl, hv3, p'.ws, _, _, rfl, rfl, hw3, small' (by simp only [List.length_map, z.ws]; omega), ?_⟩
      have h4 : Own H0 (upd H3 p'.ws (.lst ((d'.words ++ [xl.word]).map V.str))) (t :: p'.keys) (.lst tsa :: p'.vals C dx { d' with kinds := d'.kinds ++ [xl.kind], words := d'.words ++ [xl.word] }) := h3.put (j := 3) rfl _
      rw [sV_snoc] at h4
      have k4 : Still H3 (upd H3 p'.ws (.lst (d'.words.map V.str ++ [.str xl.word]))) := Still.put hw3
      have hv4 := ObjAt.keep k4 _ _ hv3
      have hsa4 := StackAt.keep k4 _ _ hsa3
      generalize upd H3 p'.ws (.lst (d'.words.map V.str ++ [.str xl.word])) = H4 at *
      walk_at "nx"
      have hi4 : H4 p.a = some (.ins C dx p'.fs) := by rw [← ea]; exact h4.at_ 1 p'.a rfl
      have hn4 : H4 p'.ni = some (.lst (p'.is.map V.ref)) := h4.at_ 4 p'.ni rfl
      refine ⟨_, rfl, p.a, C, dx, _, _, rfl, hi4, T.cl, T.n3, rfl, .inl ⟨rfl, _, SqL.of hn4⟩, Nat.zero_le _, fun q1 hq1 => ?_⟩
      have s5 := Same.new hq1 (.lst [])
      have hn5 := s5 _ _ hn4
      refine ⟨p'.ni, _, _, rfl, rfl, hn5, small' (by simp only [List.length_map, z.is]; omega), ?_⟩
      have h5 := (h4.snoc hq1 (.lst [])).put (j := 4) (b := p'.ni) rfl (.lst ((p'.is ++ [q1]).map V.ref))
      rw [rV_snoc] at h5
      have k5 : Still H4 (upd (upd H4 q1 (.lst [])) p'.ni (.lst (p'.is.map V.ref ++ [.ref q1]))) := (stillS s5).trans (Still.put hn5)
      have hv5 := ObjAt.keep k5 _ _ hv4
      have hsa5 := StackAt.keep k5 _ _ hsa4
      generalize upd (upd H4 q1 (.lst [])) p'.ni (.lst (p'.is.map V.ref ++ [.ref q1])) = H5 at *
      walk_at "nx"
      have hi5 : H5 p.a = some (.ins C dx p'.fs) := by rw [← ea]; exact h5.at_ 1 p'.a rfl
      have ha5 : H5 p'.ab = some (.lst d'.ab) := h5.at_ 5 p'.ab rfl
      refine ⟨_, rfl, p.a, C, dx, _, _, rfl, hi5, T.cl, T.n4, rfl, .inl ⟨rfl, _, SqL.of ha5⟩, _, rfl, p'.ab, _, _, rfl, rfl, ha5, small' (by rw [z.ab]; omega), ?_⟩
      have h6 := h5.put (j := 5) (b := p'.ab) rfl (.lst (d'.ab ++ [.int (eI al)]))
      have k6 : Still H5 (upd H5 p'.ab (.lst (d'.ab ++ [.int (eI al)]))) := Still.put ha5
      have hv6 := ObjAt.keep k6 _ _ hv5
      have hsa6 := StackAt.keep k6 _ _ hsa5
      generalize upd H5 p'.ab (.lst (d'.ab ++ [.int (eI al)])) = H6 at *
      walk_at "nx"
      have hi6 : H6 p.a = some (.ins C dx p'.fs) := by rw [← ea]; exact h6.at_ 1 p'.a rfl
      have hl6 : H6 p'.la = some (.lst (p'.ls.map V.ref)) := h6.at_ 6 p'.la rfl
      refine ⟨_, rfl, p.a, C, dx, _, _, rfl, hi6, T.cl, T.n5, rfl, .inl ⟨rfl, _, SqL.of hl6⟩, Nat.zero_le _, fun q2 hq2 => ?_⟩
      have s7 := Same.new hq2 (.lst [])
      have hl7 := s7 _ _ hl6
      refine ⟨p'.la, _, _, rfl, rfl, hl7, small' (by simp only [List.length_map, z.ls]; omega), ?_⟩
      have h7 := (h6.snoc hq2 (.lst [])).put (j := 6) (b := p'.la) rfl (.lst ((p'.ls ++ [q2]).map V.ref))
      rw [rV_snoc] at h7
      have k7 : Still H6 (upd (upd H6 q2 (.lst [])) p'.la (.lst (p'.ls.map V.ref ++ [.ref q2]))) := (stillS s7).trans (Still.put hl7)
      have hv7 := ObjAt.keep k7 _ _ hv6
      have hsa7 := StackAt.keep k7 _ _ hsa6
      have hS7 : Still H (upd (upd H6 q2 (.lst [])) p'.la (.lst (p'.ls.map V.ref ++ [.ref q2]))) := (((((hS.trans k1).trans k3).trans k4).trans k5).trans k6).trans k7
      generalize upd (upd H6 q2 (.lst [])) p'.la (.lst (p'.ls.map V.ref ++ [.ref q2])) = H7 at *
      walk_at "nx"
      obtain ⟨p2, ep2⟩ : ∃ p2 : Pp, p2 = { p' with is := p'.is ++ [q1], ls := p'.ls ++ [q2] } := ⟨_, rfl⟩
      have ea2 : p2.a = p.a := by rw [ep2]; exact ea
      obtain ⟨d2, ed2⟩ : ∃ d2 : Pd, d2 = { d' with kinds := d'.kinds ++ [xl.kind], words := d'.words ++ [xl.word], inn := d'.inn ++ [[]], ab := d'.ab ++ [.int (eI al)], lat := d'.lat ++ [[]] } := ⟨_, rfl⟩
      have h8 : Own H0 H7 (t :: p2.keys) (.lst tsa :: p2.vals C dx d2) := by
        have ek : t :: p2.keys = ((t :: p'.keys) ++ [q1]) ++ [q2] := by
          rw [ep2]
          show t :: p'.a :: p'.ks :: p'.ws :: p'.ni :: p'.ab :: p'.la :: p'.wh :: il (p'.is ++ [q1]) (p'.ls ++ [q2]) = t :: p'.a :: p'.ks :: p'.ws :: p'.ni :: p'.ab :: p'.la :: p'.wh :: ((il p'.is p'.ls ++ [q1]) ++ [q2])
          rw [il_snoc _ _ (by rw [z.is, z.ls]), List.append_assoc]
          rfl
        rw [ek]
        have ev : (.lst tsa :: p2.vals C dx d2 : List HO) = .lst tsa :: .ins C dx p'.fs :: .lst (iV (d'.kinds ++ [xl.kind])) :: .lst ((d'.words ++ [xl.word]).map V.str) :: .lst ((p'.is ++ [q1]).map V.ref) :: .lst (d'.ab ++ [.int (eI al)]) :: .lst ((p'.ls ++ [q2]).map V.ref) :: .lst d'.wh ::
            ((il (d'.inn.map fun l => .lst (iV l)) (d'.lat.map .lst) ++ [.lst []]) ++ [.lst []]) := by
          rw [ep2, ed2]
          show (.lst tsa :: .ins C dx p'.fs :: .lst (iV (d'.kinds ++ [xl.kind])) :: .lst ((d'.words ++ [xl.word]).map V.str) :: .lst ((p'.is ++ [q1]).map V.ref) :: .lst (d'.ab ++ [.int (eI al)]) :: .lst ((p'.ls ++ [q2]).map V.ref) :: .lst d'.wh :: il ((d'.inn ++ [[]]).map fun l => .lst (iV l)) ((d'.lat ++ [[]]).map .lst) : List HO) = _
          have e1 : ((d'.inn ++ [[]]).map fun l => HO.lst (iV l)) = (d'.inn.map fun l => HO.lst (iV l)) ++ [.lst []] := by simp [iV]
          have e2 : ((d'.lat ++ [[]]).map HO.lst) = (d'.lat.map HO.lst) ++ [.lst []] := by simp
          rw [e1, e2, il_snoc _ _ (by rw [List.length_map, List.length_map, z.inn, z.lat]), List.append_assoc]
          rfl
        rw [ev, rV_snoc, rV_snoc]
        exact h7
      have z8 : Pz p2 d2 (n + 1) := by
        rw [ep2, ed2]
        exact ⟨by simp [z.ks], by simp [z.ws], by simp [z.inn], by simp [z.ab], by simp [z.lat], by simp [z.is], by simp [z.ls]⟩
      have hB8 : ∀ y ∈ d2.lat, y.length ≤ 100 * n := by
        rw [ed2]
        intro y hy
        rcases List.mem_append.mp hy with hy | hy
        · exact hB y hy
        · rw [List.mem_singleton] at hy; subst hy; exact Nat.zero_le _
      have ek8 : d2.kinds = (dn ++ [xl]).map W.kind := by rw [ed2, List.map_append, ← ek]; rfl
      have ew8 : d2.words = (dn ++ [xl]).map W.word := by rw [ed2, List.map_append, ← ew]; rfl
      have ei8 : d2.inn = d'.inn ++ [[]] := by rw [ed2]
      have el8 : d2.lat.length = n + 1 := z8.lat
      clear ep2 ed2 h7
      refine st_cutN (fun σ' H' => ∃ lat' : List (List V), σ' = [some (.ref p.a), some v, some (.ref t), some v1, some (.int (eI al)), some (.int (n : Nat)), x6] ∧ Own H0 H' (t :: p2.keys) (.lst tsa :: p2.vals C dx { d2 with inn := nxt n d'.inn al, lat := lat' }) ∧ lat'.length = n + 1 ∧
        (∀ y ∈ lat', y.length ≤ 100 * (n + 1)) ∧ Still H7 H') (fun nx' hnx => ?_) (fun σ' H' hc => ?_)
      · have hi8 : H7 p.a = some (.ins C dx p2.fs) := by rw [← ea2]; exact h8.at_ 1 p2.a rfl
        refine ⟨_, rfl, _, _, rfl, rfl, _, rfl, ?_⟩
        cases al with
        | none =>
          refine ite2 (fun q => absurd (show (0 : Int) ≤ -1 from of_decide_eq_true q) (by decide)) (fun _ => hnx _ _ ⟨d2.lat, rfl, ?_, el8, fun y hy => Nat.le_trans (hB8 y hy) (by omega), .refl _⟩)
          show Own H0 H7 (t :: p2.keys) (.lst tsa :: p2.vals C dx { d2 with inn := d'.inn ++ [[]], lat := d2.lat })
          rw [← ei8]
          exact h8
        | some a =>
          have han := hab a rfl
          obtain ⟨l, hl⟩ := get_lt (l := d'.inn) (j := a) (by rw [z.inn]; exact han)
          obtain ⟨hl1, hl2⟩ := hI.low a l hl
          refine ite2 (fun _ => ?_) (fun q => absurd (show decide ((0 : Int) ≤ ((a : Nat) : Int)) = true from decide_eq_true (by omega)) q)
          refine ⟨_, rfl, p.a, dx, _, rfl, hi8, rfl, _, rfl, _, rfl, ?_⟩
          refine ⟨H0, p2, d2, t, dx, .lst tsa, n, a, 100 * n, l, by rw [ea2]; rfl, h8, z8, han, by rw [ei8, List.getElem?_append_left (by rw [z.inn]; exact han)]; exact hl, hl1, by omega, hB8, by omega, fun H' lat' ho hln hbd st => hnx _ _ ⟨lat', rfl, ?_, hln, fun y hy => Nat.le_trans (hbd y hy) (by omega), st⟩⟩
          show Own H0 H' (t :: p2.keys) (.lst tsa :: p2.vals C dx { d2 with inn := (d'.inn ++ [[]]).set a ((d'.inn[a]?.getD []) ++ [n]), lat := lat' })
          rw [hl, ← ei8]
          exact ho
      · obtain ⟨lat', rfl, h9, hln, hbd, st9⟩ := hc
        have ht9 : H' t = some (.lst tsa) := h9.at_ 0 t rfl
        have hv9 := ObjAt.keep st9 _ _ hv7
        refine ⟨_, rfl, .inl ⟨rfl, _, SqL.of ht9⟩, _, rfl, v1, xl, rfl, hv9, fun u us H10 s10 hu hus => ?_⟩
        refine ⟨u, us, rfl, SqT.of hu, fun rr hrr => ?_⟩
        have s11 := s10.trans (Same.new hrr (.tup us.reverse))
        have hu11 : upd H10 rr (.tup us.reverse) rr = some (.tup us.reverse) := upd_same
        have hus11 := ObjsAt.keep (stillS (Same.new hrr (.tup us.reverse))) _ _ (ObjsAt.rev _ _ hus)
        have lus := ObjsAt.len _ _ hus
        have lin := W.sizes_len xl.inner
        generalize upd H10 rr (.tup us.reverse) = H11 at *
        refine ⟨rr, rfl, ⟨_, SqT.of hu11⟩, fun D hD => ?_⟩
        have sD := Same.new hD (.lst [])
        refine lc_tup (K := K) (a := rr) (xs := us.reverse) (fun i Hx => ∃ acc, Hx D = some (.lst acc) ∧ acc.length = i ∧ StackAt c Hx acc ((xl.inner.reverse.take i).map fun y => (y, some n)) ∧ Same H11 Hx) ?_ ?_ ?_ ?_
        · exact ⟨[], upd_same, rfl, rfl, sD⟩
        · rintro i Hx _ ⟨_, _, _, _, sx⟩
          exact SqT.of (sx _ _ hu11)
        · rintro i e Hx he ⟨acc, hacc, hal, hsx, sx⟩
          obtain ⟨y, hy, hye⟩ := objs_get hus11 he
          have hi : i < us.reverse.length := (List.getElem?_eq_some_iff.mp he).1
          rw [List.length_reverse] at hi
          refine ⟨rfl, ?_⟩
          walk_at "rd"
          refine ⟨by show 2 ≤ sizeLine; decide, fun q hq => ?_⟩
          have sq := Same.new hq (.tup [e, .int (n : Nat)])
          have haccq := sq _ _ hacc
          refine ⟨acc, haccq, small' (by omega), acc ++ [.ref q], upd_same, by rw [List.length_append, hal]; rfl, ?_, Same.put hD (sx.trans sq) _⟩
          have kk : Still Hx (upd (upd Hx q (.tup [e, .int (n : Nat)])) D (.lst (acc ++ [.ref q]))) := (stillS sq).trans (Still.put haccq)
          rw [take_more' hy, List.map_append]
          refine StackAt.app _ _ (StackAt.keep kk _ _ hsx) ⟨q, e, [], rfl, ?_, ObjAt.keep ((stillS sx).trans kk) _ _ hye, rfl⟩
          exact (Still.put (ys := acc ++ [.ref q]) haccq).tup upd_same
        · rintro Hx ⟨acc, hacc, hal, hsx, sx⟩
          rw [List.length_reverse] at hal hsx
          rw [lus, ← List.length_reverse (as := xl.inner), List.take_length] at hsx
          have s12 := s11.trans sx
          have ht12 := s12 _ _ ht9
          refine ⟨t, D, _, _, rfl, rfl, ht12, hacc, ?_, ?_⟩
          · have := StackAt.len _ _ hsa7
            have hsl := W.sizes_len (sa.map (·.1))
            rw [List.length_map] at hsl
            exact Nat.le_of_lt (small' (by omega))
          · have h13 : Own H0 (upd Hx t (.lst (tsa ++ acc))) (t :: p2.keys) (.lst (tsa ++ acc) :: p2.vals C dx { d2 with inn := nxt n d'.inn al, lat := lat' }) := (h9.of_same s12).put (j := 0) (b := t) rfl _
            have k13 : Still Hx (upd Hx t (.lst (tsa ++ acc))) := Still.put ht12
            have kA : Still H7 (upd Hx t (.lst (tsa ++ acc))) := (st9.trans (stillS s12)).trans k13
            refine ⟨W.sizes ((sa ++ xl.inner.reverse.map fun y => ((y, some n) : W × Option Nat)).map (·.1)), ?_, _, _, _, _, _, _, _, p2, _, n + 1, rfl, ea2, h13, ⟨z8.ks, z8.ws, hstep.il, z8.ab, hln, z8.is, z8.ls⟩, ek8, ew8, StackAt.app _ _ (StackAt.keep kA _ _ hsa7) (StackAt.keep k13 _ _ hsx), hstep, hbd, rfl, ?_, hS7.trans kA⟩
            · rw [List.map_append, map_fst, W.sizes_app, W.sizes_rev]; omega
            · rw [List.map_append, map_fst, W.sizes_app, W.sizes_rev]; omega
end
end Tk
namespace Tk
open PySem PySem.Spec PyProof.Rows L2 Wv
/-! ### tables of ends, read and made -/
def rowAt (z : List Nat) (o : Option Nat) (ws : List W) : Option Nat := match o with | some q => ewR z ws q | none => none
theorem rowAt_step (z : List Nat) (o : Option Nat) (w : W) (ws : List W) : rowAt z o (w :: ws) = rowAt z (o.bind (ew z w)) ws := by
  cases o with
  | none => rfl
  | some q =>
    show ewR z (w :: ws) q = _
    unfold ewR
    show _ = rowAt z (ew z w q) ws
    cases ew z w q <;> rfl
theorem ewC_cons (z : List Nat) (w : W) (ws : List W) (p : Nat) : ewC z (w :: ws) p = match ew z w p with | some q => some q | none => ewC z ws p := by
  conv => lhs; unfold ewC
  all_goals (cases ew z w p <;> rfl)
theorem ix_nat {n j : Nat} (h : j < n) : ixN n ((j : Nat) : Int) = some j := by
  unfold ixN
  rw [if_pos (by omega), if_pos (by omega)]
  simp
def spRowE (z : List Nat) : Sp := fun vs H Q _ => ∃ (a : Addr) (ts : List V) (ws : List W) (p : Nat), vs = [.ref a, .int (p : Nat)] ∧ H a = some (.lst ts) ∧ TabsAt z H ts ws ∧ p ≤ z.length ∧ Q (.int (eI (ewR z ws p))) H
def spChE (z : List Nat) : Sp := fun vs H Q _ => ∃ (a : Addr) (ts : List V) (ws : List W) (p : Nat), vs = [.ref a, .int (p : Nat)] ∧ H a = some (.lst ts) ∧ TabsAt z H ts ws ∧ p ≤ z.length ∧ Q (.int (eI (ewC z ws p))) H
def spAgE (z : List Nat) : Sp := fun vs H Q _ => ∃ (a : Addr) (w : W), vs = [.ref a] ∧ H a = some (.lst (tab z w)) ∧ z.length ≤ 10000 ∧ ∀ (q : Addr) (H' : Hp), Same H H' → H q = none → H' q = some (.lst (tab z (.again w))) → Q (.ref q) H'
theorem drop_at {α : Type} {l : List α} {i : Nat} {x : α} (h : l[i]? = some x) : l.drop i = x :: l.drop (i + 1) := by
  obtain ⟨hi, e⟩ := List.getElem?_eq_some_iff.mp h
  rw [List.drop_eq_getElem_cons hi, e]
section
variable {P : Program} {w : World} {K : PySem.W.Frag} {mg : Str → Option Value} {base : Heap} {z : List Nat}
structure Kn (mg : Str → Option Value) : Prop where
  c : Kc mg
  n : ∃ t, mg "NOWHERE" = some (.int (-1) t)
abbrev s_end_of_row : Stmt := top 48
theorem sc_end_of_row : FnScope ["inner", "place", "end", "ends"] ["inner", "place"] (defScope s_end_of_row) := ⟨rfl, rfl, rfl, by decide +kernel, rfl, by decide +kernel, by decide +kernel⟩
theorem d_end_of_row (h : Here K mg "end_of_row" s_end_of_row ["inner", "place"]) (Cn : Kn mg) : DefOk P w K mg base 1 "end_of_row" ["inner", "place"] (spRowE z) := by
  have GC_NOWHERE := Cn.n
  refine h.ok sc_end_of_row (fun vs H Q E h => by obtain ⟨_, _, _, _, rfl, _⟩ := h; rfl) (fun f cdv A' outer s H vs Q E hr h => ?_)
  obtain ⟨a, ts, ws, p, rfl, ha, hts, hp, k⟩ := h
  refine ⟨_, (pss_cons (ps_set (i := 2) sc_end_of_row.nd rfl (Or.inl rfl) (pv 1))
  (pss_cons (ps_for PassesOwn.never rfl (pi_list (pv 0)) (pg_name (i := 3) sc_end_of_row.nd rfl (Or.inl rfl))
   (pss_one (ps_if (pt_cmpR op_ne (pv 2) (pe_globI rfl GC_NOWHERE) (nomark _)) (pss_one (ps_set (i := 2) sc_end_of_row.nd rfl (Or.inl rfl) (pe_ix ix_list (pv 3) (pv 2) (fun _ _ => rfl)))) pss_nil)))
  (pss_one (ps_ret (pv 2))))), ?_⟩
  refine ⟨_, rfl, ?_⟩
  walk_at "nx"
  refine ⟨_, rfl, a, rfl, ⟨_, SqL.of ha⟩, ?_⟩
  have ll := TabsAt.len _ _ hts
  refine for_list (K := K) (a := a) (xs := ts) (fun i σ H' => ∃ (o : Option Nat) (x3 : Option V), σ = [some (.ref a), some (.int (p : Nat)), some (.int (eI o)), x3] ∧ H' = H ∧ rowAt z o (ws.drop i) = ewR z ws p ∧ ∀ q, o = some q → q ≤ z.length) ?_ ?_ ?_ ?_
  · exact ⟨some p, none, rfl, rfl, rfl, fun q hq => by cases hq; exact hp⟩
  · rintro i σ H' _ ⟨_, _, rfl, rfl, _⟩
    exact SqL.of ha
  · rintro i e σ H1 he ⟨o, x3, rfl, rfl, ho, hq⟩
    obtain ⟨b, wy, rfl, hw, hb⟩ := TabsAt.at_ _ _ _ _ hts he
    rw [drop_at hw, rowAt_step] at ho
    refine gset ?_
    refine ⟨_, rfl, rfl, _, rfl, ?_⟩
    rw [eI_no]
    cases o with
    | none => exact iteF ⟨none, _, rfl, rfl, ho, fun q hq => by cases hq⟩
    | some q =>
      have hqz := hq q rfl
      refine iteT ⟨_, rfl, _, rfl, b, _, _, _, rfl, rfl, SqL.of hb, tab_ix hqz, ?_⟩
      exact ⟨ew z wy q, _, rfl, rfl, ho, fun q2 h2 => (ew_in z wy q q2 hqz h2).2⟩
  · rintro σ H1 ⟨o, x3, rfl, rfl, ho, _⟩
    rw [ll, List.drop_length] at ho
    refine ⟨_, rfl, ?_⟩
    rw [← ho] at k
    cases o <;> exact k
def chAt (z : List Nat) (p : Nat) (ws : List W) : Option Nat := ewC z ws p
abbrev s_end_of_choice : Stmt := top 49
theorem sc_end_of_choice : FnScope ["inner", "place", "ends"] ["inner", "place"] (defScope s_end_of_choice) := ⟨rfl, rfl, rfl, by decide +kernel, rfl, by decide +kernel, by decide +kernel⟩
theorem d_end_of_choice (h : Here K mg "end_of_choice" s_end_of_choice ["inner", "place"]) (Cn : Kn mg) : DefOk P w K mg base 1 "end_of_choice" ["inner", "place"] (spChE z) := by
  have GC_NOWHERE := Cn.n
  refine h.ok sc_end_of_choice (fun vs H Q E h => by obtain ⟨_, _, _, _, rfl, _⟩ := h; rfl) (fun f cdv A' outer s H vs Q E hr h => ?_)
  obtain ⟨a, ts, ws, p, rfl, ha, hts, hp, k⟩ := h
  refine ⟨_, (pss_cons (ps_for PassesOwn.never rfl (pi_list (pv 0)) (pg_name (i := 2) sc_end_of_choice.nd rfl (Or.inl rfl))
   (pss_one (ps_if (pt_cmpR op_ne (pe_ix ix_list (pv 2) (pv 1) (fun _ _ => rfl)) (pe_globI rfl GC_NOWHERE) (nomark _)) (pss_one (ps_ret (pe_ix ix_list (pv 2) (pv 1) (fun _ _ => rfl)))) pss_nil)))
  (pss_one (ps_ret (pe_globI rfl GC_NOWHERE)))), ?_⟩
  refine ⟨_, rfl, a, rfl, ⟨_, SqL.of ha⟩, ?_⟩
  have ll := TabsAt.len _ _ hts
  refine for_list (K := K) (a := a) (xs := ts) (fun i σ H' => ∃ (x2 : Option V), σ = [some (.ref a), some (.int (p : Nat)), x2] ∧ H' = H ∧ ewC z (ws.drop i) p = ewC z ws p) ?_ ?_ ?_ ?_
  · exact ⟨none, rfl, rfl, rfl⟩
  · rintro i σ H' _ ⟨_, rfl, rfl, _⟩
    exact SqL.of ha
  · rintro i e σ H1 he ⟨x2, rfl, rfl, ho⟩
    obtain ⟨b, wy, rfl, hw, hb⟩ := TabsAt.at_ _ _ _ _ hts he
    rw [drop_at hw] at ho
    refine gset ?_
    refine ⟨_, rfl, _, rfl, b, _, _, _, rfl, rfl, SqL.of hb, tab_ix hp, rfl, _, rfl, ?_⟩
    rw [eI_no]
    rw [ewC_cons] at ho
    cases e2 : ew z wy p with
    | none =>
      rw [e2] at ho
      exact iteF ⟨_, rfl, rfl, ho⟩
    | some q =>
      rw [e2] at ho
      refine iteT ⟨_, rfl, _, rfl, b, _, _, _, rfl, rfl, SqL.of hb, tab_ix hp, ?_⟩
      rw [e2]
      have ho' : some q = ewC z ws p := ho
      rw [← ho'] at k
      exact k
  · rintro σ H1 ⟨x2, rfl, rfl, ho⟩
    rw [ll, List.drop_length] at ho
    have ho' : none = ewC z ws p := ho
    rw [← ho'] at k
    exact k
/-- the table of rounds, from this place on -/
def agT (z : List Nat) (w : W) (m : Nat) : List V := (List.range (z.length + 1)).map fun p => if m ≤ p then V.int (eI (ew z (.again w) p)) else V.int (p : Nat)
theorem agT_end (z : List Nat) (w : W) : agT z w (z.length + 1) = rgV 0 ((z.length + 1 : Nat) : Int) := by
  unfold agT rgV
  rw [show ((((z.length + 1 : Nat) : Int) - 0).toNat) = z.length + 1 by omega]
  refine List.map_congr_left fun p hp => ?_
  rw [List.mem_range] at hp
  rw [if_neg (by omega), Int.zero_add]
theorem agT_zero (z : List Nat) (w : W) : agT z w 0 = tab z (.again w) := by
  unfold agT tab
  refine List.map_congr_left fun p hp => ?_
  rw [if_pos (Nat.zero_le _)]
theorem agT_len (z : List Nat) (w : W) (m : Nat) : (agT z w m).length = z.length + 1 := by simp [agT]
theorem agT_at {z : List Nat} {w : W} {m p : Nat} (h : p ≤ z.length) : (agT z w m)[p]? = some (if m ≤ p then V.int (eI (ew z (.again w) p)) else V.int (p : Nat)) := by
  unfold agT
  rw [List.getElem?_map, List.getElem?_range (by omega)]
  rfl
theorem agT_set {z : List Nat} {w : W} {m : Nat} (h : m ≤ z.length) : (agT z w (m + 1)).set m (.int (eI (ew z (.again w) m))) = agT z w m := by
  refine List.ext_getElem? fun p => ?_
  by_cases hp : p ≤ z.length
  · by_cases e : p = m
    · subst e
      rw [List.getElem?_set_self (by rw [agT_len]; omega), agT_at hp, if_pos (Nat.le_refl _)]
    · rw [List.getElem?_set_ne (Ne.symm e), agT_at hp, agT_at hp]
      by_cases c : m ≤ p
      · rw [if_pos c, if_pos (by omega)]
      · rw [if_neg c, if_neg (by omega)]
  · rw [List.getElem?_eq_none (by rw [List.length_set, agT_len]; omega), List.getElem?_eq_none (by rw [agT_len]; omega)]
abbrev s_ends_of_again : Stmt := top 50
theorem sc_ends_of_again : FnScope ["ends", "result", "place"] ["ends"] (defScope s_ends_of_again) := ⟨rfl, rfl, rfl, by decide +kernel, rfl, by decide +kernel, by decide +kernel⟩
theorem d_ends_of_again (h : Here K mg "ends_of_again" s_ends_of_again ["ends"]) (B : Bs mg) : DefOk P w K mg base 1 "ends_of_again" ["ends"] (spAgE z) := by
  have B_len := B.len; have B_list := B.list; have B_range := B.range; have B_reversed := B.reversed
  refine h.ok sc_ends_of_again (fun vs H Q E h => by obtain ⟨_, _, rfl, _⟩ := h; rfl) (fun f cdv A' outer s H vs Q E hr h => ?_)
  obtain ⟨a, y, rfl, ha, hz, k⟩ := h
  refine ⟨_, (pss_cons (ps_set (i := 1) sc_ends_of_again.nd rfl (Or.inl rfl) (pe_listRg rfl rfl B_list (prg_1 rfl B_range (pe_callB call_len_seq rfl B_len PySem.boot_len (pa_cons (pv 0) pa_nil)))))
  (pss_cons (ps_for PassesOwn.never rfl (pi_revR rfl B_reversed (prg_1 rfl B_range (pe_callB call_len_seq rfl B_len PySem.boot_len (pa_cons (pv 0) pa_nil)))) (pg_name (i := 2) sc_ends_of_again.nd rfl (Or.inl rfl))
   (pss_one (ps_if (pt_cmpR op_gt (pe_ix ix_list (pv 0) (pv 2) (fun _ _ => rfl)) (pv 2) (nomark _)) (pss_one (ps_asg (pe_ix ix_list (pv 1) (pe_ix ix_list (pv 0) (pv 2) (fun _ _ => rfl)) (fun _ _ => rfl)) (pg_sub (pv 1) (pv 2) set_list))) pss_nil)))
  (pss_one (ps_ret (pv 1))))), ?_⟩
  refine ⟨_, rfl, a, _, rfl, .inl (SqL.of ha), _, rfl, ?_⟩
  rw [tab_len]
  refine ⟨RgOk.of_le (by omega) (by omega) (by omega) (by omega), fun q hq => ?_⟩
  rw [← agT_end z y]
  have s1 := Same.new hq (.lst (agT z y (z.length + 1)))
  have hq1 : upd H q (.lst (agT z y (z.length + 1))) q = some (.lst (agT z y (z.length + 1))) := upd_same
  generalize upd H q (.lst (agT z y (z.length + 1))) = H1 at *
  walk_at "nx"
  refine ⟨_, rfl, a, _, rfl, .inl (SqL.of (s1 _ _ ha)), _, rfl, ?_⟩
  rw [tab_len]
  refine ⟨by omega, by omega, by omega, by omega, ?_⟩
  rw [show ((((z.length + 1 : Nat) : Int) - 0).toNat) = z.length + 1 by omega]
  refine for_rangeC (fun i σ H' => ∃ (x2 : Option V), σ = [some (.ref a), some (.ref q), x2] ∧ H' q = some (.lst (agT z y (z.length + 1 - i))) ∧ Same H H') ?_ ?_ ?_
  · exact ⟨none, rfl, hq1, s1⟩
  · rintro i σ H2 hi ⟨x2, rfl, hq2, s2⟩
    have ep : (0 : Int) + ((z.length + 1 : Nat) : Int) - 1 + (i : Nat) * (-1) = ((z.length - i : Nat) : Int) := by omega
    rw [ep]
    have hm : z.length + 1 - i = (z.length - i) + 1 := by omega
    rw [hm] at hq2
    have hm2 : z.length + 1 - (i + 1) = z.length - i := by omega
    have hle : z.length - i ≤ z.length := Nat.sub_le _ _
    generalize z.length - i = m at *
    refine gset ?_
    have ha2 := s2 _ _ ha
    refine ⟨_, rfl, _, rfl, a, _, _, _, rfl, rfl, SqL.of ha2, tab_ix hle, _, rfl, _, _, rfl, rfl, _, rfl, ?_⟩
    have hag := ew_again z y m hle
    have stay : (agT z y (m + 1)) = agT z y m ∨ ∃ r, ew z y m = some r ∧ m < r := by
      cases e : ew z y m with
      | none =>
        rw [e] at hag
        refine .inl ?_
        rw [← agT_set hle]
        have : (agT z y (m + 1))[m]? = some (.int (eI (ew z (.again y) m))) := by rw [agT_at hle, if_neg (by omega), hag]; rfl
        obtain ⟨h1, h2⟩ := List.getElem?_eq_some_iff.mp this
        rw [← h2, List.set_getElem_self]
      | some r =>
        by_cases c : m < r
        · exact .inr ⟨r, rfl, c⟩
        · rw [e] at hag
          dsimp only at hag
          rw [if_neg c] at hag
          refine .inl ?_
          rw [← agT_set hle]
          have : (agT z y (m + 1))[m]? = some (.int (eI (ew z (.again y) m))) := by rw [agT_at hle, if_neg (by omega), hag]; rfl
          obtain ⟨h1, h2⟩ := List.getElem?_eq_some_iff.mp this
          rw [← h2, List.set_getElem_self]
    by_cases c : ∃ r, ew z y m = some r ∧ m < r
    · obtain ⟨r, er, hr⟩ := c
      have hrz := (ew_in z y m r hle er).2
      rw [er]
      refine ite2 (fun _ => ?_) (fun n => absurd (show decide (((m : Nat) : Int) < ((r : Nat) : Int)) = true from decide_eq_true (by omega)) n)
      refine ⟨_, rfl, _, rfl, _, rfl, a, _, _, _, rfl, rfl, SqL.of ha2, tab_ix hle, ?_⟩
      rw [er]
      refine ⟨q, _, _, _, rfl, rfl, SqL.of hq2, atI_nat (agT_at hrz), ?_⟩
      rw [if_pos (by omega)]
      refine ⟨_, rfl, _, rfl, q, _, _, _, rfl, rfl, hq2, ix_nat (by rw [agT_len]; omega), ?_⟩
      have e1 : ew z (.again y) r = ew z (.again y) m := by rw [hag, er]; dsimp only; rw [if_pos hr]
      rw [e1, agT_set hle]
      exact ⟨_, rfl, by rw [hm2]; exact upd_same, Same.put hq s2 _⟩
    · have e1 : agT z y (m + 1) = agT z y m := stay.resolve_right c
      refine ite2 (fun n => absurd (of_decide_eq_true n) ?_) (fun _ => ⟨_, rfl, by rw [hm2, ← e1]; exact hq2, s2⟩)
      intro h1
      cases e : ew z y m with
      | none => rw [e] at h1; simp only [eI] at h1; omega
      | some r => rw [e] at h1; exact c ⟨r, e, by simp only [eI] at h1; omega⟩
  · rintro σ H2 ⟨x2, rfl, hq2, s2⟩
    rw [Nat.sub_self, agT_zero] at hq2
    exact ⟨_, rfl, k q H2 s2 hq hq2⟩
end
end Tk
namespace Tk
open PySem PySem.Spec PyProof.Rows L2 Wv
/-! ### the table of a part -/
def sgn : Option Nat → Str
  | some c => sg c
  | none => Str.ofString ""
theorem cut1 (z : List Nat) (i : Nat) : cutS (tx z) (some ((i : Nat) : Int)) (some ((i : Int) + 1)) = sgn z[i]? := by
  unfold cutS
  have e : ((i : Int) + 1) = ((i + 1 : Nat) : Int) := by omega
  rw [e, HT.sIx_nat, HT.sIx_nat]
  have hl : (tx z).length = z.length := by simp [Str.length, tx]
  rw [hl]
  have ez : (tx z).cps.toList = z := by simp [tx]
  rw [ez]
  by_cases h : i < z.length
  · rw [Nat.min_eq_left (by omega), Nat.min_eq_left (by omega), show i + 1 - i = 1 by omega, List.getElem?_eq_getElem h, List.drop_eq_getElem_cons h]
    rfl
  · rw [Nat.min_eq_right (by omega), Nat.min_eq_right (by omega), List.getElem?_eq_none (by omega), Nat.sub_self]
    rfl
theorem sgn_eq (o : Option Nat) (c : Nat) : decide (V.str (sgn o) = V.str (sg c)) = decide (o = some c) := by
  cases o with
  | none =>
    rw [decide_eq_false (fun h => by have := V.str.inj h; revert this; show ¬ (Str.ofString "" = sg c); intro h; have := congrArg (fun s => s.cps.size) h; revert this; show ¬ ((Str.ofString "").cps.size = 1); decide +kernel), decide_eq_false (fun h => by cases h)]
  | some d =>
    by_cases h : d = c
    · subst h; exact (decide_eq_true rfl).trans (decide_eq_true rfl).symm
    · rw [decide_eq_false (fun e => h (by have := V.str.inj e; have := congrArg (fun s => s.cps[0]?) this; simpa [sgn, sg] using this)), decide_eq_false (fun e => h (Option.some.inj e))]
def spPart (z : List Nat) : Sp := fun vs H Q _ => ∃ (w : W) (a : Addr) (ts : List V), vs = [.int (w.kind : Nat), .str w.word, .ref a, .str (tx z)] ∧ H a = some (.lst ts) ∧ TabsAt z H ts w.inner ∧ w.kind < 9 ∧ z.length ≤ 10000 ∧
  ∀ (q : Addr) (H' : Hp), Same H H' → H q = none → H' q = some (.lst (tab z w)) → Q (.ref q) H'
theorem tab_comp {te : TE} {a0 a1 a2 a3 x5 : Option V} {r : Addr} {H1 : Hp} {Q : VK} {z : List Nat} {w : W} (hr : H1 r = some (.rng 0 ((z.length : Int) + 1))) (hz : z.length ≤ 10000)
    (hs : ∀ (i : Nat) (Hx : Hp), i ≤ z.length → Same H1 Hx → ∀ Q' : VK, Q' (.int (eI (ew z w i))) Hx → te [a0, a1, a2, a3, some (.ref r), x5, some (.int (i : Nat))] Hx Q')
    (k : ∀ (q : Addr) (H' : Hp), Same H1 H' → H1 q = none → H' q = some (.lst (tab z w)) → Q (.ref q) H') : tLc (iRg (tRgV (tVar 4))) (gName 6) tYes te [6] [a0, a1, a2, a3, some (.ref r), x5, none] H1 Q := by
  refine ⟨_, rfl, r, _, _, rfl, hr, ⟨by omega, by omega, by omega, by omega⟩, fun D hD => ?_⟩
  rw [show (((z.length : Int) + 1 - 0).toNat) = z.length + 1 by omega]
  refine lc_range (fun i Hx => Hx D = some (.lst ((tab z w).take i)) ∧ Same H1 Hx) ?_ ?_ ?_
  · exact ⟨upd_same, Same.new hD _⟩
  · rintro i Hx hi ⟨hd, sx⟩
    rw [Int.zero_add]
    refine ⟨rfl, ?_⟩
    refine hs i Hx (by omega) sx _ ⟨_, hd, small' (by rw [List.length_take, tab_len]; omega), ?_, Same.put hD sx _⟩
    rw [upd_same, take_more' (tab_at (z := z) (w := w) (p := i) (by omega))]
  · rintro Hx ⟨hd, sx⟩
    rw [List.take_of_length_le (by rw [tab_len]; exact Nat.le_refl _)] at hd
    exact k D Hx sx hD hd
section
variable {P : Program} {w : World} {K : PySem.W.Frag} {mg : Str → Option Value} {base : Heap} {z : List Nat}
abbrev s_ends_of_part : Stmt := top 47
theorem sc_ends_of_part : FnScope ["kind", "letter", "inner", "text", "places", "fitting", "place"] ["kind", "letter", "inner", "text"] (defScope s_ends_of_part) := ⟨rfl, rfl, rfl, by decide +kernel, rfl, by decide +kernel, by decide +kernel⟩
theorem d_ends_of_part (h : Here K mg "ends_of_part" s_ends_of_part ["kind", "letter", "inner", "text"]) (B : Bs mg) (Cn : Kn mg) (G_end_of_row : DefOk P w K mg base 1 "end_of_row" ["inner", "place"] (spRowE z)) (G_end_of_choice : DefOk P w K mg base 1 "end_of_choice" ["inner", "place"] (spChE z))
    (G_ends_of_again : DefOk P w K mg base 1 "ends_of_again" ["ends"] (spAgE z)) : DefOk P w K mg base 2 "ends_of_part" ["kind", "letter", "inner", "text"] (spPart z) := by
  have B_len := B.len; have B_list := B.list; have B_range := B.range; have B_max := B.max
  have GC_NOWHERE := Cn.n; have GC_LETTER := Cn.c.k0; have GC_ONE := Cn.c.k1; have GC_NOTHING := Cn.c.k2; have GC_ROW := Cn.c.k3; have GC_CHOICE := Cn.c.k4; have GC_AGAIN := Cn.c.k5; have GC_MAYBE := Cn.c.k6; have GC_AHEAD := Cn.c.k7
  refine h.ok sc_ends_of_part (fun vs H Q E h => by obtain ⟨_, _, _, rfl, _⟩ := h; rfl) (fun f cdv A' outer s H vs Q E hr h => ?_)
  obtain ⟨x, a, ts, rfl, ha, hts, hk, hz, k⟩ := h
  refine ⟨_, (pss_cons (ps_set (i := 4) sc_ends_of_part.nd rfl (Or.inl rfl) (pe_callTy cr_range1 rfl B_range (by decide +kernel) (pa_cons (pe_op op_add (pe_callB call_len_str rfl B_len PySem.boot_len (pa_cons (pv 3) pa_nil)) pe_int) pa_nil)))
  (pss_cons (ps_if (pt_cmpR op_eq (pv 0) (pe_globI rfl GC_LETTER) (nomark _)) (pss_one (ps_ret (pe_lc (own := [("place", 6)]) (g := (gName 6)) (tt := tYes) rfl sc_ends_of_part.nd (pi_rg (prg_v (pv 4))) (blkOk_by (own := [("place", 6)]) (N := ["kind", "letter", "inner", "text", "places", "fitting", "place"]) (sc := defScope s_ends_of_part) (by decide +kernel)) (fun _ _ _ _ _ => pg_name (i := 6) sc_ends_of_part.nd rfl (Or.inl rfl)) (fun _ _ _ _ _ => pts_nil) (fun _ _ _ _ _ => (pe_ifExp (pt_cmpR op_eq (pe_slice sl_str (pv 3) (po_some (pv 6)) (po_some (pe_op op_add (pv 6) pe_int))) (pv 1) (nomark _)) (pe_op op_add (pv 6) pe_int) (pe_globI rfl GC_NOWHERE)))))) pss_nil)
  (pss_cons (ps_if (pt_cmpR op_eq (pv 0) (pe_globI rfl GC_ONE) (nomark _)) (pss_one (ps_ret (pe_lc (own := [("place", 6)]) (g := (gName 6)) (tt := tYes) rfl sc_ends_of_part.nd (pi_rg (prg_v (pv 4))) (blkOk_by (own := [("place", 6)]) (N := ["kind", "letter", "inner", "text", "places", "fitting", "place"]) (sc := defScope s_ends_of_part) (by decide +kernel)) (fun _ _ _ _ _ => pg_name (i := 6) sc_ends_of_part.nd rfl (Or.inl rfl)) (fun _ _ _ _ _ => pts_nil) (fun _ _ _ _ _ => (pe_ifExp (pt_cmpR op_lt (pv 6) (pe_callB call_len_str rfl B_len PySem.boot_len (pa_cons (pv 3) pa_nil)) (nomark _)) (pe_op op_add (pv 6) pe_int) (pe_globI rfl GC_NOWHERE)))))) pss_nil)
  (pss_cons (ps_if (pt_cmpR op_eq (pv 0) (pe_globI rfl GC_NOTHING) (nomark _)) (pss_one (ps_ret (pe_listRg rfl rfl B_list (prg_v (pv 4))))) pss_nil)
  (pss_cons (ps_if (pt_cmpR op_eq (pv 0) (pe_globI rfl GC_ROW) (nomark _)) (pss_one (ps_ret (pe_lc (own := [("place", 6)]) (g := (gName 6)) (tt := tYes) rfl sc_ends_of_part.nd (pi_rg (prg_v (pv 4))) (blkOk_by (own := [("place", 6)]) (N := ["kind", "letter", "inner", "text", "places", "fitting", "place"]) (sc := defScope s_ends_of_part) (by decide +kernel)) (fun _ _ _ _ _ => pg_name (i := 6) sc_ends_of_part.nd rfl (Or.inl rfl)) (fun _ _ _ _ _ => pts_nil) (fun _ _ _ _ _ => (pe_callD G_end_of_row (hr.mono (by first | decide | omega)) rfl (pa_cons (pv 2) (pa_cons (pv 6) pa_nil))))))) pss_nil)
  (pss_cons (ps_if (pt_cmpR op_eq (pv 0) (pe_globI rfl GC_CHOICE) (nomark _)) (pss_one (ps_ret (pe_lc (own := [("place", 6)]) (g := (gName 6)) (tt := tYes) rfl sc_ends_of_part.nd (pi_rg (prg_v (pv 4))) (blkOk_by (own := [("place", 6)]) (N := ["kind", "letter", "inner", "text", "places", "fitting", "place"]) (sc := defScope s_ends_of_part) (by decide +kernel)) (fun _ _ _ _ _ => pg_name (i := 6) sc_ends_of_part.nd rfl (Or.inl rfl)) (fun _ _ _ _ _ => pts_nil) (fun _ _ _ _ _ => (pe_callD G_end_of_choice (hr.mono (by first | decide | omega)) rfl (pa_cons (pv 2) (pa_cons (pv 6) pa_nil))))))) pss_nil)
  (pss_cons (ps_if (pt_cmpR op_eq (pv 0) (pe_globI rfl GC_AGAIN) (nomark _)) (pss_one (ps_ret (pe_callD G_ends_of_again (hr.mono (by first | decide | omega)) rfl (pa_cons (pe_ix ix_list (pv 2) pe_int (fun _ _ => rfl)) pa_nil)))) pss_nil)
  (pss_cons (ps_if (pt_cmpR op_eq (pv 0) (pe_globI rfl GC_MAYBE) (nomark _)) (pss_one (ps_ret (pe_lc (own := [("place", 6)]) (g := (gName 6)) (tt := tYes) rfl sc_ends_of_part.nd (pi_rg (prg_v (pv 4))) (blkOk_by (own := [("place", 6)]) (N := ["kind", "letter", "inner", "text", "places", "fitting", "place"]) (sc := defScope s_ends_of_part) (by decide +kernel)) (fun _ _ _ _ _ => pg_name (i := 6) sc_ends_of_part.nd rfl (Or.inl rfl)) (fun _ _ _ _ _ => pts_nil) (fun _ _ _ _ _ => (pe_callB (call_max2 rfl) rfl B_max (by decide +kernel) (pa_cons (pe_ix (ix_listK (K := K) rfl) (pe_ix (ix_listK (K := K) rfl) (pv 2) pe_int (fun _ _ => rfl)) (pv 6) (fun _ _ => rfl)) (pa_cons (pv 6) pa_nil))))))) pss_nil)
  (pss_cons (ps_set (i := 5) sc_ends_of_part.nd rfl (Or.inr rfl) (pe_cmpR op_eq (pv 0) (pe_globI rfl GC_AHEAD) (nomark _)))
  (pss_one (ps_ret (pe_lc (own := [("place", 6)]) (g := (gName 6)) (tt := tYes) rfl sc_ends_of_part.nd (pi_rg (prg_v (pv 4))) (blkOk_by (own := [("place", 6)]) (N := ["kind", "letter", "inner", "text", "places", "fitting", "place"]) (sc := defScope s_ends_of_part) (by decide +kernel)) (fun _ _ _ _ _ => pg_name (i := 6) sc_ends_of_part.nd rfl (Or.inl rfl)) (fun _ _ _ _ _ => pts_nil) (fun _ _ _ _ _ => (pe_ifExp (pt_cmpR op_eq (pe_cmpR op_ne (pe_ix (ix_listK (K := K) rfl) (pe_ix (ix_listK (K := K) rfl) (pv 2) pe_int (fun _ _ => rfl)) (pv 6) (fun _ _ => rfl)) (pe_globI rfl GC_NOWHERE) (nomark _)) (pv 5) (nomark _)) (pv 6) (pe_globI rfl GC_NOWHERE))))))))))))))), ?_⟩
  have hl : (tx z).length = z.length := by simp [Str.length, tx]
  refine ⟨_, rfl, _, rfl, by rw [hl]; exact Nat.le_of_lt (small' (by omega)), _, _, rfl, rfl, _, rfl, fun r hr => ?_⟩
  rw [hl]
  have s1 := Same.new hr (.rng 0 ((z.length : Int) + 1))
  have hr1 : upd H r (.rng 0 ((z.length : Int) + 1)) r = some (.rng 0 ((z.length : Int) + 1)) := upd_same
  have ha1 := s1 _ _ ha
  have hts1 := TabsAt.keep s1 _ _ hts
  have k1 : ∀ (q : Addr) (H' : Hp), Same (upd H r (.rng 0 ((z.length : Int) + 1))) H' → upd H r (.rng 0 ((z.length : Int) + 1)) q = none → H' q = some (.lst (tab z x)) → Q (.ref q) H' := fun q H' sx hq hq2 => k q H' (s1.trans sx) (by
    cases e : H q with
    | none => rfl
    | some o => rw [s1 _ _ e] at hq; cases hq) hq2
  generalize upd H r (.rng 0 ((z.length : Int) + 1)) = H1 at *
  clear k
  walk_at "nx"
  refine ⟨_, rfl, rfl, _, rfl, ite2 (fun e => ?_) (fun e0 => ?_)⟩
  · cases x <;> first | exact absurd (V.int.inj (of_decide_eq_true e)) (by simp only [W.kind]; omega) | skip
    rename_i cc
    refine tab_comp hr1 hz (fun i Hx hi sx Q' q => ?_) k1
    refine ⟨_, rfl, _, rfl, _, rfl, _, rfl, _, _, rfl, rfl, _, rfl, _, rfl, by rw [hl]; exact Nat.le_of_lt (small' (by omega)), ?_⟩
    rw [cut1]
    refine ⟨_, rfl, rfl, _, rfl, ?_⟩
    rw [show (W.letter cc).word = sg cc from rfl, sgn_eq]
    have ev : ew z (.letter cc) i = if z[i]? = some cc then some (i + 1) else none := by conv => lhs; unfold ew
    rw [ev] at q
    refine ite2 (fun c => ?_) (fun c => ?_)
    · rw [if_pos (of_decide_eq_true c)] at q
      exact ⟨_, rfl, _, _, rfl, rfl, q⟩
    · rw [if_neg (fun c2 => c (decide_eq_true c2))] at q
      exact q
  walk_at "nx"
  refine ⟨_, rfl, rfl, _, rfl, ite2 (fun e => ?_) (fun e1 => ?_)⟩
  · cases x <;> first | exact absurd (V.int.inj (of_decide_eq_true e)) (by simp only [W.kind]; omega) | skip
    refine tab_comp hr1 hz (fun i Hx hi sx Q' q => ?_) k1
    have ev : ew z .one i = if i < z.length then some (i + 1) else none := by conv => lhs; unfold ew
    rw [ev] at q
    refine ⟨_, rfl, _, rfl, _, rfl, by rw [hl]; exact Nat.le_of_lt (small' (by omega)), _, _, rfl, rfl, _, rfl, ?_⟩
    rw [hl]
    refine ite2 (fun c => ?_) (fun c => ?_)
    · have c' : i < z.length := by have := of_decide_eq_true c; omega
      rw [if_pos c'] at q
      exact ⟨_, rfl, _, _, rfl, rfl, q⟩
    · have c' : ¬ i < z.length := fun c2 => c (decide_eq_true (by omega))
      rw [if_neg c'] at q
      exact q
  walk_at "nx"
  refine ⟨_, rfl, rfl, _, rfl, ite2 (fun e => ?_) (fun e2 => ?_)⟩
  · cases x <;> first | exact absurd (V.int.inj (of_decide_eq_true e)) (by simp only [W.kind]; omega) | skip
    refine ⟨_, rfl, r, _, _, rfl, hr1, RgOk.of_le (by omega) (by omega) (by omega) (by omega), fun q hq => ?_⟩
    refine k1 q _ (Same.new hq _) hq ?_
    rw [upd_same]
    congr 2
    unfold rgV tab
    rw [show (((z.length : Int) + 1 - 0).toNat) = z.length + 1 by omega]
    refine List.map_congr_left fun p hp => ?_
    have ev : ew z .nothing p = some p := by unfold ew; rfl
    rw [ev, Int.zero_add]
    rfl
  walk_at "nx"
  refine ⟨_, rfl, rfl, _, rfl, ite2 (fun e => ?_) (fun e3 => ?_)⟩
  · cases x <;> first | exact absurd (V.int.inj (of_decide_eq_true e)) (by simp only [W.kind]; omega) | skip
    rename_i ws
    refine tab_comp hr1 hz (fun i Hx hi sx Q' q => ?_) k1
    have ev : ew z (.row ws) i = ewR z ws i := by conv => lhs; unfold ew
    rw [ev] at q
    exact ⟨_, rfl, _, rfl, a, ts, ws, i, rfl, sx _ _ ha1, TabsAt.keep sx _ _ hts1, hi, q⟩
  walk_at "nx"
  refine ⟨_, rfl, rfl, _, rfl, ite2 (fun e => ?_) (fun e4 => ?_)⟩
  · cases x <;> first | exact absurd (V.int.inj (of_decide_eq_true e)) (by simp only [W.kind]; omega) | skip
    rename_i ws
    refine tab_comp hr1 hz (fun i Hx hi sx Q' q => ?_) k1
    have ev : ew z (.choice ws) i = ewC z ws i := by conv => lhs; unfold ew
    rw [ev] at q
    exact ⟨_, rfl, _, rfl, a, ts, ws, i, rfl, sx _ _ ha1, TabsAt.keep sx _ _ hts1, hi, q⟩
  walk_at "nx"
  refine ⟨_, rfl, rfl, _, rfl, ite2 (fun e => ?_) (fun e5 => ?_)⟩
  · cases x <;> first | exact absurd (V.int.inj (of_decide_eq_true e)) (by simp only [W.kind]; omega) | skip
    rename_i y
    obtain ⟨b, us, ets, hb, hus⟩ := hts1
    subst ets
    exact ⟨_, rfl, a, _, _, _, rfl, rfl, SqL.of ha1, atI0, b, y, rfl, hb, hz, fun q H' sx hq hq2 => k1 q H' sx hq hq2⟩
  walk_at "nx"
  refine ⟨_, rfl, rfl, _, rfl, ite2 (fun e => ?_) (fun e6 => ?_)⟩
  · cases x <;> first | exact absurd (V.int.inj (of_decide_eq_true e)) (by simp only [W.kind]; omega) | skip
    rename_i y
    obtain ⟨b, us, ets, hb, hus⟩ := hts1
    subst ets
    refine tab_comp hr1 hz (fun i Hx hi sx Q' q => ?_) k1
    have ev : ew z (.maybe y) i = some ((ew z y i).getD i) := by conv => lhs; unfold ew
    rw [ev] at q
    refine ⟨_, rfl, a, _, _, _, rfl, rfl, SqL.of (sx _ _ ha1), atI0, _, rfl, b, _, _, _, rfl, rfl, SqL.of (sx _ _ hb), tab_ix hi, _, rfl, _, _, rfl, ?_⟩
    cases c : ew z y i with
    | none =>
      rw [c] at q
      rw [show (if ((i : Nat) : Int) > eI none then ((i : Nat) : Int) else eI none) = ((i : Nat) : Int) from if_pos (by simp only [eI]; omega)]
      exact q
    | some j =>
      rw [c] at q
      have hj := (ew_in z y i j hi c).1
      have e : (if ((i : Nat) : Int) > eI (some j) then ((i : Nat) : Int) else eI (some j)) = ((j : Nat) : Int) := by
        rw [if_neg (by simp only [eI]; omega)]
        rfl
      rw [e]
      exact q
  walk_at "nx"
  refine ⟨_, rfl, rfl, ?_⟩
  walk_at "nx"
  have f0 : x.kind ≠ 0 := fun q => e0 (decide_eq_true (by rw [q]; rfl))
  have f1 : x.kind ≠ 1 := fun q => e1 (decide_eq_true (by rw [q]; rfl))
  have f2 : x.kind ≠ 2 := fun q => e2 (decide_eq_true (by rw [q]; rfl))
  have f3 : x.kind ≠ 3 := fun q => e3 (decide_eq_true (by rw [q]; rfl))
  have f4 : x.kind ≠ 4 := fun q => e4 (decide_eq_true (by rw [q]; rfl))
  have f5 : x.kind ≠ 5 := fun q => e5 (decide_eq_true (by rw [q]; rfl))
  have f6 : x.kind ≠ 6 := fun q => e6 (decide_eq_true (by rw [q]; rfl))
  obtain ⟨y, fit, hin, hfit, hev⟩ : ∃ (y : W) (fit : Bool), x.inner = [y] ∧ decide (V.int (x.kind : Nat) = V.int 7) = fit ∧ ∀ i, ew z x i = if (ew z y i).isSome = fit then some i else none := by
    cases x with
    | ahead y =>
      refine ⟨y, true, rfl, decide_eq_true rfl, fun i => ?_⟩
      conv => lhs; unfold ew
    | «unless» y =>
      refine ⟨y, false, rfl, decide_eq_false (fun q => absurd (V.int.inj q) (by simp only [W.kind]; omega)), fun i => ?_⟩
      conv => lhs; unfold ew
      cases ew z y i <;> rfl
    | letter _ => exact absurd rfl f0
    | one => exact absurd rfl f1
    | nothing => exact absurd rfl f2
    | row _ => exact absurd rfl f3
    | choice _ => exact absurd rfl f4
    | again _ => exact absurd rfl f5
    | maybe _ => exact absurd rfl f6
    | call _ => exact absurd hk (by simp only [W.kind]; omega)
  rw [hin] at hts1
  obtain ⟨b, us, ets, hb, hus⟩ := hts1
  subst ets
  rw [hfit]
  refine tab_comp hr1 hz (fun i Hx hi sx Q' q => ?_) k1
  refine ⟨_, rfl, a, _, _, _, rfl, rfl, SqL.of (sx _ _ ha1), atI0, _, rfl, b, _, _, _, rfl, rfl, SqL.of (sx _ _ hb), tab_ix hi, rfl, ?_⟩
  rw [eI_no]
  refine ⟨_, rfl, rfl, _, rfl, ?_⟩
  rw [hev] at q
  refine ite2 (fun c => ?_) (fun c => ?_)
  · have c' : (ew z y i).isSome = fit := by
      have := V.bl.inj (of_decide_eq_true c)
      cases h : ew z y i <;> (rw [h] at this; exact this)
    rw [if_pos c'] at q
    exact ⟨_, rfl, q⟩
  · have c' : ¬ (ew z y i).isSome = fit := fun c2 => c (decide_eq_true (by rw [← c2]; cases ew z y i <;> rfl))
    rw [if_neg c'] at q
    exact q
end
end Tk
namespace Tk
open PySem PySem.Spec PyProof.Rows L2 Wv
/-! ### all tables, and takes -/
def spTabs (C : Addr) : Sp := fun vs H Q _ => ∃ (a : Addr) (w : W) (z y : List Nat) (H0 : Hp), vs = [.ref a, .str (tx z)] ∧ LaidAt C H0 H a w ∧ w.wf y ∧ w.size ≤ 100 ∧ z.length ≤ 10000 ∧
  ∀ (H' : Hp) (q : Addr) (ts : List V), Same H H' → H' q = some (.lst ts) → TabsAt z H' ts w.parts → Q (.ref q) H'
def spInit (c : Cs) (C : Addr) : Sp := fun vs H Q _ => ∃ (p dx l : Addr) (v : V) (w : W) (H0 : Hp), vs = [.ref p, .ref l] ∧ H p = some (.ins C dx []) ∧ H0 p = none ∧ Same H0 H ∧ H0 l = some (.lst [v]) ∧ ObjAt c H0 v w ∧ w.size ≤ 100 ∧
  ∀ H', LaidAt C H0 H' p w → Q .non H'
section
variable {P : Program} {w : World} {K : PySem.W.Frag} {mg : Str → Option Value} {base : Heap} {C : Addr} {c : Cs}
abbrev s_Parts_init : Stmt := inClass (top 43) 0
theorem sc_Parts_init : FnScope ["self", "ways", "way"] ["self", "ways"] (defScope s_Parts_init) := ⟨rfl, rfl, rfl, by decide +kernel, rfl, by decide +kernel, by decide +kernel⟩
theorem ok_parts {f : Addr} {fd : FuncData} (F : Fun K "__init__" "Parts.__init__" s_Parts_init f fd) (T : PtF K C) (B : Bs mg) (G_lay_out : ScOk P w K mg base C 2 "lay_out" ["self", "whole"] (spLay c C)) : FnOk P w K mg base CX0 3 f fd ["self", "ways"] (spInit c C) := by
  have B_len := B.len
  refine F.ok sc_Parts_init (fun vs H Q E h => by obtain ⟨_, _, _, _, _, _, rfl, _⟩ := h; rfl) (fun cdv A outer s' H vs Q E hr h => ?_)
  obtain ⟨p, dx, l, v, x, H0, rfl, hp, hp0, s0, hl, hv, hz, k⟩ := h
  refine ⟨_, (pss_cons (ps_fld (pv 0) (pe_lst pa_nil) rfl)
  (pss_cons (ps_fld (pv 0) (pe_lst pa_nil) rfl)
  (pss_cons (ps_fld (pv 0) (pe_lst pa_nil) rfl)
  (pss_cons (ps_fld (pv 0) (pe_lst pa_nil) rfl)
  (pss_cons (ps_fld (pv 0) (pe_lst pa_nil) rfl)
  (pss_cons (ps_fld (pv 0) (pe_lst pa_nil) rfl)
  (pss_one (ps_for PassesOwn.never rfl (pi_list (pv 1)) (pg_name (i := 2) sc_Parts_init.nd rfl (Or.inl rfl))
   (pss_cons (ps_expr (pe_bm PySem.F.plainAttrs_list PySem.F.slot_list_append PySem.F.type_list_append mt_append (pe_fld (pv 0) rfl) (pa_cons (pe_callB call_len_seq rfl B_len PySem.boot_len (pa_cons (pe_fld (pv 0) rfl) pa_nil)) pa_nil)))
  (pss_one (ps_expr (pe_methS G_lay_out (hr.mono (by first | decide | omega)) (pv 0) (pa_cons (pv 2) pa_nil))))))))))))), ?_⟩
  have o0 : Own H0 H [p] [.ins C dx []] := ⟨rfl, fun j b e => by
    cases j with
    | zero => cases e; exact hp
    | succ j => simp at e, by simp, fun b hb => by rw [List.mem_singleton] at hb; subst hb; exact hp0, s0⟩
  refine ⟨Nat.zero_le _, fun q1 h1 => ?_⟩
  have o1 := o0.snoc h1 (.lst [])
  have g1 := o1.at_ 0 p rfl
  refine ⟨_, rfl, p, C, dx, _, rfl, g1, T.cl, T.n1, (by show 0 < 1000; decide), ?_⟩
  have p1 := o1.put (j := 0) (b := p) rfl (.ins C dx (putF (Str.ofString "kinds") (.ref q1) []))
  generalize upd (upd H q1 (.lst [])) p (.ins C dx (putF (Str.ofString "kinds") (.ref q1) [])) = H1 at *
  refine ⟨Nat.zero_le _, fun q2 h2 => ?_⟩
  have o2 := p1.snoc h2 (.lst [])
  have g2 := o2.at_ 0 p rfl
  refine ⟨_, rfl, p, C, dx, _, rfl, g2, T.cl, T.n2, (by show 1 < 1000; decide), ?_⟩
  have p2 := o2.put (j := 0) (b := p) rfl (.ins C dx (putF (Str.ofString "words") (.ref q2) (putF (Str.ofString "kinds") (.ref q1) [])))
  generalize upd (upd H1 q2 (.lst [])) p (.ins C dx (putF (Str.ofString "words") (.ref q2) (putF (Str.ofString "kinds") (.ref q1) []))) = H2 at *
  refine ⟨Nat.zero_le _, fun q3 h3 => ?_⟩
  have o3 := p2.snoc h3 (.lst [])
  have g3 := o3.at_ 0 p rfl
  refine ⟨_, rfl, p, C, dx, _, rfl, g3, T.cl, T.n3, (by show 2 < 1000; decide), ?_⟩
  generalize e3 : putF (Str.ofString "inner") (.ref q3) (putF (Str.ofString "words") (.ref q2) (putF (Str.ofString "kinds") (.ref q1) [])) = f3
  have p3 := o3.put (j := 0) (b := p) rfl (.ins C dx f3)
  generalize upd (upd H2 q3 (.lst [])) p (.ins C dx f3) = H3 at *
  refine ⟨Nat.zero_le _, fun q4 h4 => ?_⟩
  have o4 := p3.snoc h4 (.lst [])
  have g4 := o4.at_ 0 p rfl
  refine ⟨_, rfl, p, C, dx, _, rfl, g4, T.cl, T.n4, (by rw [← e3]; show 3 < 1000; decide), ?_⟩
  generalize e4 : putF (Str.ofString "above") (.ref q4) f3 = f4
  have p4 := o4.put (j := 0) (b := p) rfl (.ins C dx f4)
  generalize upd (upd H3 q4 (.lst [])) p (.ins C dx f4) = H4 at *
  refine ⟨Nat.zero_le _, fun q5 h5 => ?_⟩
  have o5 := p4.snoc h5 (.lst [])
  have g5 := o5.at_ 0 p rfl
  refine ⟨_, rfl, p, C, dx, _, rfl, g5, T.cl, T.n5, (by rw [← e4, ← e3]; show 4 < 1000; decide), ?_⟩
  generalize e5 : putF (Str.ofString "later") (.ref q5) f4 = f5
  have p5 := o5.put (j := 0) (b := p) rfl (.ins C dx f5)
  generalize upd (upd H4 q5 (.lst [])) p (.ins C dx f5) = H5 at *
  refine ⟨Nat.zero_le _, fun q6 h6 => ?_⟩
  have o6 := p5.snoc h6 (.lst [])
  have g6 := o6.at_ 0 p rfl
  refine ⟨_, rfl, p, C, dx, _, rfl, g6, T.cl, T.n6, (by rw [← e5, ← e4, ← e3]; show 5 < 1000; decide), ?_⟩
  generalize e6 : putF (Str.ofString "wholes") (.ref q6) f5 = f6
  have p6 := o6.put (j := 0) (b := p) rfl (.ins C dx f6)
  generalize upd (upd H5 q6 (.lst [])) p (.ins C dx f6) = H6 at *
  have ef : f6 = (⟨p, q1, q2, q3, q4, q5, q6, [], []⟩ : Pp).fs := by
    rw [← e6, ← e5, ← e4, ← e3]
    rfl
  subst ef
  have own : Own H0 H6 (⟨p, q1, q2, q3, q4, q5, q6, [], []⟩ : Pp).keys ((⟨p, q1, q2, q3, q4, q5, q6, [], []⟩ : Pp).vals C dx ⟨[], [], [], [], [], []⟩) := p6
  clear p6 o6 p5 o5 p4 o4 p3 o3 p2 o2 p1 o1 o0
  obtain ⟨pp, epp⟩ : ∃ pp : Pp, pp = ⟨p, q1, q2, q3, q4, q5, q6, [], []⟩ := ⟨_, rfl⟩
  rw [← epp] at own
  have ea : pp.a = p := by rw [epp]
  have eis : pp.is = [] := by rw [epp]
  have els : pp.ls = [] := by rw [epp]
  clear epp e6
  refine ⟨_, rfl, l, rfl, ⟨_, SqL.of (own.same _ _ hl)⟩, ?_⟩
  refine for_list (K := K) (a := l) (xs := [v]) (fun i σ H' => ∃ x2 : Option V, σ = [some (.ref p), some (.ref l), x2] ∧ Same H0 H' ∧ (i = 0 → Own H0 H' pp.keys (pp.vals C dx ⟨[], [], [], [], [], []⟩)) ∧ (i = 1 → LaidAt C H0 H' p x)) ?_ ?_ ?_ ?_
  · exact ⟨none, rfl, own.same, fun _ => own, fun q => by cases q⟩
  · rintro i σ H' _ ⟨_, rfl, sx, _⟩
    exact SqL.of (sx _ _ hl)
  · rintro i e σ H7 he ⟨x2, rfl, sx, hi0, _⟩
    cases i with
    | succ i => simp at he
    | zero =>
      cases he
      have o7 := hi0 rfl
      have hi : H7 p = some (.ins C dx pp.fs) := by rw [← ea]; exact o7.at_ 0 pp.a rfl
      have hk : H7 pp.ks = some (.lst []) := o7.at_ 1 pp.ks rfl
      have hw : H7 pp.wh = some (.lst []) := o7.at_ 6 pp.wh rfl
      refine gset ?_
      refine ⟨_, rfl, p, C, dx, _, _, rfl, hi, T.cl, T.n6, rfl, .inl ⟨rfl, _, SqL.of hw⟩, _, rfl, p, C, dx, _, _, rfl, hi, T.cl, T.n1, rfl, pp.ks, _, rfl, .inl (SqL.of hk), pp.wh, _, _, rfl, rfl, hw, small' (by simp), ?_⟩
      have o8 : Own H0 (upd H7 pp.wh (.lst ([] ++ [.int 0]))) pp.keys (pp.vals C dx ⟨[], [], [], [], [], [.int 0]⟩) := o7.put (j := 6) (b := pp.wh) rfl (.lst ([] ++ [.int 0]))
      walk_at "nx"
      have hi8 : upd H7 pp.wh (.lst ([] ++ [.int 0])) p = some (.ins C dx pp.fs) := by rw [← ea]; exact o8.at_ 0 pp.a rfl
      refine ⟨_, rfl, p, dx, _, rfl, hi8, rfl, _, rfl, H0, pp, dx, [.int 0], v, x, by rw [ea]; rfl, o8, eis, els, ObjAt.keep (stillS o8.same) _ _ hv, hz, fun H' hL st => ?_⟩
      rw [ea] at hL
      have hs := hL
      obtain ⟨_, _, _, _, _, _, hs⟩ := hs
      exact ⟨_, rfl, hs.own.same, fun q => absurd q (by decide), fun _ => hL⟩
  · rintro σ H' ⟨_, rfl, _, _, h1⟩
    exact k H' (h1 rfl)
theorem kids_get {w x : W} {i j : Nat} (h : w.parts[i]? = some x) (hj : j < x.inner.length) : ∃ m y, (kids w i)[j]? = some m ∧ x.inner[j]? = some y ∧ w.parts[m]? = some y ∧ i < m := by
  obtain ⟨m, hm⟩ := get_lt (l := kids w i) (j := j) (by rw [kids_len h]; exact hj)
  obtain ⟨y, h1, h2, h3⟩ := kids_at h hm
  exact ⟨m, y, hm, h1, h2, h3⟩
abbrev s_end_tables : Stmt := top 46
theorem sc_end_tables : FnScope ["parts", "text", "tables", "part", "inner", "_", "number"] ["parts", "text"] (defScope s_end_tables) := ⟨rfl, rfl, rfl, by decide +kernel, rfl, by decide +kernel, by decide +kernel⟩
theorem d_end_tables (h : Here K mg "end_tables" s_end_tables ["parts", "text"]) (T : PtF K C) (B : Bs mg) (G_ends_of_part : ∀ z, DefOk P w K mg base 2 "ends_of_part" ["kind", "letter", "inner", "text"] (spPart z)) : DefOk P w K mg base 3 "end_tables" ["parts", "text"] (spTabs C) := by
  have B_len := B.len; have B_range := B.range; have B_reversed := B.reversed
  refine h.ok sc_end_tables (fun vs H Q E h => by obtain ⟨_, _, _, _, _, rfl, _⟩ := h; rfl) (fun f cdv A' outer s H vs Q E hr h => ?_)
  obtain ⟨a, x, z, y, H0, rfl, ⟨p, d, dx, t, tv, ea, L⟩, hwf, hsz, hz, k⟩ := h
  have G_ends_of_part := G_ends_of_part z
  refine ⟨_, (pss_cons (ps_set (i := 2) sc_end_tables.nd rfl (Or.inr rfl) (pe_lc (own := [("_", 5)]) (g := (gName 5)) (tt := tYes) rfl sc_end_tables.nd (pi_list (pe_fld (pv 0) rfl)) (blkOk_by (own := [("_", 5)]) (N := ["parts", "text", "tables", "part", "inner", "_", "number"]) (sc := defScope s_end_tables) (by decide +kernel)) (fun _ _ _ _ _ => pg_name (i := 5) sc_end_tables.nd rfl (Or.inl rfl)) (fun _ _ _ _ _ => pts_nil) (fun _ _ _ _ _ => (pe_lst pa_nil))))
  (pss_cons (ps_for PassesOwn.never rfl (pi_revR rfl B_reversed (prg_1 rfl B_range (pe_callB call_len_seq rfl B_len PySem.boot_len (pa_cons (pe_fld (pv 0) rfl) pa_nil)))) (pg_name (i := 3) sc_end_tables.nd rfl (Or.inl rfl))
   (pss_cons (ps_setLc (i := 4) (own := [("number", 6)]) (g := (gName 6)) (tt := tYes) rfl sc_end_tables.nd rfl rfl (sw_true rfl rfl rfl (by decide +kernel)) (pi_list (pe_ix ix_list (pe_fld (pv 0) rfl) (pv 3) (fun _ _ => rfl))) (blkOk_by (own := [("number", 6)]) (N := ["parts", "text", "tables", "part", "inner", "_", "number"]) (sc := defScope s_end_tables) (by decide +kernel)) (fun _ _ _ _ _ => pg_name (i := 6) sc_end_tables.nd rfl (Or.inl rfl)) (fun _ _ _ _ _ => pts_nil) (fun _ _ _ _ _ => (pe_ix (ix_listK (K := K) rfl) (pv 2) (pv 6) (fun _ _ => rfl))))
  (pss_one (ps_asg (pe_callD G_ends_of_part (hr.mono (by first | decide | omega)) rfl (pa_cons (pe_ix ix_list (pe_fld (pv 0) rfl) (pv 3) (fun _ _ => rfl)) (pa_cons (pe_ix ix_list (pe_fld (pv 0) rfl) (pv 3) (fun _ _ => rfl)) (pa_cons (pv 4) (pa_cons (pv 1) pa_nil))))) (pg_sub (pv 2) (pv 3) set_list)))))
  (pss_one (ps_ret (pv 2))))), ?_⟩
  have hi : H a = some (.ins C dx p.fs) := by rw [← ea]; exact L.own.at_ 1 p.a rfl
  have hk : H p.ks = some (.lst (iV d.kinds)) := L.own.at_ 2 p.ks rfl
  have hw : H p.ws = some (.lst (d.words.map V.str)) := L.own.at_ 3 p.ws rfl
  have hn : H p.ni = some (.lst (p.is.map V.ref)) := L.own.at_ 4 p.ni rfl
  have zk : d.kinds.length = x.size := L.z.ks
  have hpl : x.parts.length = x.size := W.parts_len x
  have hpos := x.size_pos
  refine ⟨_, rfl, a, C, dx, _, _, rfl, hi, T.cl, T.n1, rfl, p.ks, rfl, ⟨_, SqL.of hk⟩, fun D hD => ?_⟩
  refine lc_list (K := K) (a := p.ks) (xs := iV d.kinds) (fun i Hx => ∃ acc, Hx D = some (.lst acc) ∧ acc.length = i ∧ Same H Hx) ?_ ?_ ?_ ?_
  · exact ⟨[], upd_same, rfl, Same.new hD _⟩
  · rintro i Hx _ ⟨_, _, _, sx⟩
    exact SqL.of (sx _ _ hk)
  · rintro i e Hx he ⟨acc, hacc, hal, sx⟩
    have hi' : i < (iV d.kinds).length := (List.getElem?_eq_some_iff.mp he).1
    simp only [iV, List.length_map] at hi'
    refine ⟨rfl, Nat.zero_le _, fun q hq => ?_⟩
    have sq := Same.new hq (.lst [])
    exact ⟨acc, sq _ _ hacc, small' (by omega), acc ++ [.ref q], upd_same, by rw [List.length_append, hal]; rfl, Same.put hD (sx.trans sq) _⟩
  · rintro H1 ⟨acc0, hacc0, hal0, s1⟩
    have hal0 : acc0.length = x.size := by rw [hal0]; simp only [iV, List.length_map, zk]
    walk_at "nx"
    refine ⟨_, rfl, a, C, dx, _, _, rfl, s1 _ _ hi, T.cl, T.n1, rfl, p.ks, _, rfl, .inl (SqL.of (s1 _ _ hk)), _, rfl, ?_⟩
    rw [show (iV d.kinds).length = x.size by simp only [iV, List.length_map, zk]]
    refine ⟨by omega, by omega, by omega, by omega, ?_⟩
    rw [show (((x.size : Nat) : Int) - 0).toNat = x.size by omega]
    refine for_rangeC (fun i σ H' => ∃ (acc : List V) (x3 x4 : Option V), σ = [some (.ref a), some (.str (tx z)), some (.ref D), x3, x4, none, none] ∧ H' D = some (.lst acc) ∧ acc.length = x.size ∧
      (∀ (m : Nat) (u : W), x.size - i ≤ m → x.parts[m]? = some u → ∃ b, acc[m]? = some (.ref b) ∧ H' b = some (.lst (tab z u)) ∧ b ≠ D) ∧ Same H H') ?_ ?_ ?_
    · refine ⟨acc0, none, none, rfl, hacc0, hal0, fun m u hm hu => ?_, s1⟩
      have := (List.getElem?_eq_some_iff.mp hu).1
      omega
    · rintro i σ H2 hi2 ⟨acc, x3, x4, rfl, hacc, hal, hT, s2⟩
      have ep : (0 : Int) + ((x.size : Nat) : Int) - 1 + (i : Nat) * (-1) = ((x.size - 1 - i : Nat) : Int) := by omega
      rw [ep]
      obtain ⟨m, em⟩ : ∃ m, x.size - 1 - i = m := ⟨_, rfl⟩
      have hm : m < x.size := by omega
      rw [em]
      obtain ⟨wm, hwm⟩ := get_lt (l := x.parts) (j := m) (by omega)
      obtain ⟨b, hb⟩ := get_lt (l := p.is) (j := m) (by rw [L.z.is]; exact hm)
      obtain ⟨l, hl, hbl⟩ := L.own.inn L.z hb
      have el := L.kid m l hl
      subst el
      have lk := kids_len hwm
      have hi2' := s2 _ _ hi
      refine gset ?_
      refine ⟨_, rfl, a, C, dx, _, _, rfl, hi2', T.cl, T.n3, rfl, _, rfl, p.ni, _, _, _, rfl, rfl, SqL.of (s2 _ _ hn), atI_nat (rV_at hb), b, rfl, ⟨_, SqL.of (s2 _ _ hbl)⟩, fun E hE => ?_⟩
      have nED : D ≠ E := ne_of_none hacc hE
      refine lc_list (K := K) (a := b) (xs := iV (kids x m)) (fun j Hx => ∃ us, Hx E = some (.lst us) ∧ us.length = j ∧ (∀ (j' : Nat) (u : W), j' < j → wm.inner[j']? = some u → ∃ bb, us[j']? = some (.ref bb) ∧ Hx bb = some (.lst (tab z u))) ∧ Same H2 Hx) ?_ ?_ ?_ ?_
      · exact ⟨[], upd_same, rfl, fun j' u hj => absurd hj (Nat.not_lt_zero _), Same.new hE _⟩
      · rintro j Hx _ ⟨_, _, _, _, sx⟩
        exact SqL.of (sx _ _ (s2 _ _ hbl))
      · rintro j e Hx he ⟨us, hus, hul, hut, sx⟩
        obtain ⟨n, hn', rfl⟩ := iV_back he
        obtain ⟨u, hu1, hu2, hu3⟩ := kids_at hwm hn'
        obtain ⟨bb, hb1, hb2, hb3⟩ := hT n u (by omega) hu2
        have hj : j < (kids x m).length := (List.getElem?_eq_some_iff.mp hn').1
        have hks : (kids x m).length ≤ 100 := by
          rw [lk]
          have h1 := W.sizes_len wm.inner
          have h2 := size_in wm
          have h3 : (kids x m).length ≤ x.size := by
            obtain ⟨pre, rest, e1, e2⟩ := W.parts_at x m wm hwm
            have e3 := congrArg List.length e1
            rw [hpl, List.length_append, List.length_append, W.parts_len wm] at e3
            rw [lk]
            omega
          rw [lk] at h3
          omega
        have hE2 : Hx E ≠ none := by rw [hus]; intro q; cases q
        refine ⟨rfl, _, rfl, _, rfl, D, _, _, _, rfl, rfl, SqL.of (sx _ _ hacc), atI_nat hb1, us, hus, small' (by omega), us ++ [.ref bb], upd_same, by rw [List.length_append, hul]; rfl, ?_, Same.put hE sx _⟩
        have nbE : bb ≠ E := fun q => by rw [q] at hb2; rw [hE] at hb2; cases hb2
        intro j' u' hj' hu'
        by_cases c : j' < j
        · obtain ⟨b2, h1, h2⟩ := hut j' u' c hu'
          by_cases cE : b2 = E
          · rw [cE, hus] at h2
            cases h2
            exfalso
            have hE3 : (tab z u')[j']? = some (.ref b2) := h1
            have := List.mem_of_getElem? hE3
            unfold tab at this
            obtain ⟨_, _, q⟩ := List.mem_map.mp this
            cases q
          · exact ⟨b2, by rw [List.getElem?_append_left (by omega)]; exact h1, by rw [upd_ne cE]; exact h2⟩
        · have ej : j' = j := by omega
          subst ej
          rw [hu1] at hu'
          cases hu'
          exact ⟨bb, by rw [List.getElem?_append_right (by omega), hul, Nat.sub_self]; rfl, by rw [upd_ne nbE]; exact sx _ _ hb2⟩
      · rintro H3 ⟨us, hus, hul, hut, s3⟩
        simp only [iV, List.length_map] at hul hut
        rw [lk] at hul hut
        have htabs : TabsAt z H3 us wm.inner := TabsAt.of _ _ hul fun j u hu => hut j u (List.getElem?_eq_some_iff.mp hu).1 hu
        have s23 := s2.trans s3
        have hkm : d.kinds[m]? = some wm.kind := by rw [L.ks, List.getElem?_map, hwm]; rfl
        have hwm2 : (d.words.map V.str)[m]? = some (.str wm.word) := by rw [L.ws, List.map_map, List.getElem?_map, hwm]; rfl
        walk_at "nx"
        refine ⟨_, rfl, a, C, dx, _, _, rfl, s23 _ _ hi, T.cl, T.n1, rfl, _, rfl, p.ks, _, _, _, rfl, rfl, SqL.of (s23 _ _ hk), atI_nat (iV_at hkm), ?_⟩
        refine ⟨_, rfl, a, C, dx, _, _, rfl, s23 _ _ hi, T.cl, T.n2, rfl, _, rfl, p.ws, _, _, _, rfl, rfl, SqL.of (s23 _ _ hw), atI_nat hwm2, ?_⟩
        refine ⟨_, rfl, _, rfl, wm, E, us, rfl, hus, htabs, wf_kind (wf_parts x hwf wm (List.mem_of_getElem? hwm)), hz, fun q H4 s4 hq hq2 => ?_⟩
        have hacc4 := s4 _ _ (s3 _ _ hacc)
        have nqD : q ≠ D := fun e => by rw [e, s3 _ _ hacc] at hq; cases hq
        refine ⟨_, rfl, _, rfl, D, _, _, _, rfl, rfl, hacc4, ix_nat (by omega), ?_⟩
        refine ⟨acc.set m (.ref q), _, _, rfl, upd_same, by rw [List.length_set]; exact hal, fun n u hn' hu => ?_, Same.put hD (s23.trans s4) _⟩
        by_cases c : n = m
        · subst c
          rw [hwm] at hu
          cases hu
          exact ⟨q, by rw [List.getElem?_set_self (by omega)], by rw [upd_ne nqD]; exact hq2, nqD⟩
        · obtain ⟨b2, h1, h2, h3⟩ := hT n u (by omega) hu
          exact ⟨b2, by rw [List.getElem?_set_ne (Ne.symm c)]; exact h1, by rw [upd_ne h3]; exact s4 _ _ (s3 _ _ h2), h3⟩
    · rintro σ H2 ⟨acc, x3, x4, rfl, hacc, hal, hT, s2⟩
      refine ⟨_, rfl, k H2 D acc s2 hacc (TabsAt.of _ _ (by rw [hal, hpl]) fun m u hu => ?_)⟩
      obtain ⟨b, h1, h2, _⟩ := hT m u (by omega) hu
      exact ⟨b, h1, h2⟩
/-- a def with a last parameter that need not be given: 0 -/
structure HereZ (K : PySem.W.Frag) (mg : Str → Option Value) (x : Str) (st : Stmt) (ps : List Str) : Prop where
  ex : ∃ (f : Addr) (fd : FuncData), FunD K x x (defArgs st) (defBody st) (defScope st) [.int 0] [] f fd ∧ mg x = some (.ref f) ∧ Binds K fd ps [] ∧ ∃ ds, Vals [V.int 0] ds ∧ Binds K fd ps ds
structure DefZ (P : Program) (w : World) (K : PySem.W.Frag) (mg : Str → Option Value) (base : Heap) (k : Nat) (x : Str) (ps : List Str) (sp : Sp) : Prop where
  ex : ∃ (f : Addr) (fd : FuncData), mg x = some (.ref f) ∧ PySem.W.keepIn K (.ref f) = true ∧ Binds K fd ps [] ∧ (∃ ds, Vals [V.int 0] ds ∧ Binds K fd ps ds) ∧ FnOk P w K mg base CX0 k f fd ps sp
theorem DefZ.all {k : Nat} {x : Str} {ps : List Str} {sp : Sp} (h : DefZ P w K mg base k x ps sp) : DefOk P w K mg base k x ps sp := by
  obtain ⟨f, fd, a, b, c, _, d⟩ := h.ex
  exact ⟨f, fd, a, b, c, d⟩
theorem HereZ.ok {x : Str} {st : Stmt} {N ps : List Str} {k : Nat} {sp : Sp} (h : HereZ K mg x st ps) (S : FnScope N ps (defScope st)) (len : ∀ vs H Q E, sp vs H Q E → vs.length = ps.length)
    (hbody : ∀ (f : Addr) (cdv : Value) (A : Around) (outer : List Env) (s : Shared) (H : Hp) (vs : List V) (Q : VK) (E : XK), Room k (A.deeper (envOfC x (defScope st) s.heap.objs.size f cdv)) → sp vs H Q E →
      ∃ t, PSs (cxOf CX0 P w K mg base N x (defScope st) f cdv A outer s H E) (defBody st) t ∧ t { nx := fun _ H' => Q .non H', rt := Q } (start N vs) H) : DefZ P w K mg base (k + 1) x ps sp := by
  obtain ⟨f, fd, F, m, b, b2⟩ := h.ex
  exact ⟨f, fd, m, F.kp, b, b2, F.ok S len fun cdv A outer s H vs Q E hr q => hbody f cdv A outer s H vs Q E hr q⟩
theorem pe_callZ {X : Cx} {k : Nat} {x : Str} {ps : List Str} {sp : Sp} {e : Expr} {es : List Expr} {t : TA} {p pos : Pos} (G : DefZ X.prog X.w X.K X.mg X.base k x ps sp) (hr : Room k X.A) (hg : Gl X x) (ha : PA X (e :: es) t) (hdb : (x == ("__debug__" : Str)) = false := by decide)
    (he : starEach (e :: es) X.env = (false, eval e X.env) :: starEach es X.env := by rfl) (hpl : (backTo pos (starEach es X.env)).any (·.1) = false := by rfl) :
    PE X (.Call (.Name x p) (e :: es) [] pos) (tCall sp [V.int 0] E0 t) := by
  obtain ⟨f, fd, m, kp, _, ⟨ds, r, b⟩, F⟩ := G.ex
  exact pe_call F hr hg m kp b r pass0 ha hdb he hpl
/-- what takes tells -/
def told (o : Option Nat) (p : Nat) : V := match o with
  | some q => .int ((q : Nat) - (p : Nat) : Int)
  | none => .non
def spTakes (c : Cs) : Sp := fun vs H Q _ => ∃ (v : V) (w : W) (z y : List Nat) (p : Nat), vs = [v, .str (tx z), .int (p : Nat)] ∧ ObjAt c H v w ∧ w.wf y ∧ w.size ≤ 100 ∧ z.length ≤ 10000 ∧ p ≤ z.length ∧ ∀ H', Same H H' → Q (told (ew z w p) p) H'
abbrev s_takes : Stmt := top 59
theorem sc_takes : FnScope ["way", "text", "place", "end"] ["way", "text", "place"] (defScope s_takes) := ⟨rfl, rfl, rfl, by decide +kernel, rfl, by decide +kernel, by decide +kernel⟩
theorem d_takes (h : HereZ K mg "takes" s_takes ["way", "text", "place"]) (T : PtF K C) (Cn : Kn mg) (G_refuse_calls : DefOk P w K mg base 3 "refuse_calls" ["ways"] (spRefuse c)) (G_end_tables : DefOk P w K mg base 3 "end_tables" ["parts", "text"] (spTabs C))
    (G_Parts : ClsOk P w K mg base 3 "Parts" C ["self", "ways"] (spInit c C)) : DefZ P w K mg base 5 "takes" ["way", "text", "place"] (spTakes c) := by
  have GC_NOWHERE := Cn.n
  refine h.ok sc_takes (fun vs H Q E h => by obtain ⟨_, _, _, _, _, rfl, _⟩ := h; rfl) (fun f cdv A' outer s H vs Q E hr h => ?_)
  obtain ⟨v, x, z, y, p, rfl, hv, hwf, hsz, hz, hp, k⟩ := h
  refine ⟨_, (pss_cons (ps_expr (pe_callD G_refuse_calls (hr.mono (by first | decide | omega)) rfl (pa_cons (pe_lst (pa_cons (pv 0) pa_nil)) pa_nil)))
  (pss_cons (ps_set (i := 3) sc_takes.nd rfl (Or.inl rfl) (pe_ix ix_list (pe_ix ix_list (pe_callD G_end_tables (hr.mono (by first | decide | omega)) rfl (pa_cons (pe_makeD G_Parts (hr.mono (by first | decide | omega)) rfl (pa_cons (pe_lst (pa_cons (pv 0) pa_nil)) pa_nil)) (pa_cons (pv 1) pa_nil))) pe_int (fun _ _ => rfl)) (pv 2) (fun _ _ => rfl)))
  (pss_one (ps_ret (pe_ifExp (pt_cmpR op_eq (pv 3) (pe_globI rfl GC_NOWHERE) (nomark _)) pe_non (pe_op op_sub (pv 3) (pv 2))))))), ?_⟩
  refine ⟨_, rfl, by show 1 ≤ sizeLine; decide, fun l1 hl1 => ?_⟩
  have s1 := Same.new hl1 (.lst [v])
  refine ⟨l1, v, x, y, rfl, upd_same, ObjAt.keep (stillS s1) _ _ hv, hwf, hsz, fun H2 s2 => ?_⟩
  have s12 := s1.trans s2
  walk_at "nx"
  refine ⟨_, rfl, by show 1 ≤ sizeLine; decide, fun l2 hl2 => ?_⟩
  have s3 := s12.trans (Same.new hl2 (.lst [v]))
  have hl2' : upd H2 l2 (.lst [v]) l2 = some (.lst [v]) := upd_same
  generalize upd H2 l2 (.lst [v]) = H3 at *
  intro q dx hq hdx nd
  have s4 := Same.new hdx (.own q)
  have hq4 : upd H3 dx (.own q) q = none := by rw [upd_ne nd.symm]; exact hq
  have s5 := s4.trans (Same.new hq4 (.ins C dx []))
  refine ⟨q, dx, l2, v, x, H3, rfl, upd_same, hq, s5, hl2', ObjAt.keep (stillS s3) _ _ hv, hsz, fun H5 hL => ⟨rfl, ?_⟩⟩
  have hs5 : Same H3 H5 := by obtain ⟨_, _, _, _, _, _, L⟩ := id hL; exact L.own.same
  refine ⟨_, rfl, q, x, z, y, H3, rfl, hL, hwf, hsz, hz, fun H6 qt ts s6 hts htabs => ?_⟩
  rw [W.parts_eq] at htabs
  obtain ⟨b, us, ets, hb, _⟩ := htabs
  subst ets
  refine ⟨qt, _, _, _, rfl, rfl, SqL.of hts, atI0, _, rfl, b, _, _, _, rfl, rfl, SqL.of hb, tab_ix hp, ?_⟩
  have sA := (s3.trans hs5).trans s6
  walk_at "nx"
  refine ⟨_, rfl, rfl, _, rfl, ?_⟩
  rw [eI_no]
  have k' := k H6 sA
  cases e : ew z x p with
  | none =>
    rw [e] at k'
    exact iteT k'
  | some r =>
    rw [e] at k'
    exact iteF ⟨_, rfl, _, rfl, _, _, rfl, rfl, k'⟩
end
end Tk
namespace Tk
open PySem PySem.Spec PyProof.Rows L2 Wv
/-! ### a text so many times -/
theorem fold_size (a : Array Nat) : ∀ (n : Nat) (b : Array Nat), ((List.replicate n a).foldl (· ++ ·) b).size = b.size + n * a.size
  | 0, b => by simp
  | n + 1, b => by
    rw [List.replicate_succ, List.foldl_cons, fold_size a n, Array.size_append, Nat.succ_mul]
    omega
theorem tx_back (s : Str) : s = tx s.cps.toList := by cases s; simp [tx]
theorem tx_len (z : List Nat) : (tx z).length = z.length := by simp [Str.length, tx]
theorem op_rep_str {X : Cx} : OpR X (binaryOp .Mult) (fun x y H Q => ∃ (z : List Nat) (k : Nat), x = .str (tx z) ∧ y = .int (k : Nat) ∧ 0 < z.length ∧ z.length ≤ 100 ∧ 2 ≤ k ∧ k ≤ 1000 ∧ ∀ l : List Nat, l.length = k * z.length → Q (.str (tx l)) H) := by
  intro pins s σ H x y v u Q I rx ry h
  obtain ⟨z, k, rfl, rfl, hz, hz2, hk, hk2, q⟩ := h
  obtain ⟨t, rfl⟩ := rx
  obtain ⟨t', rfl⟩ := ry
  have hm : k * z.length ≤ 1000 * 100 := Nat.mul_le_mul hk2 hz2
  have hm2 : z.length * k = k * z.length := Nat.mul_comm _ _
  have hl : (tx z).length = z.length := tx_len z
  refine P.mul_str ?_ (fun _ _ => ?_) (fun _ _ => ?_) ?_
  · rw [decide_eq_false (show ¬ ((k : Nat) : Int) < -(2 ^ 63 : Int) by omega), decide_eq_false (show ¬ ((k : Nat) : Int) ≥ 2 ^ 63 by omega)]; rfl
  · rw [hl]
    have h1 : (z.length : Int) ≤ (2 ^ 63 - 1) / (k : Int) := (Int.le_ediv_iff_mul_le (by omega)).mpr (by
      rw [← Int.natCast_mul, hm2]
      omega)
    exact Int.not_lt.mpr h1
  · unfold Builtin.Str.tooLong
    rw [hl, Int.toNat_natCast, hm2]
    exact decide_eq_false (by rw [sizeLine_eq]; omega)
  · have n1 : ¬ ((k : Int) < 1) := by omega
    rw [if_neg n1, if_neg (by rw [hl, Bool.or_eq_true, beq_iff_eq, beq_iff_eq]; omega)]
    have hs : ((List.replicate ((k : Nat) : Int).toNat (tx z).cps).foldl (· ++ ·) #[]).size = k * z.length := by
      rw [fold_size, Int.toNat_natCast]
      simp [tx]
    refine ⟨by show Array.size _ ≤ _; rw [hs, sizeLine_eq]; omega, ?_⟩
    have := q ((List.replicate ((k : Nat) : Int).toNat (tx z).cps).foldl (· ++ ·) #[]).toList (by rw [Array.length_toList, hs])
    exact ⟨.str (tx ((List.replicate ((k : Nat) : Int).toNat (tx z).cps).foldl (· ++ ·) #[]).toList), H, I.tok _, ⟨_, congrArg (fun y => Value.str y s.toks) (tx_back _)⟩, this⟩
/-- a new text of such letters -/
def spText (K : PySem.W.Frag) : Sp := fun vs H Q _ => ∃ (p : Pen) (z : List Nat) (m n : Nat), vs = [.ref p.d, .str (tx z), .int (m : Nat)] ∧ PenAt K H p n ∧ n + 200 < LIM ∧ 0 < z.length ∧ z.length ≤ 100 ∧ m ≤ 100 ∧
  ∀ (l : List Nat) (H' : Hp), l.length ≤ m → Keep H H' → PenAt K H' p (n + 101) → Q (.str (tx l)) H'
theorem join_tx' : ∀ xs : List Str, PySem.Str.join (Str.ofString "") xs = tx (xs.flatMap fun x => x.cps.toList)
  | [] => rfl
  | [x] => by
    show x = _
    rw [List.flatMap_cons, List.flatMap_nil, List.append_nil]
    exact tx_back x
  | x :: y :: r => by
    show x ++ Str.ofString "" ++ PySem.Str.join (Str.ofString "") (y :: r) = _
    rw [join_tx' (y :: r), empty_tx, List.flatMap_cons]
    conv => lhs; rw [tx_back x]
    rw [tx_app, tx_app, List.append_nil]
    rfl
theorem join_tx (xs : List Str) : Txt.join (Str.ofString "") xs = tx (xs.flatMap fun x => x.cps.toList) := (TL.join_eq _ _).trans (join_tx' xs)
theorem join_len : ∀ ys : List Str, (ys.map (·.length)).sum = ys.length → (Txt.join (Str.ofString "") ys).length ≤ ys.length := by
  intro ys h
  rw [join_tx, tx_len, List.length_flatMap]
  have e : (ys.map fun x => x.cps.toList.length) = ys.map (·.length) := List.map_congr_left fun x _ => by simp [Str.length]
  rw [e, h]
  exact Nat.le_refl _
section
variable {P : Program} {w : World} {K : PySem.W.Frag} {mg : Str → Option Value} {base : Heap}
abbrev s_l_text : Stmt := top 73
theorem sc_l_text : FnScope ["_law_pen_here", "_law_signs_here", "_law_most", "_law_k"] ["_law_pen_here", "_law_signs_here", "_law_most"] (defScope s_l_text) := ⟨rfl, rfl, rfl, by decide +kernel, rfl, by decide +kernel, by decide +kernel⟩
theorem d_l_text (h : Here K mg "_law_text" s_l_text ["_law_pen_here", "_law_signs_here", "_law_most"]) (B : Bs mg) (G_l_draw : DefOk P w K mg base 1 "_law_draw" ["_law_pen_here", "_law_many"] (spDraw K)) (G_l_pick : DefOk P w K mg base 2 "_law_pick" ["_law_pen_here", "_law_items"] (spPick K)) : DefOk P w K mg base 3 "_law_text" ["_law_pen_here", "_law_signs_here", "_law_most"] (spText K) := by
  have B_range := B.range
  refine h.ok sc_l_text (fun vs H Q E h => by obtain ⟨_, _, _, _, rfl, _⟩ := h; rfl) (fun f cdv A' outer s H vs Q E hr h => ?_)
  obtain ⟨p, z, m, n, rfl, hP, hn, hz0, hz1, hm, k⟩ := h
  refine ⟨_, (pss_one (ps_ret (pe_join pe_str (pe_lc (own := [("_law_k", 3)]) (g := (gName 3)) (tt := tYes) rfl sc_l_text.nd (pi_range1 rfl B_range (pa_cons (pe_callD G_l_draw (hr.mono (by first | decide | omega)) rfl (pa_cons (pv 0) (pa_cons (pe_op op_add (pv 2) pe_int) pa_nil))) pa_nil)) (blkOk_by (own := [("_law_k", 3)]) (N := ["_law_pen_here", "_law_signs_here", "_law_most", "_law_k"]) (sc := defScope s_l_text) (by decide +kernel)) (fun _ _ _ _ _ => pg_name (i := 3) sc_l_text.nd rfl (Or.inl rfl)) (fun _ _ _ _ _ => pts_nil) (fun _ _ _ _ _ => (pe_callD G_l_pick (hr.mono (by first | decide | omega)) rfl (pa_cons (pv 0) (pa_cons (pv 1) pa_nil)))))))), ?_⟩
  refine ⟨⟨_, rfl⟩, _, rfl, _, rfl, _, _, rfl, rfl, p, ((m : Nat) : Int) + 1, n, rfl, hP, by omega, by omega, by omega, fun d H1 d0 d1 k1 hP1 => ?_⟩
  refine ⟨d, rfl, by omega, by omega, fun D hD => ?_⟩
  have hd : d.toNat ≤ m := by omega
  refine lc_range (fun i Hx => ∃ us : List Str, Hx D = some (.lst (us.map V.str)) ∧ us.length = i ∧ (∀ u ∈ us, u.length = 1) ∧ Keep H1 Hx ∧ PenAt K Hx p (n + 1 + i)) ?_ ?_ ?_
  · exact ⟨[], upd_same, rfl, fun u hu => (nomatch hu), .of (Same.new hD _), hP1.same (Same.new hD _)⟩
  · rintro i Hx hi ⟨us, hus, hul, hu1, kx, hPx⟩
    refine ⟨rfl, _, rfl, _, rfl, p, _, n + 1 + i, rfl, hPx, by omega, .inr ⟨z, rfl, hz0, by omega, fun c H2 hc k2 hP2 => ?_⟩⟩
    have hus2 := k2.lst hus
    refine ⟨_, hus2, small' (by rw [List.length_map]; omega), us ++ [sg c], ?_, by rw [List.length_append, hul]; rfl, fun u hu => ?_, Keep.put hD (kx.trans k2) _, PenAt.put hP1 hD hP2 (kx.trans k2) hus2⟩
    · rw [upd_same, List.map_append]; rfl
    · rcases List.mem_append.mp hu with hu | hu
      · exact hu1 u hu
      · rw [List.mem_singleton] at hu; subst hu; rfl
  · rintro Hx ⟨us, hus, hul, hu1, kx, hPx⟩
    have hsum : (us.map (·.length)).sum = us.length := by
      clear hus hul hPx
      induction us with
      | nil => rfl
      | cons u us ih =>
        rw [List.map_cons, List.sum_cons, List.length_cons, hu1 u List.mem_cons_self, ih (fun x hx => hu1 x (List.mem_cons_of_mem _ hx))]
        omega
    refine ⟨_, D, us, rfl, rfl, .inl (SqL.of hus), ?_, ?_⟩
    · rw [hsum]
      have : (Str.ofString "").length = 0 := by decide +kernel
      rw [this]; omega
    · rw [tx_back (Txt.join _ us)]
      refine k _ Hx ?_ (k1.trans kx) (hPx.mono (by omega))
      have := join_len us hsum
      rw [Array.length_toList]
      exact Nat.le_trans this (by omega)
end
end Tk
namespace Tk
open PySem PySem.Spec PyProof.Rows L2 Wv
/-! ### sets of places as the bits of a number -/
/-- the places in a set, the lowest first -/
def bitsOf (b : Nat) : List Nat := (List.range (b.log2 + 1)).filter fun i => b.testBit i
theorem and_pred_even (c : Nat) (h : 0 < c) : (2 * c) &&& (2 * c - 1) = 2 * (c &&& (c - 1)) := by
  refine Nat.eq_of_testBit_eq fun i => ?_
  cases i with
  | zero => simp [Nat.testBit_and, Nat.testBit_zero]
  | succ i =>
    rw [Nat.testBit_and, Nat.testBit_succ, Nat.testBit_succ, Nat.testBit_succ, show 2 * c / 2 = c by omega, show (2 * c - 1) / 2 = c - 1 by omega, show 2 * (c &&& (c - 1)) / 2 = c &&& (c - 1) by omega, Nat.testBit_and]
theorem and_pred_odd (m : Nat) : (2 * m + 1) &&& (2 * m + 1 - 1) = 2 * m := by
  refine Nat.eq_of_testBit_eq fun i => ?_
  cases i with
  | zero => simp [Nat.testBit_and, Nat.testBit_zero]
  | succ i =>
    rw [Nat.testBit_and, Nat.testBit_succ, Nat.testBit_succ, Nat.testBit_succ, show (2 * m + 1) / 2 = m by omega, show (2 * m + 1 - 1) / 2 = m by omega, show 2 * m / 2 = m by omega, Bool.and_self]
/-- the lowest bit of a number, as the program tells it -/
theorem low_bit : ∀ (n b : Nat), b ≤ n → 0 < b → ∃ k m, b = 2 ^ k * (2 * m + 1) ∧ b &&& (b - 1) = 2 ^ k * (2 * m)
  | 0, b, h, h0 => by omega
  | n + 1, b, h, h0 => by
    by_cases e : b % 2 = 1
    · obtain ⟨m, rfl⟩ : ∃ m, b = 2 * m + 1 := ⟨b / 2, by omega⟩
      exact ⟨0, m, by simp, by rw [and_pred_odd]; simp⟩
    · obtain ⟨c, rfl⟩ : ∃ c, b = 2 * c := ⟨b / 2, by omega⟩
      obtain ⟨k, m, h1, h2⟩ := low_bit n c (by omega) (by omega)
      refine ⟨k + 1, m, ?_, ?_⟩
      · rw [Nat.pow_succ, h1]
        rw [Nat.mul_comm (2 ^ k) 2, Nat.mul_assoc]
      · rw [and_pred_even c (by omega), h2, Nat.pow_succ, Nat.mul_comm (2 ^ k) 2, Nat.mul_assoc]
theorem low_int (b : Nat) (h : 0 < b) : ∃ k m, b = 2 ^ k * (2 * m + 1) ∧ Builtin.bitAnd (b : Int) (-(b : Int)) = ((2 ^ k : Nat) : Int) := by
  obtain ⟨k, m, h1, h2⟩ := low_bit b b (Nat.le_refl _) h
  refine ⟨k, m, h1, ?_⟩
  unfold Builtin.bitAnd
  rw [decide_eq_true (show (0 : Int) ≤ (b : Int) by omega), decide_eq_false (show ¬ (0 : Int) ≤ -(b : Int) by omega)]
  show (b : Int) - (((b : Int).toNat &&& (Builtin.bitNot (-(b : Int))).toNat : Nat) : Int) = _
  have e : (Builtin.bitNot (-(b : Int))).toNat = b - 1 := by unfold Builtin.bitNot; omega
  rw [e, Int.toNat_natCast, h2]
  have e2 : b = 2 ^ k * (2 * m) + 2 ^ k := by rw [h1, Nat.mul_add, Nat.mul_one]
  rw [e2, Int.natCast_add]
  omega
end Tk
namespace Tk
open PySem PySem.Spec PyProof.Rows L2 Wv
/-- the places below n in a set -/
def bitsN (n b : Nat) : List Nat := (List.range n).filter fun i => b.testBit i
theorem bitsN_zero (n : Nat) : bitsN n 0 = [] := by
  unfold bitsN
  rw [List.filter_eq_nil_iff]
  intro i _
  simp
theorem range_split (n k : Nat) (h : k < n) : List.range n = List.range k ++ (k :: (List.range' (k + 1) (n - k - 1))) := by
  obtain ⟨j, rfl⟩ : ∃ j, n = k + (j + 1) := ⟨n - k - 1, by omega⟩
  rw [show k + (j + 1) - k - 1 = j by omega, List.range_eq_range', List.range_eq_range', ← List.range'_append_1, Nat.zero_add, List.range'_succ]
theorem bit_low {k m i : Nat} : (2 ^ k * m).testBit i = (decide (k ≤ i) && m.testBit (i - k)) := by
  rw [Nat.mul_comm, Nat.testBit_mul_two_pow]
theorem bitsN_step {n k m : Nat} (h : 2 ^ k * (2 * m + 1) < 2 ^ n) : k < n ∧ bitsN n (2 ^ k * (2 * m + 1)) = k :: bitsN n (2 ^ k * (2 * m)) := by
  have hk : k < n := by
    by_cases c : k < n
    · exact c
    · have h1 : 2 ^ n ≤ 2 ^ k := Nat.pow_le_pow_right (by decide) (by omega)
      have h2 : 2 ^ k * 1 ≤ 2 ^ k * (2 * m + 1) := Nat.mul_le_mul_left _ (by omega)
      omega
  refine ⟨hk, ?_⟩
  unfold bitsN
  rw [range_split n k hk, List.filter_append, List.filter_append, List.filter_cons, List.filter_cons]
  have z1 : (List.range k).filter (fun i => (2 ^ k * (2 * m + 1)).testBit i) = [] := by
    rw [List.filter_eq_nil_iff]
    intro i hi
    rw [List.mem_range] at hi
    rw [bit_low, decide_eq_false (by omega)]
    simp
  have z2 : (List.range k).filter (fun i => (2 ^ k * (2 * m)).testBit i) = [] := by
    rw [List.filter_eq_nil_iff]
    intro i hi
    rw [List.mem_range] at hi
    rw [bit_low, decide_eq_false (by omega)]
    simp
  have b1 : (2 ^ k * (2 * m + 1)).testBit k = true := by
    rw [bit_low, Nat.sub_self, Nat.testBit_zero, decide_eq_true (Nat.le_refl k)]
    simp
  have b2 : (2 ^ k * (2 * m)).testBit k = false := by
    rw [bit_low, Nat.sub_self, Nat.testBit_zero]
    simp
  rw [z1, z2, b1, b2, if_pos rfl, if_neg Bool.false_ne_true, List.nil_append, List.nil_append]
  congr 1
  refine List.filter_congr fun i hi => ?_
  have hi' := (List.mem_range'_1.mp hi).1
  rw [bit_low, bit_low]
  congr 1
  obtain ⟨j, hj⟩ : ∃ j, i - k = j + 1 := ⟨i - k - 1, by omega⟩
  rw [hj, Nat.testBit_succ, Nat.testBit_succ, show (2 * m + 1) / 2 = m by omega, show 2 * m / 2 = m by omega]
theorem xor_low (k m : Nat) : Builtin.bitXor ((2 ^ k * (2 * m + 1) : Nat) : Int) ((2 ^ k : Nat) : Int) = ((2 ^ k * (2 * m) : Nat) : Int) := by
  unfold Builtin.bitXor
  rw [bitOr_nn (Int.natCast_nonneg _) (Int.natCast_nonneg _)]
  unfold Builtin.bitAnd
  rw [decide_eq_true (show (0 : Int) ≤ ((2 ^ k * (2 * m + 1) : Nat) : Int) from Int.natCast_nonneg _), decide_eq_true (show (0 : Int) ≤ ((2 ^ k : Nat) : Int) from Int.natCast_nonneg _)]
  show (((((2 ^ k * (2 * m + 1) : Nat) : Int).toNat ||| ((2 ^ k : Nat) : Int).toNat : Nat) : Int)) - ((((2 ^ k * (2 * m + 1) : Nat) : Int).toNat &&& ((2 ^ k : Nat) : Int).toNat : Nat) : Int) = _
  rw [Int.toNat_natCast, Int.toNat_natCast]
  have hb : (2 ^ k * (2 * m + 1)).testBit k = true := by
    rw [bit_low, Nat.sub_self, Nat.testBit_zero, decide_eq_true (Nat.le_refl k)]
    simp
  have e1 : 2 ^ k * (2 * m + 1) &&& 2 ^ k = 2 ^ k := by
    refine Nat.eq_of_testBit_eq fun i => ?_
    rw [Nat.testBit_and, Nat.testBit_two_pow]
    by_cases c : k = i
    · subst c; rw [hb]; simp
    · simp [c]
  have e2 : 2 ^ k * (2 * m + 1) ||| 2 ^ k = 2 ^ k * (2 * m + 1) := by
    refine Nat.eq_of_testBit_eq fun i => ?_
    rw [Nat.testBit_or, Nat.testBit_two_pow]
    by_cases c : k = i
    · subst c; rw [hb]; simp
    · simp [c]
  rw [e1, e2, Nat.mul_add, Nat.mul_one, Int.natCast_add]
  omega
theorem len_low (k : Nat) : ((Builtin.Int.intBits ((2 ^ k : Nat) : Int) : Nat) : Int) - 1 = (k : Nat) := by
  unfold Builtin.Int.intBits
  have h : ¬ (((2 ^ k : Nat) : Int) == 0) = true := by
    rw [beq_iff_eq]
    intro q
    have := Nat.two_pow_pos k
    have q2 := Int.natCast_eq_zero.mp q
    omega
  rw [if_neg h, Int.natAbs_natCast, Nat.log2_two_pow]
  omega
/-- the places in a set, a list -/
def spPlaces : Sp := fun vs H Q _ => ∃ (b n : Nat), vs = [.int (b : Nat)] ∧ b < 2 ^ n ∧ n ≤ 20000 ∧ ∀ (q : Addr) (H' : Hp), Same H H' → H' q = some (.lst (iV (bitsN n b))) → Q (.ref q) H'
theorem bitsN_len (n b : Nat) : (bitsN n b).length ≤ n := by
  unfold bitsN
  have := List.length_filter_le (fun i => b.testBit i) (List.range n)
  rw [List.length_range] at this
  exact this
section
variable {P : Program} {w : World} {K : PySem.W.Frag} {mg : Str → Option Value} {base : Heap}
abbrev s_places_of : Stmt := top 57
theorem sc_places_of : FnScope ["bits", "places", "lowest"] ["bits"] (defScope s_places_of) := ⟨rfl, rfl, rfl, by decide +kernel, rfl, by decide +kernel, by decide +kernel⟩
theorem d_places_of (h : Here K mg "places_of" s_places_of ["bits"]) : DefOk P w K mg base 1 "places_of" ["bits"] spPlaces := by
  refine h.ok sc_places_of (fun vs H Q E h => by obtain ⟨_, _, rfl, _⟩ := h; rfl) (fun f cdv A' outer s H vs Q E hr h => ?_)
  obtain ⟨b0, n, rfl, hb0, hn, k⟩ := h
  refine ⟨_, (pss_cons (ps_set (i := 1) sc_places_of.nd rfl (Or.inl rfl) (pe_lst pa_nil))
  (pss_cons (ps_while PassesOwn.never (pt_truth (pv 0) (by intro _; rfl)) (pss_cons (ps_set (i := 2) sc_places_of.nd rfl (Or.inl rfl) (pe_op op_and (pv 0) (pe_un un_neg (pv 0))))
  (pss_cons (ps_expr (pe_bm PySem.F.plainAttrs_list PySem.F.slot_list_append PySem.F.type_list_append mt_append (pv 1) (pa_cons (pe_op op_sub (pe_bits (pv 2)) pe_int) pa_nil)))
  (pss_one (ps_set (i := 0) sc_places_of.nd rfl (Or.inl rfl) (pe_op op_xor (pv 0) (pv 2)))))))
  (pss_one (ps_ret (pv 1))))), ?_⟩
  refine ⟨Nat.zero_le _, fun D hD => ?_⟩
  walk_at "nx"
  refine while_m (fun mm σ H' => ∃ (b : Nat) (ps : List Nat) (x2 : Option V), σ = [some (.int (b : Nat)), some (.ref D), x2] ∧ b = mm ∧ b < 2 ^ n ∧ H' D = some (.lst (iV ps)) ∧ ps ++ bitsN n b = bitsN n b0 ∧ Same H H') b0 ?_ ?_
    (fun σ H Q Q' hq ⟨v, e, b, tv, h⟩ => ⟨v, e, b, tv, hq _ _ h⟩)
  · exact ⟨b0, [], none, rfl, rfl, hb0, upd_same, rfl, Same.new hD _⟩
  · rintro mm σ H1 ⟨b, ps, x2, rfl, rfl, hb, hps, hbs, s1⟩
    have hpl : ps.length ≤ 20000 := by
      have h1 := bitsN_len n b0
      rw [← hbs, List.length_append] at h1
      omega
    refine ⟨_, rfl, _, rfl, ?_⟩
    by_cases h0 : b = 0
    · subst h0
      rw [bitsN_zero, List.append_nil] at hbs
      subst hbs
      refine iteF ?_
      exact ⟨_, rfl, k D H1 s1 hps⟩
    · have hne : (((b : Nat) : Int) != 0) = true := by
        rw [bne_iff_ne]
        intro q
        exact h0 (Int.natCast_eq_zero.mp q)
      rw [hne]
      refine iteT ?_
      obtain ⟨kk, mm, eb, el⟩ := low_int b (Nat.pos_of_ne_zero h0)
      obtain ⟨hkn, hst⟩ := bitsN_step (n := n) (k := kk) (m := mm) (by rw [← eb]; exact hb)
      refine ⟨_, rfl, _, rfl, _, rfl, _, _, rfl, rfl, ?_⟩
      walk_at "nx"
      refine ⟨_, rfl, .inl ⟨rfl, _, SqL.of hps⟩, _, rfl, _, rfl, _, _, rfl, rfl, D, _, _, rfl, rfl, hps, small' (by simp only [iV, List.length_map]; omega), ?_⟩
      walk_at "nx"
      refine ⟨_, rfl, _, rfl, _, _, rfl, rfl, ?_⟩
      refine ⟨2 ^ kk * (2 * mm), ?_, 2 ^ kk * (2 * mm), ps ++ [kk], some (.int ((2 ^ kk : Nat) : Int)), ?_, rfl, ?_, ?_, ?_, Same.put hD s1 _⟩
      · have := Nat.two_pow_pos kk
        rw [eb, Nat.mul_add]
        omega
      · show [some (V.int (Builtin.bitXor (b : Int) (Builtin.bitAnd (b : Int) (-(b : Int))))), some (V.ref D), some (V.int (Builtin.bitAnd (b : Int) (-(b : Int))))] = _
        rw [el, eb, xor_low]
      · have h1 : 2 ^ kk * (2 * mm) ≤ 2 ^ kk * (2 * mm + 1) := Nat.mul_le_mul_left _ (by omega)
        rw [eb] at hb
        omega
      · rw [upd_same, iV_snoc]
        show some (HO.lst (iV ps ++ [V.int (((Builtin.Int.intBits (Builtin.bitAnd (b : Int) (-(b : Int))) : Nat) : Int) - 1)])) = _
        rw [el, len_low]
      · rw [List.append_assoc, List.singleton_append, ← hst, ← eb]
        exact hbs
end
end Tk
namespace Tk
open PySem PySem.Spec PyProof.Rows L2 Wv
/-! ### what is gathered from a table of sets -/
def gath (n : Nat) (sp : List Nat) (b : Nat) : Nat := (bitsN n b).foldl (fun e i => e ||| sp.getD i 0) 0
theorem fold_bit (sp : List Nat) (j : Nat) : ∀ (l : List Nat) (e : Nat), (l.foldl (fun e i => e ||| sp.getD i 0) e).testBit j = (e.testBit j || l.any fun i => (sp.getD i 0).testBit j)
  | [], e => by simp
  | i :: l, e => by rw [List.foldl_cons, fold_bit sp j l, Nat.testBit_or, List.any_cons, Bool.or_assoc]
theorem gath_bit (n : Nat) (sp : List Nat) (b j : Nat) : (gath n sp b).testBit j = (bitsN n b).any fun i => (sp.getD i 0).testBit j := by
  unfold gath
  rw [fold_bit]
  simp
theorem mem_bitsN {n b i : Nat} : i ∈ bitsN n b ↔ i < n ∧ b.testBit i = true := by
  unfold bitsN
  rw [List.mem_filter, List.mem_range]
def spGath : Sp := fun vs H Q _ => ∃ (a : Addr) (sp : List Nat) (b n : Nat), vs = [.ref a, .int (b : Nat)] ∧ H a = some (.lst (iV sp)) ∧ b < 2 ^ n ∧ n ≤ 20000 ∧ n ≤ sp.length ∧ ∀ H', Same H H' → Q (.int (gath n sp b : Nat)) H'
section
variable {P : Program} {w : World} {K : PySem.W.Frag} {mg : Str → Option Value} {base : Heap}
abbrev s_gathered : Stmt := top 56
theorem sc_gathered : FnScope ["spread", "places", "ends", "place"] ["spread", "places"] (defScope s_gathered) := ⟨rfl, rfl, rfl, by decide +kernel, rfl, by decide +kernel, by decide +kernel⟩
theorem d_gathered (h : Here K mg "gathered" s_gathered ["spread", "places"]) (G_places_of : DefOk P w K mg base 1 "places_of" ["bits"] spPlaces) : DefOk P w K mg base 2 "gathered" ["spread", "places"] spGath := by
  refine h.ok sc_gathered (fun vs H Q E h => by obtain ⟨_, _, _, _, rfl, _⟩ := h; rfl) (fun f cdv A' outer s H vs Q E hr h => ?_)
  obtain ⟨a, sp, b, n, rfl, ha, hb, hn, hl, k⟩ := h
  refine ⟨_, (pss_cons (ps_set (i := 2) sc_gathered.nd rfl (Or.inl rfl) pe_int)
  (pss_cons (ps_for PassesOwn.never rfl (pi_list (pe_callD G_places_of (hr.mono (by first | decide | omega)) rfl (pa_cons (pv 1) pa_nil))) (pg_name (i := 3) sc_gathered.nd rfl (Or.inl rfl))
   (pss_one (ps_set (i := 2) sc_gathered.nd rfl (Or.inl rfl) (pe_op op_or (pv 2) (pe_ix ix_list (pv 0) (pv 3) (fun _ _ => rfl))))))
  (pss_one (ps_ret (pv 2))))), ?_⟩
  walk_at "nx"
  refine ⟨_, rfl, b, n, rfl, hb, hn, fun q H1 s1 hq => ?_⟩
  refine ⟨q, rfl, ⟨_, SqL.of hq⟩, ?_⟩
  refine for_list (K := K) (a := q) (xs := iV (bitsN n b)) (fun i σ H' => ∃ x3 : Option V, σ = [some (.ref a), some (.int (b : Nat)), some (.int (((bitsN n b).take i).foldl (fun e i => e ||| sp.getD i 0) 0 : Nat)), x3] ∧ Same H1 H') ?_ ?_ ?_ ?_
  · exact ⟨none, rfl, fun _ _ h => h⟩
  · rintro i σ H' _ ⟨_, rfl, sx⟩
    exact SqL.of (sx _ _ hq)
  · rintro i e σ H2 he ⟨x3, rfl, s2⟩
    obtain ⟨j, hj, rfl⟩ := iV_back he
    have hjn := (mem_bitsN.mp (List.mem_of_getElem? hj)).1
    obtain ⟨y, hy⟩ := get_lt (l := sp) (j := j) (by omega)
    refine gset ?_
    refine ⟨_, rfl, _, rfl, _, rfl, a, _, _, _, rfl, rfl, SqL.of (s2 _ _ (s1 _ _ ha)), atI_nat (iV_at hy), ?_⟩
    refine ⟨_, _, rfl, rfl, ?_⟩
    refine ⟨some (.int (j : Nat)), ?_, s2⟩
    have ey : sp.getD j 0 = y := by rw [List.getD_eq_getElem?_getD, hy]; rfl
    show [some (V.ref a), some (V.int (b : Nat)), some (V.int (Builtin.bitOr ((((bitsN n b).take i).foldl (fun e i => e ||| sp.getD i 0) 0 : Nat) : Int) ((y : Nat) : Int))), some (V.int (j : Nat))] = _
    rw [bitOr_nn (Int.natCast_nonneg _) (Int.natCast_nonneg _), Int.toNat_natCast, Int.toNat_natCast, take_more' hj, List.foldl_append, List.foldl_cons, List.foldl_nil, ey]
  · rintro σ H2 ⟨x3, rfl, s2⟩
    refine ⟨_, rfl, ?_⟩
    have := k H2 (s1.trans s2)
    unfold gath at this
    simp only [iV, List.length_map, List.take_length]
    exact this
end
end Tk
namespace Tk
open PySem PySem.Spec PyProof.Rows L2 Wv
/-! ### where a way might end, going back: sets of places -/
def anyN (n : Nat) (f : Nat → Bool) : Bool := (List.range (n + 1)).any f
theorem anyN_true {n : Nat} {f : Nat → Bool} : anyN n f = true ↔ ∃ r, r ≤ n ∧ f r = true := by
  unfold anyN
  rw [List.any_eq_true]
  constructor
  · rintro ⟨r, hr, h⟩
    rw [List.mem_range] at hr
    exact ⟨r, by omega, h⟩
  · rintro ⟨r, hr, h⟩
    exact ⟨r, by rw [List.mem_range]; omega, h⟩
theorem anyN_congr {n : Nat} {f g : Nat → Bool} (h : ∀ r, r ≤ n → f r = g r) : anyN n f = anyN n g := by
  rw [Bool.eq_iff_iff, anyN_true, anyN_true]
  constructor
  · rintro ⟨r, hr, q⟩; exact ⟨r, hr, by rw [← h r hr]; exact q⟩
  · rintro ⟨r, hr, q⟩; exact ⟨r, hr, by rw [h r hr]; exact q⟩
def enA (n : Nat) (f : Nat → Nat → Bool) : Nat → Nat → Nat → Bool
  | 0, p, q => decide (p = q)
  | k + 1, p, q => decide (p = q) || anyN n fun r => decide (p < r) && (f p r && enA n f k r q)
mutual
def en (z : List Nat) : W → Nat → Nat → Bool
  | .row ws, p, q => enR z ws p q
  | .choice ws, p, q => enC z ws p q
  | .again w, p, q => enA z.length (fun a b => en z w a b) (z.length + 1 - p) p q
  | .maybe w, p, q => en z w p q || decide (p = q)
  | .letter c, p, q => decide (ew z (.letter c) p = some q)
  | .one, p, q => decide (ew z .one p = some q)
  | .nothing, p, q => decide (ew z .nothing p = some q)
  | .call x, p, q => decide (ew z (.call x) p = some q)
  | .ahead w, p, q => decide (ew z (.ahead w) p = some q)
  | .unless w, p, q => decide (ew z (.unless w) p = some q)
def enR (z : List Nat) : List W → Nat → Nat → Bool
  | [], p, q => decide (p = q)
  | w :: ws, p, q => anyN z.length fun r => en z w p r && enR z ws r q
def enC (z : List Nat) : List W → Nat → Nat → Bool
  | [], _, _ => false
  | w :: ws, p, q => en z w p q || enC z ws p q
end
theorem enA_in {n : Nat} {f : Nat → Nat → Bool} (hf : ∀ p q, p ≤ n → f p q = true → p ≤ q ∧ q ≤ n) : ∀ (k p q : Nat), p ≤ n → enA n f k p q = true → p ≤ q ∧ q ≤ n
  | 0, p, q, hp, h => by
    unfold enA at h
    have := of_decide_eq_true h
    omega
  | k + 1, p, q, hp, h => by
    unfold enA at h
    rcases (Bool.or_eq_true _ _).mp h with h | h
    · have := of_decide_eq_true h
      omega
    · obtain ⟨r, hr, h⟩ := anyN_true.mp h
      rw [Bool.and_eq_true, Bool.and_eq_true] at h
      have h1 := of_decide_eq_true h.1
      have h2 := enA_in hf k r q hr h.2.2
      omega
/-- enough is enough -/
theorem enA_more {n : Nat} {f : Nat → Nat → Bool} : ∀ (k j p q : Nat), p ≤ n → n + 1 ≤ k + p → n + 1 ≤ j + p → enA n f k p q = enA n f j p q
  | 0, j, p, q, h, h1, h2 => by omega
  | k + 1, 0, p, q, h, h1, h2 => by omega
  | k + 1, j + 1, p, q, h, h1, h2 => by
    unfold enA
    congr 1
    refine anyN_congr fun r hr => ?_
    by_cases c : p < r
    · rw [enA_more k j r q hr (by omega) (by omega)]
    · rw [decide_eq_false c, Bool.false_and, Bool.false_and]
theorem ewd_in (z : List Nat) (w : W) (p q : Nat) (hp : p ≤ z.length) (h : decide (ew z w p = some q) = true) : p ≤ q ∧ q ≤ z.length := ew_in z w p q hp (of_decide_eq_true h)
mutual
theorem en_in (z : List Nat) : ∀ (w : W) (p q : Nat), p ≤ z.length → en z w p q = true → p ≤ q ∧ q ≤ z.length
  | .row ws, p, q, hp, h => by unfold en at h; exact enR_in z ws p q hp h
  | .choice ws, p, q, hp, h => by unfold en at h; exact enC_in z ws p q hp h
  | .again w, p, q, hp, h => by
    unfold en at h
    exact enA_in (fun p q hp h => en_in z w p q hp h) _ p q hp h
  | .maybe w, p, q, hp, h => by
    unfold en at h
    rcases (Bool.or_eq_true _ _).mp h with h | h
    · exact en_in z w p q hp h
    · have := of_decide_eq_true h; omega
  | .letter _, p, q, hp, h => by unfold en at h; exact ewd_in z _ p q hp h
  | .one, p, q, hp, h => by unfold en at h; exact ewd_in z _ p q hp h
  | .nothing, p, q, hp, h => by unfold en at h; exact ewd_in z _ p q hp h
  | .call _, p, q, hp, h => by unfold en at h; exact ewd_in z _ p q hp h
  | .ahead _, p, q, hp, h => by unfold en at h; exact ewd_in z _ p q hp h
  | .unless _, p, q, hp, h => by unfold en at h; exact ewd_in z _ p q hp h
theorem enR_in (z : List Nat) : ∀ (ws : List W) (p q : Nat), p ≤ z.length → enR z ws p q = true → p ≤ q ∧ q ≤ z.length
  | [], p, q, hp, h => by unfold enR at h; have := of_decide_eq_true h; omega
  | w :: ws, p, q, hp, h => by
    unfold enR at h
    obtain ⟨r, hr, h⟩ := anyN_true.mp h
    rw [Bool.and_eq_true] at h
    have h1 := en_in z w p r hp h.1
    have h2 := enR_in z ws r q hr h.2
    omega
theorem enC_in (z : List Nat) : ∀ (ws : List W) (p q : Nat), p ≤ z.length → enC z ws p q = true → p ≤ q ∧ q ≤ z.length
  | [], p, q, hp, h => by unfold enC at h; cases h
  | w :: ws, p, q, hp, h => by
    unfold enC at h
    rcases (Bool.or_eq_true _ _).mp h with h | h
    · exact en_in z w p q hp h
    · exact enC_in z ws p q hp h
end
theorem en_again (z : List Nat) (w : W) (p q : Nat) (hp : p ≤ z.length) : en z (.again w) p q = (decide (p = q) || anyN z.length fun r => decide (p < r) && (en z w p r && en z (.again w) r q)) := by
  conv => lhs; unfold en
  rw [show z.length + 1 - p = (z.length - p) + 1 by omega]
  conv => lhs; unfold enA
  congr 1
  refine anyN_congr fun r hr => ?_
  by_cases c : p < r
  · congr 2
    conv => rhs; unfold en
    exact enA_more _ _ r q hr (by omega) (by omega)
  · rw [decide_eq_false c, Bool.false_and, Bool.false_and]
theorem enR_snoc (z : List Nat) (w : W) : ∀ (ws : List W) (p q : Nat), p ≤ z.length → q ≤ z.length → enR z (ws ++ [w]) p q = anyN z.length fun r => enR z ws p r && en z w r q
  | [], p, q, hp, hq => by
    rw [List.nil_append, Bool.eq_iff_iff, anyN_true]
    unfold enR
    rw [anyN_true]
    constructor
    · rintro ⟨r, hr, h⟩
      rw [Bool.and_eq_true] at h
      unfold enR at h
      have e := of_decide_eq_true h.2
      subst e
      exact ⟨p, hp, by rw [Bool.and_eq_true]; exact ⟨decide_eq_true rfl, h.1⟩⟩
    · rintro ⟨r, hr, h⟩
      rw [Bool.and_eq_true] at h
      have e := of_decide_eq_true h.1
      subst e
      exact ⟨q, hq, by rw [Bool.and_eq_true]; exact ⟨h.2, by unfold enR; exact decide_eq_true rfl⟩⟩
  | u :: ws, p, q, hp, hq => by
    rw [List.cons_append, Bool.eq_iff_iff, anyN_true]
    unfold enR
    rw [anyN_true]
    constructor
    · rintro ⟨r, hr, h⟩
      rw [Bool.and_eq_true, enR_snoc z w ws r q hr hq, anyN_true] at h
      obtain ⟨h1, r2, hr2, h2⟩ := h
      rw [Bool.and_eq_true] at h2
      refine ⟨r2, hr2, ?_⟩
      rw [Bool.and_eq_true, anyN_true]
      exact ⟨⟨r, hr, by rw [Bool.and_eq_true]; exact ⟨h1, h2.1⟩⟩, h2.2⟩
    · rintro ⟨r2, hr2, h⟩
      rw [Bool.and_eq_true, anyN_true] at h
      obtain ⟨⟨r, hr, h1⟩, h2⟩ := h
      rw [Bool.and_eq_true] at h1
      refine ⟨r, hr, ?_⟩
      rw [Bool.and_eq_true, enR_snoc z w ws r q hr hq, anyN_true]
      exact ⟨h1.1, r2, hr2, by rw [Bool.and_eq_true]; exact ⟨h1.2, h2⟩⟩
theorem enC_snoc (z : List Nat) (w : W) : ∀ (ws : List W) (p q : Nat), enC z (ws ++ [w]) p q = (enC z ws p q || en z w p q)
  | [], p, q => by
    rw [List.nil_append]
    unfold enC
    unfold enC
    rw [Bool.or_false, Bool.false_or]
  | u :: ws, p, q => by
    rw [List.cons_append]
    conv => lhs; unfold enC
    conv => rhs; unfold enC
    rw [enC_snoc z w ws p q, Bool.or_assoc]
/-! ### a set as the bits of a number -/
def mk (n : Nat) (f : Nat → Bool) : Nat := (List.range (n + 1)).foldl (fun b i => if f i = true then b ||| 2 ^ i else b) 0
theorem mk_fold (f : Nat → Bool) (j : Nat) : ∀ (l : List Nat) (b : Nat), (l.foldl (fun b i => if f i = true then b ||| 2 ^ i else b) b).testBit j = (b.testBit j || (decide (j ∈ l) && f j))
  | [], b => by simp
  | i :: l, b => by
    rw [List.foldl_cons, mk_fold f j l]
    by_cases h : f i = true
    · rw [if_pos h, Nat.testBit_or, Nat.testBit_two_pow]
      by_cases e : i = j
      · subst e; simp [h]
      · have e' : ¬ j = i := fun q => e q.symm
        simp [e, e']
    · rw [if_neg h]
      by_cases e : j = i
      · subst e; simp [h]
      · simp [e]
theorem mk_bit (n : Nat) (f : Nat → Bool) (j : Nat) : (mk n f).testBit j = (decide (j ≤ n) && f j) := by
  unfold mk
  rw [mk_fold, Nat.zero_testBit, Bool.false_or]
  congr 1
  rw [decide_eq_decide, List.mem_range]
  omega
theorem mk_lt (n : Nat) (f : Nat → Bool) : mk n f < 2 ^ (n + 1) := by
  refine Nat.lt_pow_two_of_testBit _ fun i hi => ?_
  rw [mk_bit, decide_eq_false (by omega), Bool.false_and]
theorem mk_congr {n : Nat} {f g : Nat → Bool} (h : ∀ r, r ≤ n → f r = g r) : mk n f = mk n g := by
  refine Nat.eq_of_testBit_eq fun i => ?_
  rw [mk_bit, mk_bit]
  by_cases c : i ≤ n
  · rw [h i c]
  · rw [decide_eq_false c, Bool.false_and, Bool.false_and]
theorem mk_or (n : Nat) (f g : Nat → Bool) : mk n f ||| mk n g = mk n fun r => f r || g r := by
  refine Nat.eq_of_testBit_eq fun i => ?_
  rw [Nat.testBit_or, mk_bit, mk_bit, mk_bit, Bool.and_or_distrib_left]
theorem mk_one {n p : Nat} (h : p ≤ n) : 2 ^ p = mk n fun r => decide (p = r) := by
  refine Nat.eq_of_testBit_eq fun i => ?_
  rw [mk_bit, Nat.testBit_two_pow]
  by_cases c : p = i
  · subst c; simp [h]
  · simp [c]
theorem mk_none (n : Nat) : 0 = mk n fun _ => false := by
  refine Nat.eq_of_testBit_eq fun i => ?_
  rw [mk_bit, Nat.zero_testBit, Bool.and_false]
theorem bits_mk (n : Nat) (f : Nat → Bool) : bitsN (n + 1) (mk n f) = (List.range (n + 1)).filter f := by
  unfold bitsN
  refine List.filter_congr fun i hi => ?_
  rw [List.mem_range] at hi
  rw [mk_bit, decide_eq_true (by omega), Bool.true_and]
/-- the table of a way: at each place where it might end -/
def mks (z : List Nat) (w : W) : List Nat := (List.range (z.length + 1)).map fun p => mk z.length (en z w p)
theorem mks_len (z : List Nat) (w : W) : (mks z w).length = z.length + 1 := by simp [mks]
theorem mks_at {z : List Nat} {w : W} {p : Nat} (h : p ≤ z.length) : (mks z w)[p]? = some (mk z.length (en z w p)) := by
  unfold mks
  rw [List.getElem?_map, List.getElem?_range (by omega)]
  rfl
theorem mks_getD {z : List Nat} {w : W} {p : Nat} (h : p ≤ z.length) : (mks z w).getD p 0 = mk z.length (en z w p) := by
  rw [List.getD_eq_getElem?_getD, mks_at h]
  rfl
theorem gath_of {n : Nat} {sp : List Nat} {f : Nat → Bool} {g : Nat → Nat → Bool} (h : ∀ r, r ≤ n → f r = true → sp.getD r 0 = mk n (g r)) : gath (n + 1) sp (mk n f) = mk n fun q => anyN n fun r => f r && g r q := by
  refine Nat.eq_of_testBit_eq fun i => ?_
  rw [gath_bit, mk_bit, bits_mk, Bool.eq_iff_iff, List.any_eq_true, Bool.and_eq_true, anyN_true, decide_eq_true_iff]
  constructor
  · rintro ⟨r, hr, hb⟩
    rw [List.mem_filter, List.mem_range] at hr
    rw [h r (by omega) hr.2, mk_bit, Bool.and_eq_true, decide_eq_true_iff] at hb
    exact ⟨hb.1, r, by omega, by rw [Bool.and_eq_true]; exact ⟨hr.2, hb.2⟩⟩
  · rintro ⟨hi, r, hr, hb⟩
    rw [Bool.and_eq_true] at hb
    refine ⟨r, by rw [List.mem_filter, List.mem_range]; exact ⟨by omega, hb.1⟩, ?_⟩
    rw [h r hr hb.1, mk_bit, Bool.and_eq_true, decide_eq_true_iff]
    exact ⟨hi, hb.2⟩
theorem gath_mks (z : List Nat) (w : W) (f : Nat → Bool) : gath (z.length + 1) (mks z w) (mk z.length f) = mk z.length fun q => anyN z.length fun r => f r && en z w r q := gath_of fun r hr _ => mks_getD hr
theorem add_or : ∀ (n a b : Nat), a ≤ n → a &&& b = 0 → a + b = a ||| b
  | 0, a, b, h, _ => by
    have e : a = 0 := by omega
    subst e
    simp
  | n + 1, a, b, h, h0 => by
    by_cases e : a = 0
    · subst e; simp
    have h1 : a / 2 &&& b / 2 = 0 := by rw [← Nat.and_div_two, h0]
    have ih := add_or n (a / 2) (b / 2) (by omega) h1
    have h2 : (a ||| b) / 2 = a / 2 ||| b / 2 := Nat.or_div_two
    have h3 : ¬ (a % 2 = 1 ∧ b % 2 = 1) := fun q => by
      have := Nat.and_mod_two_eq_one.mpr q
      rw [h0] at this
      cases this
    have h4 : (a ||| b) % 2 = 1 ↔ a % 2 = 1 ∨ b % 2 = 1 := Nat.or_mod_two_eq_one
    have h5 := Nat.div_add_mod (a ||| b) 2
    by_cases ca : a % 2 = 1
    · have := h4.mpr (.inl ca)
      have : b % 2 = 0 := by have := h3; omega
      omega
    · by_cases cb : b % 2 = 1
      · have := h4.mpr (.inr cb)
        omega
      · have : ¬ (a ||| b) % 2 = 1 := fun q => by rcases h4.mp q with q | q <;> omega
        omega
/-- spread[m] & ~(1 << m) -/
theorem not_self {n : Nat} (f : Nat → Bool) (m : Nat) : Builtin.bitAnd ((mk n f : Nat) : Int) (Builtin.bitNot ((2 : Int) ^ m)) = ((mk n fun r => f r && !decide (m = r) : Nat) : Int) := by
  have h2 : ((2 : Int) ^ m) = ((2 ^ m : Nat) : Int) := by rw [Int.natCast_pow]; rfl
  have hp := Nat.two_pow_pos m
  unfold Builtin.bitAnd
  rw [decide_eq_true (show (0 : Int) ≤ ((mk n f : Nat) : Int) from Int.natCast_nonneg _), decide_eq_false (show ¬ (0 : Int) ≤ Builtin.bitNot ((2 : Int) ^ m) by rw [h2]; unfold Builtin.bitNot; omega)]
  show ((mk n f : Nat) : Int) - ((((mk n f : Nat) : Int).toNat &&& (Builtin.bitNot (Builtin.bitNot ((2 : Int) ^ m))).toNat : Nat) : Int) = _
  have e : (Builtin.bitNot (Builtin.bitNot ((2 : Int) ^ m))).toNat = 2 ^ m := by rw [h2]; unfold Builtin.bitNot; omega
  rw [e, Int.toNat_natCast]
  have key : mk n f = (mk n fun r => f r && !decide (m = r)) + (mk n f &&& 2 ^ m) := by
    rw [add_or _ _ _ (Nat.le_refl _)]
    · refine Nat.eq_of_testBit_eq fun i => ?_
      rw [Nat.testBit_or, Nat.testBit_and, mk_bit, mk_bit, Nat.testBit_two_pow]
      by_cases q : m = i
      · subst q; simp
      · simp [q]
    · refine Nat.eq_of_testBit_eq fun i => ?_
      rw [Nat.testBit_and, Nat.testBit_and, mk_bit, mk_bit, Nat.testBit_two_pow, Nat.zero_testBit]
      by_cases q : m = i
      · subst q; simp
      · simp [q]
  omega
end Tk
namespace Tk
open PySem PySem.Spec PyProof.Rows L2 Wv
/-! ### tables of all ends -/
def MabsAt (z : List Nat) (H : Hp) : List V → List W → Prop
  | vs, [] => vs = []
  | vs, w :: ws => ∃ a us, vs = V.ref a :: us ∧ H a = some (.lst (iV (mks z w))) ∧ MabsAt z H us ws
theorem MabsAt.len {z : List Nat} {H : Hp} : ∀ (ws : List W) (vs : List V), MabsAt z H vs ws → vs.length = ws.length
  | [], vs, h => by rw [show vs = [] from h]; rfl
  | w :: ws, vs, ⟨a, us, e, _, h⟩ => by rw [e, List.length_cons, List.length_cons, MabsAt.len ws us h]
theorem MabsAt.at_ {z : List Nat} {H : Hp} : ∀ (ws : List W) (vs : List V) (j : Nat) (v : V), MabsAt z H vs ws → vs[j]? = some v → ∃ a w, v = .ref a ∧ ws[j]? = some w ∧ H a = some (.lst (iV (mks z w)))
  | [], vs, j, v, h, e => by rw [show vs = [] from h] at e; simp at e
  | w :: ws, vs, 0, v, ⟨a, us, ev, hu, h⟩, e => by
    rw [ev] at e
    exact ⟨a, w, (Option.some.inj e).symm, rfl, hu⟩
  | w :: ws, vs, j + 1, v, ⟨a, us, ev, hu, h⟩, e => by
    rw [ev] at e
    obtain ⟨b, x, h1, h2, h3⟩ := MabsAt.at_ ws us j v h (by simpa using e)
    exact ⟨b, x, h1, by simpa using h2, h3⟩
theorem MabsAt.of {z : List Nat} {H : Hp} : ∀ (ws : List W) (vs : List V), vs.length = ws.length → (∀ (j : Nat) (w : W), ws[j]? = some w → ∃ a, vs[j]? = some (.ref a) ∧ H a = some (.lst (iV (mks z w)))) → MabsAt z H vs ws
  | [], vs, hl, _ => List.eq_nil_of_length_eq_zero hl
  | w :: ws, [], hl, _ => by simp at hl
  | w :: ws, v :: vs, hl, h => by
    obtain ⟨a, h1, h2⟩ := h 0 w rfl
    have e : v = .ref a := Option.some.inj h1
    subst e
    exact ⟨a, vs, rfl, h2, MabsAt.of ws vs (by simpa using hl) fun j x hx => by
      obtain ⟨b, h3, h4⟩ := h (j + 1) x (by simpa using hx)
      exact ⟨b, by simpa using h3, h4⟩⟩
theorem MabsAt.keep {z : List Nat} {H H' : Hp} (k : Same H H') : ∀ (ws : List W) (vs : List V), MabsAt z H vs ws → MabsAt z H' vs ws
  | [], _, h => h
  | w :: ws, vs, ⟨a, us, e, hu, h⟩ => ⟨a, us, e, k _ _ hu, MabsAt.keep k ws us h⟩
theorem int_pow (p : Nat) : ((2 : Int) ^ p) = ((2 ^ p : Nat) : Int) := by rw [Int.natCast_pow]; rfl
theorem or_mk (n : Nat) (f g : Nat → Bool) : Builtin.bitOr ((mk n f : Nat) : Int) ((mk n g : Nat) : Int) = ((mk n fun r => f r || g r : Nat) : Int) := by
  rw [bitOr_nn (Int.natCast_nonneg _) (Int.natCast_nonneg _), Int.toNat_natCast, Int.toNat_natCast, mk_or]
def spRowM (z : List Nat) : Sp := fun vs H Q _ => ∃ (a : Addr) (ts : List V) (ws : List W) (p : Nat), vs = [.ref a, .int (p : Nat)] ∧ H a = some (.lst ts) ∧ MabsAt z H ts ws ∧ p ≤ z.length ∧ z.length ≤ 10000 ∧ ∀ H', Same H H' → Q (.int (mk z.length (enR z ws p) : Nat)) H'
def spChM (z : List Nat) : Sp := fun vs H Q _ => ∃ (a : Addr) (ts : List V) (ws : List W) (p : Nat), vs = [.ref a, .int (p : Nat)] ∧ H a = some (.lst ts) ∧ MabsAt z H ts ws ∧ p ≤ z.length ∧ z.length ≤ 10000 ∧ Q (.int (mk z.length (enC z ws p) : Nat)) H
def spAgM (z : List Nat) : Sp := fun vs H Q _ => ∃ (a : Addr) (w : W), vs = [.ref a] ∧ H a = some (.lst (iV (mks z w))) ∧ z.length ≤ 10000 ∧ ∀ (q : Addr) (H' : Hp), Same H H' → H q = none → H' q = some (.lst (iV (mks z (.again w)))) → Q (.ref q) H'
/-- the table of rounds, from this place on -/
def agN (z : List Nat) (w : W) (m : Nat) : List Nat := (List.range (z.length + 1)).map fun p => if m ≤ p then mk z.length (en z (.again w) p) else 2 ^ p
theorem agN_zero (z : List Nat) (w : W) : agN z w 0 = mks z (.again w) := by
  unfold agN mks
  refine List.map_congr_left fun p hp => ?_
  rw [if_pos (Nat.zero_le _)]
theorem agN_len (z : List Nat) (w : W) (m : Nat) : (agN z w m).length = z.length + 1 := by simp [agN]
theorem agN_at {z : List Nat} {w : W} {m p : Nat} (h : p ≤ z.length) : (agN z w m)[p]? = some (if m ≤ p then mk z.length (en z (.again w) p) else 2 ^ p) := by
  unfold agN
  rw [List.getElem?_map, List.getElem?_range (by omega)]
  rfl
theorem agN_set {z : List Nat} {w : W} {m : Nat} (h : m ≤ z.length) : (iV (agN z w (m + 1))).set m (.int (mk z.length (en z (.again w) m) : Nat)) = iV (agN z w m) := by
  unfold iV
  rw [show (V.int ((mk z.length (en z (.again w) m) : Nat) : Int)) = (fun n : Nat => V.int (n : Nat)) (mk z.length (en z (.again w) m)) from rfl, ← List.map_set]
  congr 1
  refine List.ext_getElem? fun p => ?_
  by_cases hp : p ≤ z.length
  · by_cases e : p = m
    · subst e
      rw [List.getElem?_set_self (by rw [agN_len]; omega), agN_at hp, if_pos (Nat.le_refl _)]
    · rw [List.getElem?_set_ne (Ne.symm e), agN_at hp, agN_at hp]
      by_cases c : m ≤ p
      · rw [if_pos c, if_pos (by omega)]
      · rw [if_neg c, if_neg (by omega)]
  · rw [List.getElem?_eq_none (by rw [List.length_set, agN_len]; omega), List.getElem?_eq_none (by rw [agN_len]; omega)]
theorem again_mask {z : List Nat} {w : W} {m : Nat} (h : m ≤ z.length) : (mk z.length fun r => decide (m = r)) ||| gath (z.length + 1) (agN z w (m + 1)) (mk z.length fun r => en z w m r && !decide (m = r)) = mk z.length (en z (.again w) m) := by
  rw [gath_of (g := fun r q => en z (.again w) r q), mk_or]
  · refine mk_congr fun q hq => ?_
    rw [en_again z w m q h]
    congr 1
    refine anyN_congr fun r hr => ?_
    by_cases c : en z w m r = true
    · have := en_in z w m r h c
      by_cases e : m = r
      · subst e; simp
      · rw [decide_eq_true (show m < r by omega), decide_eq_false e, c]; rfl
    · have c' : en z w m r = false := by simpa using c
      rw [c']; simp
  · intro r hr hf
    rw [Bool.and_eq_true] at hf
    have h1 := en_in z w m r h hf.1
    have h2 : ¬ m = r := by simpa using hf.2
    rw [List.getD_eq_getElem?_getD, agN_at hr, if_pos (by omega)]
    rfl
section
variable {P : Program} {w : World} {K : PySem.W.Frag} {mg : Str → Option Value} {base : Heap} {z : List Nat}
abbrev s_all_ends_of_row : Stmt := top 53
theorem sc_all_ends_of_row : FnScope ["inner", "place", "ends", "spread"] ["inner", "place"] (defScope s_all_ends_of_row) := ⟨rfl, rfl, rfl, by decide +kernel, rfl, by decide +kernel, by decide +kernel⟩
theorem d_all_ends_of_row (h : Here K mg "all_ends_of_row" s_all_ends_of_row ["inner", "place"]) (G_gathered : DefOk P w K mg base 2 "gathered" ["spread", "places"] spGath) : DefOk P w K mg base 3 "all_ends_of_row" ["inner", "place"] (spRowM z) := by
  refine h.ok sc_all_ends_of_row (fun vs H Q E h => by obtain ⟨_, _, _, _, rfl, _⟩ := h; rfl) (fun f cdv A' outer s H vs Q E hr h => ?_)
  obtain ⟨a, ts, ws, p, rfl, ha, hts, hp, hz, k⟩ := h
  refine ⟨_, (pss_cons (ps_set (i := 2) sc_all_ends_of_row.nd rfl (Or.inl rfl) (pe_op op_oneShl pe_int (pv 1)))
  (pss_cons (ps_for PassesOwn.never rfl (pi_list (pv 0)) (pg_name (i := 3) sc_all_ends_of_row.nd rfl (Or.inl rfl))
   (pss_one (ps_set (i := 2) sc_all_ends_of_row.nd rfl (Or.inl rfl) (pe_callD G_gathered (hr.mono (by first | decide | omega)) rfl (pa_cons (pv 3) (pa_cons (pv 2) pa_nil))))))
  (pss_one (ps_ret (pv 2))))), ?_⟩
  refine ⟨_, rfl, p, rfl, rfl, by omega, ?_⟩
  walk_at "nx"
  refine ⟨_, rfl, a, rfl, ⟨_, SqL.of ha⟩, ?_⟩
  have ll := MabsAt.len _ _ hts
  refine for_list (K := K) (a := a) (xs := ts) (fun i σ H' => ∃ (x3 : Option V), σ = [some (.ref a), some (.int (p : Nat)), some (.int (mk z.length (enR z (ws.take i) p) : Nat)), x3] ∧ Same H H') ?_ ?_ ?_ ?_
  · refine ⟨none, ?_, fun _ _ h => h⟩
    have e : (2 : Int) ^ p = ((mk z.length (enR z (ws.take 0) p) : Nat) : Int) := by
      rw [int_pow, mk_one hp]
      congr 1
    rw [← e]
    rfl
  · rintro i σ H' _ ⟨_, rfl, s1⟩
    exact SqL.of (s1 _ _ ha)
  · rintro i e σ H1 he ⟨x3, rfl, s1⟩
    obtain ⟨b, wy, rfl, hw, hb⟩ := MabsAt.at_ _ _ _ _ hts he
    refine gset ?_
    refine ⟨_, rfl, _, rfl, b, mks z wy, _, z.length + 1, rfl, s1 _ _ hb, mk_lt _ _, by omega, by rw [mks_len]; exact Nat.le_refl _, fun H2 s2 => ?_⟩
    refine ⟨some (.ref b), ?_, s1.trans s2⟩
    rw [gath_mks, take_more' hw, mk_congr (g := enR z (ws.take i ++ [wy]) p) fun q hq => (enR_snoc z wy (ws.take i) p q hp hq).symm]
    rfl
  · rintro σ H1 ⟨x3, rfl, s1⟩
    rw [ll, List.take_length]
    exact ⟨_, rfl, k H1 s1⟩
abbrev s_all_ends_of_choice : Stmt := top 54
theorem sc_all_ends_of_choice : FnScope ["inner", "place", "ends", "spread"] ["inner", "place"] (defScope s_all_ends_of_choice) := ⟨rfl, rfl, rfl, by decide +kernel, rfl, by decide +kernel, by decide +kernel⟩
theorem d_all_ends_of_choice (h : Here K mg "all_ends_of_choice" s_all_ends_of_choice ["inner", "place"]) : DefOk P w K mg base 1 "all_ends_of_choice" ["inner", "place"] (spChM z) := by
  refine h.ok sc_all_ends_of_choice (fun vs H Q E h => by obtain ⟨_, _, _, _, rfl, _⟩ := h; rfl) (fun f cdv A' outer s H vs Q E hr h => ?_)
  obtain ⟨a, ts, ws, p, rfl, ha, hts, hp, hz, k⟩ := h
  refine ⟨_, (pss_cons (ps_set (i := 2) sc_all_ends_of_choice.nd rfl (Or.inl rfl) pe_int)
  (pss_cons (ps_for PassesOwn.never rfl (pi_list (pv 0)) (pg_name (i := 3) sc_all_ends_of_choice.nd rfl (Or.inl rfl))
   (pss_one (ps_set (i := 2) sc_all_ends_of_choice.nd rfl (Or.inl rfl) (pe_op op_or (pv 2) (pe_ix ix_list (pv 3) (pv 1) (fun _ _ => rfl))))))
  (pss_one (ps_ret (pv 2))))), ?_⟩
  walk_at "nx"
  refine ⟨_, rfl, a, rfl, ⟨_, SqL.of ha⟩, ?_⟩
  have ll := MabsAt.len _ _ hts
  refine for_list (K := K) (a := a) (xs := ts) (fun i σ H' => ∃ (x3 : Option V), σ = [some (.ref a), some (.int (p : Nat)), some (.int (mk z.length (enC z (ws.take i) p) : Nat)), x3] ∧ H' = H) ?_ ?_ ?_ ?_
  · refine ⟨none, ?_, rfl⟩
    have e : (0 : Int) = ((mk z.length (enC z (ws.take 0) p) : Nat) : Int) := by
      have := mk_none z.length
      rw [show mk z.length (enC z (ws.take 0) p) = 0 from (mk_congr fun q _ => rfl).trans this.symm]
      rfl
    rw [← e]
    rfl
  · rintro i σ H' _ ⟨_, rfl, rfl⟩
    exact SqL.of ha
  · rintro i e σ H1 he ⟨x3, rfl, rfl⟩
    obtain ⟨b, wy, rfl, hw, hb⟩ := MabsAt.at_ _ _ _ _ hts he
    refine gset ?_
    refine ⟨_, rfl, _, rfl, _, rfl, b, _, _, _, rfl, rfl, SqL.of hb, atI_nat (iV_at (mks_at hp)), ?_⟩
    refine ⟨_, _, rfl, rfl, ?_⟩
    refine ⟨some (.ref b), ?_, rfl⟩
    show [some (V.ref a), some (V.int (p : Nat)), some (V.int (Builtin.bitOr ((mk z.length (enC z (ws.take i) p) : Nat) : Int) ((mk z.length (en z wy p) : Nat) : Int))), some (V.ref b)] = _
    rw [or_mk, take_more' hw, mk_congr (g := enC z (ws.take i ++ [wy]) p) fun q hq => (enC_snoc z wy (ws.take i) p q).symm]
  · rintro σ H1 ⟨x3, rfl, rfl⟩
    rw [ll, List.take_length]
    exact ⟨_, rfl, k⟩
abbrev s_all_ends_of_again : Stmt := top 55
theorem sc_all_ends_of_again : FnScope ["spread", "place", "result", "taken"] ["spread"] (defScope s_all_ends_of_again) := ⟨rfl, rfl, rfl, by decide +kernel, rfl, by decide +kernel, by decide +kernel⟩
theorem d_all_ends_of_again (h : Here K mg "all_ends_of_again" s_all_ends_of_again ["spread"]) (B : Bs mg) (G_gathered : DefOk P w K mg base 2 "gathered" ["spread", "places"] spGath) : DefOk P w K mg base 3 "all_ends_of_again" ["spread"] (spAgM z) := by
  have B_len := B.len; have B_list := B.list; have B_range := B.range; have B_reversed := B.reversed
  refine h.ok sc_all_ends_of_again (fun vs H Q E h => by obtain ⟨_, _, rfl, _⟩ := h; rfl) (fun f cdv A' outer s H vs Q E hr h => ?_)
  obtain ⟨a, y, rfl, ha, hz, k⟩ := h
  refine ⟨_, (pss_cons (ps_setLc (i := 2) (own := [("place", 1)]) (g := (gName 1)) (tt := tYes) rfl sc_all_ends_of_again.nd rfl rfl (sw_true rfl rfl rfl (by decide +kernel)) (pi_range1 rfl B_range (pa_cons (pe_callB call_len_seq rfl B_len PySem.boot_len (pa_cons (pv 0) pa_nil)) pa_nil)) (blkOk_by (own := [("place", 1)]) (N := ["spread", "place", "result", "taken"]) (sc := defScope s_all_ends_of_again) (by decide +kernel)) (fun _ _ _ _ _ => pg_name (i := 1) sc_all_ends_of_again.nd rfl (Or.inl rfl)) (fun _ _ _ _ _ => pts_nil) (fun _ _ _ _ _ => (pe_op op_oneShl pe_int (pv 1))))
  (pss_cons (ps_for PassesOwn.never rfl (pi_revR rfl B_reversed (prg_1 rfl B_range (pe_callB call_len_seq rfl B_len PySem.boot_len (pa_cons (pv 0) pa_nil)))) (pg_name (i := 1) sc_all_ends_of_again.nd rfl (Or.inl rfl))
   (pss_cons (ps_set (i := 3) sc_all_ends_of_again.nd rfl (Or.inl rfl) (pe_op op_and (pe_ix ix_list (pv 0) (pv 1) (fun _ _ => rfl)) (pe_un un_inv (pe_op op_oneShl pe_int (pv 1)))))
  (pss_one (ps_asg (pe_op op_or (pe_ix ix_list (pv 2) (pv 1) (fun _ _ => rfl)) (pe_callD G_gathered (hr.mono (by first | decide | omega)) rfl (pa_cons (pv 2) (pa_cons (pv 3) pa_nil)))) (pg_sub (pv 2) (pv 1) set_list)))))
  (pss_one (ps_ret (pv 2))))), ?_⟩
  have hlen : (iV (mks z y)).length = z.length + 1 := by simp only [iV, List.length_map, mks_len]
  refine ⟨_, rfl, a, _, rfl, .inl (SqL.of ha), _, rfl, by rw [hlen]; omega, by rw [hlen]; omega, fun q hq => ?_⟩
  rw [hlen, show (((z.length + 1 : Nat) : Int)).toNat = z.length + 1 by omega]
  refine lc_range (fun i Hx => Hx q = some (.lst ((iV (agN z y (z.length + 1))).take i)) ∧ Same H Hx) ?_ ?_ ?_
  · exact ⟨upd_same, Same.new hq _⟩
  · rintro i Hx hi ⟨hd, sx⟩
    rw [Int.zero_add]
    have hi' : i ≤ z.length := by omega
    refine ⟨rfl, _, rfl, i, rfl, rfl, by omega, _, hd, small' (by rw [List.length_take]; simp only [iV, List.length_map, agN_len]; omega), ?_, Same.put hq sx _⟩
    rw [upd_same, take_more' (iV_at (agN_at (z := z) (w := y) (m := z.length + 1) hi')), if_neg (by omega), int_pow]
  · rintro H1 ⟨hq1, s1⟩
    rw [List.take_of_length_le (by simp only [iV, List.length_map, agN_len]; omega)] at hq1
    walk_at "nx"
    refine ⟨_, rfl, a, _, rfl, .inl (SqL.of (s1 _ _ ha)), _, rfl, ?_⟩
    rw [hlen]
    refine ⟨by omega, by omega, by omega, by omega, ?_⟩
    rw [show ((((z.length + 1 : Nat) : Int) - 0).toNat) = z.length + 1 by omega]
    refine for_rangeC (fun i σ H' => ∃ (x1 x3 : Option V), σ = [some (.ref a), x1, some (.ref q), x3] ∧ H' q = some (.lst (iV (agN z y (z.length + 1 - i)))) ∧ Same H H') ?_ ?_ ?_
    · exact ⟨_, none, rfl, hq1, s1⟩
    · rintro i σ H2 hi ⟨x1, x3, rfl, hq2, s2⟩
      have ep : (0 : Int) + ((z.length + 1 : Nat) : Int) - 1 + (i : Nat) * (-1) = ((z.length - i : Nat) : Int) := by omega
      rw [ep]
      have hm : z.length + 1 - i = (z.length - i) + 1 := by omega
      rw [hm] at hq2
      have hm2 : z.length + 1 - (i + 1) = z.length - i := by omega
      have hle : z.length - i ≤ z.length := Nat.sub_le _ _
      rw [hm2]
      generalize z.length - i = m at *
      refine gset ?_
      have ha2 := s2 _ _ ha
      refine ⟨_, rfl, _, rfl, a, _, _, _, rfl, rfl, SqL.of ha2, atI_nat (iV_at (mks_at hle)), _, rfl, m, rfl, rfl, by omega, _, rfl, _, _, rfl, rfl, ?_⟩
      walk_at "nx"
      simp only [not_self]
      refine ⟨_, rfl, _, rfl, q, _, _, _, rfl, rfl, SqL.of hq2, atI_nat (iV_at (agN_at hle)), ?_⟩
      rw [if_neg (by omega)]
      refine ⟨_, rfl, _, rfl, q, agN z y (m + 1), _, z.length + 1, rfl, hq2, mk_lt _ _, by omega, by rw [agN_len]; exact Nat.le_refl _, fun H3 s3 => ?_⟩
      refine ⟨_, _, rfl, rfl, ?_⟩
      refine ⟨_, rfl, _, rfl, q, _, _, _, rfl, rfl, s3 _ _ hq2, ix_nat (by simp only [iV, List.length_map, agN_len]; omega), ?_⟩
      have e1 : Builtin.bitOr ((2 ^ m : Nat) : Int) ((gath (z.length + 1) (agN z y (m + 1)) (mk z.length fun r => en z y m r && !decide (m = r)) : Nat) : Int) = ((mk z.length (en z (.again y) m) : Nat) : Int) := by
        rw [bitOr_nn (Int.natCast_nonneg _) (Int.natCast_nonneg _), Int.toNat_natCast, Int.toNat_natCast, ← again_mask hle, ← mk_one hle]
      refine ⟨_, _, rfl, ?_, Same.put hq (s2.trans s3) _⟩
      rw [upd_same]
      show some (HO.lst ((iV (agN z y (m + 1))).set m (.int (Builtin.bitOr ((2 ^ m : Nat) : Int) ((gath (z.length + 1) (agN z y (m + 1)) (mk z.length fun r => en z y m r && !decide (m = r)) : Nat) : Int))))) = _
      rw [e1, agN_set hle]
    · rintro σ H2 ⟨x1, x3, rfl, hq2, s2⟩
      rw [Nat.sub_self, agN_zero] at hq2
      exact ⟨_, rfl, k q H2 s2 hq hq2⟩
end
end Tk
namespace Tk
open PySem PySem.Spec PyProof.Rows L2 Wv
/-! ### the table of all ends of a part, all tables, and ends -/
theorem mk_comp {te : TE} {a0 a1 a2 x4 : Option V} {r : Addr} {H1 : Hp} {Q : VK} {z : List Nat} {w : W} (hr : H1 r = some (.rng 0 ((z.length + 1 : Nat) : Int))) (hz : z.length ≤ 10000)
    (hs : ∀ (i : Nat) (Hx : Hp), i ≤ z.length → Same H1 Hx → ∀ Q' : VK, (∀ H2, Same Hx H2 → Q' (.int (mk z.length (en z w i) : Nat)) H2) → te [a0, a1, a2, some (.ref r), x4, some (.int (i : Nat))] Hx Q')
    (k : ∀ (q : Addr) (H' : Hp), Same H1 H' → H1 q = none → H' q = some (.lst (iV (mks z w))) → Q (.ref q) H') : tLc (iRg (tRgV (tVar 3))) (gName 5) tYes te [5] [a0, a1, a2, some (.ref r), x4, none] H1 Q := by
  refine ⟨_, rfl, r, _, _, rfl, hr, ⟨by omega, by omega, by omega, by omega⟩, fun D hD => ?_⟩
  rw [show (((z.length + 1 : Nat) : Int) - 0).toNat = z.length + 1 by omega]
  have hl : (iV (mks z w)).length = z.length + 1 := by simp only [iV, List.length_map, mks_len]
  refine lc_range (fun i Hx => Hx D = some (.lst ((iV (mks z w)).take i)) ∧ Same H1 Hx) ?_ ?_ ?_
  · exact ⟨upd_same, Same.new hD _⟩
  · rintro i Hx hi ⟨hd, sx⟩
    rw [Int.zero_add]
    refine ⟨rfl, ?_⟩
    refine hs i Hx (by omega) sx _ fun H2 s2 => ⟨_, s2 _ _ hd, small' (by rw [List.length_take, hl]; omega), ?_, Same.put hD (sx.trans s2) _⟩
    rw [upd_same, take_more' (iV_at (mks_at (z := z) (w := w) (p := i) (by omega)))]
  · rintro Hx ⟨hd, sx⟩
    rw [List.take_of_length_le (by rw [hl]; exact Nat.le_refl _)] at hd
    exact k D Hx sx hD hd
def spPartM (z : List Nat) : Sp := fun vs H Q _ => ∃ (w : W) (a e : Addr) (ts : List V), vs = [.int (w.kind : Nat), .ref a, .ref e] ∧ H a = some (.lst ts) ∧ MabsAt z H ts w.inner ∧ H e = some (.lst (tab z w)) ∧ w.kind < 9 ∧ z.length ≤ 10000 ∧
  ∀ (q : Addr) (H' : Hp), Same H H' → H q = none → H' q = some (.lst (iV (mks z w))) → Q (.ref q) H'
def spMabs (C : Addr) : Sp := fun vs H Q _ => ∃ (a : Addr) (w : W) (z y : List Nat) (H0 : Hp), vs = [.ref a, .str (tx z)] ∧ LaidAt C H0 H a w ∧ w.wf y ∧ w.size ≤ 100 ∧ z.length ≤ 10000 ∧
  ∀ (H' : Hp) (q : Addr) (ts : List V), Same H H' → H' q = some (.lst ts) → MabsAt z H' ts w.parts → Q (.ref q) H'
/-- the numbers that ends tells -/
def endL (z : List Nat) (w : W) (p : Nat) : List Int := ((List.range (z.length + 1)).filter (en z w p)).map fun q => (((q : Nat) : Int) - ((p : Nat) : Int))
def spEnds (c : Cs) : Sp := fun vs H Q _ => ∃ (v : V) (w : W) (z y : List Nat) (p : Nat), vs = [v, .str (tx z), .int (p : Nat)] ∧ ObjAt c H v w ∧ w.wf y ∧ w.size ≤ 100 ∧ z.length ≤ 10000 ∧ p ≤ z.length ∧
  ∀ (q : Addr) (H' : Hp), Same H H' → H' q = some (.lst ((endL z w p).map V.int)) → Q (.ref q) H'
section
variable {P : Program} {w : World} {K : PySem.W.Frag} {mg : Str → Option Value} {base : Heap} {z : List Nat} {C : Addr} {c : Cs}
abbrev s_all_ends_of_part : Stmt := top 52
theorem sc_all_ends_of_part : FnScope ["kind", "inner", "ends", "places", "end", "place"] ["kind", "inner", "ends"] (defScope s_all_ends_of_part) := ⟨rfl, rfl, rfl, by decide +kernel, rfl, by decide +kernel, by decide +kernel⟩
theorem d_all_ends_of_part (h : Here K mg "all_ends_of_part" s_all_ends_of_part ["kind", "inner", "ends"]) (B : Bs mg) (Cn : Kn mg) (G_all_ends_of_row : DefOk P w K mg base 3 "all_ends_of_row" ["inner", "place"] (spRowM z)) (G_all_ends_of_choice : DefOk P w K mg base 1 "all_ends_of_choice" ["inner", "place"] (spChM z))
    (G_all_ends_of_again : DefOk P w K mg base 3 "all_ends_of_again" ["spread"] (spAgM z)) : DefOk P w K mg base 4 "all_ends_of_part" ["kind", "inner", "ends"] (spPartM z) := by
  have B_len := B.len; have B_range := B.range
  have GC_NOWHERE := Cn.n; have GC_ROW := Cn.c.k3; have GC_CHOICE := Cn.c.k4; have GC_AGAIN := Cn.c.k5; have GC_MAYBE := Cn.c.k6
  refine h.ok sc_all_ends_of_part (fun vs H Q E h => by obtain ⟨_, _, _, _, rfl, _⟩ := h; rfl) (fun f cdv A' outer s H vs Q E hr h => ?_)
  obtain ⟨x, a, e0, ts, rfl, ha, hts, he0, hk, hz, k⟩ := h
  refine ⟨_, (pss_cons (ps_set (i := 3) sc_all_ends_of_part.nd rfl (Or.inl rfl) (pe_callTy cr_range1 rfl B_range (by decide +kernel) (pa_cons (pe_callB call_len_seq rfl B_len PySem.boot_len (pa_cons (pv 2) pa_nil)) pa_nil)))
  (pss_cons (ps_if (pt_cmpR op_eq (pv 0) (pe_globI rfl GC_ROW) (nomark _)) (pss_one (ps_ret (pe_lc (own := [("place", 5)]) (g := (gName 5)) (tt := tYes) rfl sc_all_ends_of_part.nd (pi_rg (prg_v (pv 3))) (blkOk_by (own := [("place", 5)]) (N := ["kind", "inner", "ends", "places", "end", "place"]) (sc := defScope s_all_ends_of_part) (by decide +kernel)) (fun _ _ _ _ _ => pg_name (i := 5) sc_all_ends_of_part.nd rfl (Or.inl rfl)) (fun _ _ _ _ _ => pts_nil) (fun _ _ _ _ _ => (pe_callD G_all_ends_of_row (hr.mono (by first | decide | omega)) rfl (pa_cons (pv 1) (pa_cons (pv 5) pa_nil))))))) pss_nil)
  (pss_cons (ps_if (pt_cmpR op_eq (pv 0) (pe_globI rfl GC_CHOICE) (nomark _)) (pss_one (ps_ret (pe_lc (own := [("place", 5)]) (g := (gName 5)) (tt := tYes) rfl sc_all_ends_of_part.nd (pi_rg (prg_v (pv 3))) (blkOk_by (own := [("place", 5)]) (N := ["kind", "inner", "ends", "places", "end", "place"]) (sc := defScope s_all_ends_of_part) (by decide +kernel)) (fun _ _ _ _ _ => pg_name (i := 5) sc_all_ends_of_part.nd rfl (Or.inl rfl)) (fun _ _ _ _ _ => pts_nil) (fun _ _ _ _ _ => (pe_callD G_all_ends_of_choice (hr.mono (by first | decide | omega)) rfl (pa_cons (pv 1) (pa_cons (pv 5) pa_nil))))))) pss_nil)
  (pss_cons (ps_if (pt_cmpR op_eq (pv 0) (pe_globI rfl GC_AGAIN) (nomark _)) (pss_one (ps_ret (pe_callD G_all_ends_of_again (hr.mono (by first | decide | omega)) rfl (pa_cons (pe_ix ix_list (pv 1) pe_int (fun _ _ => rfl)) pa_nil)))) pss_nil)
  (pss_cons (ps_if (pt_cmpR op_eq (pv 0) (pe_globI rfl GC_MAYBE) (nomark _)) (pss_one (ps_ret (pe_lc (own := [("place", 5)]) (g := (gName 5)) (tt := tYes) rfl sc_all_ends_of_part.nd (pi_rg (prg_v (pv 3))) (blkOk_by (own := [("place", 5)]) (N := ["kind", "inner", "ends", "places", "end", "place"]) (sc := defScope s_all_ends_of_part) (by decide +kernel)) (fun _ _ _ _ _ => pg_name (i := 5) sc_all_ends_of_part.nd rfl (Or.inl rfl)) (fun _ _ _ _ _ => pts_nil) (fun _ _ _ _ _ => (pe_op op_or (pe_ix (ix_listK (K := K) rfl) (pe_ix (ix_listK (K := K) rfl) (pv 1) pe_int (fun _ _ => rfl)) (pv 5) (fun _ _ => rfl)) (pe_op op_oneShl pe_int (pv 5))))))) pss_nil)
  (pss_one (ps_ret (pe_lc (own := [("end", 4)]) (g := (gName 4)) (tt := tYes) rfl sc_all_ends_of_part.nd (pi_list (pv 2)) (blkOk_by (own := [("end", 4)]) (N := ["kind", "inner", "ends", "places", "end", "place"]) (sc := defScope s_all_ends_of_part) (by decide +kernel)) (fun _ _ _ _ _ => pg_name (i := 4) sc_all_ends_of_part.nd rfl (Or.inl rfl)) (fun _ _ _ _ _ => pts_nil) (fun _ _ _ _ _ => (pe_ifExp (pt_cmpR op_eq (pv 4) (pe_globI rfl GC_NOWHERE) (nomark _)) pe_int (pe_op op_oneShl pe_int (pv 4)))))))))))), ?_⟩
  refine ⟨_, rfl, e0, _, rfl, .inl (SqL.of he0), _, rfl, fun r hr => ?_⟩
  rw [tab_len]
  have s1 := Same.new hr (.rng 0 ((z.length + 1 : Nat) : Int))
  have hr1 : upd H r (.rng 0 ((z.length + 1 : Nat) : Int)) r = some (.rng 0 ((z.length + 1 : Nat) : Int)) := upd_same
  have ha1 := s1 _ _ ha
  have he1 := s1 _ _ he0
  have hts1 := MabsAt.keep s1 _ _ hts
  have k1 : ∀ (q : Addr) (H' : Hp), Same (upd H r (.rng 0 ((z.length + 1 : Nat) : Int))) H' → upd H r (.rng 0 ((z.length + 1 : Nat) : Int)) q = none → H' q = some (.lst (iV (mks z x))) → Q (.ref q) H' := fun q H' sx hq hq2 => k q H' (s1.trans sx) (by
    cases e : H q with
    | none => rfl
    | some o => rw [s1 _ _ e] at hq; cases hq) hq2
  generalize upd H r (.rng 0 ((z.length + 1 : Nat) : Int)) = H1 at *
  clear k
  walk_at "nx"
  refine ⟨_, rfl, rfl, _, rfl, ite2 (fun e => ?_) (fun e3 => ?_)⟩
  · cases x <;> first | exact absurd (V.int.inj (of_decide_eq_true e)) (by simp only [W.kind]; omega) | skip
    rename_i ws
    refine mk_comp hr1 hz (fun i Hx hi sx Q' q => ?_) k1
    have ev : en z (.row ws) i = enR z ws i := by funext q; conv => lhs; unfold en
    rw [ev] at q
    exact ⟨_, rfl, _, rfl, a, ts, ws, i, rfl, sx _ _ ha1, MabsAt.keep sx _ _ hts1, hi, hz, q⟩
  walk_at "nx"
  refine ⟨_, rfl, rfl, _, rfl, ite2 (fun e => ?_) (fun e4 => ?_)⟩
  · cases x <;> first | exact absurd (V.int.inj (of_decide_eq_true e)) (by simp only [W.kind]; omega) | skip
    rename_i ws
    refine mk_comp hr1 hz (fun i Hx hi sx Q' q => ?_) k1
    have ev : en z (.choice ws) i = enC z ws i := by funext q; conv => lhs; unfold en
    rw [ev] at q
    exact ⟨_, rfl, _, rfl, a, ts, ws, i, rfl, sx _ _ ha1, MabsAt.keep sx _ _ hts1, hi, hz, q _ (fun _ _ h => h)⟩
  walk_at "nx"
  refine ⟨_, rfl, rfl, _, rfl, ite2 (fun e => ?_) (fun e5 => ?_)⟩
  · cases x <;> first | exact absurd (V.int.inj (of_decide_eq_true e)) (by simp only [W.kind]; omega) | skip
    rename_i y
    obtain ⟨b, us, ets, hb, hus⟩ := hts1
    subst ets
    exact ⟨_, rfl, a, _, _, _, rfl, rfl, SqL.of ha1, atI0, b, y, rfl, hb, hz, fun q H' sx hq hq2 => k1 q H' sx hq hq2⟩
  walk_at "nx"
  refine ⟨_, rfl, rfl, _, rfl, ite2 (fun e => ?_) (fun e6 => ?_)⟩
  · cases x <;> first | exact absurd (V.int.inj (of_decide_eq_true e)) (by simp only [W.kind]; omega) | skip
    rename_i y
    obtain ⟨b, us, ets, hb, hus⟩ := hts1
    subst ets
    refine mk_comp hr1 hz (fun i Hx hi sx Q' q => ?_) k1
    have q' := q Hx (fun _ _ h => h)
    have ev : en z (.maybe y) i = fun r => en z y i r || decide (i = r) := by funext q; conv => lhs; unfold en
    rw [ev, ← or_mk, ← mk_one hi] at q'
    refine ⟨_, rfl, a, _, _, _, rfl, rfl, SqL.of (sx _ _ ha1), atI0, _, rfl, b, _, _, _, rfl, rfl, SqL.of (sx _ _ hb), atI_nat (iV_at (mks_at hi)), _, rfl, i, rfl, rfl, by omega, _, _, rfl, rfl, ?_⟩
    rw [int_pow]
    exact q'
  walk_at "nx"
  have hleaf : ∀ i, en z x i = fun q => decide (ew z x i = some q) := by
    intro i
    have f3 : x.kind ≠ 3 := fun q => e3 (decide_eq_true (by rw [q]; rfl))
    have f4 : x.kind ≠ 4 := fun q => e4 (decide_eq_true (by rw [q]; rfl))
    have f5 : x.kind ≠ 5 := fun q => e5 (decide_eq_true (by rw [q]; rfl))
    have f6 : x.kind ≠ 6 := fun q => e6 (decide_eq_true (by rw [q]; rfl))
    funext q
    cases x with
    | row _ => exact absurd rfl f3
    | choice _ => exact absurd rfl f4
    | again _ => exact absurd rfl f5
    | maybe _ => exact absurd rfl f6
    | _ => conv => lhs; unfold en
  have hl : (iV (mks z x)).length = z.length + 1 := by simp only [iV, List.length_map, mks_len]
  refine ⟨_, rfl, e0, rfl, ⟨_, SqL.of he1⟩, fun D hD => ?_⟩
  refine lc_list (K := K) (a := e0) (xs := tab z x) (fun i Hx => Hx D = some (.lst ((iV (mks z x)).take i)) ∧ Same H1 Hx) ?_ ?_ ?_ ?_
  · exact ⟨upd_same, Same.new hD _⟩
  · rintro i Hx _ ⟨_, sx⟩
    exact SqL.of (sx _ _ he1)
  · rintro i e Hx he ⟨hd, sx⟩
    have hi : i < (tab z x).length := (List.getElem?_eq_some_iff.mp he).1
    rw [tab_len] at hi
    have hi' : i ≤ z.length := by omega
    rw [tab_at hi'] at he
    have ee := Option.some.inj he
    subst ee
    refine ⟨rfl, _, rfl, rfl, _, rfl, ?_⟩
    rw [eI_no]
    have hnext : (iV (mks z x)).take (i + 1) = (iV (mks z x)).take i ++ [.int (mk z.length (en z x i) : Nat)] := take_more' (iV_at (mks_at hi'))
    cases c : ew z x i with
    | none =>
      have e9 : mk z.length (en z x i) = 0 := by
        rw [hleaf i, c]
        exact (mk_congr fun q _ => decide_eq_false (by intro q; cases q)).trans (mk_none z.length).symm
      rw [e9] at hnext
      refine iteT ⟨_, hd, small' (by rw [List.length_take, hl]; omega), ?_, Same.put hD sx _⟩
      rw [upd_same, hnext]
      rfl
    | some j =>
      have hj := ew_in z x i j hi' c
      have e9 : mk z.length (en z x i) = 2 ^ j := by
        rw [hleaf i, c, mk_one hj.2]
        refine mk_congr fun q _ => ?_
        rw [decide_eq_decide]
        exact ⟨fun q => Option.some.inj q, fun q => by rw [q]⟩
      rw [e9] at hnext
      refine iteF ⟨_, rfl, j, rfl, rfl, by omega, _, hd, small' (by rw [List.length_take, hl]; omega), ?_, Same.put hD sx _⟩
      rw [upd_same, hnext, int_pow]
  · rintro Hx ⟨hd, sx⟩
    rw [tab_len, List.take_of_length_le (by rw [hl]; exact Nat.le_refl _)] at hd
    exact k1 D Hx sx hD hd
abbrev s_all_end_tables : Stmt := top 51
theorem sc_all_end_tables : FnScope ["parts", "text", "tables", "spread", "part", "inner", "_", "number"] ["parts", "text"] (defScope s_all_end_tables) := ⟨rfl, rfl, rfl, by decide +kernel, rfl, by decide +kernel, by decide +kernel⟩
theorem d_all_end_tables (h : Here K mg "all_end_tables" s_all_end_tables ["parts", "text"]) (T : PtF K C) (B : Bs mg) (G_end_tables : DefOk P w K mg base 3 "end_tables" ["parts", "text"] (spTabs C)) (G_all_ends_of_part : ∀ z, DefOk P w K mg base 4 "all_ends_of_part" ["kind", "inner", "ends"] (spPartM z)) : DefOk P w K mg base 5 "all_end_tables" ["parts", "text"] (spMabs C) := by
  have B_len := B.len; have B_range := B.range; have B_reversed := B.reversed
  refine h.ok sc_all_end_tables (fun vs H Q E h => by obtain ⟨_, _, _, _, _, rfl, _⟩ := h; rfl) (fun f cdv A' outer s H vs Q E hr h => ?_)
  obtain ⟨a, x, z, y, H0, rfl, hLa, hwf, hsz, hz, k⟩ := h
  have hLa' := hLa
  obtain ⟨p, d, dx, t, tv, ea, L⟩ := hLa'
  have G_all_ends_of_part := G_all_ends_of_part z
  refine ⟨_, (pss_cons (ps_set (i := 2) sc_all_end_tables.nd rfl (Or.inl rfl) (pe_callD G_end_tables (hr.mono (by first | decide | omega)) rfl (pa_cons (pv 0) (pa_cons (pv 1) pa_nil))))
  (pss_cons (ps_set (i := 3) sc_all_end_tables.nd rfl (Or.inr rfl) (pe_lc (own := [("_", 6)]) (g := (gName 6)) (tt := tYes) rfl sc_all_end_tables.nd (pi_list (pv 2)) (blkOk_by (own := [("_", 6)]) (N := ["parts", "text", "tables", "spread", "part", "inner", "_", "number"]) (sc := defScope s_all_end_tables) (by decide +kernel)) (fun _ _ _ _ _ => pg_name (i := 6) sc_all_end_tables.nd rfl (Or.inl rfl)) (fun _ _ _ _ _ => pts_nil) (fun _ _ _ _ _ => (pe_lst pa_nil))))
  (pss_cons (ps_for PassesOwn.never rfl (pi_revR rfl B_reversed (prg_1 rfl B_range (pe_callB call_len_seq rfl B_len PySem.boot_len (pa_cons (pv 2) pa_nil)))) (pg_name (i := 4) sc_all_end_tables.nd rfl (Or.inl rfl))
   (pss_cons (ps_setLc (i := 5) (own := [("number", 7)]) (g := (gName 7)) (tt := tYes) rfl sc_all_end_tables.nd rfl rfl (sw_true rfl rfl rfl (by decide +kernel)) (pi_list (pe_ix ix_list (pe_fld (pv 0) rfl) (pv 4) (fun _ _ => rfl))) (blkOk_by (own := [("number", 7)]) (N := ["parts", "text", "tables", "spread", "part", "inner", "_", "number"]) (sc := defScope s_all_end_tables) (by decide +kernel)) (fun _ _ _ _ _ => pg_name (i := 7) sc_all_end_tables.nd rfl (Or.inl rfl)) (fun _ _ _ _ _ => pts_nil) (fun _ _ _ _ _ => (pe_ix (ix_listK (K := K) rfl) (pv 3) (pv 7) (fun _ _ => rfl))))
  (pss_one (ps_asg (pe_callD G_all_ends_of_part (hr.mono (by first | decide | omega)) rfl (pa_cons (pe_ix ix_list (pe_fld (pv 0) rfl) (pv 4) (fun _ _ => rfl)) (pa_cons (pv 5) (pa_cons (pe_ix ix_list (pv 2) (pv 4) (fun _ _ => rfl)) pa_nil)))) (pg_sub (pv 3) (pv 4) set_list)))))
  (pss_one (ps_ret (pv 3)))))), ?_⟩
  have zk : d.kinds.length = x.size := L.z.ks
  have hpl : x.parts.length = x.size := W.parts_len x
  have hpos := x.size_pos
  refine ⟨_, rfl, _, rfl, a, x, z, y, H0, rfl, hLa, hwf, hsz, hz, fun Ht qt tts st htt htabs => ?_⟩
  have hi : Ht a = some (.ins C dx p.fs) := st _ _ (by rw [← ea]; exact L.own.at_ 1 p.a rfl)
  have hk : Ht p.ks = some (.lst (iV d.kinds)) := st _ _ (L.own.at_ 2 p.ks rfl)
  have hn : Ht p.ni = some (.lst (p.is.map V.ref)) := st _ _ (L.own.at_ 4 p.ni rfl)
  have hinn : ∀ {m : Nat} {b : Addr}, p.is[m]? = some b → ∃ l, d.inn[m]? = some l ∧ Ht b = some (.lst (iV l)) := fun hb => by
    obtain ⟨l, h1, h2⟩ := L.own.inn L.z hb
    exact ⟨l, h1, st _ _ h2⟩
  have htl := TabsAt.len _ _ htabs
  walk_at "nx"
  refine ⟨_, rfl, qt, rfl, ⟨_, SqL.of htt⟩, fun D hD => ?_⟩
  refine lc_list (K := K) (a := qt) (xs := tts) (fun i Hx => ∃ acc, Hx D = some (.lst acc) ∧ acc.length = i ∧ Same Ht Hx) ?_ ?_ ?_ ?_
  · exact ⟨[], upd_same, rfl, Same.new hD _⟩
  · rintro i Hx _ ⟨_, _, _, sx⟩
    exact SqL.of (sx _ _ htt)
  · rintro i e Hx he ⟨acc, hacc, hal, sx⟩
    have hi' : i < tts.length := (List.getElem?_eq_some_iff.mp he).1
    refine ⟨rfl, Nat.zero_le _, fun q hq => ?_⟩
    have sq := Same.new hq (.lst [])
    exact ⟨acc, sq _ _ hacc, small' (by omega), acc ++ [.ref q], upd_same, by rw [List.length_append, hal]; rfl, Same.put hD (sx.trans sq) _⟩
  · rintro H1 ⟨acc0, hacc0, hal0, s1⟩
    have hal0 : acc0.length = x.size := by rw [hal0, htl, hpl]
    walk_at "nx"
    refine ⟨_, rfl, qt, _, rfl, .inl (SqL.of (s1 _ _ htt)), _, rfl, ?_⟩
    rw [show tts.length = x.size by rw [htl, hpl]]
    refine ⟨by omega, by omega, by omega, by omega, ?_⟩
    rw [show (((x.size : Nat) : Int) - 0).toNat = x.size by omega]
    refine for_rangeC (fun i σ H' => ∃ (acc : List V) (x4 x5 : Option V), σ = [some (.ref a), some (.str (tx z)), some (.ref qt), some (.ref D), x4, x5, none, none] ∧ H' D = some (.lst acc) ∧ acc.length = x.size ∧
      (∀ (m : Nat) (u : W), x.size - i ≤ m → x.parts[m]? = some u → ∃ b, acc[m]? = some (.ref b) ∧ H' b = some (.lst (iV (mks z u))) ∧ b ≠ D) ∧ Same Ht H') ?_ ?_ ?_
    · refine ⟨acc0, none, none, rfl, hacc0, hal0, fun m u hm hu => ?_, s1⟩
      have := (List.getElem?_eq_some_iff.mp hu).1
      omega
    · rintro i σ H2 hi2 ⟨acc, x4, x5, rfl, hacc, hal, hT, s2⟩
      have ep : (0 : Int) + ((x.size : Nat) : Int) - 1 + (i : Nat) * (-1) = ((x.size - 1 - i : Nat) : Int) := by omega
      rw [ep]
      obtain ⟨m, em⟩ : ∃ m, x.size - 1 - i = m := ⟨_, rfl⟩
      have hm : m < x.size := by omega
      rw [em]
      obtain ⟨wm, hwm⟩ := get_lt (l := x.parts) (j := m) (by omega)
      obtain ⟨b, hb⟩ := get_lt (l := p.is) (j := m) (by rw [L.z.is]; exact hm)
      obtain ⟨l, hl, hbl⟩ := hinn hb
      have el := L.kid m l hl
      subst el
      have lk := kids_len hwm
      have hi2' := s2 _ _ hi
      refine gset ?_
      refine ⟨_, rfl, a, C, dx, _, _, rfl, hi2', T.cl, T.n3, rfl, _, rfl, p.ni, _, _, _, rfl, rfl, SqL.of (s2 _ _ hn), atI_nat (rV_at hb), b, rfl, ⟨_, SqL.of (s2 _ _ hbl)⟩, fun E hE => ?_⟩
      have nED : D ≠ E := ne_of_none hacc hE
      refine lc_list (K := K) (a := b) (xs := iV (kids x m)) (fun j Hx => ∃ us, Hx E = some (.lst us) ∧ us.length = j ∧ (∀ (j' : Nat) (u : W), j' < j → wm.inner[j']? = some u → ∃ bb, us[j']? = some (.ref bb) ∧ Hx bb = some (.lst (iV (mks z u)))) ∧ Same H2 Hx) ?_ ?_ ?_ ?_
      · exact ⟨[], upd_same, rfl, fun j' u hj => absurd hj (Nat.not_lt_zero _), Same.new hE _⟩
      · rintro j Hx _ ⟨_, _, _, _, sx⟩
        exact SqL.of (sx _ _ (s2 _ _ hbl))
      · rintro j e Hx he ⟨us, hus, hul, hut, sx⟩
        obtain ⟨n, hn', rfl⟩ := iV_back he
        obtain ⟨u, hu1, hu2, hu3⟩ := kids_at hwm hn'
        obtain ⟨bb, hb1, hb2, hb3⟩ := hT n u (by omega) hu2
        have hj : j < (kids x m).length := (List.getElem?_eq_some_iff.mp hn').1
        have hks : (kids x m).length ≤ 100 := by
          obtain ⟨pre, rest, e1, e2⟩ := W.parts_at x m wm hwm
          have e3 := congrArg List.length e1
          rw [hpl, List.length_append, List.length_append, W.parts_len wm] at e3
          have h1 := W.sizes_len wm.inner
          have h2 := wm.size_inner
          rw [lk]
          omega
        have nbE : bb ≠ E := fun q => by rw [q] at hb2; rw [hE] at hb2; cases hb2
        refine ⟨rfl, _, rfl, _, rfl, D, _, _, _, rfl, rfl, SqL.of (sx _ _ hacc), atI_nat hb1, us, hus, small' (by omega), us ++ [.ref bb], upd_same, by rw [List.length_append, hul]; rfl, ?_, Same.put hE sx _⟩
        intro j' u' hj' hu'
        by_cases c : j' < j
        · obtain ⟨b2, h1, h2⟩ := hut j' u' c hu'
          by_cases cE : b2 = E
          · rw [cE, hus] at h2
            cases h2
            exfalso
            have hE3 : (iV (mks z u'))[j']? = some (.ref b2) := h1
            have := List.mem_of_getElem? hE3
            unfold iV at this
            obtain ⟨_, _, q⟩ := List.mem_map.mp this
            cases q
          · exact ⟨b2, by rw [List.getElem?_append_left (by omega)]; exact h1, by rw [upd_ne cE]; exact h2⟩
        · have ej : j' = j := by omega
          subst ej
          rw [hu1] at hu'
          cases hu'
          exact ⟨bb, by rw [List.getElem?_append_right (by omega), hul, Nat.sub_self]; rfl, by rw [upd_ne nbE]; exact sx _ _ hb2⟩
      · rintro H3 ⟨us, hus, hul, hut, s3⟩
        simp only [iV, List.length_map] at hul hut
        rw [lk] at hul hut
        have hmabs : MabsAt z H3 us wm.inner := MabsAt.of _ _ hul fun j u hu => hut j u (List.getElem?_eq_some_iff.mp hu).1 hu
        have s23 := s2.trans s3
        have hkm : d.kinds[m]? = some wm.kind := by rw [L.ks, List.getElem?_map, hwm]; rfl
        have hmt : m < tts.length := by rw [htl]; omega
        obtain ⟨at_, hat⟩ : ∃ v, tts[m]? = some v := ⟨tts[m], List.getElem?_eq_getElem hmt⟩
        obtain ⟨tb, wt, rfl, hwt, htb⟩ := TabsAt.at_ _ _ _ _ htabs hat
        rw [hwm] at hwt
        cases hwt
        walk_at "nx"
        refine ⟨_, rfl, a, C, dx, _, _, rfl, s23 _ _ hi, T.cl, T.n1, rfl, _, rfl, p.ks, _, _, _, rfl, rfl, SqL.of (s23 _ _ hk), atI_nat (iV_at hkm), ?_⟩
        refine ⟨_, rfl, _, rfl, _, rfl, qt, _, _, _, rfl, rfl, SqL.of (s23 _ _ htt), atI_nat hat, ?_⟩
        refine ⟨wm, E, tb, us, rfl, hus, hmabs, s23 _ _ htb, wf_kind (wf_parts x hwf wm (List.mem_of_getElem? hwm)), hz, fun q H4 s4 hq hq2 => ?_⟩
        have hacc4 := s4 _ _ (s3 _ _ hacc)
        have nqD : q ≠ D := fun e => by rw [e, s3 _ _ hacc] at hq; cases hq
        refine ⟨_, rfl, _, rfl, D, _, _, _, rfl, rfl, hacc4, ix_nat (by omega), ?_⟩
        refine ⟨acc.set m (.ref q), _, _, rfl, upd_same, by rw [List.length_set]; exact hal, fun n u hn' hu => ?_, Same.put hD (s23.trans s4) _⟩
        by_cases c : n = m
        · subst c
          rw [hwm] at hu
          cases hu
          exact ⟨q, by rw [List.getElem?_set_self (by omega)], by rw [upd_ne nqD]; exact hq2, nqD⟩
        · obtain ⟨b2, h1, h2, h3⟩ := hT n u (by omega) hu
          exact ⟨b2, by rw [List.getElem?_set_ne (Ne.symm c)]; exact h1, by rw [upd_ne h3]; exact s4 _ _ (s3 _ _ h2), h3⟩
    · rintro σ H2 ⟨acc, x4, x5, rfl, hacc, hal, hT, s2⟩
      refine ⟨_, rfl, k H2 D acc (st.trans s2) hacc (MabsAt.of _ _ (by rw [hal, hpl]) fun m u hu => ?_)⟩
      obtain ⟨b, h1, h2, _⟩ := hT m u (by omega) hu
      exact ⟨b, h1, h2⟩
abbrev s_ends : Stmt := top 60
theorem sc_ends : FnScope ["way", "text", "place", "bits", "end"] ["way", "text", "place"] (defScope s_ends) := ⟨rfl, rfl, rfl, by decide +kernel, rfl, by decide +kernel, by decide +kernel⟩
theorem d_ends (h : HereZ K mg "ends" s_ends ["way", "text", "place"]) (T : PtF K C) (G_refuse_calls : DefOk P w K mg base 3 "refuse_calls" ["ways"] (spRefuse c)) (G_all_end_tables : DefOk P w K mg base 5 "all_end_tables" ["parts", "text"] (spMabs C)) (G_places_of : DefOk P w K mg base 1 "places_of" ["bits"] spPlaces)
    (G_Parts : ClsOk P w K mg base 3 "Parts" C ["self", "ways"] (spInit c C)) : DefZ P w K mg base 6 "ends" ["way", "text", "place"] (spEnds c) := by
  refine h.ok sc_ends (fun vs H Q E h => by obtain ⟨_, _, _, _, _, rfl, _⟩ := h; rfl) (fun f cdv A' outer s H vs Q E hr h => ?_)
  obtain ⟨v, x, z, y, p, rfl, hv, hwf, hsz, hz, hp, k⟩ := h
  refine ⟨_, (pss_cons (ps_expr (pe_callD G_refuse_calls (hr.mono (by first | decide | omega)) rfl (pa_cons (pe_lst (pa_cons (pv 0) pa_nil)) pa_nil)))
  (pss_cons (ps_set (i := 3) sc_ends.nd rfl (Or.inl rfl) (pe_ix ix_list (pe_ix ix_list (pe_callD G_all_end_tables (hr.mono (by first | decide | omega)) rfl (pa_cons (pe_makeD G_Parts (hr.mono (by first | decide | omega)) rfl (pa_cons (pe_lst (pa_cons (pv 0) pa_nil)) pa_nil)) (pa_cons (pv 1) pa_nil))) pe_int (fun _ _ => rfl)) (pv 2) (fun _ _ => rfl)))
  (pss_one (ps_ret (pe_lc (own := [("end", 4)]) (g := (gName 4)) (tt := tYes) rfl sc_ends.nd (pi_list (pe_callD G_places_of (hr.mono (by first | decide | omega)) rfl (pa_cons (pv 3) pa_nil))) (blkOk_by (own := [("end", 4)]) (N := ["way", "text", "place", "bits", "end"]) (sc := defScope s_ends) (by decide +kernel)) (fun _ _ _ _ _ => pg_name (i := 4) sc_ends.nd rfl (Or.inl rfl)) (fun _ _ _ _ _ => pts_nil) (fun _ _ _ _ _ => (pe_op op_sub (pv 4) (pv 2)))))))), ?_⟩
  refine ⟨_, rfl, by show 1 ≤ sizeLine; decide, fun l1 hl1 => ?_⟩
  have s1 := Same.new hl1 (.lst [v])
  refine ⟨l1, v, x, y, rfl, upd_same, ObjAt.keep (stillS s1) _ _ hv, hwf, hsz, fun H2 s2 => ?_⟩
  have s12 := s1.trans s2
  walk_at "nx"
  refine ⟨_, rfl, by show 1 ≤ sizeLine; decide, fun l2 hl2 => ?_⟩
  have s3 := s12.trans (Same.new hl2 (.lst [v]))
  have hl2' : upd H2 l2 (.lst [v]) l2 = some (.lst [v]) := upd_same
  generalize upd H2 l2 (.lst [v]) = H3 at *
  intro q dx hq hdx nd
  have s4 := Same.new hdx (.own q)
  have hq4 : upd H3 dx (.own q) q = none := by rw [upd_ne nd.symm]; exact hq
  have s5 := s4.trans (Same.new hq4 (.ins C dx []))
  refine ⟨q, dx, l2, v, x, H3, rfl, upd_same, hq, s5, hl2', ObjAt.keep (stillS s3) _ _ hv, hsz, fun H5 hL => ⟨rfl, ?_⟩⟩
  have hs5 : Same H3 H5 := by obtain ⟨_, _, _, _, _, _, L⟩ := id hL; exact L.own.same
  refine ⟨_, rfl, q, x, z, y, H3, rfl, hL, hwf, hsz, hz, fun H6 qt ts s6 hts htabs => ?_⟩
  rw [W.parts_eq] at htabs
  obtain ⟨b, us, ets, hb, _⟩ := htabs
  subst ets
  refine ⟨qt, _, _, _, rfl, rfl, SqL.of hts, atI0, _, rfl, b, _, _, _, rfl, rfl, SqL.of hb, atI_nat (iV_at (mks_at hp)), ?_⟩
  have sA := (s3.trans hs5).trans s6
  walk_at "nx"
  refine ⟨_, rfl, _, z.length + 1, rfl, mk_lt _ _, by omega, fun q7 H7 s7 hq7 => ?_⟩
  rw [bits_mk] at hq7
  refine ⟨q7, rfl, ⟨_, SqL.of hq7⟩, fun D hD => ?_⟩
  have hfl : ((List.range (z.length + 1)).filter (en z x p)).length ≤ z.length + 1 := by
    have := List.length_filter_le (en z x p) (List.range (z.length + 1))
    rw [List.length_range] at this
    exact this
  refine lc_list (K := K) (a := q7) (xs := iV ((List.range (z.length + 1)).filter (en z x p))) (fun i Hx => Hx D = some (.lst (((endL z x p).map V.int).take i)) ∧ Same H7 Hx) ?_ ?_ ?_ ?_
  · exact ⟨upd_same, Same.new hD _⟩
  · rintro i Hx _ ⟨_, sx⟩
    exact SqL.of (sx _ _ hq7)
  · rintro i e Hx he ⟨hd, sx⟩
    obtain ⟨j, hj, rfl⟩ := iV_back he
    have hnext : ((endL z x p).map V.int)[i]? = some (.int (((j : Nat) : Int) - ((p : Nat) : Int))) := by
      unfold endL
      rw [List.getElem?_map, List.getElem?_map, hj]
      rfl
    refine ⟨rfl, _, rfl, _, rfl, _, _, rfl, rfl, _, hd, small' (by rw [List.length_take]; unfold endL; rw [List.length_map, List.length_map]; omega), ?_, Same.put hD sx _⟩
    rw [upd_same, take_more' hnext]
  · rintro Hx ⟨hd, sx⟩
    rw [List.take_of_length_le (by unfold endL; simp only [iV, List.length_map]; exact Nat.le_refl _)] at hd
    exact k D Hx ((sA.trans s7).trans sx) hd
end
end Tk
/-! defs that are called where no repr goes on: repr of data there -/
namespace Gd
open PySem PySem.Spec PyProof.Rows L2 Wv
/-- as FnOk, but called only where nothing is being shown -/
structure FnG (P : Program) (w : World) (K : PySem.W.Frag) (mg : Str → Option Value) (base : Heap) (k : Nat) (f : Addr) (fd : FuncData) (ps : List Str) (sp : Sp) : Prop where
  len : ∀ vs H Q E, sp vs H Q E → vs.length = ps.length
  run : ∀ (A : Around) (outer : List Env) (s : Shared) (H : Hp) (args : Args) (us : List Value) (vs : List V) (Q : VK) (E : XK), A.guards = some [] → Room k A → Env0 P w K mg base A outer s H → BindsTo s fd args (ps.zip us) → Vals vs us → sp vs H Q E → codeAny (model P w) A (.call (.ref f) args) (CR CX0 outer P w H s Q E) s
section
variable {P : Program} {w : World} {K : PySem.W.Frag} {mg : Str → Option Value} {base : Heap}
theorem fnG_of {k : Nat} {f : Addr} {x qual : Str} {st : Stmt} {fd : FuncData} {N ps : List Str} {sp : Sp} (F : Fun K x qual st f fd) (S : FnScope N ps (defScope st)) (len : ∀ vs H Q E, sp vs H Q E → vs.length = ps.length)
    (hbody : ∀ (cdv : Value) (A : Around) (outer : List Env) (s : Shared) (H : Hp) (vs : List V) (Q : VK) (E : XK), A.guards = some [] → Room k (A.deeper (envOfC qual (defScope st) s.heap.objs.size f cdv)) → sp vs H Q E →
      ∃ t, PSs (cxOf CX0 P w K mg base N qual (defScope st) f cdv A outer s H E).nox (defBody st) t ∧ t { nx := fun _ H' => Q .non H', rt := Q } (start N vs) H) : FnG P w K mg base (k + 1) f fd ps sp := by
  obtain ⟨oc, od, kV, doc, pm, an, cdv, ct, osl, rfl, lk, hcd⟩ := F.ex
  refine ⟨len, fun A outer s H args us vs Q E hg hr e0 hb r hsp => ?_⟩
  have hl := len _ _ _ _ hsp
  have KX : K.In s.heap := e0.mod.kin.keeps fun b o e => (e0.bs b o e).1
  have kinds : ∀ y ∈ ps.zip us, (defScope st).names.lookup y.1 = some .local ∨ ((defScope st).names.lookup y.1 = some .cell ∧ ((cellsFrom (s.heap.objs.size + 1) (defScope st).names []).lookup y.1).isSome = true) := by
    rintro ⟨n, v⟩ hy
    exact (S.par n (List.of_mem_zip hy).1).imp id fun q => ⟨q, PySem.W.cellsFrom_some _ _ _ (.inl q)⟩
  refine codeAny_call_function hr.depth (KX _ _ lk) rfl S.co S.gen rfl (PySem.W.codeRec_of KX hcd) (hb _ _ _ _ (wpAny_newFunctionEnv_cells S.kind kinds fun env he s1 x => ?_))
  subst he
  refine ⟨(e0.mod.nolimit.keeps fun b o e => (e0.bs b o e).1).keeps x.toInCall.keep, codeAny_func ?_⟩
  obtain ⟨t, ht, hq⟩ := hbody cdv A outer s H vs Q E hg (hr.deeper _) hsp
  refine wpAny_mono (ht.nox.run [] s1 (start N vs) H _ (inv_start S hr.hd e0 hl r x) hq) (fun fl s' hs => ?_) fun e s' hs => hs
  cases fl with
  | ret u => obtain ⟨v, σ', H', J, rv, q⟩ := hs; exact ⟨v, H', J.os, J.bare, J.base, J.hok, rv, q⟩
  | next => obtain ⟨σ', H', J, q⟩ := hs; exact ⟨.non, H', J.os, J.bare, J.base, J.hok, rfl, q⟩
  | brk => obtain ⟨_, _, _, q⟩ := hs; exact False.elim q
  | cont => obtain ⟨_, _, _, q⟩ := hs; exact False.elim q
structure DefG (P : Program) (w : World) (K : PySem.W.Frag) (mg : Str → Option Value) (base : Heap) (k : Nat) (x : Str) (ps : List Str) (sp : Sp) : Prop where
  ex : ∃ (f : Addr) (fd : FuncData), mg x = some (.ref f) ∧ PySem.W.keepIn K (.ref f) = true ∧ Binds K fd ps [] ∧ FnG P w K mg base k f fd ps sp
theorem Here.okG {x : Str} {st : Stmt} {N ps : List Str} {k : Nat} {sp : Sp} (h : Here K mg x st ps) (S : FnScope N ps (defScope st)) (len : ∀ vs H Q E, sp vs H Q E → vs.length = ps.length)
    (hbody : ∀ (f : Addr) (cdv : Value) (A : Around) (outer : List Env) (s : Shared) (H : Hp) (vs : List V) (Q : VK) (E : XK), A.guards = some [] → Room k (A.deeper (envOfC x (defScope st) s.heap.objs.size f cdv)) → sp vs H Q E →
      ∃ t, PSs (cxOf CX0 P w K mg base N x (defScope st) f cdv A outer s H E).nox (defBody st) t ∧ t { nx := fun _ H' => Q .non H', rt := Q } (start N vs) H) : DefG P w K mg base (k + 1) x ps sp := by
  obtain ⟨f, fd, F, m, b⟩ := h.ex
  exact ⟨f, fd, m, F.kp, b, fnG_of F S len fun cdv A outer s H vs Q E hg hr q => hbody f cdv A outer s H vs Q E hg hr q⟩
end
section
variable {X : Cx} {k : Nat} {x : Str} {ps : List Str} {sp : Sp} {e : Expr} {es : List Expr} {t : TA} {p pos : Pos}
theorem pe_callG (G : DefG X.prog X.w X.K X.mg X.base k x ps sp) (hgd : X.A.guards = some []) (hr : Room k X.A) (hg : Gl X x) (ha : PA X (e :: es) t) (hdb : (x == ("__debug__" : Str)) = false := by decide)
    (he : starEach (e :: es) X.env = (false, eval e X.env) :: starEach es X.env := by rfl) (hpl : (backTo pos (starEach es X.env)).any (·.1) = false := by rfl) : PE X (.Call (.Name x p) (e :: es) [] pos) (tCall sp [] E0 t) := by
  obtain ⟨f, fd, m, kp, hb, F⟩ := G.ex
  refine ⟨fun pins s σ H Q I h => wpAny_Call_Name_kw (ld_glob I hg m ?_ hdb)⟩
  refine PySem.W.callWith_K (h₀ := X.base) I.ok.mod.kin kp (thn (ha.run pos pins s σ H _ I h) fun us s1 ⟨vs, H1, I1, r, q⟩ => ⟨I1.kIn, ?_⟩) he hpl
  have r2 : Vals (vs ++ []) (us ++ []) := r.append .nil
  have hl : (us ++ []).length = ps.length := by rw [← r2.length]; exact F.len _ _ _ _ q
  refine wpAny_call (codeAny_mono (F.run X.A X.stack s1 H1 ⟨us, []⟩ (us ++ []) (vs ++ []) Q E0 hgd hr I1.env0 (hb s1 us I1.kIn hl) r2 q) fun r s' hq => ?_)
  cases r with
  | error e => exact pass0 (X := X) pins σ H1 s1 e s' I1 hq
  | ok fl =>
    cases fl with
    | ret u => exact I1.after hq
    | next => exact False.elim hq
    | brk => exact False.elim hq
    | cont => exact False.elim hq
theorem op_in_seqK {X : Cx} {K : PySem.W.Frag} (h : X.K = K) : OpR X (compareOp .In) (rIn K false) := h ▸ op_in_seq
theorem op_notIn_seqK {X : Cx} {K : PySem.W.Frag} (h : X.K = K) : OpR X (compareOp .NotIn) (rIn K true) := h ▸ op_notIn_seq
/-- repr(x) of a list or tuple of data, of an int, of None -/
def rRepr (K : PySem.W.Frag) : List V → Hp → VK → Prop := fun xs H Q => ∃ x : V, xs = [x] ∧ ((∃ d : PyData, Dp K H x d ∧ PyProof.Rows.isDisplay d = true ∧ d.showable = true ∧ d.hasDict = false ∧ d.depth ≤ 60 ∧ d.shown.length ≤ sizeLine ∧ Q (.str d.shown) H) ∨
  (∃ i : Int, x = .int i ∧ i.natAbs.log2 < 1920 ∧ Q (.str (toString i)) H) ∨ (x = .non ∧ Q (.str "None") H))
theorem call_repr (hg : X.A.guards = some []) (hr : Room k X.A) : CallR X (.builtin "repr") (rRepr X.K) := by
  intro pins s σ H xs us Q I r h
  obtain ⟨x, rfl, h⟩ := h
  obtain ⟨u, rfl, ru⟩ := r.one
  rcases h with ⟨d, hd, h1, h2, h3, h4, h5, q⟩ | ⟨i, rfl, hz, q⟩ | ⟨rfl, q⟩
  · obtain ⟨as, r1⟩ := Dp.reads I d x u hd ru
    obtain ⟨a, rfl⟩ := PyProof.Rows.isRef_of_reads r1 h1
    exact repr_of_reads' r1 h2 (PyData.noDict_hsm h3) hg (by have := hr.un; omega) (fun _ _ e => e) (fun h' u tk hk => ⟨.str d.shown, H, I.kept hk, ⟨_, rfl⟩, q⟩) h5
  · obtain ⟨t, rfl⟩ := ru
    exact PySem.P.repr_of_int hz ⟨.str _, H, I.tok _, ⟨_, rfl⟩, q⟩
  · cases ru
    exact PySem.P.repr_of_none ⟨.str _, H, I.tok _, ⟨_, rfl⟩, q⟩
end
end Gd
/-! the law's own call, where nothing is being shown -/
namespace Gd
open PySem PySem.Spec PyProof.Rows L2 Wv
section
variable {P : Program} {w : World} {K : PySem.W.Frag} {mg mb : Str → Option Value} {k : Nat} {fa a : Addr} {fd : FuncData} {x : Str} {sp : Sp} {s₁ : Shared} {vs : List Value} {ns : List Int}
abbrev Good (s₁ : Shared) (r : Result) (s' : Shared) : Prop := r = .ok (.ret (.bool true)) ∧ OldK s₁.heap s'.heap ∧ s'.os = s₁.os ∧ AllBare s'.gens
/-- from an abstract heap that tracks nothing but, perhaps, the script -/
theorem from_heap {H : Hp} (KX : K.In s₁.heap) (hns : s₁.heap.Ns mainGlobals mg) (hb : s₁.heap.Ns builtinsNs mb) (hbb : ∀ x : Str, x ≠ "__name__" → mb x = bootBuiltins x) (hlim : s₁.heap.NoLimit) (hg : s₁.gens = #[])
    (ha : s₁.heap.get? a = some { cls := .type "list", data := .seq vs.toArray }) (hr : Room k callerA) (F : ∀ base : Heap, K.In base → base.Ns mainGlobals mg → FnG P w K mg base k fa fd [x] sp) (hbind : ∀ (s : Shared) (u : Value), BindsTo s fd ⟨[u], []⟩ [(x, u)])
    (hO : Only H) (hok : HOk P w H s₁.heap) (hA : ∀ b, H b ≠ none → b = a) (hK : H a ≠ none → K.lookup a = none) (hsp : sp [.ref a] H (fun v _ => v = .bl true) fun _ _ _ => False) : codeAny (model P w) callerA (.call (.ref fa) ⟨[.ref a], []⟩) (Good s₁) s₁ := by
  have noD : ∀ {b : Addr} {o : Obj} {es : Array DictEntry} {ep : Nat}, s₁.heap.get? b = some o → o.data = .dict es ep → H b = none := by
    intro b o es ep e d
    refine Classical.byContradiction fun q => ?_
    have e' := hA b q
    subst e'
    rw [ha] at e
    cases e
    exact nomatch (show Data.seq vs.toArray _ = Data.dict es ep from d)
  have toK : ∀ {b : Addr} {m : Str → Option Value}, s₁.heap.Ns b m → (hidT s₁.heap H).Ns b m := by
    rintro b m ⟨o, es, ep, e, d, r⟩
    exact ⟨o, es, ep, hidT_get e (noD e d), d, r⟩
  have KB : K.In (hidT s₁.heap H) := by
    intro b o e
    refine hidT_get (KX b o e) (Classical.byContradiction fun q => ?_)
    have e' := hA b q
    subst e'
    rw [hK q] at e
    cases e
  have M : Mod K mg (hidT s₁.heap H) := by
    obtain ⟨mc, h1, h2⟩ := hlim
    exact ⟨KB, toK hns, ⟨mb, toK hb, hbb⟩, mc, toK h1, h2⟩
  have E : Env0 P w K mg (hidT s₁.heap H) callerA [] s₁ H := by
    refine ⟨rfl, M, fun b o e => of_hidT e, Nat.le_of_eq (hidT_size _ _), trivial, ?_, hok, .of_eq hg⟩
    intro b hb
    cases hb
  refine codeAny_mono ((F _ KB (toK hns)).run callerA [] s₁ H ⟨[.ref a], []⟩ [.ref a] [.ref a] _ _ rfl hr E (hbind s₁ (.ref a)) (.cons rfl .nil) hsp) ?_
  rintro (e | fl) s' h
  · exact h.elim
  cases fl
  case ret u =>
    obtain ⟨v, H', os, bare, un, hok', r', q⟩ := h
    cases (show v = .bl true from q)
    cases r'
    refine ⟨rfl, OldK.of_keep fun b o e => ?_, os, bare⟩
    rcases hO b with z | ⟨ob, ys, z⟩
    · have none_of : ∀ l : List Addr, l = [] → b ∉ l := fun l hl h => by rw [hl] at h; cases h
      exact un.keep b o e z (none_of _ rfl) (none_of _ rfl)
    · have e1 := (hok b _ z).1
      have e2 := (hok' b _ (un.frzs b ob _ z)).1
      rw [e] at e1
      cases e1
      exact e2
  all_goals exact False.elim h
theorem law_callG (KX : K.In s₁.heap) (hns : s₁.heap.Ns mainGlobals mg) (hb : s₁.heap.Ns builtinsNs mb) (hbb : ∀ x : Str, x ≠ "__name__" → mb x = bootBuiltins x) (hlim : s₁.heap.NoLimit) (hg : s₁.gens = #[]) (ha : s₁.heap.get? a = some { cls := .type "list", data := .seq vs.toArray })
    (hi : IntsAre vs ns) (hl : ns.length ≤ sizeLine) (hr : Room k callerA) (F : ∀ base : Heap, K.In base → base.Ns mainGlobals mg → FnG P w K mg base k fa fd [x] sp) (hbind : ∀ (s : Shared) (u : Value), BindsTo s fd ⟨[u], []⟩ [(x, u)])
    (hsp : ∀ H : Hp, SqL K H a (ns.map V.int) → sp [.ref a] H (fun v _ => v = .bl true) fun _ _ _ => False) : codeAny (model P w) callerA (.call (.ref fa) ⟨[.ref a], []⟩) (Good s₁) s₁ := by
  have rv : Vals (ns.map V.int) vs := vals_ints hi
  have lenV := hi.length
  by_cases hk : K.lookup a = none
  · let H : Hp := fun b => if b = a then some (.frz { cls := .type "list", data := .seq vs.toArray } (.lst (ns.map V.int))) else none
    have at_ : H a = some (.frz { cls := .type "list", data := .seq vs.toArray } (.lst (ns.map V.int))) := if_pos rfl
    have off : ∀ b, b ≠ a → H b = none := fun b h => if_neg h
    refine from_heap (H := H) KX hns hb hbb hlim hg ha hr F hbind (fun b => ?_) (fun b u z => ?_) (fun b z => Classical.byContradiction fun h => z (off b h)) (fun _ => hk) (hsp H (.inl (.inr ⟨_, at_⟩)))
    · by_cases h : b = a
      · subst h; exact .inr ⟨_, _, at_⟩
      · exact .inl (off b h)
    · by_cases h : b = a
      · subst h
        rw [at_] at z
        cases z
        exact ⟨ha, by rw [List.length_map]; exact hl, vs, _, rv, ha⟩
      · rw [off b h] at z
        cases z
  · obtain ⟨o, ho⟩ := Option.ne_none_iff_exists'.mp hk
    have e := KX a o ho
    rw [ha] at e
    cases e
    exact from_heap (H := fun _ => none) KX hns hb hbb hlim hg ha hr F hbind (fun _ => .inl rfl) (fun b u z => by cases z) (fun b z => absurd rfl z) (fun z => absurd rfl z) (hsp _ (.inr ⟨_, vs.toArray, _, ho, rfl, rfl, rfl, by rw [List.size_toArray, lenV]; exact hl, by simpa using rv⟩))
end
theorem walkG {l : PySem.W.OpenLaw} {n k : Nat} {q : Program} {loose : List Str} {XP : (Str → Option Value) → Heap → Prop} {YP : World → Heap → Prop} {d : DefRec} {K : Params → PySem.W.Frag} {sp : PySem.W.Frag → Sp} {x : Str} (hn : l.most = some n) (hn2 : n ≤ sizeLine) (hdf : d.params.defaults = [])
    (hr : Room k callerA) (hY : ∀ (w : World) (h : Heap), YP w h → (K w.params).In h) (F : ∀ (w : World) (mg : Str → Option Value) (fa : Addr) (h : Heap), (K w.params).In h → h.Ns mainGlobals mg → mg d.name = some (.ref fa) →
      ∃ fd : FuncData, (∀ (s : Shared) (u : Value), BindsTo s fd ⟨[u], []⟩ [(x, u)]) ∧ ∀ base : Heap, (K w.params).In base → base.Ns mainGlobals mg → FnG l.prog w (K w.params) mg base k fa fd [x] (sp (K w.params)))
    (hsp : ∀ (K : PySem.W.Frag) (H : Hp) (a : Addr) (ns : List Int), ns.length ≤ n → SqL K H a (ns.map V.int) → sp K [.ref a] H (fun v _ => v = .bl true) fun _ _ _ => False) : PySem.W.WalkO q loose XP YP l.row.toRowW d [] (fun f vs => PySem.call f vs) := by
  refine Att.attach_call hn hdf ?_
  intro w s₀ s₁ mg mb fa o pm cd doc a vs ns G Y ho hd hcd hmg hobj hints hlen hg
  obtain ⟨fd, hb, hF⟩ := F w mg fa _ (hY w _ Y) G.T.g hmg
  exact law_callG (hY w _ Y) G.T.g G.T.b G.T.builtins G.T.nolimit hg hobj hints (Nat.le_trans hlen hn2) hr hF hb fun H hS => hsp _ H a ns hlen hS
end Gd
namespace Hi
open PySem PySem.Spec PyProof.Rows L2 Wv Tk
/-! ### what takes tells is among what ends tells; the walk of all places -/
theorem again_en (z : List Nat) (w : W) (hw : ∀ p q, p ≤ z.length → ew z w p = some q → en z w p q = true) : ∀ (d p q : Nat), z.length - p ≤ d → p ≤ z.length → ew z (.again w) p = some q → en z (.again w) p q = true := by
  intro d
  induction d with
  | zero =>
    intro p q hd hp h
    have := ew_in z _ p q hp h
    have e : p = q := by omega
    rw [en_again z w p q hp, e, decide_eq_true rfl, Bool.true_or]
  | succ d ih =>
    intro p q hd hp h
    rw [ew_again z w p hp] at h
    rw [en_again z w p q hp, Bool.or_eq_true]
    cases e : ew z w p with
    | none =>
      rw [e] at h
      exact .inl (decide_eq_true (Option.some.inj h))
    | some r =>
      rw [e] at h
      dsimp only at h
      by_cases hr : p < r
      · rw [if_pos hr] at h
        have h1 := ew_in z w p r hp e
        refine .inr (anyN_true.mpr ⟨r, h1.2, ?_⟩)
        rw [decide_eq_true hr, hw p r hp e, ih r q (by omega) h1.2 h]
        rfl
      · rw [if_neg hr] at h
        exact .inl (decide_eq_true (Option.some.inj h))
mutual
theorem ew_en (z : List Nat) : ∀ (w : W) (p q : Nat), p ≤ z.length → ew z w p = some q → en z w p q = true
  | .row ws, p, q, hp, h => by unfold ew at h; unfold en; exact ew_enR z ws p q hp h
  | .choice ws, p, q, hp, h => by unfold ew at h; unfold en; exact ew_enC z ws p q hp h
  | .again w, p, q, hp, h => again_en z w (fun p q hp h => ew_en z w p q hp h) _ p q (Nat.le_refl _) hp h
  | .maybe w, p, q, hp, h => by
    unfold ew at h
    unfold en
    rw [Bool.or_eq_true]
    cases e : ew z w p with
    | none => rw [e] at h; exact .inr (decide_eq_true (Option.some.inj h))
    | some r => rw [e] at h; have e2 : r = q := Option.some.inj h; rw [e2] at e; exact .inl (ew_en z w p q hp e)
  | .letter _, p, q, hp, h => by unfold en; exact decide_eq_true h
  | .one, p, q, hp, h => by unfold en; exact decide_eq_true h
  | .nothing, p, q, hp, h => by unfold en; exact decide_eq_true h
  | .call _, p, q, hp, h => by unfold en; exact decide_eq_true h
  | .ahead _, p, q, hp, h => by unfold en; exact decide_eq_true h
  | .unless _, p, q, hp, h => by unfold en; exact decide_eq_true h
theorem ew_enR (z : List Nat) : ∀ (ws : List W) (p q : Nat), p ≤ z.length → ewR z ws p = some q → enR z ws p q = true
  | [], p, q, hp, h => by unfold ewR at h; unfold enR; exact decide_eq_true (Option.some.inj h)
  | w :: ws, p, q, hp, h => by
    unfold ewR at h
    unfold enR
    cases e : ew z w p with
    | none => rw [e] at h; cases h
    | some r =>
      rw [e] at h
      have h1 := ew_in z w p r hp e
      refine anyN_true.mpr ⟨r, h1.2, ?_⟩
      rw [ew_en z w p r hp e, ew_enR z ws r q h1.2 h]
      rfl
theorem ew_enC (z : List Nat) : ∀ (ws : List W) (p q : Nat), p ≤ z.length → ewC z ws p = some q → enC z ws p q = true
  | [], p, q, hp, h => by unfold ewC at h; cases h
  | w :: ws, p, q, hp, h => by
    unfold ewC at h
    unfold enC
    rw [Bool.or_eq_true]
    cases e : ew z w p with
    | none => rw [e] at h; exact .inr (ew_enC z ws p q hp h)
    | some r => rw [e] at h; have e2 : r = q := Option.some.inj h; rw [e2] at e; exact .inl (ew_en z w p q hp e)
end
theorem again_self (z : List Nat) (w : W) (p : Nat) (hp : p ≤ z.length) : en z (.again w) p p = true := by rw [en_again z w p p hp, decide_eq_true rfl, Bool.true_or]
theorem again_snoc (z : List Nat) (w : W) : ∀ (d p r q : Nat), z.length - p ≤ d → p ≤ z.length → en z (.again w) p r = true → en z w r q = true → en z (.again w) p q = true := by
  intro d
  induction d with
  | zero =>
    intro p r q hd hp h1 h2
    have a := en_in z _ p r hp h1
    have b := en_in z _ r q a.2 h2
    have e : p = q := by omega
    rw [e]
    exact again_self z w q b.2
  | succ d ih =>
    intro p r q hd hp h1 h2
    have a := en_in z _ p r hp h1
    have b := en_in z _ r q a.2 h2
    by_cases c : p = q
    · rw [c]; exact again_self z w q b.2
    rw [en_again z w p q hp, Bool.or_eq_true]
    rw [en_again z w p r hp, Bool.or_eq_true] at h1
    refine .inr (anyN_true.mpr ?_)
    rcases h1 with h1 | h1
    · have e := of_decide_eq_true h1
      subst e
      refine ⟨q, b.2, ?_⟩
      rw [decide_eq_true (show p < q by omega), h2, again_self z w q b.2]
      rfl
    · obtain ⟨r0, hr0, h3⟩ := anyN_true.mp h1
      rw [Bool.and_eq_true, Bool.and_eq_true] at h3
      have h4 := of_decide_eq_true h3.1
      refine ⟨r0, hr0, ?_⟩
      rw [decide_eq_true h4, h3.2.1, ih r0 r q (by omega) hr0 h3.2.2 h2]
      rfl
theorem again_closed (z : List Nat) (w : W) (S : Nat → Prop) (hS : ∀ a b, S a → a ≤ z.length → en z w a b = true → S b) : ∀ (d p q : Nat), z.length - p ≤ d → p ≤ z.length → S p → en z (.again w) p q = true → S q := by
  intro d
  induction d with
  | zero =>
    intro p q hd hp hs h
    have a := en_in z _ p q hp h
    have e : p = q := by omega
    rw [← e]; exact hs
  | succ d ih =>
    intro p q hd hp hs h
    rw [en_again z w p q hp, Bool.or_eq_true] at h
    rcases h with h | h
    · rw [← of_decide_eq_true h]; exact hs
    · obtain ⟨r, hr, h3⟩ := anyN_true.mp h
      rw [Bool.and_eq_true, Bool.and_eq_true] at h3
      have h4 := of_decide_eq_true h3.1
      exact ih r q (by omega) hr (hS p r hs hp h3.2.1) h3.2.2
/-- all places where the way may end that begins at one of these, in order -/
def EN (z : List Nat) (w : W) (ps : List Nat) : List Nat := (List.range (z.length + 1)).filter fun r => ps.any fun p => en z w p r
theorem mem_EN {z : List Nat} {w : W} {ps : List Nat} {r : Nat} : r ∈ EN z w ps ↔ r ≤ z.length ∧ ∃ p, p ∈ ps ∧ en z w p r = true := by
  unfold EN
  rw [List.mem_filter, List.mem_range, List.any_eq_true]
  constructor
  · rintro ⟨h, h2⟩; exact ⟨by omega, h2⟩
  · rintro ⟨h, h2⟩; exact ⟨by omega, h2⟩
theorem EN_len (z : List Nat) (w : W) (ps : List Nat) : (EN z w ps).length ≤ z.length + 1 := by
  have := List.length_filter_le (fun r => ps.any fun p => en z w p r) (List.range (z.length + 1))
  rw [List.length_range] at this
  exact this
/-- what is found, put in order -/
theorem EN_of {z : List Nat} {w : W} {ps fd : List Nat} (h : ∀ r, r ≤ z.length → (r ∈ fd ↔ ∃ p, p ∈ ps ∧ en z w p r = true)) : (List.range (z.length + 1)).filter (fun r => decide (r ∈ fd)) = EN z w ps := by
  unfold EN
  refine List.filter_congr fun r hr => ?_
  rw [List.mem_range] at hr
  rw [Bool.eq_iff_iff, decide_eq_true_iff, List.any_eq_true]
  exact h r (by omega)
theorem cnt_le : ∀ (l : List Nat) (f g : Nat → Bool), (∀ x, x ∈ l → f x = true → g x = true) → (l.filter f).length ≤ (l.filter g).length
  | [], f, g, _ => Nat.le_refl _
  | a :: l, f, g, h => by
    have ih := cnt_le l f g fun x hx => h x (List.mem_cons_of_mem _ hx)
    rw [List.filter_cons, List.filter_cons]
    by_cases hf : f a = true
    · rw [if_pos hf, if_pos (h a List.mem_cons_self hf), List.length_cons, List.length_cons]; omega
    · rw [if_neg hf]
      split
      · rw [List.length_cons]; omega
      · exact ih
theorem cnt_more : ∀ (l : List Nat) (f g : Nat → Bool), (∀ x, x ∈ l → f x = true → g x = true) → ∀ x, x ∈ l → ¬ f x = true → g x = true → (l.filter f).length + 1 ≤ (l.filter g).length
  | [], f, g, _, x, hx, _, _ => by cases hx
  | a :: l, f, g, h, x, hx, h1, h2 => by
    have ht := fun x hx => h x (List.mem_cons_of_mem _ hx)
    rw [List.filter_cons, List.filter_cons]
    by_cases e : x = a
    · rw [← e, if_neg h1, if_pos h2, List.length_cons]
      have := cnt_le l f g ht
      omega
    · have hx' : x ∈ l := by
        rcases List.mem_cons.mp hx with q | q
        · exact absurd q e
        · exact q
      have ih := cnt_more l f g ht x hx' h1 h2
      by_cases hf : f a = true
      · rw [if_pos hf, if_pos (h a List.mem_cons_self hf), List.length_cons, List.length_cons]; omega
      · rw [if_neg hf]
        split
        · rw [List.length_cons]; omega
        · exact ih
/-- the places that are found, as the law goes on from the latest ones -/
structure Walk (z : List Nat) (w : W) (ps fd lt : List Nat) (i : Nat) : Prop where
  sound : ∀ r, r ∈ fd → r ≤ z.length ∧ ∃ p, p ∈ ps ∧ en z (.again w) p r = true
  all : ∀ p, p ∈ ps → p ∈ fd
  old : ∀ p, p ∈ lt → p ∈ fd
  done : ∀ a b, a ∈ fd → a ∉ lt → en z w a b = true → b ∈ fd
  many : i ≤ ((List.range (z.length + 1)).filter fun r => decide (r ∈ fd)).length
theorem Walk.start {z : List Nat} {w : W} {ps : List Nat} (h : ∀ p, p ∈ ps → p ≤ z.length) : Walk z w ps ps ps 0 :=
  ⟨fun r hr => ⟨h r hr, r, hr, again_self z w r (h r hr)⟩, fun _ h => h, fun _ h => h, fun a b h1 h2 => absurd h1 h2, Nat.zero_le _⟩
theorem Walk.stop {z : List Nat} {w : W} {ps fd lt : List Nat} {i : Nat} (h : Walk z w ps fd lt i) (e : (EN z w lt).filter (fun x => decide (x ∉ fd)) = []) : ∀ a b, a ∈ fd → en z w a b = true → b ∈ fd := fun a b ha hb => by
  by_cases c : a ∈ lt
  · refine Classical.byContradiction fun hn => ?_
    have hab := en_in z w a b (h.sound a ha).1 hb
    have hm : b ∈ (EN z w lt).filter (fun x => decide (x ∉ fd)) := List.mem_filter.mpr ⟨mem_EN.mpr ⟨hab.2, a, c, hb⟩, decide_eq_true hn⟩
    rw [e] at hm
    cases hm
  · exact h.done a b ha c hb
theorem Walk.full {z : List Nat} {w : W} {ps fd lt : List Nat} (h : Walk z w ps fd lt (z.length + 1)) : ∀ a b, a ∈ fd → en z w a b = true → b ∈ fd := fun a b ha hb => by
  refine Classical.byContradiction fun hn => ?_
  have hab := en_in z w a b (h.sound a ha).1 hb
  have h1 := cnt_more (List.range (z.length + 1)) (fun r => decide (r ∈ fd)) (fun _ => true) (fun _ _ _ => rfl) b (by rw [List.mem_range]; omega) (fun q => hn (of_decide_eq_true q)) rfl
  have h2 := List.length_filter_le (fun _ => true) (List.range (z.length + 1))
  rw [List.length_range] at h2
  have := h.many
  omega
theorem Walk.next {z : List Nat} {w : W} {ps fd lt : List Nat} {i : Nat} (h : Walk z w ps fd lt i) (e : (EN z w lt).filter (fun x => decide (x ∉ fd)) ≠ []) : Walk z w ps (fd ++ (EN z w lt).filter fun x => decide (x ∉ fd)) ((EN z w lt).filter fun x => decide (x ∉ fd)) (i + 1) := by
  refine ⟨fun r hr => ?_, fun p hp => List.mem_append_left _ (h.all p hp), fun p hp => List.mem_append_right _ hp, fun a b ha hn hb => ?_, ?_⟩
  · rcases List.mem_append.mp hr with hr | hr
    · exact h.sound r hr
    · obtain ⟨h1, a, h2, h3⟩ := mem_EN.mp (List.mem_filter.mp hr).1
      obtain ⟨h4, p, h5, h6⟩ := h.sound a (h.old a h2)
      have hp := (h.sound p (h.all p h5)).1
      exact ⟨h1, p, h5, again_snoc z w _ p a r (Nat.le_refl _) hp h6 h3⟩
  · have ha : a ∈ fd := by
      rcases List.mem_append.mp ha with q | q
      · exact q
      · exact absurd q hn
    by_cases c : a ∈ lt
    · by_cases d : b ∈ fd
      · exact List.mem_append_left _ d
      · have hab := en_in z w a b (h.sound a ha).1 hb
        exact List.mem_append_right _ (List.mem_filter.mpr ⟨mem_EN.mpr ⟨hab.2, a, c, hb⟩, decide_eq_true d⟩)
    · exact List.mem_append_left _ (h.done a b ha c hb)
  · obtain ⟨x, hx⟩ := List.exists_mem_of_ne_nil _ e
    have hx' := List.mem_filter.mp hx
    have h1 := (mem_EN.mp hx'.1).1
    have := cnt_more (List.range (z.length + 1)) (fun r => decide (r ∈ fd)) (fun r => decide (r ∈ fd ++ (EN z w lt).filter fun x => decide (x ∉ fd))) (fun y _ hy => decide_eq_true (List.mem_append_left _ (of_decide_eq_true hy))) x (by rw [List.mem_range]; omega)
      (fun q => (of_decide_eq_true hx'.2) (of_decide_eq_true q)) (decide_eq_true (List.mem_append_right _ hx))
    have := h.many
    omega
theorem Walk.told {z : List Nat} {w : W} {ps fd lt : List Nat} {i : Nat} (h : Walk z w ps fd lt i) (c : ∀ a b, a ∈ fd → en z w a b = true → b ∈ fd) (r : Nat) : r ∈ fd ↔ ∃ p, p ∈ ps ∧ en z (.again w) p r = true := by
  constructor
  · exact fun q => (h.sound r q).2
  · rintro ⟨p, h1, h2⟩
    exact again_closed z w (fun x => x ∈ fd) (fun a b ha _ hb => c a b ha hb) _ p r (Nat.le_refl _) (h.sound p (h.all p h1)).1 (h.all p h1) h2
end Hi
namespace Hi
open PySem PySem.Spec PyProof.Rows L2 Wv Tk
/-! ### what the law's own run takes -/
def spTake (s : Nat) : Sp := fun vs H Q _ => ∃ (v : V) (w : W) (z y : List Nat) (p : Nat), vs = [v, .str (tx z), .int (p : Nat)] ∧ WayAt H v w ∧ w.wf y ∧ w.size ≤ s ∧ z.length ≤ 1000 ∧ p ≤ z.length ∧ ∀ H', Same H H' → Q (told (ew z w p) p) H'
def spTakeRow (s : Nat) : Sp := fun vs H Q _ => ∃ (q : Addr) (us : List V) (ws : List W) (z y : List Nat) (p : Nat), vs = [.ref q, .str (tx z), .int (p : Nat)] ∧ H q = some (.lst us) ∧ WaysAt H us ws ∧ W.wfs y ws ∧ W.sizes ws ≤ s ∧ z.length ≤ 1000 ∧ p ≤ z.length ∧ ∀ H', Same H H' → Q (told (ewR z ws p) p) H'
theorem cut_one (z : List Nat) (p : Nat) : cutS (tx z) (some ((p : Nat) : Int)) (some (((p : Nat) : Int) + 1)) = match z[p]? with | some c => sg c | none => tx [] := by
  unfold cutS
  rw [Wv.tx_len, tx_list, HT.sIx_nat, show ((p : Nat) : Int) + 1 = ((p + 1 : Nat) : Int) from rfl, HT.sIx_nat]
  by_cases h : p < z.length
  · rw [Nat.min_eq_left (by omega), Nat.min_eq_left (by omega), show p + 1 - p = 1 by omega, List.getElem?_eq_getElem h, List.drop_eq_getElem_cons h]
    rfl
  · rw [Nat.min_eq_right (by omega), Nat.min_eq_right (by omega), Nat.sub_self, List.take_zero, List.getElem?_eq_none (by omega)]
    rfl
theorem wfs_at {y : List Nat} : ∀ {ws : List W} {i : Nat} {w : W}, W.wfs y ws → ws[i]? = some w → w.wf y
  | [], i, w, _, e => by simp at e
  | x :: ws, 0, w, h, e => by have q : x = w := by simpa using e
                              subst q; exact h.1
  | x :: ws, i + 1, w, h, e => wfs_at h.2 (by simpa using e)
theorem ewR_drop {z : List Nat} {ws : List W} {i : Nat} {w : W} (h : ws[i]? = some w) (e : Nat) : ewR z (ws.drop i) e = match ew z w e with | some q => ewR z (ws.drop (i + 1)) q | none => none := by
  have hl := (List.getElem?_eq_some_iff.mp h).1
  have hw := (List.getElem?_eq_some_iff.mp h).2
  rw [List.drop_eq_getElem_cons hl, hw]
  conv => lhs; unfold ewR
  all_goals (cases ew z w e <;> rfl)
theorem ewC_drop {z : List Nat} {ws : List W} {i : Nat} {w : W} (h : ws[i]? = some w) (e : Nat) : ewC z (ws.drop i) e = match ew z w e with | some q => some q | none => ewC z (ws.drop (i + 1)) e := by
  have hl := (List.getElem?_eq_some_iff.mp h).1
  have hw := (List.getElem?_eq_some_iff.mp h).2
  rw [List.drop_eq_getElem_cons hl, hw]
  conv => lhs; unfold ewC
  all_goals (cases ew z w e <;> rfl)
theorem Same.refl (H : Hp) : Same H H := fun _ _ e => e
def is_lo : W → Bool
  | .letter _ => true
  | .one => true
  | _ => false
theorem gset_eq {i : Nat} {v x : V} {σ : L2.St} {H : Hp} {Q : L2.St → Hp → Prop} (e : v = x) (h : Q (σ.set i (some x)) H) : gName i v σ H Q := by subst e; exact h
theorem told_one (p : Nat) : told (some (p + 1)) p = .int 1 := congrArg V.int (by omega)
theorem in_lo (w : W) : inV (.str w.tag) [.str (Str.ofString "letter"), .str (Str.ofString "one")] = is_lo w := by cases w <;> (simp only [W.tag, is_lo]; decide +kernel)
section
variable {P : Program} {w : World} {K : PySem.W.Frag} {mg : Str → Option Value} {base : Heap}
abbrev s_l_take_row : Stmt := top 72
theorem sc_l_take_row : FnScope ["_law_ways", "_law_text_here", "_law_place", "_law_end", "_law_one", "_law_told"] ["_law_ways", "_law_text_here", "_law_place"] (defScope s_l_take_row) := ⟨rfl, rfl, rfl, by decide +kernel, rfl, by decide +kernel, by decide +kernel⟩
theorem step_take_row (s : Nat) (h : Here K mg "_law_take_row" s_l_take_row ["_law_ways", "_law_text_here", "_law_place"]) (G_l_take : DefOk P w K mg base (1 + 2 * s) "_law_take" ["_law_way_here", "_law_text_here", "_law_place"] (spTake s)) : DefOk P w K mg base (1 + 2 * s + 1) "_law_take_row" ["_law_ways", "_law_text_here", "_law_place"] (spTakeRow s) := by
  refine h.ok sc_l_take_row (fun vs H Q E h => by obtain ⟨_, _, _, _, _, _, rfl, _⟩ := h; rfl) (fun f cdv A outer s' H vs Q E hr h => ?_)
  obtain ⟨q, us, ws, z, y, p, rfl, hq, hus, hwf, hsz, hz, hp, k⟩ := h
  refine ⟨_, (pss_cons (ps_set (i := 3) sc_l_take_row.nd rfl (Or.inl rfl) (pv 2))
  (pss_cons (ps_for PassesOwn.never rfl (pi_list (pv 0)) (pg_name (i := 4) sc_l_take_row.nd rfl (Or.inl rfl))
   (pss_cons (ps_set (i := 5) sc_l_take_row.nd rfl (Or.inl rfl) (pe_callD G_l_take (hr.mono (by first | decide | omega)) rfl (pa_cons (pv 4) (pa_cons (pv 1) (pa_cons (pv 3) pa_nil)))))
  (pss_cons (ps_if (pt_cmpR op_isN (pv 5) pe_non (nomark _)) (pss_one (ps_ret pe_non)) pss_nil)
  (pss_one (ps_set (i := 3) sc_l_take_row.nd rfl (Or.inl rfl) (pe_op op_add (pv 3) (pv 5)))))))
  (pss_one (ps_ret (pe_op op_sub (pv 3) (pv 2)))))), ?_⟩
  have hlen := WaysAt.len _ _ hus
  walk_at "nx"
  refine ⟨_, rfl, ?_⟩
  walk_at "nx"
  refine ⟨_, rfl, q, rfl, ⟨_, SqL.of hq⟩, ?_⟩
  refine for_list (K := K) (a := q) (xs := us) (fun i σ H' => ∃ (e : Nat) (x4 x5 : Option V), σ = [some (.ref q), some (.str (tx z)), some (.int (p : Nat)), some (.int (e : Nat)), x4, x5] ∧ e ≤ z.length ∧ ewR z ws p = ewR z (ws.drop i) e ∧ Same H H') ?_ ?_ ?_ ?_
  · exact ⟨p, none, none, rfl, hp, rfl, Same.refl _⟩
  · rintro i σ H1 _ ⟨_, _, _, _, _, _, s1⟩
    exact SqL.of (s1 _ _ hq)
  · rintro i x σ H1 hx ⟨e, x4, x5, rfl, he, hew, s1⟩
    have hi : i < us.length := (List.getElem?_eq_some_iff.mp hx).1
    obtain ⟨wi, hwi⟩ := get_lt (l := ws) (j := i) (by omega)
    obtain ⟨x', hx', hxw⟩ := WaysAt.at_ _ _ _ _ hus hwi
    have ex : x = x' := Option.some.inj (hx.symm.trans hx')
    subst ex
    have hs := W.size_mem hwi
    walk_at "nx"
    refine ⟨_, rfl, _, rfl, _, rfl, x, wi, z, y, e, rfl, WayAt.keep (Keep.of s1) _ _ hxw, wfs_at hwf hwi, by omega, hz, he, fun H2 s2 => ?_⟩
    walk_at "nx"
    refine ⟨_, rfl, rfl, _, rfl, ?_⟩
    cases er : ew z wi e with
    | none =>
      rw [hew, ewR_drop hwi, er] at k
      refine iteT ?_
      walk_at "nx"
      exact k _ (s1.trans s2)
    | some r =>
      have hr := ew_in z wi e r he er
      refine iteF ?_
      walk_at "nx"
      refine ⟨_, rfl, _, rfl, _, _, rfl, rfl, ?_⟩
      refine ⟨r, _, _, congrArg (fun t => [some (V.ref q), some (.str (tx z)), some (.int (p : Nat)), some (V.int t), some x, some (told (some r) e)]) (by omega), hr.2, ?_, s1.trans s2⟩
      rw [hew, ewR_drop hwi, er]
  · rintro σ H1 ⟨e, x4, x5, rfl, he, hew, s1⟩
    walk_at "nx"
    refine ⟨_, rfl, _, rfl, _, _, rfl, rfl, ?_⟩
    rw [hlen, List.drop_length] at hew
    rw [hew] at k
    unfold ewR at k
    exact k _ s1
abbrev s_l_take : Stmt := top 71
theorem sc_l_take : FnScope ["_law_way_here", "_law_text_here", "_law_place", "_law_word", "_law_here", "_law_one", "_law_told", "_law_end", "_law_turn"] ["_law_way_here", "_law_text_here", "_law_place"] (defScope s_l_take) := ⟨rfl, rfl, rfl, by decide +kernel, rfl, by decide +kernel, by decide +kernel⟩
theorem step_take (s : Nat) (h : Here K mg "_law_take" s_l_take ["_law_way_here", "_law_text_here", "_law_place"]) (B : Bs mg) (G_l_take : DefOk P w K mg base (1 + 2 * s) "_law_take" ["_law_way_here", "_law_text_here", "_law_place"] (spTake s)) (G_l_take_row : DefOk P w K mg base (1 + 2 * s + 1) "_law_take_row" ["_law_ways", "_law_text_here", "_law_place"] (spTakeRow s)) :
    DefOk P w K mg base (1 + 2 * s + 1 + 1) "_law_take" ["_law_way_here", "_law_text_here", "_law_place"] (spTake (s + 1)) := by
  have B_len := B.len; have B_range := B.range
  refine h.ok sc_l_take (fun vs H Q E h => by obtain ⟨_, _, _, _, _, rfl, _⟩ := h; rfl) (fun f cdv A outer s' H vs Q E hr h => ?_)
  obtain ⟨v, w, z, y, p, rfl, hv, hwf, hsz, hz, hp, k⟩ := h
  refine ⟨_, (pss_cons (ps_set (i := 3) sc_l_take.nd rfl (Or.inl rfl) (pe_ix ix_tup (pv 0) pe_int (fun _ _ => rfl)))
  (pss_cons (ps_if (pt_cmpR op_in_seq (pv 3) (pe_lst (pa_cons pe_str (pa_cons pe_str pa_nil))) (by rfl)) (pss_cons (ps_set (i := 4) sc_l_take.nd rfl (Or.inl rfl) (pe_slice sl_str (pv 1) (po_some (pv 2)) (po_some (pe_op op_add (pv 2) pe_int))))
  (pss_one (ps_ret (pe_ifExp (PW.pt (pw_and (pt_cmpR op_ne (pv 4) pe_str (nomark _)) (pw_and1 (PW.pt (pw_or (pt_cmpR op_eq (pv 3) pe_str (nomark _)) (pw_or1 (pt_cmpR op_eq (pv 4) (pe_ix ix_tup (pv 0) pe_int (fun _ _ => rfl)) (nomark _)))))))) pe_int pe_non)))) pss_nil)
  (pss_cons (ps_if (pt_cmpR op_eq (pv 3) pe_str (nomark _)) (pss_one (ps_ret pe_int)) pss_nil)
  (pss_cons (ps_if (pt_cmpR op_eq (pv 3) pe_str (nomark _)) (pss_one (ps_ret (pe_callD G_l_take_row (hr.mono (by first | decide | omega)) rfl (pa_cons (pe_ix ix_tup (pv 0) pe_int (fun _ _ => rfl)) (pa_cons (pv 1) (pa_cons (pv 2) pa_nil)))))) pss_nil)
  (pss_cons (ps_if (pt_cmpR op_eq (pv 3) pe_str (nomark _)) (pss_cons (ps_for PassesOwn.never rfl (pi_list (pe_ix ix_tup (pv 0) pe_int (fun _ _ => rfl))) (pg_name (i := 5) sc_l_take.nd rfl (Or.inl rfl))
   (pss_cons (ps_set (i := 6) sc_l_take.nd rfl (Or.inl rfl) (pe_callD G_l_take (hr.mono (by first | decide | omega)) rfl (pa_cons (pv 5) (pa_cons (pv 1) (pa_cons (pv 2) pa_nil)))))
  (pss_one (ps_if (pt_cmpR op_notN (pv 6) pe_non (nomark _)) (pss_one (ps_ret (pv 6))) pss_nil))))
  (pss_one (ps_ret pe_non))) pss_nil)
  (pss_cons (ps_set (i := 6) sc_l_take.nd rfl (Or.inl rfl) (pe_callD G_l_take (hr.mono (by first | decide | omega)) rfl (pa_cons (pe_ix ix_tup (pv 0) pe_int (fun _ _ => rfl)) (pa_cons (pv 1) (pa_cons (pv 2) pa_nil)))))
  (pss_cons (ps_if (pt_cmpR op_eq (pv 3) pe_str (nomark _)) (pss_cons (ps_set (i := 7) sc_l_take.nd rfl (Or.inl rfl) (pv 2))
  (pss_cons (ps_for PassesOwn.never rfl (pi_range1 rfl B_range (pa_cons (pe_op op_add (pe_callB call_len_str rfl B_len PySem.boot_len (pa_cons (pv 1) pa_nil)) pe_int) pa_nil)) (pg_name (i := 8) sc_l_take.nd rfl (Or.inl rfl))
   (pss_cons (ps_if (PW.pt (pw_or (pt_cmpR op_isN (pv 6) pe_non (nomark _)) (pw_or1 (pt_cmpR op_eq (pv 6) pe_int (nomark _))))) (pss_one (ps_ret (pe_op op_sub (pv 7) (pv 2)))) pss_nil)
  (pss_cons (ps_set (i := 7) sc_l_take.nd rfl (Or.inl rfl) (pe_op op_add (pv 7) (pv 6)))
  (pss_one (ps_set (i := 6) sc_l_take.nd rfl (Or.inl rfl) (pe_callD G_l_take (hr.mono (by first | decide | omega)) rfl (pa_cons (pe_ix ix_tup (pv 0) pe_int (fun _ _ => rfl)) (pa_cons (pv 1) (pa_cons (pv 7) pa_nil)))))))))
  (pss_one (ps_ret (pe_op op_sub (pv 7) (pv 2)))))) pss_nil)
  (pss_cons (ps_if (pt_cmpR op_eq (pv 3) pe_str (nomark _)) (pss_one (ps_ret (pe_ifExp (pt_cmpR op_isN (pv 6) pe_non (nomark _)) pe_int (pv 6)))) pss_nil)
  (pss_one (ps_ret (pe_ifExp (pt_cmpR op_eq (pe_cmpR op_isN (pv 6) pe_non (nomark _)) (pe_cmpR op_eq (pv 3) pe_str (nomark _)) (nomark _)) pe_int pe_non))))))))))), ?_⟩
  obtain ⟨a, rest, rfl, ha⟩ := hv.head
  walk_at "nx"
  refine ⟨_, rfl, a, _, _, _, rfl, rfl, SqT.of ha, atI0, ?_⟩
  walk_at "nx"
  refine ⟨_, rfl, by show 2 ≤ sizeLine; decide, fun q hq => ?_⟩
  have s1 := Same.new hq (.lst [.str (Str.ofString "letter"), .str (Str.ofString "one")])
  refine ⟨q, _, rfl, .inl (SqL.of upd_same), rfl, by decide +kernel, ?_⟩
  rw [if_neg Bool.false_ne_true, in_lo]
  walk_at "rd"
  generalize upd H q (.lst [.str (Str.ofString "letter"), .str (Str.ofString "one")]) = H1 at *
  have ha1 := s1 _ _ ha
  have hv1 := WayAt.keep (Keep.of s1) _ _ hv
  refine ite2 (fun e => ?_) (fun e => ?_)
  · walk_at "nx"
    refine ⟨_, rfl, _, rfl, _, rfl, _, rfl, _, _, rfl, rfl, _, rfl, _, rfl, by rw [Wv.tx_len]; exact Nat.le_of_lt (small' (by omega)), ?_⟩
    rw [cut_one z p]
    cases hc : z[p]? with
    | none =>
      have hn : ew z w p = none := by
        have hp' := List.getElem?_eq_none_iff.mp hc
        cases w <;> first | exact absurd e Bool.false_ne_true | skip
        · unfold ew; rw [if_neg (by omega)]
        · unfold ew; rw [hc, if_neg (fun q => nomatch q)]
      walk_at "nx"
      refine ⟨_, rfl, rfl, _, rfl, ?_⟩
      refine ite2 (fun e1 => absurd e1 ?_) (fun e1 => ?_)
      · rw [empty_tx]; simp
      · refine iteF ?_
        rw [hn] at k
        exact k H1 s1
    | some c0 =>
      walk_at "nx"
      refine ⟨_, rfl, rfl, _, rfl, ?_⟩
      refine ite2 (fun e1 => ?_) (fun e1 => absurd ?_ e1)
      · refine ⟨_, rfl, rfl, _, rfl, ?_⟩
        rw [eq_one]
        have hp' := (List.getElem?_eq_some_iff.mp hc).1
        cases w <;> first | exact absurd e Bool.false_ne_true | skip
        · refine iteT (iteT ?_)
          have := k H1 s1
          unfold ew at this
          rw [if_pos hp', told_one] at this
          exact this
        · refine iteF ?_
          obtain ⟨a', e', h1⟩ := hv1
          cases e'
          refine ⟨_, rfl, _, rfl, a, _, _, _, rfl, rfl, SqT.of h1, atI1, rfl, _, rfl, ?_⟩
          have := k H1 s1
          unfold ew at this
          rw [hc] at this
          rename_i x0
          by_cases hx : c0 = x0
          · subst hx
            rw [if_pos rfl, told_one] at this
            rw [decide_eq_true rfl]
            exact iteT this
          · rw [if_neg (fun q => hx (Option.some.inj q))] at this
            rw [decide_eq_false (fun q => hx (by have := V.str.inj q; simpa [sg] using this))]
            exact iteF this
      · show (!decide (V.str (sg c0) = V.str (Str.ofString ""))) = true
        rw [empty_tx]
        simp [sg, tx]
  · walk_at "nx"
    walk_at "rd"
    rw [eq_nothing]
    refine ite2 (fun e2 => ?_) (fun e2 => ?_)
    · cases w <;> first | exact absurd e2 Bool.false_ne_true | skip
      walk_at "nx"
      refine Eq.mp (congrArg (fun x => Q x H1) ?_) (k H1 s1)
      unfold ew
      exact congrArg V.int (by omega)
    walk_at "nx"
    walk_at "rd"
    rw [eq_row]
    refine ite2 (fun e3 => ?_) (fun e3 => ?_)
    · cases w <;> first | exact absurd e3 Bool.false_ne_true | skip
      obtain ⟨a', l, us, e', h1, h2, h3⟩ := hv1
      cases e'
      walk_at "nx"
      refine ⟨_, rfl, a, _, _, _, rfl, rfl, SqT.of h1, atI1, ?_⟩
      refine ⟨_, rfl, _, rfl, l, us, _, z, y, p, rfl, h2, h3, hwf.2, by have : 1 + W.sizes _ ≤ s + 1 := hsz; omega, hz, hp, fun H2 s2 => ?_⟩
      have := k H2 (s1.trans s2)
      unfold ew at this
      exact this
    walk_at "nx"
    walk_at "rd"
    rw [eq_choice]
    refine ite2 (fun e4 => ?_) (fun e4 => ?_)
    · cases w <;> first | exact absurd e4 Bool.false_ne_true | skip
      rename_i ws
      obtain ⟨a', l, us, e', h1, h2, h3⟩ := hv1
      cases e'
      have hlen := WaysAt.len _ _ h3
      have hsz' : 1 + W.sizes ws ≤ s + 1 := hsz
      have kC : ∀ H', Same H H' → Q (told (ewC z ws p) p) H' := fun H' s' => by
        have := k H' s'
        unfold ew at this
        exact this
      walk_at "nx"
      refine ⟨_, rfl, a, _, _, _, rfl, rfl, SqT.of h1, atI1, l, rfl, ⟨_, SqL.of h2⟩, ?_⟩
      refine for_list (K := K) (a := l) (xs := us) (fun i σ H' => ∃ (x5 x6 : Option V), σ = [some (.ref a), some (.str (tx z)), some (.int (p : Nat)), some (.str (W.choice ws).tag), none, x5, x6, none, none] ∧ ewC z ws p = ewC z (ws.drop i) p ∧ Same H1 H') ?_ ?_ ?_ ?_
      · exact ⟨none, none, rfl, rfl, Same.refl _⟩
      · rintro i σ H2 _ ⟨_, _, _, _, s2⟩
        exact SqL.of (s2 _ _ h2)
      · rintro i x σ H2 hx ⟨x5, x6, rfl, hew, s2⟩
        have hi : i < us.length := (List.getElem?_eq_some_iff.mp hx).1
        obtain ⟨wi, hwi⟩ := get_lt (l := ws) (j := i) (by omega)
        obtain ⟨x', hx', hxw⟩ := WaysAt.at_ _ _ _ _ h3 hwi
        have ex : x = x' := Option.some.inj (hx.symm.trans hx')
        subst ex
        have hs := W.size_mem hwi
        walk_at "nx"
        refine ⟨_, rfl, _, rfl, _, rfl, x, wi, z, y, p, rfl, WayAt.keep (Keep.of s2) _ _ hxw, wfs_at hwf.2 hwi, by omega, hz, hp, fun H3 s3 => ?_⟩
        walk_at "nx"
        refine ⟨_, rfl, rfl, _, rfl, ?_⟩
        cases er : ew z wi p with
        | none =>
          refine iteF ?_
          walk_at "nx"
          refine ⟨_, _, rfl, ?_, s2.trans s3⟩
          rw [hew, ewC_drop hwi, er]
        | some r =>
          rw [hew, ewC_drop hwi, er] at kC
          refine iteT ?_
          walk_at "nx"
          refine ⟨_, rfl, ?_⟩
          exact kC _ ((s1.trans s2).trans s3)
      · rintro σ H2 ⟨x5, x6, rfl, hew, s2⟩
        walk_at "nx"
        rw [hlen, List.drop_length] at hew
        rw [hew] at kC
        unfold ewC at kC
        exact kC _ (s1.trans s2)
    walk_at "nx"
    obtain ⟨u, x, h1, h2, hx, hxs, hw⟩ : ∃ u x, H1 a = some (.tup [.str w.tag, u]) ∧ WayAt H1 u x ∧ x.wf y ∧ x.size ≤ s ∧ (w = .again x ∨ w = .maybe x ∨ w = .ahead x ∨ w = .unless x) := by
      cases w <;> first | exact absurd rfl e | exact absurd rfl e2 | exact absurd rfl e3 | exact absurd rfl e4 | skip
      case call => exact hwf.elim
      all_goals
        rename_i x
        obtain ⟨a', u, e', h1, h2⟩ := hv1
        cases e'
        have hxs : 1 + x.size ≤ s + 1 := hsz
        exact ⟨u, x, h1, h2, hwf, by omega, by simp⟩
    refine ⟨_, rfl, a, _, _, _, rfl, rfl, SqT.of h1, atI1, ?_⟩
    refine ⟨_, rfl, _, rfl, u, x, z, y, p, rfl, h2, hx, hxs, hz, hp, fun H2 s2 => ?_⟩
    walk_at "nx"
    walk_at "rd"
    rw [eq_again]
    refine ite2 (fun e5 => ?_) (fun e5 => ?_)
    · have hw' : w = .again x := by rcases hw with rfl | rfl | rfl | rfl <;> first | rfl | exact absurd e5 Bool.false_ne_true
      subst hw'
      walk_at "nx"
      refine ⟨_, rfl, ?_⟩
      walk_at "nx"
      have hz' := hz
      refine ⟨_, rfl, _, rfl, by rw [Wv.tx_len]; exact Nat.le_of_lt (small' (by omega)), _, _, rfl, rfl, ((z.length : Nat) : Int) + 1, by rw [Wv.tx_len], by omega, by omega, ?_⟩
      rw [show (((z.length : Nat) : Int) + 1).toNat = z.length + 1 by omega]
      refine for_range (lo := 0) (n := z.length + 1) (fun i σ H' => ∃ (e : Nat) (x8 : Option V), σ = [some (.ref a), some (.str (tx z)), some (.int (p : Nat)), some (.str (W.again x).tag), none, none, some (told (ew z x e) e), some (.int (e : Nat)), x8] ∧ e ≤ z.length ∧ p + i ≤ e ∧ ew z (.again x) p = ew z (.again x) e ∧ Same H1 H') ?_ ?_ ?_
      · exact ⟨p, none, rfl, hp, Nat.le_refl _, rfl, s2⟩
      · rintro i σ H3 hi ⟨e, x8, rfl, he, hie, hew, s3⟩
        rw [hew, ew_again z x e he] at k
        walk_at "nx"
        refine ⟨_, rfl, rfl, _, rfl, ?_⟩
        cases er : ew z x e with
        | none =>
          rw [er] at k
          refine iteT (iteT ?_)
          walk_at "nx"
          refine ⟨_, rfl, _, rfl, _, _, rfl, rfl, ?_⟩
          exact k _ (s1.trans s3)
        | some r =>
          rw [er] at k
          have hr := ew_in z x e r he er
          refine iteF ?_
          refine ⟨_, rfl, rfl, _, rfl, ?_⟩
          by_cases hre : e < r
          · have eF : decide (told (some r) e = V.int 0) = false := decide_eq_false fun q => by
              have := V.int.inj q
              omega
            rw [eF]
            refine iteF ?_
            walk_at "nx"
            refine ⟨_, rfl, _, rfl, _, _, rfl, rfl, ?_⟩
            refine gset_eq (x := .int (r : Nat)) (congrArg V.int (by omega)) ?_
            walk_at "nx"
            refine ⟨_, rfl, a, _, _, _, rfl, rfl, SqT.of (s3 _ _ h1), atI1, ?_⟩
            refine ⟨_, rfl, _, rfl, u, x, z, y, r, rfl, WayAt.keep (Keep.of s3) _ _ h2, hx, hxs, hz, hr.2, fun H4 s4 => ?_⟩
            walk_at "nx"
            refine ⟨r, _, rfl, hr.2, by omega, ?_, s3.trans s4⟩
            rw [hew, ew_again z x e he, er]
            exact if_pos hre
          · have eT : decide (told (some r) e = V.int 0) = true := decide_eq_true (congrArg V.int (by omega))
            rw [eT]
            refine iteT ?_
            walk_at "nx"
            refine ⟨_, rfl, _, rfl, _, _, rfl, rfl, ?_⟩
            dsimp only at k
            rw [if_neg hre] at k
            exact k _ (s1.trans s3)
      · rintro σ H3 ⟨e, x8, rfl, he, hie, hew, s3⟩
        omega
    walk_at "nx"
    walk_at "rd"
    rw [eq_maybe]
    refine ite2 (fun e6 => ?_) (fun e6 => ?_)
    · have hw' : w = .maybe x := by rcases hw with rfl | rfl | rfl | rfl <;> first | rfl | exact absurd e6 Bool.false_ne_true | exact absurd rfl e5
      subst hw'
      walk_at "nx"
      refine ⟨_, rfl, rfl, _, rfl, ?_⟩
      have := k H2 (s1.trans s2)
      unfold ew at this
      cases er : ew z x p with
      | none =>
        rw [er] at this
        rw [show told (some ((none : Option Nat).getD p)) p = .int 0 from congrArg V.int (by show ((p : Nat) : Int) - (p : Nat) = 0; omega)] at this
        exact iteT this
      | some r =>
        rw [er] at this
        exact iteF ⟨_, rfl, this⟩
    walk_at "nx"
    refine ⟨_, rfl, rfl, _, rfl, ?_⟩
    refine ⟨rfl, rfl, _, rfl, ?_⟩
    rw [eq_unless]
    have e7 : told (some p) p = .int 0 := congrArg V.int (by omega)
    have kk := k H2 (s1.trans s2)
    rcases hw with rfl | rfl | rfl | rfl
    · exact absurd rfl e5
    · exact absurd rfl e6
    · unfold ew at kk
      cases er : ew z x p with
      | none => rw [er, if_neg (fun q => nomatch q)] at kk; exact iteF kk
      | some r => rw [er, if_pos (show (some r).isSome = true from rfl), e7] at kk; exact iteT kk
    · unfold ew at kk
      cases er : ew z x p with
      | none => rw [er, if_neg (fun q => nomatch q), e7] at kk; exact iteT kk
      | some r => rw [er, if_pos (show (some r).isSome = true from rfl)] at kk; exact iteF kk
theorem none_take {f : Addr} {fd : FuncData} : FnOk P w K mg base CX0 1 f fd ["_law_way_here", "_law_text_here", "_law_place"] (spTake 0) := by
  have no : ∀ vs H Q E, ¬ spTake 0 vs H Q E := fun vs H Q E h => by
    obtain ⟨v, w, _, _, _, _, _, _, h1, _⟩ := h
    have := w.size_pos
    omega
  exact ⟨fun vs H Q E h => absurd h (no vs H Q E), fun A outer s H args us vs Q E _ _ _ _ h => absurd h (no vs H Q E)⟩
theorem d_l_take (h : Here K mg "_law_take" s_l_take ["_law_way_here", "_law_text_here", "_law_place"]) (h2 : Here K mg "_law_take_row" s_l_take_row ["_law_ways", "_law_text_here", "_law_place"]) (B : Bs mg) : ∀ s, DefOk P w K mg base (1 + 2 * s) "_law_take" ["_law_way_here", "_law_text_here", "_law_place"] (spTake s)
  | 0 => by
    obtain ⟨f, fd, F, m, b⟩ := h.ex
    exact ⟨f, fd, m, F.kp, b, none_take⟩
  | s + 1 => step_take s h B (d_l_take h h2 B s) (step_take_row s h2 (d_l_take h h2 B s))
end
end Hi
namespace Hi
open PySem PySem.Spec PyProof.Rows L2 Wv Tk
/-! ### all places where a way may end, as the law goes through them -/
def ENR (z : List Nat) (ws : List W) (ps : List Nat) : List Nat := (List.range (z.length + 1)).filter fun r => ps.any fun p => enR z ws p r
theorem EN_row (z : List Nat) (ws : List W) (ps : List Nat) : EN z (.row ws) ps = ENR z ws ps := by
  unfold EN ENR
  refine List.filter_congr fun r _ => ?_
  congr 1
theorem mem_ENR {z : List Nat} {ws : List W} {ps : List Nat} {r : Nat} : r ∈ ENR z ws ps ↔ r ≤ z.length ∧ ∃ p, p ∈ ps ∧ enR z ws p r = true := by
  unfold ENR
  rw [List.mem_filter, List.mem_range, List.any_eq_true]
  constructor
  · rintro ⟨h, h2⟩; exact ⟨by omega, h2⟩
  · rintro ⟨h, h2⟩; exact ⟨by omega, h2⟩
theorem ENR_len (z : List Nat) (ws : List W) (ps : List Nat) : (ENR z ws ps).length ≤ z.length + 1 := by
  have := List.length_filter_le (fun r => ps.any fun p => enR z ws p r) (List.range (z.length + 1))
  rw [List.length_range] at this
  exact this
/-- the places behind so many ways of a row -/
def rowP (z : List Nat) (ws : List W) (ps : List Nat) (i : Nat) : List Nat := if i = 0 then ps else ENR z (ws.take i) ps
theorem rowP_mem {z : List Nat} {ws : List W} {ps : List Nat} (h : ∀ p, p ∈ ps → p ≤ z.length) (i r : Nat) : r ∈ rowP z ws ps i ↔ r ≤ z.length ∧ ∃ p, p ∈ ps ∧ enR z (ws.take i) p r = true := by
  unfold rowP
  by_cases c : i = 0
  · rw [if_pos c, c, List.take_zero]
    constructor
    · exact fun q => ⟨h r q, r, q, by unfold enR; exact decide_eq_true rfl⟩
    · rintro ⟨_, p, h1, h2⟩
      unfold enR at h2
      rw [← of_decide_eq_true h2]
      exact h1
  · rw [if_neg c]
    exact mem_ENR
theorem rowP_next {z : List Nat} {ws : List W} {ps : List Nat} (h : ∀ p, p ∈ ps → p ≤ z.length) {i : Nat} {w : W} (hw : ws[i]? = some w) : EN z w (rowP z ws ps i) = rowP z ws ps (i + 1) := by
  have e : rowP z ws ps (i + 1) = ENR z (ws.take (i + 1)) ps := if_neg (Nat.succ_ne_zero i)
  rw [e]
  unfold EN ENR
  refine List.filter_congr fun r hr => ?_
  rw [List.mem_range] at hr
  rw [Bool.eq_iff_iff, List.any_eq_true, List.any_eq_true, List.take_add_one, hw]
  constructor
  · rintro ⟨c, hc, h2⟩
    obtain ⟨h3, p, h4, h5⟩ := (rowP_mem h i c).mp hc
    refine ⟨p, h4, ?_⟩
    show enR z (ws.take i ++ [w]) p r = true
    rw [enR_snoc z w _ p r (h p h4) (by omega), anyN_true]
    exact ⟨c, h3, by rw [h5, h2]; rfl⟩
  · rintro ⟨p, h4, h5⟩
    have h5 : enR z (ws.take i ++ [w]) p r = true := h5
    rw [enR_snoc z w _ p r (h p h4) (by omega), anyN_true] at h5
    obtain ⟨c, h3, h6⟩ := h5
    rw [Bool.and_eq_true] at h6
    exact ⟨c, (rowP_mem h i c).mpr ⟨h3, p, h4, h6.1⟩, h6.2⟩
theorem rowP_len {z : List Nat} {ws : List W} {ps : List Nat} (h : ps.length ≤ 100) (hz : z.length ≤ 9) (i : Nat) : (rowP z ws ps i).length ≤ 100 := by
  unfold rowP
  split
  · exact h
  · have := ENR_len z (ws.take i) ps; omega
theorem enC_snoc (z : List Nat) (w : W) : ∀ (ws : List W) (p q : Nat), enC z (ws ++ [w]) p q = (enC z ws p q || en z w p q)
  | [], p, q => by
    rw [List.nil_append]
    unfold enC
    unfold enC
    rw [Bool.or_false, Bool.false_or]
  | u :: ws, p, q => by
    rw [List.cons_append]
    unfold enC
    rw [enC_snoc z w ws p q, Bool.or_assoc]
theorem Same.seqF {K : PySem.W.Frag} {H H' : Hp} {q : Addr} {xs : List V} (s : Same H H') (h : H q = some (.lst xs)) : SqL K H' q xs := SqL.of (s _ _ h)
def spPl (s : Nat) : Sp := fun vs H Q _ => ∃ (v : V) (w : W) (z y : List Nat) (q : Addr) (ps : List Nat), vs = [v, .str (tx z), .ref q] ∧ WayAt H v w ∧ w.wf y ∧ w.size ≤ s ∧ w.size ≤ 8 ∧ z.length ≤ 9 ∧ H q = some (.lst (iV ps)) ∧ ps.length ≤ 100 ∧ (∀ p, p ∈ ps → p ≤ z.length) ∧
  ∀ (q' : Addr) (H' : Hp), Same H H' → H' q' = some (.lst (iV (EN z w ps))) → Q (.ref q') H'
theorem flat_ints : ∀ ns : List Nat, iV ns = (ns.map fun n => ((n : Nat) : Int)).map V.int
  | ns => by unfold iV; rw [List.map_map]; rfl
def dN (ns : List Nat) : PyData := .list ((ns.map fun n => ((n : Nat) : Int)).map PyData.int)
theorem dpAll_ints' {K : PySem.W.Frag} {H : Hp} : ∀ ns : List Int, DpAll K H (ns.map V.int) (ns.map PyData.int)
  | [] => .nil
  | n :: r => .cons (.int n) (dpAll_ints' r)
theorem dp_dN {K : PySem.W.Frag} {H : Hp} {q : Addr} {ns : List Nat} (h : SqL K H q (iV ns)) : Dp K H (.ref q) (dN ns) := .lst (by rw [flat_ints] at h; exact h) (dpAll_ints' _)
theorem depths : ∀ ns : List Int, PyData.depthAll (ns.map PyData.int) ≤ 1
  | [] => by simp [PyData.depthAll]
  | n :: r => by have := depths r; simp only [List.map_cons, PyData.depthAll, PyData.depth]; omega
theorem lays : ∀ ns : List Int, PyData.canLayAll0 (ns.map PyData.int) = true
  | [] => by simp [PyData.canLayAll0]
  | n :: r => by simp only [List.map_cons, PyData.canLayAll0, PyData.canLay0, lays r]; rfl
theorem shaped_dN (ns : List Nat) : SeqAt.shaped (dN ns) = true := by
  unfold SeqAt.shaped dN
  rw [PyData.canLay0, lays, PyData.depth]
  have := depths (ns.map fun n => ((n : Nat) : Int))
  rw [decide_eq_true (by omega)]
  rfl
theorem eqv_nil : ∀ ns : List Nat, PyData.eqv (dN ns) (dN []) = ns.isEmpty
  | [] => rfl
  | n :: r => rfl
theorem ts_cut {t : TS} {D : Ends} {σ : L2.St} {H : Hp} {S : L2.St → Hp → Prop} (h1 : ∀ N : L2.St → Hp → Prop, (∀ σ H, S σ H → N σ H) → t { D with nx := N } σ H) (h2 : ∀ σ H, S σ H → D.nx σ H) : t D σ H := h1 D.nx h2
theorem iteT' {b : Bool} {T F : Prop} (h : b = true) (t : T) : if b = true then T else F := by rw [if_pos h]; exact t
theorem iteN' {b : Bool} {T F : Prop} (h : ¬ b = true) (f : F) : if b = true then T else F := by rw [if_neg h]; exact f
theorem filter_more {l : List Nat} {f : Nat → Bool} {j n : Nat} (h : l[j]? = some n) : (l.take (j + 1)).filter f = (l.take j).filter f ++ (if f n = true then [n] else []) := by
  rw [List.take_add_one, h, List.filter_append]
  congr 1
  by_cases hf : f n = true
  · rw [if_pos hf]; simp [hf]
  · rw [if_neg hf]; simp [hf]
theorem iV_app (a b : List Nat) : iV a ++ iV b = iV (a ++ b) := by unfold iV; rw [List.map_append]
theorem iV_flat : ∀ ns : List Nat, (iV ns).all flatV = true := fun ns => by
  unfold iV
  rw [List.all_map, List.all_eq_true]
  exact fun x _ => rfl
theorem inV_nat (t : Nat) (ns : List Nat) : inV (.int (t : Nat)) (iV ns) = decide (t ∈ ns) := by
  unfold inV iV
  rw [Bool.eq_iff_iff, List.any_map, List.any_eq_true, decide_eq_true_iff]
  constructor
  · rintro ⟨x, hx, e⟩
    have e' : ((x : Nat) : Int) = (t : Nat) := by simpa [eqV] using e
    have e2 : x = t := by omega
    rw [← e2]; exact hx
  · intro h
    refine ⟨t, h, ?_⟩
    show (((t : Nat) : Int) == t) = true
    exact beq_self_eq_true _
theorem wfs_inner {y : List Nat} : ∀ {w : W}, w.wf y → W.wfs y w.inner
  | .nothing, _ => True.intro
  | .one, _ => True.intro
  | .letter _, _ => True.intro
  | .call _, h => h.elim
  | .row _, h => h.2
  | .choice _, h => h.2
  | .again _, h => ⟨h, True.intro⟩
  | .maybe _, h => ⟨h, True.intro⟩
  | .ahead _, h => ⟨h, True.intro⟩
  | .unless _, h => ⟨h, True.intro⟩
section
variable {P : Program} {w : World} {K : PySem.W.Frag} {mg : Str → Option Value} {base : Heap}
abbrev s_l_end_places : Stmt := top 74
theorem sc_l_end_places : FnScope ["_law_way_here", "_law_text_here", "_law_places", "_law_word", "_law_found", "_law_one", "_law_latest", "_law_turn", "_law_ahead", "_law_place", "_law_told"] ["_law_way_here", "_law_text_here", "_law_places"] (defScope s_l_end_places) := ⟨rfl, rfl, rfl, by decide +kernel, rfl, by decide +kernel, by decide +kernel⟩
theorem step_places (s : Nat) (h : Here K mg "_law_end_places" s_l_end_places ["_law_way_here", "_law_text_here", "_law_places"]) (B : Bs mg) (G_l_inner : DefOk P w K mg base 1 "_law_inner" ["_law_way_here"] spInner) (G_l_take : DefOk P w K mg base 17 "_law_take" ["_law_way_here", "_law_text_here", "_law_place"] (spTake 8))
    (G_l_end_places : DefOk P w K mg base (18 + s) "_law_end_places" ["_law_way_here", "_law_text_here", "_law_places"] (spPl s)) : DefOk P w K mg base (18 + s + 1) "_law_end_places" ["_law_way_here", "_law_text_here", "_law_places"] (spPl (s + 1)) := by
  have B_len := B.len; have B_range := B.range
  refine h.ok sc_l_end_places (fun vs H Q E h => by obtain ⟨_, _, _, _, _, _, rfl, _⟩ := h; rfl) (fun f cdv A outer s' H vs Q E hr h => ?_)
  obtain ⟨v, w, z, y, q, ps, rfl, hv, hwf, hsz, hsz8, hz, hq, hpl, hps, k⟩ := h
  refine ⟨_, (pss_cons (ps_asg (pe_tup (pa_cons (pe_ix ix_tup (pv 0) pe_int (fun _ _ => rfl)) (pa_cons (pe_lst pa_nil) pa_nil))) (pg_tup rfl (pgs_cons (pg_name (i := 3) sc_l_end_places.nd rfl (Or.inl rfl)) (pgs_cons (pg_name (i := 4) sc_l_end_places.nd rfl (Or.inr rfl)) pgs_nil))))
  (pss_cons (ps_if (pt_cmpR op_eq (pv 3) pe_str (nomark _)) (pss_cons (ps_for PassesOwn.never rfl (pi_list (pe_ix ix_tup (pv 0) pe_int (fun _ _ => rfl))) (pg_name (i := 5) sc_l_end_places.nd rfl (Or.inl rfl))
   (pss_one (ps_set (i := 2) sc_l_end_places.nd rfl (Or.inl rfl) (pe_callD G_l_end_places (hr.mono (by first | decide | omega)) rfl (pa_cons (pv 5) (pa_cons (pv 1) (pa_cons (pv 2) pa_nil)))))))
  (pss_one (ps_ret (pv 2)))) pss_nil)
  (pss_cons (ps_if (PW.pt (pw_or (pt_cmpR op_eq (pv 3) pe_str (nomark _)) (pw_or1 (pt_cmpR op_eq (pv 3) pe_str (nomark _))))) (pss_cons (ps_set (i := 4) sc_l_end_places.nd rfl (Or.inr rfl) (pe_ifExp (pt_cmpR op_eq (pv 3) pe_str (nomark _)) (pv 2) (pe_lst pa_nil)))
  (pss_one (ps_for PassesOwn.never rfl (pi_list (pe_callD G_l_inner (hr.mono (by first | decide | omega)) rfl (pa_cons (pv 0) pa_nil))) (pg_name (i := 5) sc_l_end_places.nd rfl (Or.inl rfl))
   (pss_one (ps_set (i := 4) sc_l_end_places.nd rfl (Or.inr rfl) (pe_op op_cat (pv 4) (pe_callD G_l_end_places (hr.mono (by first | decide | omega)) rfl (pa_cons (pv 5) (pa_cons (pv 1) (pa_cons (pv 2) pa_nil)))))))))) (pss_one (ps_if (pt_cmpR op_eq (pv 3) pe_str (nomark _)) (pss_cons (ps_asg (pe_tup (pa_cons (pv 2) (pa_cons (pv 2) pa_nil))) (pg_tup rfl (pgs_cons (pg_name (i := 4) sc_l_end_places.nd rfl (Or.inr rfl)) (pgs_cons (pg_name (i := 6) sc_l_end_places.nd rfl (Or.inl rfl)) pgs_nil))))
  (pss_one (ps_for PassesOwn.never rfl (pi_range1 rfl B_range (pa_cons (pe_op op_add (pe_callB call_len_str rfl B_len PySem.boot_len (pa_cons (pv 1) pa_nil)) pe_int) pa_nil)) (pg_name (i := 7) sc_l_end_places.nd rfl (Or.inl rfl))
   (pss_cons (ps_set (i := 8) sc_l_end_places.nd rfl (Or.inl rfl) (pe_callD G_l_end_places (hr.mono (by first | decide | omega)) rfl (pa_cons (pe_ix ix_tup (pv 0) pe_int (fun _ _ => rfl)) (pa_cons (pv 1) (pa_cons (pv 6) pa_nil)))))
  (pss_cons (ps_setLc (i := 6) (own := [("_law_place", 9)]) (g := (gName 9)) rfl sc_l_end_places.nd rfl rfl (sw_true rfl rfl rfl (by decide +kernel)) (pi_list (pv 8)) (blkOk_by (own := [("_law_place", 9)]) (N := ["_law_way_here", "_law_text_here", "_law_places", "_law_word", "_law_found", "_law_one", "_law_latest", "_law_turn", "_law_ahead", "_law_place", "_law_told"]) (sc := defScope s_l_end_places) (by decide +kernel)) (fun _ _ _ _ _ => pg_name (i := 9) sc_l_end_places.nd rfl (Or.inl rfl)) (fun _ _ _ _ _ => pts_one (pt_cmpR (Gd.op_notIn_seqK (K := K) rfl) (pv 9) (pv 4) (by rfl))) (fun _ _ _ _ _ => (pv 9)))
  (pss_cons (ps_set (i := 4) sc_l_end_places.nd rfl (Or.inr rfl) (pe_op op_cat (pv 4) (pv 6)))
  (pss_one (ps_if (pt_cmpR (op_eqD hr.units) (pv 6) (pe_lst pa_nil) (nomark _)) (pss_one ps_break) pss_nil)))))))) (pss_one (ps_for PassesOwn.never rfl (pi_list (pv 2)) (pg_name (i := 9) sc_l_end_places.nd rfl (Or.inl rfl))
   (pss_cons (ps_set (i := 10) sc_l_end_places.nd rfl (Or.inl rfl) (pe_callD G_l_take (hr.mono (by first | decide | omega)) rfl (pa_cons (pv 0) (pa_cons (pv 1) (pa_cons (pv 9) pa_nil)))))
  (pss_one (ps_set (i := 4) sc_l_end_places.nd rfl (Or.inr rfl) (pe_op op_cat (pv 4) (pe_ifExp (pt_cmpR op_isN (pv 10) pe_non (nomark _)) (pe_lst pa_nil) (pe_lst (pa_cons (pe_op op_add (pv 9) (pv 10)) pa_nil))))))))))))
  (pss_one (ps_ret (pe_lc (own := [("_law_place", 9)]) (g := (gName 9)) rfl sc_l_end_places.nd (pi_range1 rfl B_range (pa_cons (pe_op op_add (pe_callB call_len_str rfl B_len PySem.boot_len (pa_cons (pv 1) pa_nil)) pe_int) pa_nil)) (blkOk_by (own := [("_law_place", 9)]) (N := ["_law_way_here", "_law_text_here", "_law_places", "_law_word", "_law_found", "_law_one", "_law_latest", "_law_turn", "_law_ahead", "_law_place", "_law_told"]) (sc := defScope s_l_end_places) (by decide +kernel)) (fun _ _ _ _ _ => pg_name (i := 9) sc_l_end_places.nd rfl (Or.inl rfl)) (fun _ _ _ _ _ => pts_one (pt_cmpR (Gd.op_in_seqK (K := K) rfl) (pv 9) (pv 4) (by rfl))) (fun _ _ _ _ _ => (pv 9)))))))), ?_⟩
  obtain ⟨a, rest, rfl, ha⟩ := hv.head
  refine ⟨_, rfl, a, _, _, _, rfl, rfl, SqT.of ha, atI0, ?_⟩
  refine ⟨Nat.zero_le _, fun q0 hq0 => ?_⟩
  have s1 := Same.new hq0 (.lst [])
  have hf1 : upd H q0 (.lst []) q0 = some (.lst (iV [])) := upd_same
  generalize upd H q0 (.lst []) = H1 at *
  refine ⟨by show 2 ≤ sizeLine; decide, fun qt hqt => ?_⟩
  have s2 := s1.trans (Same.new hqt (.tup [.str w.tag, .ref q0]))
  have hf2 := Same.new hqt (.tup [.str w.tag, .ref q0]) _ _ hf1
  have hqt' : upd H1 qt (.tup [.str w.tag, .ref q0]) qt = some (.tup [.str w.tag, .ref q0]) := upd_same
  refine ⟨qt, [.str w.tag, .ref q0], rfl, SqT.of hqt', rfl, .str w.tag, [.ref q0], rfl, .ref q0, [], rfl, rfl, ?_⟩
  generalize upd H1 qt (.tup [.str w.tag, .ref q0]) = H2 at *
  have hv2 := WayAt.keep (Keep.of s2) _ _ hv
  have hq2 := s2 _ _ hq
  walk_at "nx"
  walk_at "rd"
  rw [eq_row]
  refine ite2 (fun e1 => ?_) (fun e1 => ?_)
  · cases w <;> first | exact absurd e1 Bool.false_ne_true | skip
    rename_i ws
    obtain ⟨a', l, us, e', h1, h2, h3⟩ := hv2
    cases e'
    have hlen := WaysAt.len _ _ h3
    have hsz' : 1 + W.sizes ws ≤ s + 1 := hsz
    have hsz8' : 1 + W.sizes ws ≤ 8 := hsz8
    walk_at "nx"
    refine ⟨_, rfl, a, _, _, _, rfl, rfl, SqT.of h1, atI1, l, rfl, ⟨_, SqL.of h2⟩, ?_⟩
    refine for_list (K := K) (a := l) (xs := us) (fun i σ H' => ∃ (qc : Addr) (x5 : Option V), σ = [some (.ref a), some (.str (tx z)), some (.ref qc), some (.str (W.row ws).tag), some (.ref q0), x5, none, none, none, none, none] ∧ H' qc = some (.lst (iV (rowP z ws ps i))) ∧ Same H2 H') ?_ ?_ ?_ ?_
    · exact ⟨q, none, rfl, hq2, Same.refl _⟩
    · rintro i σ H3 _ ⟨_, _, _, _, s3⟩
      exact SqL.of (s3 _ _ h2)
    · rintro i x σ H3 hx ⟨qc, x5, rfl, hqc, s3⟩
      have hi : i < us.length := (List.getElem?_eq_some_iff.mp hx).1
      obtain ⟨wi, hwi⟩ := get_lt (l := ws) (j := i) (by omega)
      obtain ⟨x', hx', hxw⟩ := WaysAt.at_ _ _ _ _ h3 hwi
      have ex : x = x' := Option.some.inj (hx.symm.trans hx')
      subst ex
      have hs := W.size_mem hwi
      walk_at "nx"
      refine ⟨_, rfl, _, rfl, _, rfl, x, wi, z, y, qc, _, rfl, WayAt.keep (Keep.of s3) _ _ hxw, wfs_at hwf.2 hwi, by omega, by omega, hz, hqc, rowP_len hpl hz i, fun p hp => ((rowP_mem hps i p).mp hp).1, fun q' H4 s4 hq' => ?_⟩
      rw [rowP_next hps hwi] at hq'
      exact ⟨q', _, rfl, hq', s3.trans s4⟩
    · rintro σ H3 ⟨qc, x5, rfl, hqc, s3⟩
      have h0 : us.length ≠ 0 := by have := hwf.1; omega
      rw [show rowP z ws ps us.length = EN z (.row ws) ps by rw [EN_row]; unfold rowP; rw [if_neg h0, hlen, List.take_length]] at hqc
      walk_at "nx"
      exact ⟨_, rfl, k qc _ (s2.trans s3) hqc⟩
  walk_at "nx"
  refine ts_cut (S := fun σ' H' => ∃ (x2 x3 : Option V) (qf : Addr) (fd : List Nat) (x5 x6 x7 x8 x9 x10 : Option V), σ' = [some (.ref a), some (.str (tx z)), x2, x3, some (.ref qf), x5, x6, x7, x8, x9, x10] ∧ H' qf = some (.lst (iV fd)) ∧ fd.length ≤ 5000 ∧ (∀ r, r ≤ z.length → (r ∈ fd ↔ ∃ p, p ∈ ps ∧ en z w p r = true)) ∧ Same H2 H') (fun N rest => ?_) (fun σ' H3 hv => ?_)
  · refine withB (E := tOr _ _) (fun b H' => b = (w.is_choice' || w.is_maybe') ∧ H2 = H') (fun Q' go => ?_) ?_
    · refine ⟨_, rfl, rfl, _, rfl, ?_⟩
      rw [eq_choice]
      refine ite2 (fun e2 => ?_) (fun e2 => ?_)
      · exact go _ _ ⟨by rw [e2]; rfl, rfl⟩
      · refine ⟨_, rfl, rfl, _, rfl, ?_⟩
        rw [eq_maybe]
        exact go _ _ ⟨by rw [Bool.eq_false_iff.mpr e2, Bool.false_or], rfl⟩
    rintro b _ ⟨rfl, rfl⟩
    refine ite2 (fun e2 => ?_) (fun e2 => ?_)
    · walk_at "nx"
      refine withQ (E := tIf _ _ _) (fun x H' => ∃ qf, x = .ref qf ∧ H' qf = some (.lst (iV (if w.is_maybe' = true then ps else []))) ∧ Same H2 H') (fun Q' go => ?_) ?_
      · refine ⟨_, rfl, rfl, _, rfl, ?_⟩
        rw [eq_maybe]
        refine ite2 (fun e3 => ?_) (fun e3 => ?_)
        · exact ⟨_, rfl, go _ _ ⟨q, rfl, by rw [if_pos e3]; exact hq2, Same.refl _⟩⟩
        · refine ⟨Nat.zero_le _, fun q1 hq1 => go _ _ ⟨q1, rfl, by rw [if_neg e3]; exact upd_same, Same.new hq1 _⟩⟩
      rintro _ H3 ⟨qf, rfl, hqf, s3⟩
      have hfl0 : (if w.is_maybe' = true then ps else []).length ≤ 100 := by split; exact hpl; exact Nat.zero_le _
      have hfd0 : ∀ r, r ≤ z.length → ((r ∈ (if w.is_maybe' = true then ps else []) ∨ ∃ p, p ∈ ps ∧ enC z w.inner p r = true) ↔ ∃ p, p ∈ ps ∧ en z w p r = true) := by
        intro r hr
        cases w <;> first | exact absurd e2 Bool.false_ne_true | skip
        · rw [if_neg (show ¬ (W.is_maybe' (W.choice _) = true) from Bool.false_ne_true)]
          constructor
          · rintro (h | ⟨p, h1, h2⟩)
            · cases h
            · exact ⟨p, h1, by unfold en; exact h2⟩
          · rintro ⟨p, h1, h2⟩
            unfold en at h2
            exact .inr ⟨p, h1, h2⟩
        · rename_i x
          rw [if_pos (show W.is_maybe' (W.maybe x) = true from rfl)]
          have ei : ∀ p, enC z (W.maybe x).inner p r = en z x p r := fun p => by
            show enC z [x] p r = _
            unfold enC
            unfold enC
            rw [Bool.or_false]
          constructor
          · rintro (h | ⟨p, h1, h2⟩)
            · exact ⟨r, h, by unfold en; rw [decide_eq_true rfl, Bool.or_true]⟩
            · rw [ei] at h2
              exact ⟨p, h1, by unfold en; rw [h2, Bool.true_or]⟩
          · rintro ⟨p, h1, h2⟩
            unfold en at h2
            rcases (Bool.or_eq_true _ _).mp h2 with h2 | h2
            · exact .inr ⟨p, h1, by rw [ei]; exact h2⟩
            · rw [← of_decide_eq_true h2]; exact .inl h1
      generalize (if w.is_maybe' = true then ps else []) = fd0 at hqf hfl0 hfd0
      walk_at "nx"
      refine ⟨_, rfl, .ref a, w, rfl, WayAt.keep (Keep.of s3) _ _ hv2, fun qi us H4 s4 hqi hus => ?_⟩
      have s34 := s3.trans s4
      have hlen := WaysAt.len _ _ hus
      have hin := size_in w
      have hil := W.sizes_len w.inner
      have hiw : W.wfs y w.inner := wfs_inner hwf
      refine ⟨qi, rfl, ⟨_, SqL.of hqi⟩, ?_⟩
      refine for_list (K := K) (a := qi) (xs := us) (fun i σ H' => ∃ (qf : Addr) (fd : List Nat) (x5 : Option V), σ = [some (.ref a), some (.str (tx z)), some (.ref q), some (.str w.tag), some (.ref qf), x5, none, none, none, none, none] ∧ H' qf = some (.lst (iV fd)) ∧ fd.length ≤ 100 + 10 * i ∧
        (∀ r, r ≤ z.length → (r ∈ fd ↔ (r ∈ fd0 ∨ ∃ p, p ∈ ps ∧ enC z (w.inner.take i) p r = true))) ∧ Same H4 H') ?_ ?_ ?_ ?_
      · refine ⟨qf, fd0, none, rfl, s4 _ _ hqf, by omega, fun r hr => ⟨.inl, fun h => ?_⟩, Same.refl _⟩
        rcases h with h | ⟨p, h1, h2⟩
        · exact h
        · rw [List.take_zero] at h2
          unfold enC at h2
          cases h2
      · rintro i σ H5 _ ⟨_, _, _, _, _, _, _, s5⟩
        exact SqL.of (s5 _ _ hqi)
      · rintro i x σ H5 hx ⟨qf, fd, x5, rfl, hqf, hfl, hfd, s5⟩
        have hi : i < us.length := (List.getElem?_eq_some_iff.mp hx).1
        obtain ⟨wi, hwi⟩ := get_lt (l := w.inner) (j := i) (by omega)
        obtain ⟨x', hx', hxw⟩ := WaysAt.at_ _ _ _ _ hus hwi
        have ex : x = x' := Option.some.inj (hx.symm.trans hx')
        subst ex
        have hs := W.size_mem hwi
        walk_at "nx"
        refine ⟨_, rfl, _, rfl, _, rfl, _, rfl, x, wi, z, y, q, ps, rfl, WayAt.keep (Keep.of s5) _ _ hxw, wfs_at hiw hwi, by omega, by omega, hz, s5 _ _ (s34 _ _ hq2), hpl, hps, fun q' H6 s6 hq' => ?_⟩
        have hEl := EN_len z wi ps
        refine ⟨qf, q', _, _, rfl, rfl, s6 _ _ hqf, hq', Nat.le_of_lt (small' (by simp only [iV, List.length_map]; omega)), fun q7 hq7 => ?_⟩
        refine ⟨q7, fd ++ EN z wi ps, _, rfl, by rw [upd_same, iV_app], by rw [List.length_append]; omega, fun r hr => ?_, (s5.trans s6).trans (Same.new hq7 _)⟩
        rw [List.mem_append, hfd r hr, mem_EN, List.take_add_one, hwi]
        constructor
        · rintro ((h | ⟨p, h1, h2⟩) | ⟨_, p, h1, h2⟩)
          · exact .inl h
          · exact .inr ⟨p, h1, by show enC z (w.inner.take i ++ [wi]) p r = true; rw [enC_snoc, h2, Bool.true_or]⟩
          · exact .inr ⟨p, h1, by show enC z (w.inner.take i ++ [wi]) p r = true; rw [enC_snoc, h2, Bool.or_true]⟩
        · rintro (h | ⟨p, h1, h2⟩)
          · exact .inl (.inl h)
          · have h2 : enC z (w.inner.take i ++ [wi]) p r = true := h2
            rw [enC_snoc] at h2
            rcases (Bool.or_eq_true _ _).mp h2 with h2 | h2
            · exact .inl (.inr ⟨p, h1, h2⟩)
            · exact .inr ⟨hr, p, h1, h2⟩
      · rintro σ H5 ⟨qf, fd, x5, rfl, hqf, hfl, hfd, s5⟩
        refine rest _ _ ⟨_, _, qf, fd, _, _, _, _, _, _, rfl, hqf, by omega, fun r hr => ?_, s34.trans s5⟩
        rw [hfd r hr, hlen, List.take_length]
        exact hfd0 r hr
    walk_at "nx"
    walk_at "rd"
    rw [eq_again]
    refine ite2 (fun e3 => ?_) (fun e3 => ?_)
    · cases w <;> first | exact absurd e3 Bool.false_ne_true | skip
      rename_i x
      obtain ⟨a', u, e', h1, h2⟩ := hv2
      cases e'
      have hsz' : 1 + x.size ≤ s + 1 := hsz
      have hsz8' : 1 + x.size ≤ 8 := hsz8
      walk_at "nx"
      refine ⟨_, rfl, _, rfl, by show 2 ≤ sizeLine; decide, fun qt2 hqt2 => ?_⟩
      have s3 := Same.new hqt2 (.tup [.ref q, .ref q])
      have hqt2' : upd H2 qt2 (.tup [.ref q, .ref q]) qt2 = some (.tup [.ref q, .ref q]) := upd_same
      refine ⟨qt2, [.ref q, .ref q], rfl, SqT.of hqt2', rfl, .ref q, [.ref q], rfl, .ref q, [], rfl, rfl, ?_⟩
      generalize upd H2 qt2 (.tup [.ref q, .ref q]) = H3 at *
      walk_at "nx"
      refine ⟨_, rfl, _, rfl, by rw [Wv.tx_len]; exact Nat.le_of_lt (small' (by omega)), _, _, rfl, rfl, ((z.length : Nat) : Int) + 1, by rw [Wv.tx_len], by omega, by omega, ?_⟩
      rw [show (((z.length : Nat) : Int) + 1).toNat = z.length + 1 by omega]
      refine for_range (lo := 0) (n := z.length + 1) (fun i σ H' => ∃ (qf ql : Addr) (fd lt : List Nat) (x7 x8 : Option V), σ = [some (.ref a), some (.str (tx z)), some (.ref q), some (.str (W.again x).tag), some (.ref qf), none, some (.ref ql), x7, x8, none, none] ∧ H' qf = some (.lst (iV fd)) ∧ H' ql = some (.lst (iV lt)) ∧ Walk z x ps fd lt i ∧ fd.length ≤ 100 + 10 * i ∧ lt.length ≤ 100 ∧ Same H3 H') ?_ ?_ ?_
      · exact ⟨q, q, ps, ps, none, none, rfl, s3 _ _ hq2, s3 _ _ hq2, Walk.start hps, by omega, hpl, Same.refl _⟩
      · rintro i σ H4 hi ⟨qf, ql, fd, lt, x7, x8, rfl, hqf, hql, hW, hfl, hll, s4⟩
        have s34 := s3.trans s4
        walk_at "nx"
        refine ⟨_, rfl, a, _, _, _, rfl, rfl, SqT.of (s34 _ _ h1), atI1, ?_⟩
        refine ⟨_, rfl, _, rfl, u, x, z, y, ql, lt, rfl, WayAt.keep (Keep.of s34) _ _ h2, hwf, by omega, by omega, hz, hql, hll, fun p hp => (hW.sound p (hW.old p hp)).1, fun qe H5 s5 hqe => ?_⟩
        have hEl := EN_len z x lt
        walk_at "nx"
        refine ⟨_, rfl, qe, rfl, ⟨_, SqL.of hqe⟩, fun D hD => ?_⟩
        refine lc_list (K := K) (a := qe) (xs := iV (EN z x lt)) (fun j Hx => Hx D = some (.lst (iV (((EN z x lt).take j).filter fun r => decide (r ∉ fd)))) ∧ Same H5 Hx) ?_ ?_ ?_ ?_
        · exact ⟨upd_same, Same.new hD _⟩
        · rintro j Hx _ ⟨_, sx⟩
          exact SqL.of (sx _ _ hqe)
        · rintro j e Hx he ⟨hd, sx⟩
          obtain ⟨n, hn, rfl⟩ := iV_back he
          refine ⟨rfl, _, rfl, _, rfl, qf, _, rfl, .inl (SqL.of (sx _ _ (s5 _ _ hqf))), rfl, iV_flat _, ?_⟩
          rw [if_pos rfl, inV_nat]
          refine ⟨_, rfl, ?_⟩
          rw [show (!decide (n ∈ fd)) = decide (n ∉ fd) by simp]
          by_cases hf : decide (n ∉ fd) = true
          · refine iteT' hf ?_
            have hll : (((EN z x lt).take j).filter fun r => decide (r ∉ fd)).length ≤ 10 := by
              have := List.length_filter_le (fun r => decide (r ∉ fd)) ((EN z x lt).take j)
              rw [List.length_take] at this
              omega
            refine ⟨_, rfl, _, hd, small' (by simp only [iV, List.length_map]; omega), ?_, Same.put hD sx _⟩
            rw [upd_same, filter_more (f := fun r => decide (r ∉ fd)) hn, if_pos hf, ← iV_app]
            rfl
          · refine iteN' hf ?_
            rw [filter_more (f := fun r => decide (r ∉ fd)) hn, if_neg hf, List.append_nil]
            exact ⟨hd, sx⟩
        · rintro H6 ⟨hd, s6⟩
          rw [show (iV (EN z x lt)).length = (EN z x lt).length by simp only [iV, List.length_map], List.take_length] at hd
          have hnl : ((EN z x lt).filter fun r => decide (r ∉ fd)).length ≤ 10 := by
            have := List.length_filter_le (fun r => decide (r ∉ fd)) (EN z x lt)
            omega
          have hstop := hW.stop
          have hnext := hW.next
          generalize (EN z x lt).filter (fun r => decide (r ∉ fd)) = nw at *
          walk_at "nx"
          refine ⟨_, rfl, _, rfl, qf, D, _, _, rfl, rfl, s6 _ _ (s5 _ _ hqf), hd, Nat.le_of_lt (small' (by simp only [iV, List.length_map]; omega)), fun q7 hq7 => ?_⟩
          have s7 := s6.trans (Same.new hq7 (.lst (iV fd ++ iV nw)))
          have hd7 := Same.new hq7 (.lst (iV fd ++ iV nw)) _ _ hd
          have h7 : upd H6 q7 (.lst (iV fd ++ iV nw)) q7 = some (.lst (iV (fd ++ nw))) := by rw [upd_same, iV_app]
          generalize upd H6 q7 (.lst (iV fd ++ iV nw)) = H7 at *
          walk_at "nx"
          refine ⟨_, rfl, Nat.zero_le _, fun q8 hq8 => ?_⟩
          have s8 := s7.trans (Same.new hq8 (.lst []))
          have n8 : D ≠ q8 := ne_of_none hd7 hq8
          refine ⟨dN nw, dN [], dp_dN (SqL.of (by rw [upd_ne n8]; exact hd7)), .lst (SqL.of upd_same) .nil, shaped_dN _, shaped_dN _, ?_⟩
          refine ⟨_, rfl, ?_⟩
          rw [eqv_nil]
          have sZ := (s34.trans s5).trans s8
          have h78 := Same.new hq8 (.lst []) _ _ h7
          have hd78 := Same.new hq8 (.lst []) _ _ hd7
          generalize upd H7 q8 (.lst []) = H8 at *
          cases nw with
          | nil =>
            refine iteT ?_
            have hc := hstop rfl
            refine rest _ _ ⟨_, _, q7, fd ++ [], _, _, _, _, _, _, rfl, h78, by rw [List.length_append]; show _ + 0 ≤ _; omega, fun r hr => ?_, sZ⟩
            rw [List.append_nil]
            exact hW.told hc r
          | cons b r =>
            refine iteF ?_
            walk_at "nx"
            refine ⟨q7, D, fd ++ b :: r, b :: r, _, _, rfl, h78, hd78, hnext (fun q => nomatch q), ?_, by omega, (s4.trans s5).trans s8⟩
            rw [List.length_append]
            omega
      · rintro σ H4 ⟨qf, ql, fd, lt, x7, x8, rfl, hqf, hql, hW, hfl, hll, s4⟩
        exact rest _ _ ⟨_, _, qf, fd, _, _, _, _, _, _, rfl, hqf, by omega, fun r hr => hW.told hW.full r, s3.trans s4⟩
    · have hen : ∀ p r, en z w p r = decide (ew z w p = some r) := by
        cases w <;> first | exact absurd rfl e1 | exact absurd rfl e2 | exact absurd rfl e3 | skip
        all_goals
          intro p r
          conv => lhs; unfold en
      refine ⟨_, rfl, q, rfl, ⟨_, SqL.of hq2⟩, ?_⟩
      refine for_list (K := K) (a := q) (xs := iV ps) (fun i σ H' => ∃ (qf : Addr) (fd : List Nat) (x9 x10 : Option V), σ = [some (.ref a), some (.str (tx z)), some (.ref q), some (.str w.tag), some (.ref qf), none, none, none, none, x9, x10] ∧ H' qf = some (.lst (iV fd)) ∧ fd.length ≤ i ∧
        (∀ r, r ∈ fd ↔ ∃ p, p ∈ ps.take i ∧ en z w p r = true) ∧ Same H2 H') ?_ ?_ ?_ ?_
      · refine ⟨q0, [], none, none, rfl, hf2, Nat.le_refl _, fun r => ⟨fun h => (nomatch h), ?_⟩, Same.refl _⟩
        rintro ⟨p, h1, h2⟩
        rw [List.take_zero] at h1
        cases h1
      · rintro i σ H3 _ ⟨_, _, _, _, _, _, _, _, s3⟩
        exact SqL.of (s3 _ _ hq2)
      · rintro i e σ H3 he ⟨qf, fd, x9, x10, rfl, hqf, hfl, hfd, s3⟩
        obtain ⟨p, hp, rfl⟩ := iV_back he
        have hi := (List.getElem?_eq_some_iff.mp hp).1
        have hpn := hps p (List.mem_of_getElem? hp)
        walk_at "nx"
        refine ⟨_, rfl, _, rfl, _, rfl, .ref a, w, z, y, p, rfl, WayAt.keep (Keep.of s3) _ _ hv2, hwf, hsz8, by omega, hpn, fun H4 s4 => ?_⟩
        walk_at "nx"
        refine ⟨_, rfl, ?_⟩
        refine ⟨_, rfl, rfl, _, rfl, ?_⟩
        have hqf4 := s4 _ _ hqf
        have htk : ps.take (i + 1) = ps.take i ++ [p] := by rw [List.take_add_one, hp]; rfl
        have hip : (iV ps).length = ps.length := by simp only [iV, List.length_map]
        cases er : ew z w p with
        | none =>
          refine iteT ?_
          refine ⟨Nat.zero_le _, fun q1 hq1 => ?_⟩
          have s5 := s4.trans (Same.new hq1 (.lst []))
          refine ⟨qf, q1, _, _, rfl, rfl, s5 _ _ hqf, upd_same, Nat.le_of_lt (small' (by simp only [iV, List.length_map, List.length_nil]; omega)), fun q7 hq7 => ?_⟩
          refine ⟨q7, fd, _, _, rfl, by rw [upd_same, List.append_nil], by omega, fun r => ?_, s3.trans (s5.trans (Same.new hq7 _))⟩
          rw [hfd r, htk]
          constructor
          · rintro ⟨p', h1, h2⟩
            exact ⟨p', List.mem_append_left _ h1, h2⟩
          · rintro ⟨p', h1, h2⟩
            rcases List.mem_append.mp h1 with h1 | h1
            · exact ⟨p', h1, h2⟩
            · rw [List.mem_singleton] at h1
              rw [h1, hen, er] at h2
              exact nomatch of_decide_eq_true h2
        | some r0 =>
          refine iteF ?_
          refine ⟨_, rfl, _, rfl, _, _, rfl, rfl, by show 1 ≤ sizeLine; decide, fun q1 hq1 => ?_⟩
          have ev : [V.int (((p : Nat) : Int) + (((r0 : Nat) : Int) - ((p : Nat) : Int)))] = iV [r0] := congrArg (fun t => [V.int t]) (by omega)
          have s5 := s4.trans (Same.new hq1 (.lst [V.int (((p : Nat) : Int) + (((r0 : Nat) : Int) - ((p : Nat) : Int)))]))
          refine ⟨qf, q1, _, _, rfl, rfl, s5 _ _ hqf, upd_same, Nat.le_of_lt (small' (by simp only [iV, List.length_map, List.length_cons, List.length_nil]; omega)), fun q7 hq7 => ?_⟩
          refine ⟨q7, fd ++ [r0], _, _, rfl, (by rw [upd_same, ← iV_app, ← ev]), by rw [List.length_append]; show _ + 1 ≤ _; omega, fun r => ?_, s3.trans (s5.trans (Same.new hq7 _))⟩
          rw [List.mem_append, hfd r, htk, List.mem_singleton]
          constructor
          · rintro (⟨p', h1, h2⟩ | h1)
            · exact ⟨p', List.mem_append_left _ h1, h2⟩
            · exact ⟨p, List.mem_append_right _ (List.mem_singleton.mpr rfl), by rw [hen, er, h1]; exact decide_eq_true rfl⟩
          · rintro ⟨p', h1, h2⟩
            rcases List.mem_append.mp h1 with h1 | h1
            · exact .inl ⟨p', h1, h2⟩
            · rw [List.mem_singleton] at h1
              rw [h1, hen, er] at h2
              exact .inr (Option.some.inj (of_decide_eq_true h2)).symm
      · rintro σ H3 ⟨qf, fd, x9, x10, rfl, hqf, hfl, hfd, s3⟩
        have hl : (iV ps).length = ps.length := by simp only [iV, List.length_map]
        rw [hl] at hfl hfd
        rw [List.take_length] at hfd
        exact rest _ _ ⟨_, _, qf, fd, _, _, _, _, _, _, rfl, hqf, by omega, fun r hr => hfd r, s3⟩
  · obtain ⟨x2, x3, qf, fd, x5, x6, x7, x8, x9, x10, rfl, hqf, hfl, hfd, s3⟩ := hv
    walk_at "nx"
    refine ⟨_, rfl, _, rfl, by rw [Wv.tx_len]; exact Nat.le_of_lt (small' (by omega)), _, _, rfl, rfl, ((z.length : Nat) : Int) + 1, by rw [Wv.tx_len], by omega, by omega, fun D hD => ?_⟩
    rw [show (((z.length : Nat) : Int) + 1).toNat = z.length + 1 by omega]
    refine lc_range (fun i Hx => Hx D = some (.lst (iV ((List.range i).filter fun t => decide (t ∈ fd)))) ∧ Same H3 Hx) ?_ ?_ ?_
    · exact ⟨upd_same, Same.new hD _⟩
    · rintro i Hx hi ⟨hd, sx⟩
      refine ⟨rfl, _, rfl, _, rfl, qf, _, rfl, .inl (SqL.of (sx _ _ hqf)), rfl, iV_flat _, ?_⟩
      rw [if_neg Bool.false_ne_true, show (V.int (0 + ((i : Nat) : Int))) = V.int ((i : Nat) : Int) from congrArg V.int (Int.zero_add _), inV_nat]
      refine ⟨_, rfl, ?_⟩
      rw [List.range_succ, List.filter_append]
      by_cases hf : decide (i ∈ fd) = true
      · refine iteT' hf ?_
        have hll : ((List.range i).filter fun t => decide (t ∈ fd)).length ≤ i := by
          have := List.length_filter_le (fun t => decide (t ∈ fd)) (List.range i)
          rw [List.length_range] at this
          exact this
        refine ⟨_, rfl, _, hd, small' (by simp only [iV, List.length_map]; omega), ?_, Same.put hD sx _⟩
        rw [upd_same, List.filter_cons, if_pos hf, List.filter_nil, ← iV_app]
        rfl
      · refine iteN' hf ?_
        rw [List.filter_cons, if_neg hf, List.filter_nil, List.append_nil]
        exact ⟨hd, sx⟩
    · rintro H4 ⟨hd, s4⟩
      rw [EN_of hfd] at hd
      exact k D H4 ((s2.trans s3).trans s4) hd
theorem none_places {k : Nat} {f : Addr} {fd : FuncData} : FnOk P w K mg base CX0 k f fd ["_law_way_here", "_law_text_here", "_law_places"] (spPl 0) := by
  have no : ∀ vs H Q E, ¬ spPl 0 vs H Q E := fun vs H Q E h => by
    obtain ⟨v, w, _, _, _, _, _, _, _, h1, _⟩ := h
    have := w.size_pos
    omega
  exact ⟨fun vs H Q E h => absurd h (no vs H Q E), fun A outer s H args us vs Q E _ _ _ _ h => absurd h (no vs H Q E)⟩
theorem d_l_places (h : Here K mg "_law_end_places" s_l_end_places ["_law_way_here", "_law_text_here", "_law_places"]) (B : Bs mg) (G_l_inner : DefOk P w K mg base 1 "_law_inner" ["_law_way_here"] spInner) (G_l_take : DefOk P w K mg base 17 "_law_take" ["_law_way_here", "_law_text_here", "_law_place"] (spTake 8)) : ∀ s, DefOk P w K mg base (18 + s) "_law_end_places" ["_law_way_here", "_law_text_here", "_law_places"] (spPl s)
  | 0 => by
    obtain ⟨f, fd, F, m, b⟩ := h.ex
    exact ⟨f, fd, m, F.kp, b, none_places⟩
  | s + 1 => step_places s h B G_l_inner G_l_take (d_l_places h B G_l_inner G_l_take s)
/-- the numbers of letters, by the law's own walk -/
def spWends : Sp := fun vs H Q _ => ∃ (v : V) (w : W) (z y : List Nat) (p : Nat), vs = [v, .str (tx z), .int (p : Nat)] ∧ WayAt H v w ∧ w.wf y ∧ w.size ≤ 8 ∧ z.length ≤ 9 ∧ p ≤ z.length ∧ ∀ (q' : Addr) (H' : Hp), Same H H' → H' q' = some (.lst ((endL z w p).map V.int)) → Q (.ref q') H'
theorem endL_EN (z : List Nat) (w : W) (p : Nat) : (endL z w p).map V.int = (EN z w [p]).map fun r => V.int (((r : Nat) : Int) - ((p : Nat) : Int)) := by
  unfold endL EN
  rw [List.map_map]
  congr 1
  refine List.filter_congr fun r _ => ?_
  rw [List.any_cons, List.any_nil, Bool.or_false]
abbrev s_l_ends : Stmt := top 75
theorem sc_l_ends : FnScope ["_law_way_here", "_law_text_here", "_law_place", "_law_end"] ["_law_way_here", "_law_text_here", "_law_place"] (defScope s_l_ends) := ⟨rfl, rfl, rfl, by decide +kernel, rfl, by decide +kernel, by decide +kernel⟩
theorem d_l_ends (h : Here K mg "_law_ends" s_l_ends ["_law_way_here", "_law_text_here", "_law_place"]) (G_l_end_places : DefOk P w K mg base 26 "_law_end_places" ["_law_way_here", "_law_text_here", "_law_places"] (spPl 8)) : DefOk P w K mg base 27 "_law_ends" ["_law_way_here", "_law_text_here", "_law_place"] spWends := by
  refine h.ok sc_l_ends (fun vs H Q E h => by obtain ⟨_, _, _, _, _, rfl, _⟩ := h; rfl) (fun f cdv A outer s' H vs Q E hr h => ?_)
  obtain ⟨v, w, z, y, p, rfl, hv, hwf, hsz, hz, hp, k⟩ := h
  refine ⟨_, (pss_one (ps_ret (pe_lc (own := [("_law_end", 3)]) (g := (gName 3)) (tt := tYes) rfl sc_l_ends.nd (pi_list (pe_callD G_l_end_places (hr.mono (by first | decide | omega)) rfl (pa_cons (pv 0) (pa_cons (pv 1) (pa_cons (pe_lst (pa_cons (pv 2) pa_nil)) pa_nil))))) (blkOk_by (own := [("_law_end", 3)]) (N := ["_law_way_here", "_law_text_here", "_law_place", "_law_end"]) (sc := defScope s_l_ends) (by decide +kernel)) (fun _ _ _ _ _ => pg_name (i := 3) sc_l_ends.nd rfl (Or.inl rfl)) (fun _ _ _ _ _ => pts_nil) (fun _ _ _ _ _ => (pe_op op_sub (pv 3) (pv 2)))))), ?_⟩
  walk_at "nx"
  refine ⟨_, rfl, _, rfl, _, rfl, by show 1 ≤ sizeLine; decide, fun q1 hq1 => ?_⟩
  have s1 := Same.new hq1 (.lst [.int (p : Nat)])
  have h1 : upd H q1 (.lst [.int (p : Nat)]) q1 = some (.lst (iV [p])) := upd_same
  generalize upd H q1 (.lst [.int (p : Nat)]) = H1 at *
  refine ⟨v, w, z, y, q1, [p], rfl, WayAt.keep (Keep.of s1) _ _ hv, hwf, hsz, hsz, hz, h1, by show 1 ≤ 100; decide, fun t ht => by rw [List.mem_singleton] at ht; omega, fun q2 H2 s2 hq2 => ?_⟩
  refine ⟨q2, rfl, ⟨_, SqL.of hq2⟩, fun D hD => ?_⟩
  have hEl := EN_len z w [p]
  refine lc_list (K := K) (a := q2) (xs := iV (EN z w [p])) (fun j Hx => Hx D = some (.lst (((EN z w [p]).take j).map fun r => V.int (((r : Nat) : Int) - ((p : Nat) : Int)))) ∧ Same H2 Hx) ?_ ?_ ?_ ?_
  · exact ⟨upd_same, Same.new hD _⟩
  · rintro j Hx _ ⟨_, sx⟩
    exact SqL.of (sx _ _ hq2)
  · rintro j e Hx he ⟨hd, sx⟩
    obtain ⟨n, hn, rfl⟩ := iV_back he
    refine ⟨rfl, _, rfl, _, rfl, _, _, rfl, rfl, _, hd, small' (by rw [List.length_map, List.length_take]; omega), ?_, Same.put hD sx _⟩
    rw [upd_same, List.take_add_one, hn, List.map_append]
    rfl
  · rintro H3 ⟨hd, s3⟩
    rw [show (iV (EN z w [p])).length = (EN z w [p]).length by simp only [iV, List.length_map], List.take_length, ← endL_EN] at hd
    exact k D H3 ((s1.trans s2).trans s3) hd
end
end Hi
namespace Hi
open PySem PySem.Spec PyProof.Rows L2 Wv
open Tk
/-! ### the law -/
def dZ (ns : List Int) : PyData := .list (ns.map PyData.int)
theorem log_le {i : Nat} (h : i < 10 ^ 6) : i.log2 < 1920 := by
  by_cases h0 : i = 0
  · subst h0; decide
  · exact (Nat.log2_lt h0).mpr (Nat.lt_of_lt_of_le h (Nat.le_trans (show 10 ^ 6 ≤ 2 ^ 20 by decide) (Nat.pow_le_pow_right (by decide) (show 20 ≤ 1920 by decide))))
theorem showAll : ∀ ns : List Int, (∀ n ∈ ns, n.natAbs < 10 ^ 6) → PyData.showableAll (ns.map PyData.int) = true
  | [], _ => by simp [PyData.showableAll]
  | n :: r, h => by
    simp only [List.map_cons, PyData.showableAll, PyData.showable, Bool.and_eq_true, decide_eq_true_eq]
    exact ⟨log_le (h n List.mem_cons_self), showAll r fun m hm => h m (List.mem_cons_of_mem _ hm)⟩
theorem noDicts : ∀ ns : List Int, PyData.hasDictAll (ns.map PyData.int) = false
  | [] => by simp [PyData.hasDictAll]
  | n :: r => by simp only [List.map_cons, PyData.hasDictAll, PyData.hasDict, noDicts r]; rfl
theorem bulks : ∀ ns : List Int, PyData.bulkAll (ns.map PyData.int) ≤ 2 * ns.length
  | [] => by simp [PyData.bulkAll]
  | n :: r => by have := bulks r; simp only [List.map_cons, PyData.bulkAll, PyData.bulk, List.length_cons]; omega
theorem shorts : ∀ ns : List Int, (∀ n ∈ ns, n.natAbs < 10 ^ 6) → PyData.leavesShortAll 13 (ns.map PyData.int) = true
  | [], _ => by simp [PyData.leavesShortAll]
  | n :: r, h => by
    simp only [List.map_cons, PyData.leavesShortAll, PyData.leavesShort, Bool.and_eq_true, decide_eq_true_eq]
    have := h n List.mem_cons_self
    exact ⟨PyData.shown_int_le (by omega), shorts r fun m hm => h m (List.mem_cons_of_mem _ hm)⟩
theorem dZ_ok (ns : List Int) (hl : ns.length ≤ 10000) (hn : ∀ n ∈ ns, n.natAbs < 10 ^ 6) : isDisplay (dZ ns) = true ∧ (dZ ns).showable = true ∧ (dZ ns).hasDict = false ∧ (dZ ns).depth ≤ 60 ∧ (dZ ns).shown.length ≤ sizeLine :=
  ⟨rfl, by unfold dZ; rw [PyData.showable]; exact showAll ns hn, by unfold dZ; rw [PyData.hasDict]; exact noDicts _, by
    unfold dZ; rw [PyData.depth]; have := depths ns; omega,
    PyData.shown_fits_bulk (B := 13) (by decide) (by decide) (by unfold dZ; rw [PyData.leavesShort]; exact shorts ns hn) (by
      unfold dZ
      rw [PyData.bulk]
      have := bulks ns
      omega)⟩
theorem endL_ok (z : List Nat) (w : W) (p : Nat) (hz : z.length ≤ 9) (hp : p ≤ z.length) : (endL z w p).length ≤ 10000 ∧ ∀ n ∈ endL z w p, n.natAbs < 10 ^ 6 := by
  constructor
  · unfold endL
    rw [List.length_map]
    have := List.length_filter_le (en z w p) (List.range (z.length + 1))
    rw [List.length_range] at this
    omega
  · intro n hn
    unfold endL at hn
    obtain ⟨q, hq, rfl⟩ := List.mem_map.mp hn
    have h1 := (List.mem_filter.mp hq).1
    rw [List.mem_range] at h1
    omega
theorem told_in (z : List Nat) (w : W) (p r : Nat) (hp : p ≤ z.length) (h : ew z w p = some r) : inV (told (some r) p) ((endL z w p).map V.int) = true := by
  have h1 := ew_en z w p r hp h
  have h2 := en_in z w p r hp h1
  unfold inV
  rw [List.any_eq_true]
  refine ⟨.int (((r : Nat) : Int) - ((p : Nat) : Int)), List.mem_map.mpr ⟨_, ?_, rfl⟩, ?_⟩
  · unfold endL
    exact List.mem_map.mpr ⟨r, List.mem_filter.mpr ⟨by rw [List.mem_range]; omega, h1⟩, rfl⟩
  · show ((((r : Nat) : Int) - ((p : Nat) : Int)) == (((r : Nat) : Int) - ((p : Nat) : Int))) = true
    exact beq_self_eq_true _
theorem int_flat : ∀ ns : List Int, (ns.map V.int).all flatV = true := fun ns => by
  rw [List.all_map, List.all_eq_true]
  exact fun x _ => rfl
theorem cut_last (z : List Nat) : cutS (tx z) (some (-3)) none = tx (z.drop (z.length - 3)) := by
  unfold cutS
  rw [Wv.tx_len, tx_list]
  have e1 : HT.sIx z.length 0 (some (-3)) = z.length - 3 := by
    show (if (-3 : Int) < 0 then ((-3 : Int) + (z.length : Int)).toNat else min (-3 : Int).toNat z.length) = z.length - 3
    rw [if_pos (by decide)]
    omega
  rw [e1]
  show Str.mk _ = Str.mk _
  congr 2
  exact List.take_of_length_le (by rw [List.length_drop]; exact Nat.le_refl _)
section
variable {P : Program} {w : World} {K : PySem.W.Frag} {mg : Str → Option Value} {base : Heap} {c : Cs}
def spLaw (K : PySem.W.Frag) : Sp := fun vs H Q _ => ∃ (a : Addr) (ns : List Int), vs = [.ref a] ∧ SqL K H a (ns.map V.int) ∧ ns.length ≤ 63 ∧ ∀ H', Q (.bl true) H'
abbrev s_law : Stmt := top 76
theorem sc_law : FnScope ["_law_script", "_law_pen_here", "_law_turn", "_law_letters", "_law_way_here", "_law_text_here", "_law_made_here", "_law_place", "_law_due", "_law_told", "_law_heard"] ["_law_script"] (defScope s_law) := ⟨rfl, rfl, rfl, by decide +kernel, rfl, by decide +kernel, by decide +kernel⟩
theorem ok_law {f : Addr} {fd : FuncData} (F : Fun K "law" "law" s_law f fd) (B : Bs mg) (G_l_pen : DefOk P w K mg base 1 "_law_pen" ["_law_script"] (spPen K)) (G_l_draw : DefOk P w K mg base 1 "_law_draw" ["_law_pen_here", "_law_many"] (spDraw K))
    (G_l_signs : DefOk P w K mg base 2 "_law_signs" ["_law_pen_here", "_law_many"] (spSigns K)) (G_l_way : DefOk P w K mg base 34 "_law_way" ["_law_pen_here", "_law_signs_here", "_law_most"] (spWay K)) (G_l_made : DefOk P w K mg base 32 "_law_made" ["_law_way_here"] (spMade c 30)) (G_l_text : DefOk P w K mg base 3 "_law_text" ["_law_pen_here", "_law_signs_here", "_law_most"] (spText K))
    (G_l_take : DefOk P w K mg base 17 "_law_take" ["_law_way_here", "_law_text_here", "_law_place"] (spTake 8)) (G_l_ends : DefOk P w K mg base 27 "_law_ends" ["_law_way_here", "_law_text_here", "_law_place"] spWends) (GZ_takes : DefZ P w K mg base 5 "takes" ["way", "text", "place"] (spTakes c)) (GZ_ends : DefZ P w K mg base 6 "ends" ["way", "text", "place"] (spEnds c)) :
    Gd.FnG P w K mg base 41 f fd ["_law_script"] (spLaw K) := by
  have B_len := B.len; have B_range := B.range; have B_min := B.min; have B_repr := B.repr
  have G_takes := GZ_takes.all; have G_ends := GZ_ends.all
  refine Gd.fnG_of F sc_law (fun vs H Q E h => by obtain ⟨p, v, rfl, _⟩ := h; rfl) (fun cdv A outer s' H vs Q E hgd hr h => ?_)
  obtain ⟨a, ns, rfl, hns, hnl, k⟩ := h
  refine ⟨_, (pss_cons (ps_set (i := 1) sc_law.nd rfl (Or.inl rfl) (pe_callD G_l_pen (hr.mono (by first | decide | omega)) rfl (pa_cons (pv 0) pa_nil)))
  (pss_cons (ps_for PassesOwn.never rfl (pi_range1 rfl B_range (pa_cons (pe_op op_add pe_int (pe_callB (call_min2 rfl) rfl B_min (by decide +kernel) (pa_cons pe_int (pa_cons (pe_callB call_len_seq rfl B_len PySem.boot_len (pa_cons (pv 0) pa_nil)) pa_nil)))) pa_nil)) (pg_name (i := 2) sc_law.nd rfl (Or.inl rfl))
   (pss_cons (ps_set (i := 3) sc_law.nd rfl (Or.inl rfl) (pe_callD G_l_signs (hr.mono (by first | decide | omega)) rfl (pa_cons (pv 1) (pa_cons (pe_op op_add pe_int (pe_callD G_l_draw (hr.mono (by first | decide | omega)) rfl (pa_cons (pv 1) (pa_cons pe_int pa_nil)))) pa_nil))))
  (pss_cons (ps_set (i := 4) sc_law.nd rfl (Or.inl rfl) (pe_callD G_l_way (hr.mono (by first | decide | omega)) rfl (pa_cons (pv 1) (pa_cons (pe_slice sl_str (pv 3) (po_some (pe_un un_neg pe_int)) po_none) (pa_cons pe_int pa_nil)))))
  (pss_cons (ps_set (i := 5) sc_law.nd rfl (Or.inl rfl) (pe_callD G_l_text (hr.mono (by first | decide | omega)) rfl (pa_cons (pv 1) (pa_cons (pv 3) (pa_cons pe_int pa_nil)))))
  (pss_cons (ps_set (i := 6) sc_law.nd rfl (Or.inl rfl) (pe_callD G_l_made (hr.mono (by first | decide | omega)) rfl (pa_cons (pv 4) pa_nil)))
  (pss_cons (ps_for PassesOwn.never rfl (pi_range1 rfl B_range (pa_cons (pe_op op_add (pe_callB call_len_str rfl B_len PySem.boot_len (pa_cons (pv 5) pa_nil)) pe_int) pa_nil)) (pg_name (i := 7) sc_law.nd rfl (Or.inl rfl))
   (pss_cons (ps_set (i := 8) sc_law.nd rfl (Or.inl rfl) (pe_callD G_l_ends (hr.mono (by first | decide | omega)) rfl (pa_cons (pv 4) (pa_cons (pv 5) (pa_cons (pv 7) pa_nil)))))
  (pss_cons (ps_set (i := 9) sc_law.nd rfl (Or.inl rfl) (pe_callD G_ends (hr.mono (by first | decide | omega)) rfl (pa_cons (pv 6) (pa_cons (pv 5) (pa_cons (pv 7) pa_nil)))))
  (pss_cons (ps_set (i := 10) sc_law.nd rfl (Or.inl rfl) (pe_callD G_takes (hr.mono (by first | decide | omega)) rfl (pa_cons (pv 6) (pa_cons (pv 5) (pa_cons (pv 7) pa_nil)))))
  (pss_cons (ps_if (pt_cmpR op_ne (pe_callB (Gd.call_repr hgd hr) rfl B_repr (by decide +kernel) (pa_cons (pv 9) pa_nil)) (pe_callB (Gd.call_repr hgd hr) rfl B_repr (by decide +kernel) (pa_cons (pv 8) pa_nil)) (nomark _)) (pss_one (ps_ret pe_bl)) pss_nil)
  (pss_cons (ps_if (pt_cmpR op_ne (pe_callB (Gd.call_repr hgd hr) rfl B_repr (by decide +kernel) (pa_cons (pv 10) pa_nil)) (pe_callB (Gd.call_repr hgd hr) rfl B_repr (by decide +kernel) (pa_cons (pe_callD G_l_take (hr.mono (by first | decide | omega)) rfl (pa_cons (pv 4) (pa_cons (pv 5) (pa_cons (pv 7) pa_nil)))) pa_nil)) (nomark _)) (pss_one (ps_ret pe_bl)) pss_nil)
  (pss_one (ps_if (PW.pt (pw_and (pt_cmpR op_notN (pv 10) pe_non (nomark _)) (pw_and1 (pt_cmpR op_notIn_seq (pv 10) (pv 9) (by rfl))))) (pss_one (ps_ret pe_bl)) pss_nil))))))))
  (pss_one (ps_if (pt_cmpR op_ne (pe_callB (Gd.call_repr hgd hr) rfl B_repr (by decide +kernel) (pa_cons (pe_callZ GZ_ends (hr.mono (by first | decide | omega)) rfl (pa_cons (pv 6) (pa_cons (pv 5) pa_nil))) pa_nil)) (pe_callB (Gd.call_repr hgd hr) rfl B_repr (by decide +kernel) (pa_cons (pe_callD G_l_ends (hr.mono (by first | decide | omega)) rfl (pa_cons (pv 4) (pa_cons (pv 5) (pa_cons pe_int pa_nil)))) pa_nil)) (nomark _)) (pss_one (ps_ret pe_bl)) pss_nil))))))))
  (pss_one (ps_ret pe_bl)))), ?_⟩
  refine ⟨_, rfl, a, ns, rfl, hns, hnl, fun p H0 s0 hP0 => ?_⟩
  walk_at "nx"
  have hm : ∃ n : Nat, n ≤ 5 ∧ 2 + (if (((ns.map V.int).length : Nat) : Int) < 3 then (((ns.map V.int).length : Nat) : Int) else 3) = (n : Int) := by
    by_cases h8 : (((ns.map V.int).length : Nat) : Int) < 3
    · rw [if_pos h8]; exact ⟨(ns.map V.int).length + 2, by omega, by omega⟩
    · rw [if_neg h8]; exact ⟨5, by omega, by omega⟩
  obtain ⟨n, hn, en'⟩ := hm
  refine ⟨_, rfl, a, _, rfl, .inl (s0.seq hns), _, _, rfl, _, _, rfl, rfl, (n : Int), ?_, by omega, by omega, ?_⟩
  · exact congrArg (fun z => [V.int z]) en'
  refine for_range (lo := 0) (n := (n : Int).toNat) (fun i σ H' => ∃ x2 x3 x4 x5 x6 x7 x8 x9 x10 : Option V, σ = [some (.ref a), some (.ref p.d), x2, x3, x4, x5, x6, x7, x8, x9, x10] ∧ PenAt K H' p (600 * i)) ?_ ?_ ?_
  · exact ⟨_, _, _, _, _, _, _, _, _, rfl, hP0⟩
  · rintro i σ H1 hi ⟨x2, x3, x4, x5, x6, x7, x8, x9, x10, rfl, hP1⟩
    have hi' : i < 5 := by omega
    walk_at "nx"
    refine ⟨_, rfl, _, rfl, p, 4, _, rfl, hP1, by unfold LIM; omega, by decide, by decide, fun d H2 d0 d1 k2 hP2 => ?_⟩
    have e1 : (1 + d) = ((d.toNat + 1 : Nat) : Int) := by omega
    refine ⟨_, _, rfl, rfl, p, d.toNat + 1, _, by rw [← e1]; rfl, hP2, by unfold LIM; omega, by omega, fun z H3 hzl _ hza k3 hP3 => ?_⟩
    walk_at "nx"
    refine ⟨_, rfl, _, rfl, _, rfl, _, rfl, _, rfl, by rw [Wv.tx_len]; exact Nat.le_of_lt (small' (by omega)), ?_⟩
    rw [cut_last z]
    have hz3 : 0 < (z.drop (z.length - 3)).length ∧ (z.drop (z.length - 3)).length ≤ 100 := by rw [List.length_drop]; omega
    have hza3 : Az (z.drop (z.length - 3)) := fun c hc => hza c (List.mem_of_mem_drop hc)
    generalize z.drop (z.length - 3) = y at hz3 hza3
    refine ⟨p, y, 8, _, rfl, hP3, by unfold LIM; omega, hz3.1, hz3.2, hza3, by decide, by decide, fun v w H4 hwsz hwf hv k4 hP4 => ?_⟩
    have hv4 := WayAt.keep newer_le _ _ hv
    walk_at "nx"
    refine ⟨_, rfl, _, rfl, p, z, 9, _, rfl, hP4, by unfold LIM; omega, by omega, by omega, by decide, fun l H5 hll k5 hP5 => ?_⟩
    have hv5 := WayAt.keep k5 _ _ hv4
    walk_at "nx"
    refine ⟨_, rfl, v, w, rfl, hv5, by omega, by omega, fun o H6 s6 ho => ?_⟩
    have hP6 := hP5.same s6
    have hv6 := WayAt.keep (Keep.of s6) _ _ hv5
    walk_at "nx"
    refine ⟨_, rfl, _, rfl, by rw [Wv.tx_len]; exact Nat.le_of_lt (small' (by omega)), _, _, rfl, rfl, ((l.length : Nat) : Int) + 1, by rw [Wv.tx_len], by omega, by omega, ?_⟩
    rw [show (((l.length : Nat) : Int) + 1).toNat = l.length + 1 by omega]
    refine for_range (lo := 0) (n := l.length + 1) (fun j σ H' => ∃ x7 x8 x9 x10 : Option V, σ = [some (.ref a), some (.ref p.d), some (.int (0 + (i : Nat))), some (.str (tx z)), some v, some (.str (tx l)), some o, x7, x8, x9, x10] ∧ Same H6 H') ?_ ?_ ?_
    · exact ⟨_, _, _, _, rfl, Same.refl _⟩
    · rintro j σ H7 hj ⟨x7', x8', x9', x10', rfl, s7⟩
      have hjl : j ≤ l.length := by omega
      obtain ⟨hE1, hE2⟩ := endL_ok l w j hll hjl
      obtain ⟨d1, d2, d3, d4, d5⟩ := dZ_ok _ hE1 hE2
      have ej : (0 + ((j : Nat) : Int)) = ((j : Nat) : Int) := Int.zero_add _
      rw [ej]
      walk_at "nx"
      refine ⟨_, rfl, _, rfl, _, rfl, v, w, l, y, j, rfl, WayAt.keep (Keep.of s7) _ _ hv6, hwf, hwsz, hll, hjl, fun qd H8 s8 hqd => ?_⟩
      walk_at "nx"
      have s78 := s7.trans s8
      refine ⟨_, rfl, _, rfl, _, rfl, o, w, l, y, j, rfl, ObjAt.keep (stillS s78) _ _ ho, hwf, by omega, by omega, hjl, fun qe H9 s9 hqe => ?_⟩
      walk_at "nx"
      have s79 := s78.trans s9
      refine ⟨_, rfl, _, rfl, _, rfl, o, w, l, y, j, rfl, ObjAt.keep (stillS s79) _ _ ho, hwf, by omega, by omega, hjl, fun H10 s10 => ?_⟩
      walk_at "nx"
      have s710 := s79.trans s10
      refine ⟨_, rfl, _, rfl, .inl ⟨dZ (endL l w j), .lst (SqL.of (s10 _ _ hqe)) (dpAll_ints' _), d1, d2, d3, d4, d5, ?_⟩⟩
      refine ⟨_, rfl, _, rfl, .inl ⟨dZ (endL l w j), .lst (SqL.of (s10 _ _ (s9 _ _ hqd))) (dpAll_ints' _), d1, d2, d3, d4, d5, ?_⟩⟩
      refine ⟨rfl, _, rfl, ?_⟩
      rw [decide_eq_true rfl]
      refine iteF ?_
      walk_at "nx"
      have hsm : ∀ r, ew l w j = some r → r < 10 ^ 6 := fun r hr => by have := (ew_in l w j r hjl hr).2; omega
      cases er : ew l w j with
      | none =>
        refine ⟨_, rfl, _, rfl, .inr (.inr ⟨rfl, ?_⟩)⟩
        refine ⟨_, rfl, _, rfl, _, rfl, v, w, l, y, j, rfl, WayAt.keep (Keep.of s710) _ _ hv6, hwf, by omega, by omega, hjl, fun H11 s11 => ?_⟩
        rw [er]
        refine ⟨_, rfl, .inr (.inr ⟨rfl, ?_⟩)⟩
        refine ⟨rfl, _, rfl, ?_⟩
        rw [decide_eq_true rfl]
        refine iteF ?_
        walk_at "nx"
        refine ⟨_, rfl, rfl, _, rfl, ?_⟩
        refine iteF (iteF ?_)
        walk_at "nx"
        exact ⟨_, _, _, _, rfl, s710.trans s11⟩
      | some r =>
        have hlg : (((r : Nat) : Int) - ((j : Nat) : Int)).natAbs.log2 < 1920 := log_le (by have := hsm r er; omega)
        refine ⟨_, rfl, _, rfl, .inr (.inl ⟨_, rfl, hlg, ?_⟩)⟩
        refine ⟨_, rfl, _, rfl, _, rfl, v, w, l, y, j, rfl, WayAt.keep (Keep.of s710) _ _ hv6, hwf, by omega, by omega, hjl, fun H11 s11 => ?_⟩
        rw [er]
        refine ⟨_, rfl, .inr (.inl ⟨_, rfl, hlg, ?_⟩)⟩
        refine ⟨rfl, _, rfl, ?_⟩
        rw [decide_eq_true rfl]
        refine iteF ?_
        walk_at "nx"
        refine ⟨_, rfl, rfl, _, rfl, ?_⟩
        refine iteT ?_
        refine ⟨_, rfl, _, rfl, qe, _, rfl, .inl (SqL.of (s11 _ _ (s10 _ _ hqe))), rfl, int_flat _, ?_⟩
        rw [if_pos rfl, told_in l w j r hjl er]
        refine ⟨_, rfl, iteF ?_⟩
        walk_at "nx"
        exact ⟨_, _, _, _, rfl, s710.trans s11⟩
    · rintro σ H7 ⟨x7', x8', x9', x10', rfl, s7⟩
      walk_at "nx"
      obtain ⟨hE1, hE2⟩ := endL_ok l w 0 hll (Nat.zero_le _)
      obtain ⟨d1, d2, d3, d4, d5⟩ := dZ_ok _ hE1 hE2
      refine ⟨_, rfl, _, rfl, o, w, l, y, 0, rfl, ObjAt.keep (stillS s7) _ _ ho, hwf, by omega, by omega, Nat.zero_le _, fun qe H8 s8 hqe => ?_⟩
      refine ⟨_, rfl, .inl ⟨dZ (endL l w 0), .lst (SqL.of hqe) (dpAll_ints' _), d1, d2, d3, d4, d5, ?_⟩⟩
      refine ⟨_, rfl, _, rfl, v, w, l, y, 0, rfl, WayAt.keep (Keep.of (s7.trans s8)) _ _ hv6, hwf, hwsz, hll, Nat.zero_le _, fun qd H9 s9 hqd => ?_⟩
      refine ⟨_, rfl, .inl ⟨dZ (endL l w 0), .lst (SqL.of hqd) (dpAll_ints' _), d1, d2, d3, d4, d5, ?_⟩⟩
      refine ⟨rfl, _, rfl, ?_⟩
      rw [decide_eq_true rfl]
      refine iteF ?_
      walk_at "nx"
      exact ⟨_, _, _, _, _, _, _, _, _, rfl, (hP6.same ((s7.trans s8).trans s9)).mono (by omega)⟩
  · rintro σ H1 ⟨_, _, _, _, _, _, _, _, _, rfl, _⟩
    walk_at "nx"
    exact k H1
end
end Hi
namespace Wv
open PySem PySem.Spec PyProof.Rows L2
/-! ### what the program's top leaves -/
section
variable {P : Program} {w : World} {K : PySem.W.Frag} {mg : Str → Option Value} {h : Heap}
theorem here_mk {x : Str} {st : Stmt} {ps : List Str} (X : K.In h) (G : h.Ns mainGlobals mg) {f : Addr} {oc kV dc pm cd ct : Value} {od an : Option Addr} {sl : Array (Option Value)} (a : PySem.W.nsIn K mainGlobals x = some (some (.ref f)))
    (l : K.lookup f = some ⟨oc, od, .func (PySem.W.fnOf x x (defArgs st) (defBody st) (defScope st) .none kV dc pm an cd ct), sl⟩) (c : PySem.W.codeIn K cd x = true) (k : PySem.W.keepIn K (.ref f) = true)
    (b : ∀ (kV doc pm : Value) (an : Option Addr) (cdv ct : Value) (us : List Value), us.length = ps.length → bindArgs (PySem.W.fnOf x x (defArgs st) (defBody st) (defScope st) .none kV doc pm an cdv ct) ⟨us, []⟩ = pure (ps.zip us)) : Here K mg x st ps :=
  ⟨f, _, fun_mk l c k, PySem.W.mg_of X G a, (fun_mk l c k).binds b⟩
/-- a def within a class -/
structure In1 (K : PySem.W.Frag) (m q : Str) (st : Stmt) (ps : List Str) (f : Addr) : Prop where
  fn : PySem.W.isFn K (.ref f) = true
  ex : ∃ fd : FuncData, Fun K m q st f fd ∧ Binds K fd ps []
theorem in_mk {m q : Str} {st : Stmt} {ps : List Str} {f : Addr} {oc kV dc pm cd ct : Value} {od an : Option Addr} {sl : Array (Option Value)} (i : PySem.W.isFn K (.ref f) = true)
    (l : K.lookup f = some ⟨oc, od, .func (PySem.W.fnOf m q (defArgs st) (defBody st) (defScope st) .none kV dc pm an cd ct), sl⟩) (c : PySem.W.codeIn K cd q = true) (k : PySem.W.keepIn K (.ref f) = true)
    (b : ∀ (kV doc pm : Value) (an : Option Addr) (cdv ct : Value) (us : List Value), us.length = ps.length → bindArgs (PySem.W.fnOf m q (defArgs st) (defBody st) (defScope st) .none kV doc pm an cdv ct) ⟨us, []⟩ = pure (ps.zip us)) : In1 K m q st ps f :=
  ⟨i, _, fun_mk l c k, (fun_mk l c k).binds b⟩
/-- a class of ways -/
structure ClT (K : PySem.W.Frag) (mg : Str → Option Value) (x : Str) (C wy at_ eq_ len_ : Addr) : Prop where
  m : mg x = some (.ref C)
  f : ClsF K C
  mks : PySem.W.makesIn K C = true
  kc : PySem.W.keepIn K (.ref C) = true
  ty : PySem.W.typeIn K (.ref C) = some (.type "type")
  cls : ∃ cd, PySem.W.clsIn K C = some cd ∧ cd.mro = [.ref C, .ref wy, .type "object"]
  mat : PySem.W.findIn K (.ref C) "at" = some (some (.ref at_))
  meq : PySem.W.findIn K (.ref C) "__eq__" = some (some (.ref eq_))
  mln : PySem.W.findIn K (.ref C) "__len__" = some (some (.ref len_))
theorem clt_mk {x : Str} {C wy at_ eq_ len_ : Addr} {cd : ClassData} (X : K.In h) (G : h.Ns mainGlobals mg) (a : PySem.W.nsIn K mainGlobals x = some (some (.ref C))) (pg : PySem.W.plainGet K C Str.empty = true) (hd : PySem.W.hasDictIn K C = true) (po : PySem.W.plainOver K C = true)
    (sa : PySem.W.findIn K (.ref C) "__setattr__" = some (some (.builtin "object.__setattr__"))) (nl : PySem.W.findIn K (.ref C) "letter" = some none) (nn : PySem.W.findIn K (.ref C) "name" = some none) (nw : PySem.W.findIn K (.ref C) "ways" = some none) (np : PySem.W.findIn K (.ref C) "part" = some none)
    (ha : PySem.W.findIn K (.ref C) "__class__" = some (some (.builtin "object.__class__"))) (hm : PySem.W.mroIn K C (.type "object") = some true) (mk : PySem.W.makesIn K C = true) (kc : PySem.W.keepIn K (.ref C) = true) (ty : PySem.W.typeIn K (.ref C) = some (.type "type"))
    (cl : PySem.W.clsIn K C = some cd) (cm : cd.mro = [.ref C, .ref wy, .type "object"]) (mat : PySem.W.findIn K (.ref C) "at" = some (some (.ref at_))) (meq : PySem.W.findIn K (.ref C) "__eq__" = some (some (.ref eq_))) (mln : PySem.W.findIn K (.ref C) "__len__" = some (some (.ref len_))) : ClT K mg x C wy at_ eq_ len_ :=
  ⟨PySem.W.mg_of X G a, ⟨⟨pg, hd, po, sa⟩, nl, nn, nw, np, ha, hm⟩, mk, kc, ty, ⟨cd, cl, cm⟩, mat, meq, mln⟩
theorem ClT.kit {x y : Str} {C D wy a1 a2 a3 b1 b2 b3 : Addr} (c : ClT K mg x C wy a1 a2 a3) (d : ClT K mg y D wy b1 b2 b3) (hw : D ≠ wy) : PySem.W.kitOne K (.ref C) (.ref D) = some (decide (C = D)) := by
  obtain ⟨cd, e1, e2⟩ := c.cls
  obtain ⟨dd, g1, _⟩ := d.cls
  by_cases h : C = D
  · subst h
    rw [decide_eq_true rfl]
    unfold PySem.W.kitOne
    rw [if_pos (beq_self_eq_true _)]
  · rw [decide_eq_false h]
    unfold PySem.W.kitOne
    rw [if_neg (by simpa using h)]
    show (if ((PySem.W.clsIn K D).isSome && PySem.W.typeIn K (.ref D) == some (.type "type")) = true then PySem.W.subIn K (.ref C) (.ref D) else none) = _
    rw [g1, d.ty, if_pos (by simp)]
    show PySem.W.mroIn K C (.ref D) = _
    unfold PySem.W.mroIn
    rw [e1, Option.bind_some, e2]
    have h' : D ≠ C := fun e => h e.symm
    simp [h', hw]
theorem ClT.kitWay {x : Str} {C wy a1 a2 a3 : Addr} (c : ClT K mg x C wy a1 a2 a3) (hc : PySem.W.isClsIn K wy = true) (ht : PySem.W.typeIn K (.ref wy) = some (.type "type")) : PySem.W.kitOne K (.ref C) (.ref wy) = some true := by
  obtain ⟨cd, e1, e2⟩ := c.cls
  by_cases h : C = wy
  · subst h
    unfold PySem.W.kitOne
    rw [if_pos (beq_self_eq_true _)]
  · unfold PySem.W.kitOne
    rw [if_neg (by simpa using h)]
    show (if ((PySem.W.clsIn K wy).isSome && PySem.W.typeIn K (.ref wy) == some (.type "type")) = true then PySem.W.subIn K (.ref C) (.ref wy) else none) = _
    rw [show (PySem.W.clsIn K wy).isSome = true from hc, ht, if_pos (by simp)]
    show PySem.W.mroIn K C (.ref wy) = _
    unfold PySem.W.mroIn
    rw [e1, Option.bind_some, e2]
    simp
/-- the classes -/
structure Tops (K : PySem.W.Frag) (mg : Str → Option Value) (c : Cs) (wy at_ eq_ len_ : Addr) : Prop where
  lt : ClT K mg "Letter" c.lt wy at_ eq_ len_
  on : ClT K mg "One" c.on wy at_ eq_ len_
  no : ClT K mg "Nothing" c.no wy at_ eq_ len_
  ro : ClT K mg "Row" c.ro wy at_ eq_ len_
  ch : ClT K mg "Choice" c.ch wy at_ eq_ len_
  ag : ClT K mg "Again" c.ag wy at_ eq_ len_
  ma : ClT K mg "Maybe" c.ma wy at_ eq_ len_
  ah : ClT K mg "Ahead" c.ah wy at_ eq_ len_
  un : ClT K mg "Unless" c.un wy at_ eq_ len_
  ca : ClT K mg "Call" c.ca wy at_ eq_ len_
  nd : [c.lt, c.on, c.no, c.ro, c.ch, c.ag, c.ma, c.ah, c.un, c.ca, wy].Nodup
def W.name : W → Str
  | .letter _ => "Letter" | .one => "One" | .nothing => "Nothing" | .row _ => "Row" | .choice _ => "Choice" | .again _ => "Again" | .maybe _ => "Maybe" | .ahead _ => "Ahead" | .unless _ => "Unless" | .call _ => "Call"
theorem Tops.of {c : Cs} {wy a1 a2 a3 : Addr} (t : Tops K mg c wy a1 a2 a3) : ∀ x : W, ClT K mg x.name (c.of x) wy a1 a2 a3
  | .letter _ => t.lt | .one => t.on | .nothing => t.no | .row _ => t.ro | .choice _ => t.ch | .again _ => t.ag | .maybe _ => t.ma | .ahead _ => t.ah | .unless _ => t.un | .call _ => t.ca
theorem get_inj {α : Type} {l : List α} (n : l.Nodup) {i j : Nat} {x y : α} (h1 : l[i]? = some x) (h2 : l[j]? = some y) : x = y ↔ i = j := by
  obtain ⟨a, e1⟩ := List.getElem?_eq_some_iff.mp h1
  obtain ⟨b, e2⟩ := List.getElem?_eq_some_iff.mp h2
  subst e1 e2
  first
    | exact List.Nodup.getElem_inj_iff n
    | exact List.getElem_inj n
    | exact List.nodup_getElem_inj n
    | (constructor
       · intro e
         rcases Nat.lt_trichotomy i j with q | q | q
         · exact absurd e (List.pairwise_iff_getElem.mp n i j a b q)
         · exact q
         · exact absurd e.symm (List.pairwise_iff_getElem.mp n j i b a q)
       · intro e; subst e; rfl)
theorem W.tag_get (x : W) : [Str.ofString "letter", Str.ofString "one", Str.ofString "nothing", Str.ofString "row", Str.ofString "choice", Str.ofString "again", Str.ofString "maybe", Str.ofString "ahead", Str.ofString "unless", Str.ofString "call"][x.kind]? = some x.tag := by
  cases x <;> rfl
theorem W.tag_kind (x y : W) : x.tag = y.tag ↔ x.kind = y.kind := get_inj (by decide +kernel) x.tag_get y.tag_get
theorem Cs.of_get (c : Cs) (wy : Addr) (x : W) : [c.lt, c.on, c.no, c.ro, c.ch, c.ag, c.ma, c.ah, c.un, c.ca, wy][x.kind]? = some (c.of x) := by
  cases x <;> rfl
theorem Tops.ne {c : Cs} {wy a1 a2 a3 : Addr} (t : Tops K mg c wy a1 a2 a3) (x : W) : c.of x ≠ wy := fun e => by
  have h := (get_inj t.nd (c.of_get wy x) (show _ = some wy from (rfl : [c.lt, c.on, c.no, c.ro, c.ch, c.ag, c.ma, c.ah, c.un, c.ca, wy][10]? = some wy))).mp e
  cases x <;> cases h
theorem Tops.same {c : Cs} {wy a1 a2 a3 : Addr} (t : Tops K mg c wy a1 a2 a3) (x y : W) : decide (c.of x = c.of y) = decide (x.tag = y.tag) := by
  have h := get_inj t.nd (c.of_get wy x) (c.of_get wy y)
  rw [decide_eq_decide, h, W.tag_kind]
theorem Tops.all {c : Cs} {wy a1 a2 a3 : Addr} (t : Tops K mg c wy a1 a2 a3) (hn : PySem.W.specialIn K (.builtin "object.__class__") "__get__" = some (some (.builtin "getset_descriptor.__get__"))) (ht : PySem.W.takesIn K (.builtin "object.__class__") = some true) : AllF K mg c :=
  ⟨fun x => (t.of x).f, hn, ht, fun x y => by rw [← t.same x y]; exact (t.of x).kit (t.of y) (t.ne y), t.lt.m, t.on.m, t.no.m, t.ro.m, t.ch.m, t.ag.m, t.ma.m, t.ah.m, t.un.m, t.ca.m⟩
theorem bs_mk (X : K.In h) (G : h.Ns mainGlobals mg) (z1 : PySem.W.nsIn K mainGlobals "len" = some none) (z2 : PySem.W.nsIn K mainGlobals "int" = some none) (z3 : PySem.W.nsIn K mainGlobals "list" = some none) (z4 : PySem.W.nsIn K mainGlobals "range" = some none)
    (z5 : PySem.W.nsIn K mainGlobals "min" = some none) (z6 : PySem.W.nsIn K mainGlobals "tuple" = some none) (z7 : PySem.W.nsIn K mainGlobals "isinstance" = some none) (z8 : PySem.W.nsIn K mainGlobals "zip" = some none) (z9 : PySem.W.nsIn K mainGlobals "sum" = some none)
    (z10 : PySem.W.nsIn K mainGlobals "max" = some none) (z11 : PySem.W.nsIn K mainGlobals "reversed" = some none) (z12 : PySem.W.nsIn K mainGlobals "enumerate" = some none) (z13 : PySem.W.nsIn K mainGlobals "repr" = some none) : Bs mg :=
  have n := fun {x : Str} (z : PySem.W.nsIn K mainGlobals x = some none) => PySem.W.mg_none_of X G z
  ⟨n z1, n z2, n z3, n z4, n z5, n z6, n z7, n z8, n z9, n z10, n z11, n z12, n z13⟩
theorem kc_mk (X : K.In h) (G : h.Ns mainGlobals mg) {t0 t1 t2 t3 t4 t5 t6 t7 t8 t9 : Tok} (z0 : PySem.W.nsIn K mainGlobals "LETTER" = some (some (.int 0 t0))) (z1 : PySem.W.nsIn K mainGlobals "ONE" = some (some (.int 1 t1))) (z2 : PySem.W.nsIn K mainGlobals "NOTHING" = some (some (.int 2 t2)))
    (z3 : PySem.W.nsIn K mainGlobals "ROW" = some (some (.int 3 t3))) (z4 : PySem.W.nsIn K mainGlobals "CHOICE" = some (some (.int 4 t4))) (z5 : PySem.W.nsIn K mainGlobals "AGAIN" = some (some (.int 5 t5))) (z6 : PySem.W.nsIn K mainGlobals "MAYBE" = some (some (.int 6 t6)))
    (z7 : PySem.W.nsIn K mainGlobals "AHEAD" = some (some (.int 7 t7))) (z8 : PySem.W.nsIn K mainGlobals "UNLESS" = some (some (.int 8 t8))) (z9 : PySem.W.nsIn K mainGlobals "CALL" = some (some (.int 9 t9))) : Kc mg :=
  have n := fun {x : Str} {v : Value} (z : PySem.W.nsIn K mainGlobals x = some (some v)) => PySem.W.mg_of X G z
  ⟨⟨_, n z0⟩, ⟨_, n z1⟩, ⟨_, n z2⟩, ⟨_, n z3⟩, ⟨_, n z4⟩, ⟨_, n z5⟩, ⟨_, n z6⟩, ⟨_, n z7⟩, ⟨_, n z8⟩, ⟨_, n z9⟩⟩
theorem cls_ok {k : Nat} {x q : Str} {st : Stmt} {C wy a1 a2 a3 f : Addr} {ps : List Str} {sp : Sp} {base : Heap} (t : ClT K mg x C wy a1 a2 a3) (i : PySem.W.findIn K (.ref C) "__init__" = some (some (.ref f))) (j : In1 K "__init__" q st ps f)
    (o : ∀ fd : FuncData, Fun K "__init__" q st f fd → FnOk P w K mg base CX0 k f fd ps sp) : ClsOk P w K mg base k x C ps sp := by
  obtain ⟨fd, F, b⟩ := j.ex
  exact ⟨f, fd, t.m, ⟨t.mks, i, j.fn, t.kc⟩, b, o fd F⟩
end
end Wv
namespace Hi
open PySem PySem.Spec PyProof.Rows L2 Wv Tk
section
variable {P : Program} {w : World} {K : PySem.W.Frag} {mg : Str → Option Value} {h : Heap} {base : Heap}
/-- the class Parts -/
structure PtT (K : PySem.W.Frag) (mg : Str → Option Value) (C : Addr) : Prop where
  m : mg "Parts" = some (.ref C)
  f : PtF K C
  mks : PySem.W.makesIn K C = true
  kc : PySem.W.keepIn K (.ref C) = true
theorem ptt_mk {C : Addr} (X : K.In h) (G : h.Ns mainGlobals mg) (a : PySem.W.nsIn K mainGlobals "Parts" = some (some (.ref C))) (pg : PySem.W.plainGet K C Str.empty = true) (hd : PySem.W.hasDictIn K C = true) (po : PySem.W.plainOver K C = true)
    (sa : PySem.W.findIn K (.ref C) "__setattr__" = some (some (.builtin "object.__setattr__"))) (n1 : PySem.W.findIn K (.ref C) "kinds" = some none) (n2 : PySem.W.findIn K (.ref C) "words" = some none) (n3 : PySem.W.findIn K (.ref C) "inner" = some none)
    (n4 : PySem.W.findIn K (.ref C) "above" = some none) (n5 : PySem.W.findIn K (.ref C) "later" = some none) (n6 : PySem.W.findIn K (.ref C) "wholes" = some none)
    (mk : PySem.W.makesIn K C = true) (kc : PySem.W.keepIn K (.ref C) = true) : PtT K mg C :=
  ⟨PySem.W.mg_of X G a, ⟨⟨pg, hd, po, sa⟩, n1, n2, n3, n4, n5, n6⟩, mk, kc⟩
structure CM (K : PySem.W.Frag) (C : Addr) (m q : Str) (st : Stmt) (ps : List Str) : Prop where
  ex : ∃ f : Addr, PySem.W.findIn K (.ref C) m = some (some (.ref f)) ∧ In1 K m q st ps f
theorem CM.ok {C : Addr} {m q : Str} {st : Stmt} {ps : List Str} {n : Nat} {sp : Sp} (j : CM K C m q st ps) (T : PtT K mg C) (o : ∀ (f : Addr) (fd : FuncData), Fun K m q st f fd → FnOk P w K mg base CX0 n f fd ps sp) : ScOk P w K mg base C n m ps sp := by
  obtain ⟨f, a, i⟩ := j.ex
  obtain ⟨fd, F, b⟩ := i.ex
  exact ⟨T.f.cl, f, fd, o f fd F, ⟨a, i.fn, F.kp⟩, b⟩
theorem CM.make {C : Addr} {q : Str} {st : Stmt} {ps : List Str} {n : Nat} {sp : Sp} (j : CM K C "__init__" q st ps) (T : PtT K mg C) (o : ∀ (f : Addr) (fd : FuncData), Fun K "__init__" q st f fd → FnOk P w K mg base CX0 n f fd ps sp) : ClsOk P w K mg base n "Parts" C ps sp := by
  obtain ⟨f, a, i⟩ := j.ex
  obtain ⟨fd, F, b⟩ := i.ex
  exact ⟨f, fd, T.m, ⟨T.mks, a, i.fn, T.kc⟩, b, o f fd F⟩
theorem cm_mk {C : Addr} {m q : Str} {st : Stmt} {ps : List Str} {f : Addr} (a : PySem.W.findIn K (.ref C) m = some (some (.ref f))) (i : In1 K m q st ps f) : CM K C m q st ps := ⟨f, a, i⟩
theorem kn_mk (X : K.In h) (G : h.Ns mainGlobals mg) {tN : Tok} (c : Kc mg) (z : PySem.W.nsIn K mainGlobals "NOWHERE" = some (some (.int (-1) tN))) : Kn mg := ⟨c, _, PySem.W.mg_of X G z⟩
theorem hz_mk {x : Str} {st : Stmt} {ps : List Str} (X : K.In h) (G : h.Ns mainGlobals mg) {f T : Addr} {oc kV dc pm cd ct : Value} {od an : Option Addr} {sl : Array (Option Value)} {o : Obj} {n : Nat} {tk : Tok} (a : PySem.W.nsIn K mainGlobals x = some (some (.ref f)))
    (l : K.lookup f = some ⟨oc, od, .func (PySem.W.fnOf x x (defArgs st) (defBody st) (defScope st) (.ref T) kV dc pm an cd ct), sl⟩) (c : PySem.W.codeIn K cd x = true) (k : PySem.W.keepIn K (.ref f) = true) (lT : K.lookup T = some o) (oT : o.data = .seq [Value.int 0 tk].toArray n) (hl : ps.length = 3)
    (b3 : ∀ (T : Addr) (kV doc pm : Value) (an : Option Addr) (cdv ct : Value) (us its : List Value), us.length = 3 → its.length = 1 → ∃ k, bindArgs (PySem.W.fnOf x x (defArgs st) (defBody st) (defScope st) (.ref T) kV doc pm an cdv ct) ⟨us, []⟩ = seqItems? (.ref T) >>= k ∧ k (some its.toArray) = pure (ps.zip (us ++ its.drop 1)))
    (b2 : ∀ (T : Addr) (kV doc pm : Value) (an : Option Addr) (cdv ct : Value) (us its : List Value), us.length = 2 → its.length = 1 → ∃ k, bindArgs (PySem.W.fnOf x x (defArgs st) (defBody st) (defScope st) (.ref T) kV doc pm an cdv ct) ⟨us, []⟩ = seqItems? (.ref T) >>= k ∧ k (some its.toArray) = pure (ps.zip (us ++ its.drop 0))) : HereZ K mg x st ps := by
  have F : FunD K x x (defArgs st) (defBody st) (defScope st) [V.int 0] [] f (PySem.W.fnOf x x (defArgs st) (defBody st) (defScope st) (.ref T) kV dc pm an cd ct) :=
    ⟨⟨oc, od, .ref T, kV, dc, pm, an, cd, ct, sl, rfl, l, c, .inr ⟨by simp, T, o, [.int 0 tk], n, rfl, lT, oT, .cons ⟨tk, rfl⟩ .nil⟩, .inl rfl⟩, k⟩
  obtain ⟨d3, v3, B3⟩ := F.binds1 3 1 (by simp) (by rw [hl]; rfl) b3
  obtain ⟨d2, v2, B2⟩ := F.binds1 2 0 (by simp) (by rw [hl]; rfl) b2
  cases v3
  exact ⟨f, _, F, PySem.W.mg_of X G a, B3, d2, v2, B2⟩
theorem fin {fa wy aat aeq aln pt i1 i2 i3 i4 i5 i6 i7 i8 : Addr} {lt on no ro ch ag ma ah un ca : Addr} (X : K.In h) (G : h.Ns mainGlobals mg) (hfa : mg "law" = some (.ref fa))
    (tLt : ClT K mg "Letter" lt wy aat aeq aln) (tOn : ClT K mg "One" on wy aat aeq aln) (tNo : ClT K mg "Nothing" no wy aat aeq aln) (tRo : ClT K mg "Row" ro wy aat aeq aln) (tCh : ClT K mg "Choice" ch wy aat aeq aln)
    (tAg : ClT K mg "Again" ag wy aat aeq aln) (tMa : ClT K mg "Maybe" ma wy aat aeq aln) (tAh : ClT K mg "Ahead" ah wy aat aeq aln) (tUn : ClT K mg "Unless" un wy aat aeq aln) (tCa : ClT K mg "Call" ca wy aat aeq aln)
    (nd : [lt, on, no, ro, ch, ag, ma, ah, un, ca, wy].Nodup) (hn : PySem.W.specialIn K (.builtin "object.__class__") "__get__" = some (some (.builtin "getset_descriptor.__get__"))) (ht : PySem.W.takesIn K (.builtin "object.__class__") = some true)
    (f1 : PySem.W.findIn K (.ref lt) "__init__" = some (some (.ref i1))) (j1 : In1 K "__init__" "Letter.__init__" s_Letter_init ["self", "letter"] i1)
    (f2 : PySem.W.findIn K (.ref ca) "__init__" = some (some (.ref i2))) (j2 : In1 K "__init__" "Call.__init__" s_Call_init ["self", "name"] i2)
    (f3 : PySem.W.findIn K (.ref ro) "__init__" = some (some (.ref i3))) (j3 : In1 K "__init__" "Row.__init__" s_Row_init ["self", "ways"] i3)
    (f4 : PySem.W.findIn K (.ref ch) "__init__" = some (some (.ref i4))) (j4 : In1 K "__init__" "Choice.__init__" s_Choice_init ["self", "ways"] i4)
    (f5 : PySem.W.findIn K (.ref ag) "__init__" = some (some (.ref i5))) (j5 : In1 K "__init__" "Again.__init__" s_Again_init ["self", "part"] i5)
    (f6 : PySem.W.findIn K (.ref ma) "__init__" = some (some (.ref i6))) (j6 : In1 K "__init__" "Maybe.__init__" s_Maybe_init ["self", "part"] i6)
    (f7 : PySem.W.findIn K (.ref ah) "__init__" = some (some (.ref i7))) (j7 : In1 K "__init__" "Ahead.__init__" s_Ahead_init ["self", "part"] i7)
    (f8 : PySem.W.findIn K (.ref un) "__init__" = some (some (.ref i8))) (j8 : In1 K "__init__" "Unless.__init__" s_Unless_init ["self", "part"] i8)
    (fOn : PySem.W.findIn K (.ref on) "__init__" = some (some (.builtin "object.__init__"))) (fNo : PySem.W.findIn K (.ref no) "__init__" = some (some (.builtin "object.__init__")))
    (B : Bs mg) (C : Kn mg) (h1 : Here K mg "kind_of" s_kind_of ["way"]) (h2 : Here K mg "word_of" s_word_of ["way"]) (h3 : Here K mg "made_of" s_made_of ["way"]) (h4 : Here K mg "parts_of" s_parts_of ["way"]) (T : PtT K mg pt) (m0 : CM K pt "__init__" "Parts.__init__" s_Parts_init ["self", "ways"]) (m1 : CM K pt "lay_out" "Parts.lay_out" s_Parts_lay_out ["self", "whole"]) (m2 : CM K pt "put_inside" "Parts.put_inside" s_Parts_put_inside ["self", "number", "above"])
    (h5 : Here K mg "refuse_calls" s_refuse_calls ["ways"]) (h6 : Here K mg "end_tables" s_end_tables ["parts", "text"]) (h7 : Here K mg "ends_of_part" s_ends_of_part ["kind", "letter", "inner", "text"]) (h8 : Here K mg "end_of_row" s_end_of_row ["inner", "place"]) (h9 : Here K mg "end_of_choice" s_end_of_choice ["inner", "place"])
    (h10 : Here K mg "ends_of_again" s_ends_of_again ["ends"]) (h11 : Here K mg "places_of" s_places_of ["bits"]) (h12 : Here K mg "gathered" s_gathered ["spread", "places"]) (h13 : Here K mg "all_ends_of_row" s_all_ends_of_row ["inner", "place"]) (h14 : Here K mg "all_ends_of_choice" s_all_ends_of_choice ["inner", "place"])
    (h15 : Here K mg "all_ends_of_again" s_all_ends_of_again ["spread"]) (h16 : Here K mg "all_ends_of_part" s_all_ends_of_part ["kind", "inner", "ends"]) (h17 : Here K mg "all_end_tables" s_all_end_tables ["parts", "text"])
    (hZ : HereZ K mg "takes" s_takes ["way", "text", "place"]) (hE : HereZ K mg "ends" s_ends ["way", "text", "place"])
    (g1 : Here K mg "_law_pen" s_l_pen ["_law_script"]) (g2 : Here K mg "_law_draw" s_l_draw ["_law_pen_here", "_law_many"]) (g3 : Here K mg "_law_pick" s_l_pick ["_law_pen_here", "_law_items"]) (g4 : Here K mg "_law_signs" s_l_signs ["_law_pen_here", "_law_many"]) (g5 : Here K mg "_law_leaf" s_l_leaf ["_law_pen_here", "_law_signs_here"])
    (g6 : Here K mg "_law_way" s_l_way ["_law_pen_here", "_law_signs_here", "_law_most"]) (g7 : Here K mg "_law_way_of" s_l_way_of ["_law_pen_here", "_law_signs_here", "_law_size"]) (g8 : Here K mg "_law_inner" s_l_inner ["_law_way_here"]) (g9 : Here K mg "_law_made" s_l_made ["_law_way_here"]) (g10 : Here K mg "_law_text" s_l_text ["_law_pen_here", "_law_signs_here", "_law_most"])
    (g12 : Here K mg "_law_take" s_l_take ["_law_way_here", "_law_text_here", "_law_place"]) (g13 : Here K mg "_law_take_row" s_l_take_row ["_law_ways", "_law_text_here", "_law_place"]) (g14 : Here K mg "_law_end_places" s_l_end_places ["_law_way_here", "_law_text_here", "_law_places"]) (g15 : Here K mg "_law_ends" s_l_ends ["_law_way_here", "_law_text_here", "_law_place"]) (g11 : Here K mg "law" s_law ["_law_script"]) :
    ∃ fd : FuncData, (∀ (s : Shared) (v : Value), BindsTo s fd ⟨[v], []⟩ [("_law_script", v)]) ∧ ∀ base : Heap, K.In base → base.Ns mainGlobals mg → Gd.FnG P w K mg base 41 fa fd ["_law_script"] (spLaw K) := by
  obtain ⟨f, fd, F, m, b⟩ := g11.ex
  have e := hfa.symm.trans m
  cases e
  have bt : ∀ (s : Shared) (v : Value), BindsTo s fd ⟨[v], []⟩ [("_law_script", v)] := by
    obtain ⟨oc, od, kV, doc, pm, an, cdv, ct, osl, rfl, _, _⟩ := F.ex
    exact fun s v => .of_eq rfl
  refine ⟨fd, bt, fun base _ _ => ?_⟩
  have t : Tops K mg ⟨lt, on, no, ro, ch, ag, ma, ah, un, ca⟩ wy aat aeq aln := ⟨tLt, tOn, tNo, tRo, tCh, tAg, tMa, tAh, tUn, tCa, nd⟩
  have A := t.all hn ht
  have g : Gs P w K mg base ⟨lt, on, no, ro, ch, ag, ma, ah, un, ca⟩ :=
    ⟨cls_ok tLt f1 j1 fun _ F => ok_Letter F tLt.f, cls_ok tCa f2 j2 fun _ F => ok_Call F tCa.f, cls_ok tRo f3 j3 fun _ F => ok_Row F tRo.f B, cls_ok tCh f4 j4 fun _ F => ok_Choice F tCh.f B, cls_ok tAg f5 j5 fun _ F => ok_Again F tAg.f,
      cls_ok tMa f6 j6 fun _ F => ok_Maybe F tMa.f, cls_ok tAh f7 j7 fun _ F => ok_Ahead F tAh.f, cls_ok tUn f8 j8 fun _ F => ok_Unless F tUn.f, ⟨tOn.m, tOn.mks, fOn, tOn.kc⟩, ⟨tNo.m, tNo.mks, fNo, tNo.kc⟩⟩
  have P1 := d_l_pen (P := P) (w := w) (base := base) g1 B
  have P2 := d_l_draw (P := P) (w := w) (base := base) g2 B
  have P3 := d_l_pick g3 B P2
  have P4 := d_l_signs g4 B P2
  have P5 := d_l_leaf g5 B P2 P3
  have P7 := d_l_way_of g7 B P2 P3 P5 30
  have P6 := d_l_way g6 P2 P7
  have P8 := d_l_inner (P := P) (w := w) (base := base) g8
  have P9 := d_l_made _ g9 g P8 30
  have P10 := d_l_text g10 B P2 P3
  have Q1 := d_kind_of (P := P) (w := w) (base := base) h1 A B C.c
  have Q2 := d_word_of (P := P) (w := w) (base := base) h2 A B
  have Q3 := d_made_of (P := P) (w := w) (base := base) h3 A B
  have Q4 := d_parts_of h4 Q3
  have E1 := d_refuse_calls h5 C.c Q4 Q1
  have E2 := fun z => d_end_of_row (P := P) (w := w) (base := base) (z := z) h8 C
  have E3 := fun z => d_end_of_choice (P := P) (w := w) (base := base) (z := z) h9 C
  have E4 := fun z => d_ends_of_again (P := P) (w := w) (base := base) (z := z) h10 B
  have E5 := fun z => d_ends_of_part h7 B C (E2 z) (E3 z) (E4 z)
  have E6 := d_end_tables h6 T.f B E5
  have M2 := m2.ok (P := P) (w := w) (base := base) T fun _ _ F => ok_put F T.f C.c
  have M1 := m1.ok T fun _ _ F => ok_lay F T.f B Q1 Q2 Q3 M2
  have M0 := m0.make T fun _ _ F => ok_parts F T.f B M1
  have Z := d_takes hZ T.f C E1 E6 M0
  have A1 := d_places_of (P := P) (w := w) (base := base) h11
  have A2 := d_gathered h12 A1
  have A3 := fun z => d_all_ends_of_row (z := z) h13 A2
  have A4 := fun z => d_all_ends_of_choice (P := P) (w := w) (base := base) (z := z) h14
  have A5 := fun z => d_all_ends_of_again (z := z) h15 B A2
  have A6 := fun z => d_all_ends_of_part h16 B C (A3 z) (A4 z) (A5 z)
  have A7 := d_all_end_tables h17 T.f B E6 A6
  have ZE := d_ends hE T.f E1 A7 A1 M0
  have T1 := d_l_take (P := P) (w := w) (base := base) g12 g13 B 8
  have T2 := d_l_places g14 B P8 T1 8
  have T3 := d_l_ends g15 T2
  exact ok_law F B P1 P2 P4 P6 P9 P10 T1 T3 Z ZE
end
theorem walk {l : PySem.W.OpenLaw} {q : Program} {loose : List Str} {XP : (Str → Option Value) → Heap → Prop} {YP : World → Heap → Prop} {d : DefRec} {K : Params → PySem.W.Frag} (hn : l.most = some 63) (hdf : d.params.defaults = [])
    (hY : ∀ (w : World) (h : Heap), YP w h → (K w.params).In h)
    (F : ∀ (w : World) (mg : Str → Option Value) (fa : Addr) (h : Heap), (K w.params).In h → h.Ns mainGlobals mg → mg d.name = some (.ref fa) →
      ∃ fd : FuncData, (∀ (s : Shared) (u : Value), BindsTo s fd ⟨[u], []⟩ [("_law_script", u)]) ∧ ∀ base : Heap, (K w.params).In base → base.Ns mainGlobals mg → Gd.FnG l.prog w (K w.params) mg base 41 fa fd ["_law_script"] (spLaw (K w.params))) :
    PySem.W.WalkO q loose XP YP l.row.toRowW d [] (fun f vs => PySem.call f vs) :=
  Gd.walkG (n := 63) (k := 41) (x := "_law_script") (sp := spLaw) hn (by decide) hdf ⟨rfl, by decide, by decide⟩ hY F (fun K H a ns hl hS => ⟨a, ns, rfl, hS, hl, fun _ => rfl⟩)
end Hi
open PySem PySem.W PyProof.Rows
set_option maxHeartbeats 0 in
theorem PySem.Challenge.cw_waystaken_k15_whole_ends_going_back_holds : PySem.Challenge.rw_waystaken_k15_whole_ends_going_back.Holds := by
  w_on; o_law; k_head; (case hw => w_witness2)
  k_fill
  refine Hi.walk (l := PySem.Challenge.rw_waystaken_k15_whole_ends_going_back) rfl rfl (fun _ _ Y => PySem.W.kIn_of Y) ?F
  case F =>
    intro w mg fa h KX G hmg
    refine' Hi.fin KX G hmg ?tLt ?tOn ?tNo ?tRo ?tCh ?tAg ?tMa ?tAh ?tUn ?tCa ?nd ?hn ?ht ?f1 ?j1 ?f2 ?j2 ?f3 ?j3 ?f4 ?j4 ?f5 ?j5 ?f6 ?j6 ?f7 ?j7 ?f8 ?j8 ?fOn ?fNo ?B ?C ?h1 ?h2 ?h3 ?h4 ?T ?m0 ?m1 ?m2 ?h5 ?h6 ?h7 ?h8 ?h9 ?h10 ?h11 ?h12 ?h13 ?h14 ?h15 ?h16 ?h17 ?hZ ?hE ?g1 ?g2 ?g3 ?g4 ?g5 ?g6 ?g7 ?g8 ?g9 ?g10 ?g12 ?g13 ?g14 ?g15 ?g11
    (case tLt => (refine' Wv.clt_mk KX G ?a ?pg ?hd ?po ?sa ?nl ?nn ?nw ?np ?ha ?hm ?mk ?kc ?ty ?cl ?cm ?mat ?meq ?mln; (case a => k_is); (case pg => k_is); (case hd => k_is); (case po => k_is); (case sa => k_is); (case nl => k_is); (case nn => k_is); (case nw => k_is); (case np => k_is); (case ha => k_is); (case hm => k_is); (case mk => k_is); (case kc => k_is); (case ty => k_is); (case cl => k_is); (case cm => exact rfl); (case mat => k_is); (case meq => k_is); (case mln => k_is)))
    (case tOn => (refine' Wv.clt_mk KX G ?a ?pg ?hd ?po ?sa ?nl ?nn ?nw ?np ?ha ?hm ?mk ?kc ?ty ?cl ?cm ?mat ?meq ?mln; (case a => k_is); (case pg => k_is); (case hd => k_is); (case po => k_is); (case sa => k_is); (case nl => k_is); (case nn => k_is); (case nw => k_is); (case np => k_is); (case ha => k_is); (case hm => k_is); (case mk => k_is); (case kc => k_is); (case ty => k_is); (case cl => k_is); (case cm => exact rfl); (case mat => k_is); (case meq => k_is); (case mln => k_is)))
    (case tNo => (refine' Wv.clt_mk KX G ?a ?pg ?hd ?po ?sa ?nl ?nn ?nw ?np ?ha ?hm ?mk ?kc ?ty ?cl ?cm ?mat ?meq ?mln; (case a => k_is); (case pg => k_is); (case hd => k_is); (case po => k_is); (case sa => k_is); (case nl => k_is); (case nn => k_is); (case nw => k_is); (case np => k_is); (case ha => k_is); (case hm => k_is); (case mk => k_is); (case kc => k_is); (case ty => k_is); (case cl => k_is); (case cm => exact rfl); (case mat => k_is); (case meq => k_is); (case mln => k_is)))
    (case tRo => (refine' Wv.clt_mk KX G ?a ?pg ?hd ?po ?sa ?nl ?nn ?nw ?np ?ha ?hm ?mk ?kc ?ty ?cl ?cm ?mat ?meq ?mln; (case a => k_is); (case pg => k_is); (case hd => k_is); (case po => k_is); (case sa => k_is); (case nl => k_is); (case nn => k_is); (case nw => k_is); (case np => k_is); (case ha => k_is); (case hm => k_is); (case mk => k_is); (case kc => k_is); (case ty => k_is); (case cl => k_is); (case cm => exact rfl); (case mat => k_is); (case meq => k_is); (case mln => k_is)))
    (case tCh => (refine' Wv.clt_mk KX G ?a ?pg ?hd ?po ?sa ?nl ?nn ?nw ?np ?ha ?hm ?mk ?kc ?ty ?cl ?cm ?mat ?meq ?mln; (case a => k_is); (case pg => k_is); (case hd => k_is); (case po => k_is); (case sa => k_is); (case nl => k_is); (case nn => k_is); (case nw => k_is); (case np => k_is); (case ha => k_is); (case hm => k_is); (case mk => k_is); (case kc => k_is); (case ty => k_is); (case cl => k_is); (case cm => exact rfl); (case mat => k_is); (case meq => k_is); (case mln => k_is)))
    (case tAg => (refine' Wv.clt_mk KX G ?a ?pg ?hd ?po ?sa ?nl ?nn ?nw ?np ?ha ?hm ?mk ?kc ?ty ?cl ?cm ?mat ?meq ?mln; (case a => k_is); (case pg => k_is); (case hd => k_is); (case po => k_is); (case sa => k_is); (case nl => k_is); (case nn => k_is); (case nw => k_is); (case np => k_is); (case ha => k_is); (case hm => k_is); (case mk => k_is); (case kc => k_is); (case ty => k_is); (case cl => k_is); (case cm => exact rfl); (case mat => k_is); (case meq => k_is); (case mln => k_is)))
    (case tMa => (refine' Wv.clt_mk KX G ?a ?pg ?hd ?po ?sa ?nl ?nn ?nw ?np ?ha ?hm ?mk ?kc ?ty ?cl ?cm ?mat ?meq ?mln; (case a => k_is); (case pg => k_is); (case hd => k_is); (case po => k_is); (case sa => k_is); (case nl => k_is); (case nn => k_is); (case nw => k_is); (case np => k_is); (case ha => k_is); (case hm => k_is); (case mk => k_is); (case kc => k_is); (case ty => k_is); (case cl => k_is); (case cm => exact rfl); (case mat => k_is); (case meq => k_is); (case mln => k_is)))
    (case tAh => (refine' Wv.clt_mk KX G ?a ?pg ?hd ?po ?sa ?nl ?nn ?nw ?np ?ha ?hm ?mk ?kc ?ty ?cl ?cm ?mat ?meq ?mln; (case a => k_is); (case pg => k_is); (case hd => k_is); (case po => k_is); (case sa => k_is); (case nl => k_is); (case nn => k_is); (case nw => k_is); (case np => k_is); (case ha => k_is); (case hm => k_is); (case mk => k_is); (case kc => k_is); (case ty => k_is); (case cl => k_is); (case cm => exact rfl); (case mat => k_is); (case meq => k_is); (case mln => k_is)))
    (case tUn => (refine' Wv.clt_mk KX G ?a ?pg ?hd ?po ?sa ?nl ?nn ?nw ?np ?ha ?hm ?mk ?kc ?ty ?cl ?cm ?mat ?meq ?mln; (case a => k_is); (case pg => k_is); (case hd => k_is); (case po => k_is); (case sa => k_is); (case nl => k_is); (case nn => k_is); (case nw => k_is); (case np => k_is); (case ha => k_is); (case hm => k_is); (case mk => k_is); (case kc => k_is); (case ty => k_is); (case cl => k_is); (case cm => exact rfl); (case mat => k_is); (case meq => k_is); (case mln => k_is)))
    (case tCa => (refine' Wv.clt_mk KX G ?a ?pg ?hd ?po ?sa ?nl ?nn ?nw ?np ?ha ?hm ?mk ?kc ?ty ?cl ?cm ?mat ?meq ?mln; (case a => k_is); (case pg => k_is); (case hd => k_is); (case po => k_is); (case sa => k_is); (case nl => k_is); (case nn => k_is); (case nw => k_is); (case np => k_is); (case ha => k_is); (case hm => k_is); (case mk => k_is); (case kc => k_is); (case ty => k_is); (case cl => k_is); (case cm => exact rfl); (case mat => k_is); (case meq => k_is); (case mln => k_is)))
    (case hn => k_is)
    (case ht => k_is)
    (case nd => decide)
    (case f1 => k_is)
    (case j1 => (refine' Wv.in_mk ?i ?l ?c ?k ?b; (case i => k_is); (case l => k_is); (case c => k_is); (case k => k_is); (case b => exact fun _ _ _ _ _ _ us hl => match us, hl with | [_, _], _ => rfl)))
    (case f2 => k_is)
    (case j2 => (refine' Wv.in_mk ?i ?l ?c ?k ?b; (case i => k_is); (case l => k_is); (case c => k_is); (case k => k_is); (case b => exact fun _ _ _ _ _ _ us hl => match us, hl with | [_, _], _ => rfl)))
    (case f3 => k_is)
    (case j3 => (refine' Wv.in_mk ?i ?l ?c ?k ?b; (case i => k_is); (case l => k_is); (case c => k_is); (case k => k_is); (case b => exact fun _ _ _ _ _ _ us hl => match us, hl with | [_, _], _ => rfl)))
    (case f4 => k_is)
    (case j4 => (refine' Wv.in_mk ?i ?l ?c ?k ?b; (case i => k_is); (case l => k_is); (case c => k_is); (case k => k_is); (case b => exact fun _ _ _ _ _ _ us hl => match us, hl with | [_, _], _ => rfl)))
    (case f5 => k_is)
    (case j5 => (refine' Wv.in_mk ?i ?l ?c ?k ?b; (case i => k_is); (case l => k_is); (case c => k_is); (case k => k_is); (case b => exact fun _ _ _ _ _ _ us hl => match us, hl with | [_, _], _ => rfl)))
    (case f6 => k_is)
    (case j6 => (refine' Wv.in_mk ?i ?l ?c ?k ?b; (case i => k_is); (case l => k_is); (case c => k_is); (case k => k_is); (case b => exact fun _ _ _ _ _ _ us hl => match us, hl with | [_, _], _ => rfl)))
    (case f7 => k_is)
    (case j7 => (refine' Wv.in_mk ?i ?l ?c ?k ?b; (case i => k_is); (case l => k_is); (case c => k_is); (case k => k_is); (case b => exact fun _ _ _ _ _ _ us hl => match us, hl with | [_, _], _ => rfl)))
    (case f8 => k_is)
    (case j8 => (refine' Wv.in_mk ?i ?l ?c ?k ?b; (case i => k_is); (case l => k_is); (case c => k_is); (case k => k_is); (case b => exact fun _ _ _ _ _ _ us hl => match us, hl with | [_, _], _ => rfl)))
    (case fOn => k_is)
    (case fNo => k_is)
    (case B => (refine' Wv.bs_mk KX G ?z1 ?z2 ?z3 ?z4 ?z5 ?z6 ?z7 ?z8 ?z9 ?z10 ?z11 ?z12 ?z13; (case z1 => k_is); (case z2 => k_is); (case z3 => k_is); (case z4 => k_is); (case z5 => k_is); (case z6 => k_is); (case z7 => k_is); (case z8 => k_is); (case z9 => k_is); (case z10 => k_is); (case z11 => k_is); (case z12 => k_is); (case z13 => k_is)))
    (case C => (refine' Hi.kn_mk KX G (Wv.kc_mk KX G ?z0 ?z1 ?z2 ?z3 ?z4 ?z5 ?z6 ?z7 ?z8 ?z9) ?zN; (case z0 => k_is); (case z1 => k_is); (case z2 => k_is); (case z3 => k_is); (case z4 => k_is); (case z5 => k_is); (case z6 => k_is); (case z7 => k_is); (case z8 => k_is); (case z9 => k_is); (case zN => k_is)))
    (case T => (refine' Hi.ptt_mk KX G ?a ?pg ?hd ?po ?sa ?n1 ?n2 ?n3 ?n4 ?n5 ?n6 ?mk ?kc; (case a => k_is); (case pg => k_is); (case hd => k_is); (case po => k_is); (case sa => k_is); (case n1 => k_is); (case n2 => k_is); (case n3 => k_is); (case n4 => k_is); (case n5 => k_is); (case n6 => k_is); (case mk => k_is); (case kc => k_is)))
    (case m0 => (refine' Hi.cm_mk ?a (Wv.in_mk ?i ?l ?c ?k ?b); (case a => k_is); (case i => k_is); (case l => k_is); (case c => k_is); (case k => k_is); (case b => exact fun _ _ _ _ _ _ us hl => match us, hl with | [_, _], _ => rfl)))
    (case m1 => (refine' Hi.cm_mk ?a (Wv.in_mk ?i ?l ?c ?k ?b); (case a => k_is); (case i => k_is); (case l => k_is); (case c => k_is); (case k => k_is); (case b => exact fun _ _ _ _ _ _ us hl => match us, hl with | [_, _], _ => rfl)))
    (case m2 => (refine' Hi.cm_mk ?a (Wv.in_mk ?i ?l ?c ?k ?b); (case a => k_is); (case i => k_is); (case l => k_is); (case c => k_is); (case k => k_is); (case b => exact fun _ _ _ _ _ _ us hl => match us, hl with | [_, _, _], _ => rfl)))
    (case h1 => (refine' Wv.here_mk KX G ?a ?l ?c ?k ?b; (case a => k_is); (case l => k_is); (case c => k_is); (case k => k_is); (case b => exact fun _ _ _ _ _ _ us hl => match us, hl with | [_], _ => rfl)))
    (case h2 => (refine' Wv.here_mk KX G ?a ?l ?c ?k ?b; (case a => k_is); (case l => k_is); (case c => k_is); (case k => k_is); (case b => exact fun _ _ _ _ _ _ us hl => match us, hl with | [_], _ => rfl)))
    (case h3 => (refine' Wv.here_mk KX G ?a ?l ?c ?k ?b; (case a => k_is); (case l => k_is); (case c => k_is); (case k => k_is); (case b => exact fun _ _ _ _ _ _ us hl => match us, hl with | [_], _ => rfl)))
    (case h4 => (refine' Wv.here_mk KX G ?a ?l ?c ?k ?b; (case a => k_is); (case l => k_is); (case c => k_is); (case k => k_is); (case b => exact fun _ _ _ _ _ _ us hl => match us, hl with | [_], _ => rfl)))
    (case h5 => (refine' Wv.here_mk KX G ?a ?l ?c ?k ?b; (case a => k_is); (case l => k_is); (case c => k_is); (case k => k_is); (case b => exact fun _ _ _ _ _ _ us hl => match us, hl with | [_], _ => rfl)))
    (case h6 => (refine' Wv.here_mk KX G ?a ?l ?c ?k ?b; (case a => k_is); (case l => k_is); (case c => k_is); (case k => k_is); (case b => exact fun _ _ _ _ _ _ us hl => match us, hl with | [_, _], _ => rfl)))
    (case h7 => (refine' Wv.here_mk KX G ?a ?l ?c ?k ?b; (case a => k_is); (case l => k_is); (case c => k_is); (case k => k_is); (case b => exact fun _ _ _ _ _ _ us hl => match us, hl with | [_, _, _, _], _ => rfl)))
    (case h8 => (refine' Wv.here_mk KX G ?a ?l ?c ?k ?b; (case a => k_is); (case l => k_is); (case c => k_is); (case k => k_is); (case b => exact fun _ _ _ _ _ _ us hl => match us, hl with | [_, _], _ => rfl)))
    (case h9 => (refine' Wv.here_mk KX G ?a ?l ?c ?k ?b; (case a => k_is); (case l => k_is); (case c => k_is); (case k => k_is); (case b => exact fun _ _ _ _ _ _ us hl => match us, hl with | [_, _], _ => rfl)))
    (case h10 => (refine' Wv.here_mk KX G ?a ?l ?c ?k ?b; (case a => k_is); (case l => k_is); (case c => k_is); (case k => k_is); (case b => exact fun _ _ _ _ _ _ us hl => match us, hl with | [_], _ => rfl)))
    (case h11 => (refine' Wv.here_mk KX G ?a ?l ?c ?k ?b; (case a => k_is); (case l => k_is); (case c => k_is); (case k => k_is); (case b => exact fun _ _ _ _ _ _ us hl => match us, hl with | [_], _ => rfl)))
    (case h12 => (refine' Wv.here_mk KX G ?a ?l ?c ?k ?b; (case a => k_is); (case l => k_is); (case c => k_is); (case k => k_is); (case b => exact fun _ _ _ _ _ _ us hl => match us, hl with | [_, _], _ => rfl)))
    (case h13 => (refine' Wv.here_mk KX G ?a ?l ?c ?k ?b; (case a => k_is); (case l => k_is); (case c => k_is); (case k => k_is); (case b => exact fun _ _ _ _ _ _ us hl => match us, hl with | [_, _], _ => rfl)))
    (case h14 => (refine' Wv.here_mk KX G ?a ?l ?c ?k ?b; (case a => k_is); (case l => k_is); (case c => k_is); (case k => k_is); (case b => exact fun _ _ _ _ _ _ us hl => match us, hl with | [_, _], _ => rfl)))
    (case h15 => (refine' Wv.here_mk KX G ?a ?l ?c ?k ?b; (case a => k_is); (case l => k_is); (case c => k_is); (case k => k_is); (case b => exact fun _ _ _ _ _ _ us hl => match us, hl with | [_], _ => rfl)))
    (case h16 => (refine' Wv.here_mk KX G ?a ?l ?c ?k ?b; (case a => k_is); (case l => k_is); (case c => k_is); (case k => k_is); (case b => exact fun _ _ _ _ _ _ us hl => match us, hl with | [_, _, _], _ => rfl)))
    (case h17 => (refine' Wv.here_mk KX G ?a ?l ?c ?k ?b; (case a => k_is); (case l => k_is); (case c => k_is); (case k => k_is); (case b => exact fun _ _ _ _ _ _ us hl => match us, hl with | [_, _], _ => rfl)))
    (case hZ => (refine' Hi.hz_mk KX G ?a ?l ?c ?k ?lT ?oT rfl ?b3 ?b2; (case a => k_is); (case l => k_is); (case c => k_is); (case k => k_is); (case lT => k_is); (case oT => exact rfl); (case b3 => exact fun _ _ _ _ _ _ _ us its h1 h2 => match us, its, h1, h2 with | [_, _, _], [_], _, _ => ⟨_, rfl, rfl⟩); (case b2 => exact fun _ _ _ _ _ _ _ us its h1 h2 => match us, its, h1, h2 with | [_, _], [_], _, _ => ⟨_, rfl, rfl⟩)))
    (case hE => (refine' Hi.hz_mk KX G ?a ?l ?c ?k ?lT ?oT rfl ?b3 ?b2; (case a => k_is); (case l => k_is); (case c => k_is); (case k => k_is); (case lT => k_is); (case oT => exact rfl); (case b3 => exact fun _ _ _ _ _ _ _ us its h1 h2 => match us, its, h1, h2 with | [_, _, _], [_], _, _ => ⟨_, rfl, rfl⟩); (case b2 => exact fun _ _ _ _ _ _ _ us its h1 h2 => match us, its, h1, h2 with | [_, _], [_], _, _ => ⟨_, rfl, rfl⟩)))
    (case g1 => (refine' Wv.here_mk KX G ?a ?l ?c ?k ?b; (case a => k_is); (case l => k_is); (case c => k_is); (case k => k_is); (case b => exact fun _ _ _ _ _ _ us hl => match us, hl with | [_], _ => rfl)))
    (case g2 => (refine' Wv.here_mk KX G ?a ?l ?c ?k ?b; (case a => k_is); (case l => k_is); (case c => k_is); (case k => k_is); (case b => exact fun _ _ _ _ _ _ us hl => match us, hl with | [_, _], _ => rfl)))
    (case g3 => (refine' Wv.here_mk KX G ?a ?l ?c ?k ?b; (case a => k_is); (case l => k_is); (case c => k_is); (case k => k_is); (case b => exact fun _ _ _ _ _ _ us hl => match us, hl with | [_, _], _ => rfl)))
    (case g4 => (refine' Wv.here_mk KX G ?a ?l ?c ?k ?b; (case a => k_is); (case l => k_is); (case c => k_is); (case k => k_is); (case b => exact fun _ _ _ _ _ _ us hl => match us, hl with | [_, _], _ => rfl)))
    (case g5 => (refine' Wv.here_mk KX G ?a ?l ?c ?k ?b; (case a => k_is); (case l => k_is); (case c => k_is); (case k => k_is); (case b => exact fun _ _ _ _ _ _ us hl => match us, hl with | [_, _], _ => rfl)))
    (case g6 => (refine' Wv.here_mk KX G ?a ?l ?c ?k ?b; (case a => k_is); (case l => k_is); (case c => k_is); (case k => k_is); (case b => exact fun _ _ _ _ _ _ us hl => match us, hl with | [_, _, _], _ => rfl)))
    (case g7 => (refine' Wv.here_mk KX G ?a ?l ?c ?k ?b; (case a => k_is); (case l => k_is); (case c => k_is); (case k => k_is); (case b => exact fun _ _ _ _ _ _ us hl => match us, hl with | [_, _, _], _ => rfl)))
    (case g8 => (refine' Wv.here_mk KX G ?a ?l ?c ?k ?b; (case a => k_is); (case l => k_is); (case c => k_is); (case k => k_is); (case b => exact fun _ _ _ _ _ _ us hl => match us, hl with | [_], _ => rfl)))
    (case g9 => (refine' Wv.here_mk KX G ?a ?l ?c ?k ?b; (case a => k_is); (case l => k_is); (case c => k_is); (case k => k_is); (case b => exact fun _ _ _ _ _ _ us hl => match us, hl with | [_], _ => rfl)))
    (case g10 => (refine' Wv.here_mk KX G ?a ?l ?c ?k ?b; (case a => k_is); (case l => k_is); (case c => k_is); (case k => k_is); (case b => exact fun _ _ _ _ _ _ us hl => match us, hl with | [_, _, _], _ => rfl)))
    (case g12 => (refine' Wv.here_mk KX G ?a ?l ?c ?k ?b; (case a => k_is); (case l => k_is); (case c => k_is); (case k => k_is); (case b => exact fun _ _ _ _ _ _ us hl => match us, hl with | [_, _, _], _ => rfl)))
    (case g13 => (refine' Wv.here_mk KX G ?a ?l ?c ?k ?b; (case a => k_is); (case l => k_is); (case c => k_is); (case k => k_is); (case b => exact fun _ _ _ _ _ _ us hl => match us, hl with | [_, _, _], _ => rfl)))
    (case g14 => (refine' Wv.here_mk KX G ?a ?l ?c ?k ?b; (case a => k_is); (case l => k_is); (case c => k_is); (case k => k_is); (case b => exact fun _ _ _ _ _ _ us hl => match us, hl with | [_, _, _], _ => rfl)))
    (case g15 => (refine' Wv.here_mk KX G ?a ?l ?c ?k ?b; (case a => k_is); (case l => k_is); (case c => k_is); (case k => k_is); (case b => exact fun _ _ _ _ _ _ us hl => match us, hl with | [_, _, _], _ => rfl)))
    (case g11 => (refine' Wv.here_mk KX G ?a ?l ?c ?k ?b; (case a => k_is); (case l => k_is); (case c => k_is); (case k => k_is); (case b => exact fun _ _ _ _ _ _ us hl => match us, hl with | [_], _ => rfl)))
