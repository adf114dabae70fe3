import PyProof.Rows.All
import Wide.All
import OpenK.AllK
import Wide.FinOn
import PyProof.EqAt
import PyProof.EqKinds
import PyProof.TupleCall
import PyProof.ReprRoads
import KE.KTupSum
import HandS.Base
import HandS.Call
import HandS.List
import HandS.Comp
import HandS.Ends
import HandS.Dict
import HandS.Iter
import HandS.Text
import HandS.Words
import HandS.WordsList
import HandS.Conv
import HandS.Wide
import HandS.WideBits
import HandS.Style
import HandS.TupMul
import HandS.TupAny
import HandS.Zip
import HandS.Flow
import HandS.Lambda
import HandS.IsInst
import PyProof.StrLawsRepr
import PySem.Challenge.RW_settledlines_k01_widths_and_texts_of_any
set_option Elab.async false
set_option linter.all false
set_option maxRecDepth 100000
/-! Settledlines, own layer 0: defs called where the guards are known to be none; repr of data; sums of tuples; wide powers. -/
namespace SL
open PySem PySem.Spec PyProof.Rows L2

/-! ### a def's promise where no repr is under way -/
structure FnG (P : Program) (w : World) (K : PySem.W.Frag) (mg : Str → Option Value) (base : Heap) (CX : CXT) (k : Nat) (f : Addr) (fd : FuncData) (ps : List Str) (sp : Sp) : Prop where
  len : ∀ vs H Q E, sp vs H Q E → vs.length = ps.length
  run : ∀ (A : Around) (outer : List Env) (s : Shared) (H : Hp) (args : Args) (us : List Value) (vs : List V) (Q : VK) (E : XK), A.guards = some [] → Room k A →
    Env0 P w K mg base A outer s H → BindsTo s fd args (ps.zip us) → Vals vs us → sp vs H Q E → codeAny (model P w) A (.call (.ref f) args) (CR CX outer P w H s Q E) s

section
variable {P : Program} {w : World} {K : PySem.W.Frag} {mg : Str → Option Value} {base : Heap} {CX : CXT}
theorem FnG.mono {j k : Nat} {f : Addr} {fd : FuncData} {ps : List Str} {sp : Sp} (F : FnG P w K mg base CX j f fd ps sp) (h : j ≤ k) : FnG P w K mg base CX k f fd ps sp :=
  ⟨F.len, fun A o s H args us vs Q E hg hr => F.run A o s H args us vs Q E hg (hr.mono h)⟩
theorem FnG.of {k : Nat} {f : Addr} {fd : FuncData} {ps : List Str} {sp : Sp} (F : FnOk P w K mg base CX k f fd ps sp) : FnG P w K mg base CX k f fd ps sp :=
  ⟨F.len, fun A o s H args us vs Q E _ hr => F.run A o s H args us vs Q E hr⟩
/-- a def by its body, no repr under way -/
theorem okG {x qual : Str} {st : Stmt} {f : Addr} {fd : FuncData} {N ps : List Str} {k : Nat} {sp : Sp} (F : Fun K x qual st f fd) (S : FnScope N ps (defScope st)) (len : ∀ vs H Q E, sp vs H Q E → vs.length = ps.length)
    (hbody : ∀ (cdv : Value) (A : Around) (outer : List Env) (s : Shared) (H : Hp) (vs : List V) (Q : VK) (E : XK), A.guards = some [] → Room k (A.deeper (envOfC qual (defScope st) s.heap.objs.size f cdv)) → sp vs H Q E →
      ∃ t, PSs (cxOf CX P w K mg base N qual (defScope st) f cdv A outer s H E) (defBody st) t ∧ t { nx := fun _ H' => Q .non H', rt := Q } (start N vs) H) : FnG P w K mg base CX (k + 1) f fd ps sp := by
  obtain ⟨oc, od, kV, doc, pm, an, cdv, ct, osl, rfl, lk, hcd⟩ := F.ex
  exact ⟨len, fun A o s H args us vs Q E hg hr e0 hb rv hsp => LamX.run_ofS lk hcd S hr e0 hb rv (len _ _ _ _ hsp) fun hr2 => hbody cdv A o s H vs Q E hg hr2 hsp⟩
theorem okG0 {x qual : Str} {st : Stmt} {f : Addr} {fd : FuncData} {N ps : List Str} {k : Nat} {sp : Sp} (F : Fun K x qual st f fd) (S : FnScope N ps (defScope st)) (len : ∀ vs H Q E, sp vs H Q E → vs.length = ps.length)
    (hbody : ∀ (cdv : Value) (A : Around) (outer : List Env) (s : Shared) (H : Hp) (vs : List V) (Q : VK) (E : XK), A.guards = some [] → Room k (A.deeper (envOfC qual (defScope st) s.heap.objs.size f cdv)) → sp vs H Q E →
      ∃ t, PSs (cxOf CX0 P w K mg base N qual (defScope st) f cdv A outer s H E).nox (defBody st) t ∧ t { nx := fun _ H' => Q .non H', rt := Q } (start N vs) H) : FnG P w K mg base CX0 (k + 1) f fd ps sp :=
  okG F S len fun cdv A o s H vs Q E hg hr h => let ⟨t, a, b⟩ := hbody cdv A o s H vs Q E hg hr h; ⟨t, a.nox, b⟩
end

/-- all that a caller wants of a def: where it stands, how it binds, what it promises -/
structure Def (P : Program) (w : World) (K : PySem.W.Frag) (mg : Str → Option Value) (base : Heap) (CX : CXT) (k : Nat) (x : Str) (st : Stmt) (ps : List Str) (sp : Sp) : Prop where
  ex : ∃ f fd, Fun K x x st f fd ∧ mg x = some (.ref f) ∧ FnG P w K mg base CX k f fd ps sp
theorem Def.mono {P : Program} {w : World} {K : PySem.W.Frag} {mg : Str → Option Value} {base : Heap} {CX : CXT} {j k : Nat} {x : Str} {st : Stmt} {ps : List Str} {sp : Sp} (D : Def P w K mg base CX j x st ps sp) (h : j ≤ k) : Def P w K mg base CX k x st ps sp :=
  let ⟨f, fd, a, b, c⟩ := D.ex; ⟨f, fd, a, b, c.mono h⟩

/-- where a def of the text stands -/
def Stands (K : PySem.W.Frag) (mg : Str → Option Value) (x : Str) (st : Stmt) : Prop := ∃ f fd, Fun K x x st f fd ∧ mg x = some (.ref f)

section
variable {X : Cx} {CX : CXT} {k : Nat} {st : Stmt} {ps ks : List Str} {sp : Sp} {E : XK} {x : Str} {p pos : Pos} {e : Expr} {es : List Expr} {kws : List Keyword} {t tk : TA}

theorem run_fnG {f : Addr} {fd : FuncData} {pins : List (Addr × Obj)} {σ : L2.St} {H : Hp} {s : Shared} {Q : VK} {args : Args} {us : List Value} {vs : List V} (F : FnG X.prog X.w X.K X.mg X.base CX k f fd ps sp) (hg : X.A.guards = some []) (hr : Room k X.A) (hx : Passes CX X E)
    (hb : BindsTo s fd args (ps.zip us)) (I : Inv X pins σ H s) (r : Vals vs us) (h : sp vs H Q E) : wpAny (model X.prog X.w) X.A (call (.ref f) args.pos args.kw) (EP X pins σ Q) X.xe s := by
  refine wpAny_call (codeAny_mono (F.run X.A X.stack s H args us vs Q E hg hr I.env0 hb r h) fun a s' hq => ?_)
  match a, hq with
  | .error e, hq => exact hx pins σ H s e s' I hq
  | .ok (.ret u), hq => exact I.after hq
  | .ok .next, hq => exact False.elim hq
  | .ok .brk, hq => exact False.elim hq
  | .ok .cont, hq => exact False.elim hq

/-- f(e, ..) -/
def tCallG (sp : Sp) (E : XK) (t : TA) : TE := fun σ H Q => t σ H fun vs H1 => sp vs H1 Q E
theorem pe_callG (D : Def X.prog X.w X.K X.mg X.base CX k x st ps sp) (hg : X.A.guards = some []) (hr : Room k X.A) (hgl : Gl X x) (hx : Passes CX X E)
    (hbind : ∀ (kV doc pm : Value) (an : Option Addr) (cdv ct : Value) (us : List Value), us.length = ps.length → bindArgs (PySem.W.fnOf x x (defArgs st) (defBody st) (defScope st) .none kV doc pm an cdv ct) ⟨us, []⟩ = pure (ps.zip us))
    (ha : PA X (e :: es) t) (hdb : (x == ("__debug__" : Str)) = false := by decide) (he : starEach (e :: es) X.env = (false, eval e X.env) :: starEach es X.env := by rfl) (hpl : (backTo pos (starEach es X.env)).any (·.1) = false := by rfl) :
    PE X (.Call (.Name x p) (e :: es) [] pos) (tCallG sp E t) := by
  obtain ⟨f, fd, F, hm, G⟩ := D.ex
  refine ⟨fun pins s σ H Q I h => wpAny_Call_Name_kw (ld_glob I hgl hm ?_ hdb)⟩
  refine PySem.W.callWith_K (h₀ := X.base) I.ok.mod.kin F.kp (thn (ha.run pos pins s σ H _ I h) fun us s1 ⟨vs, H1, I1, r, q⟩ => ⟨I1.kIn, ?_⟩) he hpl
  have hl : us.length = ps.length := r.length.symm.trans (G.len _ _ _ _ q)
  obtain ⟨oc, od, kV, doc, pm, an, cdv, ct, osl, rfl, lk, hcd⟩ := F.ex
  exact run_fnG (args := ⟨us, []⟩) G hg hr hx (.of_eq (hbind kV doc pm an cdv ct us hl)) I1 r q

/-- f(k = v, ..), keywords alone; g puts their values in the parameters' order -/
def tCallKG (n : Nat) (sp : Sp) (g : List V → List V) (E : XK) (tk : TA) : TE := fun σ H Q => tk σ H fun zs H1 => zs.length = n ∧ sp (g zs) H1 Q E
theorem pe_callKG {g : {α : Type} → List α → List α} (D : Def X.prog X.w X.K X.mg X.base CX k x st ps sp) (hg : X.A.guards = some []) (hr : Room k X.A) (hgl : Gl X x) (hx : Passes CX X E)
    (hbind : ∀ (kV doc pm : Value) (an : Option Addr) (cdv ct : Value) (ws : List Value), ws.length = ks.length → bindArgs (PySem.W.fnOf x x (defArgs st) (defBody st) (defScope st) .none kV doc pm an cdv ct) ⟨[], ks.zip ws⟩ = pure (ps.zip (g ws)))
    (hgv : ∀ {zs : List V} {ws : List Value}, zs.length = ks.length → Vals zs ws → Vals (g zs) (g ws)) (hkw : PK X kws tk) (hall : (backToKw pos (keywordEach kws X.env)).all (·.1.isSome) = true := by rfl) (hks : (backToKw pos (keywordEach kws X.env)).filterMap (·.1) = ks := by rfl)
    (hdb : (x == ("__debug__" : Str)) = false := by decide) (hpl : ((backTo pos (starEach [] X.env)).any (·.1) || (backToKw pos (keywordEach kws X.env)).any (·.1.isNone)) = false := by rfl) :
    PE X (.Call (.Name x p) [] kws pos) (tCallKG ks.length sp g E tk) := by
  obtain ⟨f, fd, F, hm, G⟩ := D.ex
  refine ⟨fun pins s σ H Q I h => wpAny_Call_Name_kw (ld_glob I hgl hm ?_ hdb)⟩
  refine PySem.W.callWith_KW0 (h₀ := X.base) I.ok.mod.kin F.kp hall (thn (hkw.run pos pins s σ H _ I h) fun ws s1 ⟨zs, H1, I1, r, hn, q⟩ => ⟨I1.kIn, ?_⟩) hpl
  rw [hks]
  obtain ⟨oc, od, kV, doc, pm, an, cdv, ct, osl, rfl, lk, hcd⟩ := F.ex
  exact run_fnG (args := ⟨[], ks.zip ws⟩) G hg hr hx (.of_eq (hbind kV doc pm an cdv ct ws (r.length.symm.trans hn))) I1 (hgv hn r) q
end

/-! ### wide powers -/
section
variable {X : Cx}
def CPowW (i j : Int) : Prop := 0 ≤ j ∧ (Builtin.Int.intBits i : Int) * j ≤ 2 ^ 27
theorem op_powW : OpR X (binaryOp .Pow) (rI CPowW fun i j => .int (i ^ j.toNat)) := opI fun _ _ _ _ _ _ _ hc q => PyProof.Rows.pow_int hc.1 hc.2 q

/-! ### sum of a tuple of ints -/
def rSumT (K : PySem.W.Frag) : List V → Hp → VK → Prop := fun vs H Q => ∃ (a : Addr) (ns : List Int), vs = [V.ref a] ∧ SqT K H a (ns.map V.int) ∧ Q (.int ns.sum) H
theorem cr_sumT (hc : X.calm = true) : CallR X (.builtin "sum") (rSumT X.K) := by
  intro pins s σ H vs us Q I r h
  obtain ⟨a, ns, rfl, hs, q⟩ := h
  obtain ⟨its, rv, ht, _⟩ := I.tuple hs
  obtain ⟨xs, e⟩ := rv.ints.allInts.items
  have hn : numsOf (intItems xs).toList = ns := by rw [← e]; exact rv.ints.numsOf
  rw [nums_intItems] at hn
  rw [e] at ht
  rw [Vals.ref1 r]
  refine PySem.W.ktm_sumG (I.ok.hd hc) ht fun h' tk t' hk => ?_
  rw [preSum_eq, List.take_of_length_le (by simp), hn]
  exact ⟨.int _, H, I.kept hk, ⟨_, rfl⟩, q⟩

/-! ### repr of data -/
mutual
/-- more than the length of what is shown -/
def wt : PyData → Nat
  | .none => 4
  | .bool _ => 5
  | .int i => i.natAbs.log2 + 4
  | .str x => (reprText x).length
  | .list xs => wtAll xs + 3
  | .tuple xs => wtAll xs + 3
  | .dict kvs => (dictText (PyData.shownKv kvs)).length
def wtAll : List PyData → Nat
  | [] => 0
  | x :: xs => wt x + 2 + wtAll xs
end
theorem int_shown_len (i : Int) : (Str.ofString (toString i)).length ≤ i.natAbs.log2 + 4 := by
  have e := int_text_length_le (a := i) (k := i.natAbs.log2 + 1) (by omega) (by omega)
  rw [PySem.ofString_length]
  omega
mutual
theorem shown_le : ∀ d : PyData, d.shown.length ≤ wt d
  | .none => by simp only [PyData.shown, wt]; decide
  | .bool b => by cases b <;> (simp only [PyData.shown, wt]; decide)
  | .int i => by simp only [PyData.shown, wt]; exact int_shown_len i
  | .str x => by simp only [PyData.shown, wt]; exact Nat.le_refl _
  | .list xs => by
    simp only [PyData.shown, wt]
    have h := listText_len_le (PyData.shownAll xs)
    have h2 := shownAll_le xs
    omega
  | .tuple xs => by
    simp only [PyData.shown, wt]
    have h := tupleText_len_le (PyData.shownAll xs)
    have h2 := shownAll_le xs
    omega
  | .dict kvs => by simp only [PyData.shown, wt]; exact Nat.le_refl _
theorem shownAll_le : ∀ ds : List PyData, ((PyData.shownAll ds).map (·.length)).sum + 2 * (PyData.shownAll ds).length ≤ wtAll ds
  | [] => by simp [PyData.shownAll, wtAll]
  | d :: ds => by
    have h1 := shown_le d
    have h2 := shownAll_le ds
    simp only [PyData.shownAll, wtAll, List.map_cons, List.sum_cons, List.length_cons]
    omega
end
mutual
theorem dp_nodict {K : PySem.W.Frag} {H : Hp} : ∀ (d : PyData) {v : V}, Dp K H v d → d.hasDict = false
  | .none, _, _ => by simp only [PyData.hasDict]
  | .bool _, _, _ => by simp only [PyData.hasDict]
  | .int _, _, _ => by simp only [PyData.hasDict]
  | .str _, _, _ => by simp only [PyData.hasDict]
  | .list ds, _, h => by
    cases h with
    | lst _ ha => simp only [PyData.hasDict]; exact dp_nodictAll ds ha
  | .tuple ds, _, h => by
    cases h with
    | tup _ ha => simp only [PyData.hasDict]; exact dp_nodictAll ds ha
  | .dict _, _, h => by cases h
theorem dp_nodictAll {K : PySem.W.Frag} {H : Hp} : ∀ (ds : List PyData) {vs : List V}, DpAll K H vs ds → PyData.hasDictAll ds = false
  | [], _, _ => by simp only [PyData.hasDictAll]
  | d :: ds, _, h => by
    cases h with
    | cons h1 h2 => simp only [PyData.hasDictAll, dp_nodict d h1, dp_nodictAll ds h2, Bool.or_false]
end
def rReprD (K : PySem.W.Frag) : List V → Hp → VK → Prop := fun vs H Q => ∃ (v : V) (d : PyData), vs = [v] ∧ Dp K H v d ∧ d.showable = true ∧ d.depth ≤ 50 ∧ wt d ≤ 1000000 ∧ Q (.str d.shown) H
theorem cr_repr (hg : X.A.guards = some []) (hu : X.A.units + 64 < cLine) : CallR X (.builtin "repr") (rReprD X.K) := by
  intro pins s σ H vs us Q I r h
  obtain ⟨v, d, rfl, hd, hs, hdep, hwt, q⟩ := h
  obtain ⟨u, rfl, ru⟩ := vals1 r
  have hsz : d.shown.length ≤ sizeLine := by
    have h1 := shown_le d
    rw [sizeLine_eq]
    omega
  obtain ⟨as, rd⟩ := Dp.reads I d v u hd ru
  have nd := dp_nodict d hd
  cases rd with
  | none => exact PySem.P.repr_of_none ⟨.str _, H, I.tok _, ⟨_, rfl⟩, by simpa only [PyData.shown] using q⟩
  | bool b =>
    refine PySem.P.repr_of_bool ⟨.str _, H, I.tok _, ⟨_, rfl⟩, ?_⟩
    cases b <;> simpa only [PyData.shown] using q
  | int i t => exact PySem.P.repr_of_int (by simpa [PyData.showable] using hs) ⟨.str _, H, I.tok _, ⟨_, rfl⟩, by simpa only [PyData.shown] using q⟩
  | str x t => exact PySem.P.repr_of_str ⟨.str _, H, I.tok _, ⟨_, rfl⟩, by simpa only [PyData.shown] using q⟩ (by simpa only [PyData.shown] using hsz)
  | list h1 h2 h3 h4 => exact repr_of_reads' (.list h1 h2 h3 h4) hs (PyData.noDict_hsm nd) hg (by omega) (fun _ _ e => e) (fun h' u tk hk => ⟨.str _, H, I.kept hk, ⟨_, rfl⟩, q⟩) hsz
  | tuple h1 h2 h3 h4 => exact repr_of_reads' (.tuple h1 h2 h3 h4) hs (PyData.noDict_hsm nd) hg (by omega) (fun _ _ e => e) (fun h' u tk hk => ⟨.str _, H, I.kept hk, ⟨_, rfl⟩, q⟩) hsz
  | dict _ _ _ _ _ => cases hd
end
end SL

set_option Elab.async false
set_option linter.all false
set_option maxRecDepth 100000
/-! Own layer 1: the law's own call from the row's head, with the guards known. -/
namespace SL
open PySem PySem.Spec PyProof.Rows L2

section
variable {P : Program} {w : World} {K : PySem.W.Frag} {mg mb : Str → Option Value}
/-- the base is what is not tracked -/
theorem base_keeps {h : Heap} {H : Hp} {a : Addr} {vs : List Value} (ha : h.get? a = some { cls := .type "list", data := .seq vs.toArray }) (hA : ∀ b u, H b = some u → b = a) {b : Addr} {m : Str → Option Value} (n : h.Ns b m) : (hidT h H).Ns b m := by
  obtain ⟨o, es, ep, e, d, r⟩ := n
  refine ⟨o, es, ep, hidT_get e ?_, d, r⟩
  match q : H b with
  | none => rfl
  | some u =>
    have eb := hA b u q
    rw [eb, ha] at e
    have eo := Option.some.inj e
    rw [← eo] at d
    exact nomatch d
theorem base_in {h : Heap} {H : Hp} {a : Addr} (X : K.In h) (hA : ∀ b u, H b = some u → b = a ∧ K.lookup a = none) : K.In (hidT h H) := by
  intro b o e
  refine hidT_get (X b o e) ?_
  match q : H b with
  | none => rfl
  | some u =>
    obtain ⟨eb, en⟩ := hA b u q
    rw [eb, en] at e
    exact nomatch e
/-- the call, from a heap where nothing but the script may be tracked -/
theorem call_from {k : Nat} {fa a : Addr} {fd : FuncData} {x : Str} {sp : Sp} {s : Shared} {vs : List Value} {H : Hp}
    (KX : K.In s.heap) (hns : s.heap.Ns mainGlobals mg) (hb : s.heap.Ns builtinsNs mb) (hbb : ∀ x : Str, x ≠ "__name__" → mb x = bootBuiltins x) (hlim : s.heap.NoLimit) (hg : s.gens = #[])
    (ha : s.heap.get? a = some { cls := .type "list", data := .seq vs.toArray }) (hr : Room k callerA)
    (F : ∀ base : Heap, K.In base → base.Ns mainGlobals mg → FnG P w K mg base CX0 k fa fd [x] sp) (hbind : ∀ (s : Shared) (u : Value), BindsTo s fd ⟨[u], []⟩ [(x, u)])
    (ok : HOk P w H s.heap) (hA : ∀ b u, H b = some u → b = a ∧ K.lookup a = none) (hO : ∀ b u, H b = some u → ∃ o xs, u = .frz o (.lst xs))
    (hsp : sp [.ref a] H (fun v _ => v = .bl true) E0) :
    codeAny (model P w) callerA (.call (.ref fa) ⟨[.ref a], []⟩) (fun r s' => r = .ok (.ret (.bool true)) ∧ OldK s.heap s'.heap ∧ s'.os = s.os ∧ AllBare s'.gens) s := by
  have KB : K.In (hidT s.heap H) := base_in KX hA
  have kn : ∀ {b : Addr} {m : Str → Option Value}, s.heap.Ns b m → (hidT s.heap H).Ns b m := fun n => base_keeps ha (fun b u q => (hA b u q).1) n
  obtain ⟨mc, l1, l2⟩ := hlim
  have M : Mod K mg (hidT s.heap H) := ⟨KB, kn hns, ⟨mb, kn hb, hbb⟩, ⟨mc, kn l1, l2⟩⟩
  have nofr : ∀ b ∈ frs [], H b = none := fun b z => nomatch (show b ∈ ([] : List Addr) from z)
  have e0 : Env0 P w K mg (hidT s.heap H) callerA [] s H := { frames := rfl, mod := M, bs := fun b o e => of_hidT e, bsz := Nat.le_of_eq (hidT_size _ _), funs := trivial, frf := nofr, hok := ok, bare := .of_eq hg }
  have run := (F _ KB (kn hns)).run callerA [] s H ⟨[.ref a], []⟩ [.ref a] [.ref a] _ _ rfl hr e0 (hbind s (.ref a)) (.cons rfl .nil) hsp
  refine codeAny_mono run fun r s' h => ?_
  match r, h with
  | .error _, h => exact h.elim
  | .ok .next, h => exact h.elim
  | .ok .brk, h => exact h.elim
  | .ok .cont, h => exact h.elim
  | .ok (.ret u), ⟨v, H', os, bare, un, ok', rv, q⟩ =>
    have q : v = .bl true := q
    rw [q] at rv
    have eu : u = Value.bool true := rv
    refine ⟨by rw [eu], OldK.of_keep fun b o e => ?_, os, bare⟩
    match z : H b with
    | none => exact un.keep b o e z (fun y => nomatch (show b ∈ ([] : List Addr) from y)) (fun y => nomatch y)
    | some u' =>
      obtain ⟨ob, xs, eu'⟩ := hO b u' z
      rw [eu'] at z
      have a1 := (ok b _ z).1
      have a2 := (ok' b _ (un.frzs b ob _ z)).1
      rw [e] at a1
      rw [a2, ← a1]
theorem law_callG {k : Nat} {fa a : Addr} {fd : FuncData} {x : Str} {sp : Sp} {s : Shared} {vs : List Value} {ns : List Int}
    (KX : K.In s.heap) (hns : s.heap.Ns mainGlobals mg) (hb : s.heap.Ns builtinsNs mb) (hbb : ∀ x : Str, x ≠ "__name__" → mb x = bootBuiltins x) (hlim : s.heap.NoLimit) (hg : s.gens = #[])
    (ha : s.heap.get? a = some { cls := .type "list", data := .seq vs.toArray }) (hi : IntsAre vs ns) (hl : ns.length ≤ sizeLine) (hr : Room k callerA)
    (F : ∀ base : Heap, K.In base → base.Ns mainGlobals mg → FnG P w K mg base CX0 k fa fd [x] sp) (hbind : ∀ (s : Shared) (u : Value), BindsTo s fd ⟨[u], []⟩ [(x, u)])
    (hsp : ∀ H : Hp, SqL K H a (ns.map V.int) → sp [.ref a] H (fun v _ => v = .bl true) E0) :
    codeAny (model P w) callerA (.call (.ref fa) ⟨[.ref a], []⟩) (fun r s' => r = .ok (.ret (.bool true)) ∧ OldK s.heap s'.heap ∧ s'.os = s.os ∧ AllBare s'.gens) s := by
  have rv := vals_ints hi
  have hlv := hi.length
  match hk : K.lookup a with
  | some o =>
    have e := (KX a o hk).symm.trans ha
    have eo : o = _ := Option.some.inj e
    rw [eo] at hk
    have hs : SqL K (fun _ => none) a (ns.map V.int) := .inr ⟨_, vs.toArray, _, hk, rfl, rfl, rfl, by rw [List.size_toArray, hlv]; exact hl, rv⟩
    exact call_from KX hns hb hbb hlim hg ha hr F hbind (H := fun _ => none) (fun _ _ z => nomatch z) (fun _ _ z => nomatch z) (fun _ _ z => nomatch z) (hsp _ hs)
  | none =>
    let ob : Obj := { cls := .type "list", data := .seq vs.toArray }
    let H0 : Hp := upd (fun _ => none) a (.frz ob (.lst (ns.map V.int)))
    have at0 : H0 a = some (.frz ob (.lst (ns.map V.int))) := upd_same
    have only : ∀ b u, H0 b = some u → b = a ∧ u = .frz ob (.lst (ns.map V.int)) := fun b u z => by
      by_cases eb : b = a
      · rw [eb, at0] at z
        exact ⟨eb, (Option.some.inj z).symm⟩
      · have z2 : (upd (fun _ => none) a (.frz ob (.lst (ns.map V.int)))) b = some u := z
        rw [upd_ne eb] at z2
        exact nomatch z2
    refine call_from KX hns hb hbb hlim hg ha hr F hbind (H := H0) (fun b u z => ?_) (fun b u z => ⟨(only b u z).1, hk⟩) (fun b u z => ⟨_, _, (only b u z).2⟩) (hsp _ (.inl (.inr ⟨ob, at0⟩)))
    obtain ⟨eb, eu⟩ := only b u z
    rw [eb, eu]
    exact ⟨ha, by rw [List.length_map]; exact hl, vs, _, rv, ha⟩
end

/-- the goal that k_head leaves, from the law's promise -/
theorem walkG {l : PySem.W.OpenLaw} {n k : Nat} {q : Program} {loose : List Str} {XP : (Str → Option Value) → Heap → Prop} {YP : World → Heap → Prop} {d : DefRec} {K : Params → PySem.W.Frag} {sp : PySem.W.Frag → Sp} {x : Str}
    (hn : l.most = some n) (hn2 : n ≤ sizeLine) (hdf : d.params.defaults = []) (hr : Room k callerA) (hY : ∀ (w : World) (h : Heap), YP w h → (K w.params).In h)
    (F : ∀ (w : World) (mg : Str → Option Value) (fa : Addr) (h : Heap), (K w.params).In h → h.Ns mainGlobals mg → mg d.name = some (.ref fa) →
      ∃ fd : FuncData, (∀ (s : Shared) (u : Value), BindsTo s fd ⟨[u], []⟩ [(x, u)]) ∧ ∀ base : Heap, (K w.params).In base → base.Ns mainGlobals mg → FnG l.prog w (K w.params) mg base CX0 k fa fd [x] (sp (K w.params)))
    (hsp : ∀ (K : PySem.W.Frag) (H : Hp) (a : Addr) (ns : List Int), ns.length ≤ n → SqL K H a (ns.map V.int) → sp K [.ref a] H (fun v _ => v = .bl true) E0) :
    PySem.W.WalkO q loose XP YP l.row.toRowW d [] (fun f vs => PySem.call f vs) := by
  refine Att.attach_call hn hdf fun w s0 s1 mg mb fa o pm cd doc a vs ns G Y ho hd hcd hmg hobj hints hlen hg => ?_
  have KX := hY w _ Y
  obtain ⟨fd, hb, hF⟩ := F w mg fa _ KX G.T.g hmg
  exact law_callG KX G.T.g G.T.b G.T.builtins G.T.nolimit hg hobj hints (Nat.le_trans hlen hn2) hr hF hb fun H hS => hsp (K w.params) H a ns hlen hS
end SL

set_option Elab.async false
set_option linter.all false
set_option maxRecDepth 100000
/-! Own layer 2: the pot of draws; what is kept; promises of the helpers that all laws share. -/
namespace SL
open PySem PySem.Spec PyProof.Rows L2

/-! ### the built-in names that no module's name hides -/
structure Blt (mg : Str → Option Value) : Prop where
  len : mg "len" = none
  abs : mg "abs" = none
  max : mg "max" = none
  min : mg "min" = none
  sum : mg "sum" = none
  range : mg "range" = none
  repr : mg "repr" = none
  all : mg "all" = none
  any : mg "any" = none
  int : mg "int" = none
  tuple : mg "tuple" = none
  list : mg "list" = none
  str : mg "str" = none
  bool : mg "bool" = none
  dict : mg "dict" = none
  zip : mg "zip" = none
  enumerate : mg "enumerate" = none
  isinstance : mg "isinstance" = none
  sorted : mg "sorted" = none
  reversed : mg "reversed" = none
  set : mg "set" = none

/-! ### what is kept but for one list -/
/-- all but p is as it was -/
def Kp (p : Addr) (H H' : Hp) : Prop := ∀ b o, b ≠ p → H b = some o → H' b = some o
theorem Kp.refl {p : Addr} {H : Hp} : Kp p H H := fun _ _ _ h => h
theorem Kp.trans {p : Addr} {H H1 H2 : Hp} (a : Kp p H H1) (b : Kp p H1 H2) : Kp p H H2 := fun c o n h => b c o n (a c o n h)
theorem Kp.new {p q : Addr} {H : Hp} {o : HO} (h : H q = none) : Kp p H (upd H q o) := fun b u _ e => by rw [upd_ne (ne_of_none e h)]; exact e
theorem Kp.self {p : Addr} {H : Hp} {o : HO} : Kp p H (upd H p o) := fun b u n e => by rw [upd_ne n]; exact e
theorem Kp.same {p : Addr} {H H' : Hp} (h : Same H H') : Kp p H H' := fun b o _ e => h b o e
theorem Same.new {q : Addr} {H : Hp} {o : HO} (h : H q = none) : Same H (upd H q o) := fun b u e => by rw [upd_ne (ne_of_none e h)]; exact e

/-- three ints: the digits that are left, the mixing number, the count of draws -/
def PotAt (H : Hp) (p : Addr) (n : Nat) : Prop := ∃ a b c : Int, H p = some (.lst [.int a, .int b, .int c]) ∧ 0 ≤ a ∧ a < 10 ^ 300 ∧ 0 ≤ b ∧ b < 2305843009213693952 ∧ 0 ≤ c ∧ c ≤ n
theorem PotAt.mono {H : Hp} {p : Addr} {n m : Nat} (h : PotAt H p n) (l : n ≤ m) : PotAt H p m := by
  obtain ⟨a, b, c, e, h1, h2, h3, h4, h5, h6⟩ := h
  exact ⟨a, b, c, e, h1, h2, h3, h4, h5, by omega⟩
theorem PotAt.lst {H : Hp} {p : Addr} {n : Nat} (h : PotAt H p n) : ∃ xs, H p = some (.lst xs) := let ⟨_, _, _, e, _⟩ := h; ⟨_, e⟩
theorem PotAt.new {H : Hp} {p q : Addr} {n : Nat} {o : HO} (h : PotAt H p n) (hq : H q = none) : PotAt (upd H q o) p n := by
  obtain ⟨a, b, c, e, r⟩ := h
  exact ⟨a, b, c, by rw [upd_ne (ne_of_none e hq)]; exact e, r⟩
theorem PotAt.keep {H H' : Hp} {p q : Addr} {n : Nat} (h : PotAt H p n) (k : Kp q H H') (hq : p ≠ q) : PotAt H' p n := by
  obtain ⟨a, b, c, e, r⟩ := h
  exact ⟨a, b, c, k p _ hq e, r⟩
theorem PotAt.same {H H' : Hp} {p : Addr} {n : Nat} (h : PotAt H p n) (k : Same H H') : PotAt H' p n := by
  obtain ⟨a, b, c, e, r⟩ := h
  exact ⟨a, b, c, k p _ e, r⟩
theorem Kp.get {p a : Addr} {H H' : Hp} {u : HO} {xs : List V} (k : Kp p H H') (hp : H p = some (.lst xs)) (h : H a = some u) (n : ∀ ys, u ≠ .lst ys) : H' a = some u :=
  k a u (fun e => n xs (by rw [e, hp] at h; exact (Option.some.inj h).symm)) h
theorem Kp.tup {K : PySem.W.Frag} {p a : Addr} {H H' : Hp} {n : Nat} {xs : List V} (k : Kp p H H') (hp : PotAt H p n) (h : SqT K H a xs) : SqT K H' a xs := by
  obtain ⟨ys, hp⟩ := hp.lst
  rcases h with (h | ⟨o, h⟩) | h
  · exact .inl (.inl (k.get hp h (fun _ z => nomatch z)))
  · exact .inl (.inr ⟨o, k.get hp h (fun _ z => nomatch z)⟩)
  · exact .inr h
theorem Kp.seq {K : PySem.W.Frag} {p a : Addr} {H H' : Hp} {xs : List V} (k : Kp p H H') (hn : a ≠ p) (h : SqL K H a xs) : SqL K H' a xs := by
  rcases h with (h | ⟨o, h⟩) | h
  · exact .inl (.inl (k _ _ hn h))
  · exact .inl (.inr ⟨o, k _ _ hn h⟩)
  · exact .inr h
theorem Same.tup {K : PySem.W.Frag} {a : Addr} {H H' : Hp} {xs : List V} (k : Same H H') (h : SqT K H a xs) : SqT K H' a xs := by
  rcases h with (h | ⟨o, h⟩) | h
  · exact .inl (.inl (k _ _ h))
  · exact .inl (.inr ⟨o, k _ _ h⟩)
  · exact .inr h
/-- a list that is read and the pot -/
theorem ne_pot {H : Hp} {p l : Addr} {n : Nat} (h : PotAt H p n) (hl : H l = none) : l ≠ p := fun e => by
  obtain ⟨xs, e1⟩ := h.lst
  rw [e, e1] at hl
  exact nomatch hl

/-! ### the helpers' promises -/
def spPot (K : PySem.W.Frag) : Sp := fun vs H Q _ => ∃ (l : Addr) (ns : List Int) (j : Nat), vs = [.ref l, .int (j : Int)] ∧ SqL K H l (ns.map V.int) ∧ ns.length ≤ 63 ∧ j < 100 ∧ ∀ H' p, Same H H' → H p = none → PotAt H' p 0 → Q (.ref p) H'
def spTake : Sp := fun vs H Q _ => ∃ (p : Addr) (u : Int) (n : Nat), vs = [.ref p, .int u] ∧ PotAt H p n ∧ n < 1000000 ∧ 0 < u ∧ u < 2 ^ 200 ∧ ∀ H' r, Kp p H H' → PotAt H' p (n + 1) → 0 ≤ r → r < u → Q (.int r) H'
def spOf (K : PySem.W.Frag) : Sp := fun vs H Q _ => ∃ (p l : Addr) (xs : List V) (n : Nat), vs = [.ref p, .ref l] ∧ PotAt H p n ∧ n < 1000000 ∧ SqL K H l xs ∧ l ≠ p ∧ 0 < xs.length ∧ xs.length < 1000000 ∧
  ∀ H' (i : Nat) x, Kp p H H' → PotAt H' p (n + 1) → xs[i]? = some x → Q x H'
def spRow (K : PySem.W.Frag) : Sp := fun vs H Q _ => ∃ (p : Addr) (w m : Int) (n : Nat), vs = [.ref p, .int w, .int m] ∧ PotAt H p n ∧ n < 900000 ∧ 1 ≤ w ∧ w ≤ 1000000000 ∧ 0 ≤ m ∧ m ≤ 300 ∧
  ∀ H' t (ns : List Int), Kp p H H' → PotAt H' p (n + 310) → H' t = some (.tup (ns.map V.int)) → (ns.length : Int) ≤ m → (∀ x ∈ ns, 1 ≤ x ∧ x ≤ w) → Q (.ref t) H'
end SL
namespace SL
open PySem PySem.Spec PyProof.Rows L2
theorem pot_own0 (c : Int) (k : Bool) : 0 ≤ (if c < 0 then -c else c) % (10 ^ Int.toNat 60) ^ Int.toNat 5 * (if k = true then 1 else 0) := by
  have h := Int.emod_nonneg (if c < 0 then -c else c) (show ((10 ^ Int.toNat 60) ^ Int.toNat 5 : Int) ≠ 0 by decide +kernel)
  cases k
  · simp
  · simpa using h
theorem pot_own1 (c : Int) (k : Bool) : (if c < 0 then -c else c) % (10 ^ Int.toNat 60) ^ Int.toNat 5 * (if k = true then 1 else 0) < 10 ^ 300 := by
  have h := Int.emod_lt_of_pos (if c < 0 then -c else c) (show (0 : Int) < (10 ^ Int.toNat 60) ^ Int.toNat 5 by decide +kernel)
  have e : ((10 ^ Int.toNat 60) ^ Int.toNat 5 : Int) = 10 ^ 300 := by decide +kernel
  rw [e] at h ⊢
  cases k
  · simp only [Bool.false_eq_true, if_false, Int.mul_zero]
    decide +kernel
  · simpa using h
theorem prime_at (c : Int) : ∃ pr : Int, atI [V.int 2147483647, V.int 2147483629, V.int 2147483587, V.int 2147483579, V.int 2147483563] (c % 5) = some (.int pr) ∧ 2147483563 ≤ pr ∧ pr ≤ 2147483647 := by
  have h0 := Int.emod_nonneg c (show (5 : Int) ≠ 0 by decide)
  have h1 := Int.emod_lt_of_pos c (show (0 : Int) < 5 by decide)
  generalize c % 5 = r at h0 h1
  have h : r = 0 ∨ r = 1 ∨ r = 2 ∨ r = 3 ∨ r = 4 := by omega
  rcases h with rfl | rfl | rfl | rfl | rfl
  · exact ⟨_, rfl, by decide, by decide⟩
  · exact ⟨_, rfl, by decide, by decide⟩
  · exact ⟨_, rfl, by decide, by decide⟩
  · exact ⟨_, rfl, by decide, by decide⟩
  · exact ⟨_, rfl, by decide, by decide⟩
theorem take_base {b c : Int} (h0 : 0 ≤ c) (h1 : c ≤ 1000001) (b0 : 0 ≤ b) (b1 : b < 2305843009213693952) : (b + 65537 * c * c + 41).natAbs < 2 ^ 64 := by
  have h2 : 65537 * c * c ≤ 65537 * 1000001 * 1000001 := by
    have a1 : 65537 * c ≤ 65537 * 1000001 := by omega
    have a2 : 65537 * c * c ≤ 65537 * 1000001 * c := Int.mul_le_mul_of_nonneg_right a1 h0
    have a3 : (65537 * 1000001 : Int) * c ≤ 65537 * 1000001 * 1000001 := Int.mul_le_mul_of_nonneg_left h1 (by decide)
    omega
  have h3 : 0 ≤ 65537 * c * c := Int.mul_nonneg (by omega) h0
  omega
end SL
namespace SL
theorem small_bit (k : Bool) : -(2 ^ 64) < (if k = true then 1 else 0 : Int) ∧ (if k = true then 1 else 0 : Int) < 2 ^ 64 := by cases k <;> decide
end SL

set_option Elab.async false
set_option linter.all false
set_option maxRecDepth 100000
/-! Own layer 3: data of any kind (dicts too): how they are read, shown, and of what type they are. -/
namespace SL
open PySem PySem.Spec PyProof.Rows L2

/-! ### lengths of what is shown, dicts too -/
mutual
def wz : PyData → Nat
  | .none => 4
  | .bool _ => 5
  | .int i => i.natAbs.log2 + 4
  | .str x => (reprText x).length
  | .list xs => wzAll xs + 3
  | .tuple xs => wzAll xs + 3
  | .dict kvs => wzKv kvs + 3
def wzAll : List PyData → Nat
  | [] => 0
  | x :: xs => wz x + 2 + wzAll xs
def wzKv : List (PyData × PyData) → Nat
  | [] => 0
  | (k, v) :: r => wz k + wz v + 4 + wzKv r
end
theorem dictText_le (ts : List Str) : (dictText ts).length ≤ (ts.map (·.length)).sum + 2 * ts.length + 3 := by
  have e : (dictText ts).length = 1 + (Str.join ", " ts).length + 1 := by
    unfold dictText
    rw [strLen_append, strLen_append]
    rfl
  by_cases h : ts = []
  · subst h
    rw [e]
    show 1 + 0 + 1 ≤ _
    omega
  · have h2 := join_length_add ts h
    have h3 : ∀ us : List Str, piled us = (us.map (·.length)).sum + 2 * us.length := by
      intro us
      induction us with
      | nil => rfl
      | cons u us ih => rw [piled_cons, ih, List.map_cons, List.sum_cons, List.length_cons]; omega
    rw [h3 ts] at h2
    omega
mutual
theorem shownz : ∀ d : PyData, d.shown.length ≤ wz d
  | .none => by simp only [PyData.shown, wz]; decide
  | .bool b => by cases b <;> (simp only [PyData.shown, wz]; decide)
  | .int i => by simp only [PyData.shown, wz]; exact int_shown_len i
  | .str x => by simp only [PyData.shown, wz]; exact Nat.le_refl _
  | .list xs => by
    simp only [PyData.shown, wz]
    have h := listText_len_le (PyData.shownAll xs)
    have h2 := shownzAll xs
    omega
  | .tuple xs => by
    simp only [PyData.shown, wz]
    have h := tupleText_len_le (PyData.shownAll xs)
    have h2 := shownzAll xs
    omega
  | .dict kvs => by
    simp only [PyData.shown, wz]
    have h := dictText_le (PyData.shownKv kvs)
    have h2 := shownzKv kvs
    omega
theorem shownzAll : ∀ ds : List PyData, ((PyData.shownAll ds).map (·.length)).sum + 2 * (PyData.shownAll ds).length ≤ wzAll ds
  | [] => by simp [PyData.shownAll, wzAll]
  | d :: ds => by
    have h1 := shownz d
    have h2 := shownzAll ds
    simp only [PyData.shownAll, wzAll, List.map_cons, List.sum_cons, List.length_cons]
    omega
theorem shownzKv : ∀ kvs : List (PyData × PyData), ((PyData.shownKv kvs).map (·.length)).sum + 2 * (PyData.shownKv kvs).length ≤ wzKv kvs
  | [] => by simp [PyData.shownKv, wzKv]
  | (k, v) :: r => by
    have h1 := shownz k
    have h2 := shownz v
    have h3 := shownzKv r
    have e : (Str.ofString ": ").length = 2 := by decide
    simp only [PyData.shownKv, wzKv, List.map_cons, List.sum_cons, List.length_cons]
    rw [strLen_append, strLen_append, e]
    omega
end

/-! ### data in the heap: no list of it is the pot -/
def keyD : Key → PyData
  | .inl i => .int i
  | .inr x => .str x
mutual
inductive Dq (K : PySem.W.Frag) (p : Addr) (H : Hp) : V → PyData → Prop
  | non : Dq K p H .non .none
  | bl (b : Bool) : Dq K p H (.bl b) (.bool b)
  | int (i : Int) : Dq K p H (.int i) (.int i)
  | str (x : Str) : Dq K p H (.str x) (.str x)
  | lst {a : Addr} {xs : List V} {ds : List PyData} : SqL K H a xs → a ≠ p → a ≠ sysModules → DqAll K p H xs ds → Dq K p H (.ref a) (.list ds)
  | tup {a : Addr} {xs : List V} {ds : List PyData} : SqT K H a xs → DqAll K p H xs ds → Dq K p H (.ref a) (.tuple ds)
  | dict {a : Addr} {kvs : List (Key × V)} {ds : List PyData} : H a = some (.dK kvs) → DqAll K p H (kvs.map (·.2)) ds → Dq K p H (.ref a) (.dict ((kvs.map fun kv => keyD kv.1).zip ds))
inductive DqAll (K : PySem.W.Frag) (p : Addr) (H : Hp) : List V → List PyData → Prop
  | nil : DqAll K p H [] []
  | cons {v : V} {vs : List V} {d : PyData} {ds : List PyData} : Dq K p H v d → DqAll K p H vs ds → DqAll K p H (v :: vs) (d :: ds)
end
theorem DqAll.length {K : PySem.W.Frag} {p : Addr} {H : Hp} : ∀ {vs : List V} {ds : List PyData}, DqAll K p H vs ds → vs.length = ds.length
  | [], [], _ => rfl
  | _ :: _, _ :: _, .cons _ h => by rw [List.length_cons, List.length_cons, DqAll.length h]
theorem DqAll.get {K : PySem.W.Frag} {p : Addr} {H : Hp} : ∀ {vs : List V} {ds : List PyData} {i : Nat} {v : V}, DqAll K p H vs ds → vs[i]? = some v → ∃ d, ds[i]? = some d ∧ Dq K p H v d
  | _ :: _, _ :: _, 0, _, .cons h _, e => ⟨_, rfl, by cases (Option.some.inj e); exact h⟩
  | _ :: _, _ :: _, i + 1, _, .cons _ h, e => DqAll.get (i := i) h e
theorem DqAll.append {K : PySem.W.Frag} {p : Addr} {H : Hp} : ∀ {vs ws : List V} {ds es : List PyData}, DqAll K p H vs ds → DqAll K p H ws es → DqAll K p H (vs ++ ws) (ds ++ es)
  | [], _, [], _, _, h => h
  | _ :: _, _, _ :: _, _, .cons a b, h => .cons a (DqAll.append b h)
theorem DqAll.ints {K : PySem.W.Frag} {p : Addr} {H : Hp} : ∀ ns : List Int, DqAll K p H (ns.map V.int) (ns.map PyData.int)
  | [] => .nil
  | n :: ns => .cons (.int n) (DqAll.ints ns)
theorem DqAll.take {K : PySem.W.Frag} {p : Addr} {H : Hp} : ∀ {vs : List V} {ds : List PyData} (i : Nat), DqAll K p H vs ds → DqAll K p H (vs.take i) (ds.take i)
  | _, _, 0, _ => .nil
  | [], [], _ + 1, _ => .nil
  | _ :: _, _ :: _, i + 1, .cons a b => .cons a (DqAll.take i b)
theorem DqAll.drop {K : PySem.W.Frag} {p : Addr} {H : Hp} : ∀ {vs : List V} {ds : List PyData} (i : Nat), DqAll K p H vs ds → DqAll K p H (vs.drop i) (ds.drop i)
  | _, _, 0, h => h
  | [], [], _ + 1, h => h
  | _ :: _, _ :: _, i + 1, .cons _ b => DqAll.drop i b

/-- a change that leaves alone what the data lean on -/
structure Leaves (p : Addr) (H H' : Hp) : Prop where
  lst : ∀ {K : PySem.W.Frag} {a : Addr} {xs : List V}, a ≠ p → SqL K H a xs → SqL K H' a xs
  tup : ∀ {K : PySem.W.Frag} {a : Addr} {xs : List V}, SqT K H a xs → SqT K H' a xs
  dic : ∀ {a : Addr} {kvs : List (Key × V)}, H a = some (.dK kvs) → H' a = some (.dK kvs)
theorem Kp.leaves {p : Addr} {H H' : Hp} {n : Nat} (k : Kp p H H') (hp : PotAt H p n) : Leaves p H H' :=
  ⟨fun n h => k.seq n h, fun h => k.tup hp h, fun h => let ⟨_, e⟩ := hp.lst; k.get e h (fun _ z => nomatch z)⟩
theorem Leaves.same {p : Addr} {H H' : Hp} (k : Same H H') : Leaves p H H' := ⟨fun _ h => k.seq h, fun h => Same.tup k h, fun h => k _ _ h⟩
mutual
theorem Dq.keep {K : PySem.W.Frag} {p : Addr} {H H' : Hp} (k : Leaves p H H') : ∀ (d : PyData) {v : V}, Dq K p H v d → Dq K p H' v d
  | .none, _, h => by cases h; exact .non
  | .bool _, _, h => by cases h; exact .bl _
  | .int _, _, h => by cases h; exact .int _
  | .str _, _, h => by cases h; exact .str _
  | .list ds, _, h => by
    cases h with
    | lst hs hn hy ha => exact .lst (k.lst hn hs) hn hy (DqAll.keep k ds ha)
  | .tuple ds, _, h => by
    cases h with
    | tup hs ha => exact .tup (k.tup hs) (DqAll.keep k ds ha)
  | .dict kvs, _, h => by
    generalize hd : PyData.dict kvs = d at h
    cases h with
    | @dict a kws ds e ha =>
      cases hd
      have hl := ha.length
      rw [List.length_map] at hl
      have e2 : ((kws.map fun kv => keyD kv.1).zip ds).map (·.2) = ds := List.map_snd_zip (by rw [List.length_map]; omega)
      refine .dict (k.dic e) ?_
      rw [← e2]
      rw [← e2] at ha
      exact DqKv.keep k _ ha
    | non => cases hd
    | bl => cases hd
    | int => cases hd
    | str => cases hd
    | lst => cases hd
    | tup => cases hd
theorem DqAll.keep {K : PySem.W.Frag} {p : Addr} {H H' : Hp} (k : Leaves p H H') : ∀ (ds : List PyData) {vs : List V}, DqAll K p H vs ds → DqAll K p H' vs ds
  | [], _, h => by cases h; exact .nil
  | d :: ds, _, h => by
    cases h with
    | cons a b => exact .cons (Dq.keep k d a) (DqAll.keep k ds b)
theorem DqKv.keep {K : PySem.W.Frag} {p : Addr} {H H' : Hp} (k : Leaves p H H') : ∀ (kvs : List (PyData × PyData)) {vs : List V}, DqAll K p H vs (kvs.map (·.2)) → DqAll K p H' vs (kvs.map (·.2))
  | [], _, h => by cases h; exact .nil
  | (_, d) :: r, _, h => by
    cases h with
    | cons a b => exact .cons (Dq.keep k d a) (DqKv.keep k r b)
end

/-! ### how the data are read from the heap -/
theorem keys_read {P : Program} {w : World} {h : Heap} : ∀ {kvs : List (Key × V)} {vs : List (Key × Value)} {es : List DictEntry}, KV kvs vs → Pairs (mixKind P w) es vs →
    ReadsAll h (es.map (·.key)) (kvs.map fun kv => keyD kv.1) [] ∧ Vals (kvs.map (·.2)) (es.map (·.val))
  | _, _, _, .nil, .nil => ⟨.nil, .nil⟩
  | (k, v) :: r, (k2, u) :: r2, _, .cons ⟨e1, e2⟩ t, .cons h1 h2 h3 => by
    obtain ⟨a, b⟩ := keys_read (h := h) t h3
    have e1 : k = k2 := e1
    subst e1
    refine ⟨?_, ?_⟩
    · show ReadsAll h (_ :: _) (_ :: _) []
      refine ReadsAll.cons (as := []) (bs := []) ?_ a
      rcases keyIs_shape h1 with ⟨i, t, ek, ev⟩ | ⟨x, t, ek, ev⟩
      · have ek : k = Sum.inl i := ek
        dsimp only
        rw [ek, ev]
        exact Reads.int i t
      · have ek : k = Sum.inr x := ek
        dsimp only
        rw [ek, ev]
        exact Reads.str x t
    · show Vals (_ :: _) (_ :: _)
      refine .cons ?_ b
      dsimp only
      rw [h2]
      exact e2
section
variable {X : Cx} {pins : List (Addr × Obj)} {σ : L2.St} {H : Hp} {s : Shared} {p : Addr}
mutual
theorem Dq.reads (I : Inv X pins σ H s) : ∀ (d : PyData) {v : V} {u : Value}, Dq X.K p H v d → RelV v u → ∃ as, Reads s.heap u d as ∧ sysModules ∉ as
  | .none, _, _, h, r => by
    cases h; cases r
    exact ⟨_, Reads.none, fun z => nomatch z⟩
  | .bool b, _, _, h, r => by
    cases h; cases r
    exact ⟨_, Reads.bool b, fun z => nomatch z⟩
  | .int i, _, _, h, r => by
    cases h
    obtain ⟨t, rfl⟩ := r
    exact ⟨_, Reads.int i t, fun z => nomatch z⟩
  | .str x, _, _, h, r => by
    cases h
    obtain ⟨t, rfl⟩ := r
    exact ⟨_, Reads.str x t, fun z => nomatch z⟩
  | .list ds, _, _, h, r => by
    cases h with
    | lst hs hn hy ha =>
      cases r
      obtain ⟨its, rv, ⟨o, n, ho, hc, _, hd⟩, _⟩ := I.list hs
      obtain ⟨as, hr, hz⟩ := DqAll.reads I ds ha rv
      refine ⟨_, Reads.list ho hc hd hr, fun z => ?_⟩
      rcases List.mem_cons.mp z with z | z
      · exact hy z.symm
      · exact hz z
  | .tuple ds, _, _, h, r => by
    cases h with
    | tup hs ha =>
      cases r
      obtain ⟨its, rv, ⟨o, ho, hc, n, hd⟩, _⟩ := I.tuple hs
      obtain ⟨as, hr, hz⟩ := DqAll.reads I ds ha rv
      exact ⟨_, Reads.tuple ho hc hd hr, hz⟩
  | .dict kvs, _, _, h, r => by
    generalize hd : PyData.dict kvs = d at h
    cases h with
    | @dict a kws ds e ha =>
      cases hd
      cases r
      obtain ⟨_, hsm, vs, rel, o, es, ep, ho, hex, hda, _, pr, _⟩ := dk_of I.hok e
      obtain ⟨hk, hv⟩ := keys_read (h := s.heap) rel pr
      have hl := ha.length
      rw [List.length_map] at hl
      have e1 : ((kws.map fun kv => keyD kv.1).zip ds).map (·.1) = kws.map fun kv => keyD kv.1 := List.map_fst_zip (by rw [List.length_map]; omega)
      have e2 : ((kws.map fun kv => keyD kv.1).zip ds).map (·.2) = ds := List.map_snd_zip (by rw [List.length_map]; omega)
      rw [← e2] at ha
      obtain ⟨as, hr, hz⟩ := DqKv.reads I _ ha hv
      rw [← e1] at hk
      refine ⟨_, Reads.dict ho hex.1 hda hk hr, fun z => ?_⟩
      have z : sysModules = a ∨ sysModules ∈ as := by simpa using z
      rcases z with z | z
      · rw [← z] at hsm
        simp at hsm
      · exact hz z
    | non => cases hd
    | bl => cases hd
    | int => cases hd
    | str => cases hd
    | lst => cases hd
    | tup => cases hd
theorem DqAll.reads (I : Inv X pins σ H s) : ∀ (ds : List PyData) {vs : List V} {us : List Value}, DqAll X.K p H vs ds → Vals vs us → ∃ as, ReadsAll s.heap us ds as ∧ sysModules ∉ as
  | [], _, _, h, r => by
    cases h; cases r
    exact ⟨_, ReadsAll.nil, fun z => nomatch z⟩
  | d :: ds, _, _, h, r => by
    cases h with
    | cons h1 h2 =>
      cases r with
      | cons r1 r2 =>
        obtain ⟨as, q1, z1⟩ := Dq.reads I d h1 r1
        obtain ⟨bs, q2, z2⟩ := DqAll.reads I ds h2 r2
        exact ⟨_, ReadsAll.cons q1 q2, fun z => (List.mem_append.mp z).elim z1 z2⟩
theorem DqKv.reads (I : Inv X pins σ H s) : ∀ (kvs : List (PyData × PyData)) {vs : List V} {us : List Value}, DqAll X.K p H vs (kvs.map (·.2)) → Vals vs us → ∃ as, ReadsAll s.heap us (kvs.map (·.2)) as ∧ sysModules ∉ as
  | [], _, _, h, r => by
    cases h; cases r
    exact ⟨_, ReadsAll.nil, fun z => nomatch z⟩
  | (_, d) :: ds, _, _, h, r => by
    cases h with
    | cons h1 h2 =>
      cases r with
      | cons r1 r2 =>
        obtain ⟨as, q1, z1⟩ := Dq.reads I d h1 r1
        obtain ⟨bs, q2, z2⟩ := DqKv.reads I ds h2 r2
        exact ⟨_, ReadsAll.cons q1 q2, fun z => (List.mem_append.mp z).elim z1 z2⟩
end
end
/-! ### types, repr, lists that are made -/
def tyName : PyData → String
  | .none => "NoneType"
  | .bool _ => "bool"
  | .int _ => "int"
  | .str _ => "str"
  | .list _ => "list"
  | .tuple _ => "tuple"
  | .dict _ => "dict"
theorem Dq.ty {K : PySem.W.Frag} {p : Addr} {H : Hp} {v : V} {d : PyData} (h : Dq K p H v d) : TyX K H v (.type (tyName d)) := by
  cases h with
  | non => exact .base .non
  | bl b => exact .base (.bl b)
  | int i => exact .base (.int i)
  | str x => exact .base (.str x)
  | lst hs _ _ _ =>
    rcases hs with (h | ⟨o, h⟩) | ⟨o, _, _, h, hc, _⟩
    · exact .base (.lst h)
    · exact .base (.frz h)
    · exact .kList h hc
  | tup hs _ =>
    rcases hs with (h | ⟨o, h⟩) | ⟨o, _, _, h, hc, _⟩
    · exact .base (.tup h)
    · exact .fTuple h
    · exact .kTuple h hc
  | dict h _ => exact .base (.dK h)
section
variable {X : Cx}
def rReprQ (K : PySem.W.Frag) : List V → Hp → VK → Prop := fun vs H Q => ∃ (p : Addr) (v : V) (d : PyData), vs = [v] ∧ Dq K p H v d ∧ d.showable = true ∧ d.depth ≤ 50 ∧ wz d ≤ 1000000 ∧ Q (.str d.shown) H
theorem cr_reprQ (hg : X.A.guards = some []) (hu : X.A.units + 64 < cLine) : CallR X (.builtin "repr") (rReprQ X.K) := by
  intro pins s σ H vs us Q I r h
  obtain ⟨p, v, d, rfl, hd, hs, hdep, hwt, q⟩ := h
  obtain ⟨u, rfl, ru⟩ := vals1 r
  have hsz : d.shown.length ≤ sizeLine := by
    have h1 := shownz d
    rw [sizeLine_eq]
    omega
  obtain ⟨as, rd, hz⟩ := Dq.reads I d hd ru
  cases rd with
  | none => exact PySem.P.repr_of_none ⟨.str _, H, I.tok _, ⟨_, rfl⟩, by simpa only [PyData.shown] using q⟩
  | bool b =>
    refine PySem.P.repr_of_bool ⟨.str _, H, I.tok _, ⟨_, rfl⟩, ?_⟩
    cases b <;> simpa only [PyData.shown] using q
  | int i t => exact PySem.P.repr_of_int (by simpa [PyData.showable] using hs) ⟨.str _, H, I.tok _, ⟨_, rfl⟩, by simpa only [PyData.shown] using q⟩
  | str x t => exact PySem.P.repr_of_str ⟨.str _, H, I.tok _, ⟨_, rfl⟩, by simpa only [PyData.shown] using q⟩ (by simpa only [PyData.shown] using hsz)
  | list h1 h2 h3 h4 => exact repr_of_reads' (.list h1 h2 h3 h4) hs (fun _ => hz) hg (by omega) (fun _ _ e => e) (fun h' u tk hk => ⟨.str _, H, I.kept hk, ⟨_, rfl⟩, q⟩) hsz
  | tuple h1 h2 h3 h4 => exact repr_of_reads' (.tuple h1 h2 h3 h4) hs (fun _ => hz) hg (by omega) (fun _ _ e => e) (fun h' u tk hk => ⟨.str _, H, I.kept hk, ⟨_, rfl⟩, q⟩) hsz
  | dict h1 h2 h3 h4 h5 => exact repr_of_reads' (.dict h1 h2 h3 h4 h5) hs (fun _ => hz) hg (by omega) (fun _ _ e => e) (fun h' u tk hk => ⟨.str _, H, I.kept hk, ⟨_, rfl⟩, q⟩) hsz
/-- str of a tuple, a list -/
def rStrQ (K : PySem.W.Frag) : List V → Hp → VK → Prop := fun vs H Q => ∃ (p a : Addr) (d : PyData), vs = [.ref a] ∧ Dq K p H (.ref a) d ∧ d.showable = true ∧ d.depth ≤ 50 ∧ wz d ≤ 1000000 ∧ Q (.str d.shown) H
theorem cr_strQ (hg : X.A.guards = some []) (hu : X.A.units + 64 < cLine) : CallR X (.type "str") (rStrQ X.K) := by
  intro pins s σ H vs us Q I r h
  obtain ⟨p, a, d, rfl, hd, hs, hdep, hwt, q⟩ := h
  obtain ⟨u, rfl, ru⟩ := vals1 r
  obtain rfl : u = Value.ref a := ru
  have hsz : d.shown.length ≤ sizeLine := by
    have h1 := shownz d
    rw [sizeLine_eq]
    omega
  obtain ⟨as, rd, hz⟩ := Dq.reads I d hd (show RelV (.ref a) (.ref a) from rfl)
  exact str_of_reads rd hs (fun _ => hz) hg (by omega) (fun _ _ e => e) (fun h' u tk hk => ⟨.str _, H, I.kept hk, ⟨_, rfl⟩, q⟩) hsz
/-- a list display, its place told to be no old one -/
def tLstS (t : TA) : TE := fun σ H Q => t σ H fun xs H1 => xs.length ≤ sizeLine ∧ ∀ p, H1 p = none → p ≠ sysModules → Q (.ref p) (upd H1 p (.lst xs))
theorem pe_lstS {es : List Expr} {t : TA} {pos : Pos} (h : PA X es t) : PE X (.List es pos) (tLstS t) := by
  refine ⟨fun pins s σ H Q I hq => wpAny_List_spliced (thn (h.run pos pins s σ H _ I hq) fun us s1 ⟨xs, H1, I1, r, z, q⟩ => ?_)⟩
  have hf : H1 s1.heap.objs.size = none := I1.hok.fresh (Nat.le_refl _)
  have hz : us.length ≤ sizeLine := by rw [← r.length]; exact z
  refine ⟨hz, .ref s1.heap.objs.size, upd H1 s1.heap.objs.size (.lst xs), ?_, rfl, q _ hf (Nat.ne_of_gt I1.big)⟩
  exact I1.laid (t' := s1.toks) (fun b u e => Heap.get?_push_of_some _ e) (Nat.le_refl _) ⟨z, us, 0, r, Heap.get?_push_size _ rfl⟩
end
end SL
namespace SL
open PySem PySem.Spec PyProof.Rows L2
/-! ### what a def carries along: the pot, the data that it holds -/
structure Cr (K : PySem.W.Frag) (p : Addr) (H0 H : Hp) (n : Nat) (vs : List V) (ds : List PyData) : Prop where
  k : Kp p H0 H
  pot : PotAt H p n
  all : DqAll K p H vs ds
section
variable {K : PySem.W.Frag} {p q : Addr} {H0 H H' : Hp} {n m : Nat} {vs ys : List V} {ds es : List PyData} {v : V} {d : PyData}
theorem Cr.start (hp : PotAt H p n) : Cr K p H H n [] [] := ⟨Kp.refl, hp, .nil⟩
theorem Cr.same (c : Cr K p H0 H n vs ds) (k : Same H H') : Cr K p H0 H' n vs ds := ⟨c.k.trans (.same k), c.pot.same k, c.all.keep (.same k) _⟩
theorem Cr.draw (c : Cr K p H0 H n vs ds) (k : Kp p H H') (hp : PotAt H' p m) : Cr K p H0 H' m vs ds := ⟨c.k.trans k, hp, c.all.keep (k.leaves c.pot) _⟩
theorem Cr.new (c : Cr K p H0 H n vs ds) {o : HO} (hq : H q = none) : Cr K p H0 (upd H q o) n vs ds := c.same (Same.new hq)
theorem Cr.push (c : Cr K p H0 H n vs ds) (h : Dq K p H v d) : Cr K p H0 H n (v :: vs) (d :: ds) := ⟨c.k, c.pot, .cons h c.all⟩
theorem Cr.tup (c : Cr K p H0 H n vs ds) (hq : H q = none) (h : DqAll K p H ys es) : Cr K p H0 (upd H q (.tup ys)) n (.ref q :: vs) (.tuple es :: ds) :=
  (c.new hq).push (.tup (.of upd_same) (h.keep (.same (Same.new hq)) _))
theorem Cr.lst (c : Cr K p H0 H n vs ds) (hq : H q = none) (y : q ≠ sysModules) (h : DqAll K p H ys es) : Cr K p H0 (upd H q (.lst ys)) n (.ref q :: vs) (.list es :: ds) :=
  (c.new hq).push (.lst (.of upd_same) (ne_pot c.pot hq) y (h.keep (.same (Same.new hq)) _))
theorem Cr.dic0 (c : Cr K p H0 H n vs ds) (hq : H q = none) : Cr K p H0 (upd H q (.dK [])) n (.ref q :: vs) (.dict [] :: ds) :=
  (c.new hq).push (.dict (kvs := []) (ds := []) upd_same .nil)
theorem Cr.dic1 {x : Str} (c : Cr K p H0 H n vs ds) (hq : H q = none) (h : Dq K p H v d) : Cr K p H0 (upd H q (.dK [(Sum.inr x, v)])) n (.ref q :: vs) (.dict [(.str x, d)] :: ds) :=
  (c.new hq).push (.dict (kvs := [(Sum.inr x, v)]) (ds := [d]) upd_same (.cons (h.keep (.same (Same.new hq)) _) .nil))
theorem Cr.drop (c : Cr K p H0 H n (v :: vs) (d :: ds)) : Cr K p H0 H n vs ds := ⟨c.k, c.pot, by cases c.all with | cons _ h => exact h⟩
theorem Cr.head (c : Cr K p H0 H n (v :: vs) (d :: ds)) : Dq K p H v d := by cases c.all with | cons h _ => exact h
theorem Cr.bare (c : Cr K p H0 H n vs ds) : Cr K p H0 H n [] [] := ⟨c.k, c.pot, .nil⟩
end
/-- data that is easily shown -/
def Small (b k : Nat) (d : PyData) : Prop := d.showable = true ∧ d.depth ≤ k ∧ wz d ≤ b
def smallB (b k : Nat) (d : PyData) : Bool := d.showable && decide (d.depth ≤ k) && decide (wz d ≤ b)
theorem small_of {b k : Nat} {d : PyData} (h : smallB b k d = true) : Small b k d := by
  simp only [smallB, Bool.and_eq_true, decide_eq_true_eq] at h
  exact ⟨h.1.1, h.1.2, h.2⟩
theorem small_all {b k : Nat} {ds : List PyData} (h : ds.all (smallB b k) = true) {i : Nat} {d : PyData} (e : ds[i]? = some d) : Small b k d :=
  small_of (List.all_eq_true.mp h d (List.mem_of_getElem? e))
theorem Small.mono {b k b' k' : Nat} {d : PyData} (h : Small b k d) (hb : b ≤ b') (hk : k ≤ k') : Small b' k' d := ⟨h.1, Nat.le_trans h.2.1 hk, Nat.le_trans h.2.2 hb⟩
theorem Small.tup1 {b k : Nat} {d : PyData} (h : Small b k d) : Small (b + 20) (k + 1) (.tuple [d]) := by
  obtain ⟨h1, h2, h3⟩ := h
  refine ⟨by simp [PyData.showable, PyData.showableAll, h1], ?_, ?_⟩
  · simp only [PyData.depth, PyData.depthAll]; omega
  · simp only [wz, wzAll]; omega
theorem Small.lst1 {b k : Nat} {d : PyData} (h : Small b k d) : Small (b + 20) (k + 1) (.list [d]) := by
  obtain ⟨h1, h2, h3⟩ := h
  refine ⟨by simp [PyData.showable, PyData.showableAll, h1], ?_, ?_⟩
  · simp only [PyData.depth, PyData.depthAll]; omega
  · simp only [wz, wzAll]; omega
theorem Small.dic1 {b k : Nat} {d : PyData} (h : Small b k d) : Small (b + 20) (k + 1) (.dict [(.str "a", d)]) := by
  obtain ⟨h1, h2, h3⟩ := h
  have e : (reprText "a").length = 3 := by decide +kernel
  refine ⟨by simp [PyData.showable, PyData.showableKv, h1], ?_, ?_⟩
  · simp only [PyData.depth, PyData.depthKv]; omega
  · simp only [wz, wzKv, e]; omega
def spOdd (K : PySem.W.Frag) : Sp := fun vs H Q _ => ∃ (p : Addr) (n : Nat), vs = [.ref p] ∧ PotAt H p n ∧ n < 900000 ∧ ∀ H' v d, Kp p H H' → PotAt H' p (n + 11) → Dq K p H' v d → Small 300 12 d → Q v H'
end SL
namespace SL
open PySem PySem.Spec PyProof.Rows L2
def isIntB : PyData → Bool
  | .int _ => true
  | .bool _ => true
  | _ => false
def isBoolB : PyData → Bool
  | .bool _ => true
  | _ => false
def isTupB : PyData → Bool
  | .tuple _ => true
  | _ => false
def isWholeD : PyData → Bool
  | .int _ => true
  | _ => false
def inRange (d : PyData) (lo hi : Int) : Bool := match d with
  | .int i => decide (lo ≤ i) && decide (i ≤ hi)
  | _ => false
def isTextD (w : Int) (d : PyData) : Bool := match d with
  | .tuple xs => decide (xs.length ≤ 300) && xs.all fun x => inRange x 1 w
  | _ => false
theorem kit_int {K : PySem.W.Frag} : ∀ d : PyData, PySem.W.kitOne K (.type (tyName d)) (.type "int") = some (isIntB d)
  | .none => kit_ty (show kitB "NoneType" "int" = some false by decide +kernel)
  | .bool _ => kit_ty (show kitB "bool" "int" = some true by decide +kernel)
  | .int _ => kit_ty (show kitB "int" "int" = some true by decide +kernel)
  | .str _ => kit_ty (show kitB "str" "int" = some false by decide +kernel)
  | .list _ => kit_ty (show kitB "list" "int" = some false by decide +kernel)
  | .tuple _ => kit_ty (show kitB "tuple" "int" = some false by decide +kernel)
  | .dict _ => kit_ty (show kitB "dict" "int" = some false by decide +kernel)
theorem kit_bool {K : PySem.W.Frag} : ∀ d : PyData, PySem.W.kitOne K (.type (tyName d)) (.type "bool") = some (isBoolB d)
  | .none => kit_ty (show kitB "NoneType" "bool" = some false by decide +kernel)
  | .bool _ => kit_ty (show kitB "bool" "bool" = some true by decide +kernel)
  | .int _ => kit_ty (show kitB "int" "bool" = some false by decide +kernel)
  | .str _ => kit_ty (show kitB "str" "bool" = some false by decide +kernel)
  | .list _ => kit_ty (show kitB "list" "bool" = some false by decide +kernel)
  | .tuple _ => kit_ty (show kitB "tuple" "bool" = some false by decide +kernel)
  | .dict _ => kit_ty (show kitB "dict" "bool" = some false by decide +kernel)
theorem kit_tup {K : PySem.W.Frag} : ∀ d : PyData, PySem.W.kitOne K (.type (tyName d)) (.type "tuple") = some (isTupB d)
  | .none => kit_ty (show kitB "NoneType" "tuple" = some false by decide +kernel)
  | .bool _ => kit_ty (show kitB "bool" "tuple" = some false by decide +kernel)
  | .int _ => kit_ty (show kitB "int" "tuple" = some false by decide +kernel)
  | .str _ => kit_ty (show kitB "str" "tuple" = some false by decide +kernel)
  | .list _ => kit_ty (show kitB "list" "tuple" = some false by decide +kernel)
  | .tuple _ => kit_ty (show kitB "tuple" "tuple" = some true by decide +kernel)
  | .dict _ => kit_ty (show kitB "dict" "tuple" = some false by decide +kernel)
def spWhole (K : PySem.W.Frag) : Sp := fun vs H Q _ => ∃ (p : Addr) (v : V) (d : PyData), vs = [v] ∧ Dq K p H v d ∧ Q (.bl (isWholeD d)) H
def spIsWidth (K : PySem.W.Frag) : Sp := fun vs H Q _ => ∃ (p : Addr) (v : V) (d : PyData), vs = [v] ∧ Dq K p H v d ∧ Q (.bl (inRange d 1 1000000000)) H
def spIsWord (K : PySem.W.Frag) : Sp := fun vs H Q _ => ∃ (p : Addr) (w : Int) (v : V) (d : PyData), vs = [.int w, v] ∧ Dq K p H v d ∧ Q (.bl (inRange d 1 w)) H
def spIsText (K : PySem.W.Frag) : Sp := fun vs H Q _ => ∃ (p : Addr) (w : Int) (v : V) (d : PyData), vs = [.int w, v] ∧ Dq K p H v d ∧ ∀ H', Same H H' → Q (.bl (isTextD w d)) H'
def spIsInt (K : PySem.W.Frag) : Sp := fun vs H Q _ => ∃ (p : Addr) (v : V) (d : PyData) (lo hi : Int), vs = [v, .int lo, .int hi] ∧ Dq K p H v d ∧ Q (.bl (inRange d lo hi)) H
def spIsRow (K : PySem.W.Frag) : Sp := fun vs H Q _ => ∃ (p : Addr) (w : Int) (v : V) (d : PyData), vs = [.int w, v] ∧ Dq K p H v d ∧ ∀ H', Same H H' → Q (.bl (isTextD w d)) H'
theorem Dq.intv {K : PySem.W.Frag} {p : Addr} {H : Hp} {v : V} {i : Int} (h : Dq K p H v (.int i)) : v = .int i := by cases h; rfl
theorem Dq.tupv {K : PySem.W.Frag} {p : Addr} {H : Hp} {v : V} {ds : List PyData} (h : Dq K p H v (.tuple ds)) : ∃ a xs, v = .ref a ∧ SqT K H a xs ∧ DqAll K p H xs ds := by
  cases h with
  | tup a b => exact ⟨_, _, rfl, a, b⟩
end SL

set_option Elab.async false
set_option linter.all false
set_option maxRecDepth 100000
set_option maxHeartbeats 1000000
/-! Own layer 4: tuples joined, cut, repeated, told by what comes out. -/
namespace SL
open PySem PySem.Spec PyProof.Rows L2
section
variable {X : Cx}
/-- list(x) of a list or tuple, its place told to be no old one -/
def rListS (K : PySem.W.Frag) : List V → Hp → VK → Prop := fun xs H Q => ∃ p ys, xs = [.ref p] ∧ (SqL K H p ys ∨ SqT K H p ys) ∧ ∀ l, H l = none → l ≠ sysModules → Q (.ref l) (upd H l (.lst ys))
theorem call_listS : CallR X (.type "list") (rListS X.K) := by
  intro pins s σ H vs us Q I r ⟨p, ys, ev, hq, q⟩
  subst ev
  obtain ⟨u, rfl, rx⟩ := vals1 r
  obtain rfl : u = Value.ref p := rx
  have big : s.heap.objs.size ≠ sysModules := Nat.ne_of_gt I.big
  have seen : ∃ (T : String) (o : Obj) (its : List Value) (n : Nat), (T = "list" ∨ T = "tuple") ∧ s.heap.get? p = some o ∧ o.cls = .type T ∧ o.data = .seq its.toArray n ∧ Vals ys its ∧ ys.length ≤ sizeLine := by
    cases hq with
    | inl h => obtain ⟨its, rv, ⟨o, n, e1, e2, _, e3⟩, z⟩ := I.list h; exact ⟨"list", o, its, n, .inl rfl, e1, e2, e3, rv, z⟩
    | inr h => obtain ⟨its, rv, ⟨o, e1, e2, n, e3⟩, z⟩ := I.tuple h; exact ⟨"tuple", o, its, n, .inr rfl, e1, e2, e3, rv, z⟩
  obtain ⟨T, o, its, n, hT, e1, e2, e3, rv, z⟩ := seen
  have zl := rv.length
  refine call_list_seq p hT e1 e2 e3 (fun h' c' kp e => ?_) (by rw [List.size_toArray]; omega)
  exact ⟨.ref s.heap.objs.size, upd H s.heap.objs.size (.lst ys), I.laid (t' := s.toks) kp (Nat.le_refl _) ⟨z, its, c', rv, e⟩, rfl, q _ (I.hok.fresh (Nat.le_refl _)) big⟩
/-- t + u of tuples -/
def rCatB (K : PySem.W.Frag) : R2 := fun x y H Q => ∃ a b xs ys, x = .ref a ∧ y = .ref b ∧ SqT K H a xs ∧ SqT K H b ys ∧ xs.length + ys.length ≤ sizeLine ∧ ∀ H' c, Same H H' → SqT K H' c (xs ++ ys) → Q (.ref c) H'
theorem op_catB : OpR X (binaryOp .Add) (rCatB X.K) := by
  intro pins s σ H x y v u Q I rx ry ⟨a, b, xs, ys, ex, ey, ha, hb, hz, q⟩
  refine op_catA pins s σ H x y v u Q I rx ry ⟨a, b, xs, ys, ex, ey, ha, hb, hz, fun e => ?_, fun _ e => ?_, fun _ _ p hp => q _ p (Same.new hp) (.of upd_same)⟩
  · refine q H b (Same.refl H) ?_
    rw [e]
    exact hb
  · refine q H a (Same.refl H) ?_
    rw [e, List.append_nil]
    exact ha
/-- t[lo:hi] -/
def rSlB (K : PySem.W.Frag) : V → Option Int → Option Int → Hp → VK → Prop := fun x lo hi H Q => ∃ a xs, x = .ref a ∧ SqT K H a xs ∧ ∀ H' c, Same H H' → SqT K H' c (cutV xs lo hi) → Q (.ref c) H'
theorem sl_tupB : SlR X (rSlB X.K) := by
  intro pins s σ H x v vl vu lo hi sl Q I rx hs pl pu ⟨a, xs, ex, hx, q⟩
  refine sl_tupA pins s σ H x v vl vu lo hi sl Q I rx hs pl pu ⟨a, xs, ex, hx, fun w => ?_, fun _ p hp => q _ p (Same.new hp) (.of upd_same)⟩
  refine q H a (Same.refl H) ?_
  have e : cutV xs lo hi = xs := by
    unfold cutV
    rw [w.1, w.2, List.drop_zero, Nat.sub_zero, List.take_length]
  rw [e]
  exact hx
/-- (x,) * k -/
def rRepB (K : PySem.W.Frag) : R2 := fun x y H Q => ∃ l k z, x = .ref l ∧ y = .int k ∧ SqT K H l [z] ∧ 2 ≤ k ∧ k ≤ 1000 ∧ ∀ H' c, Same H H' → SqT K H' c (List.replicate k.toNat z) → Q (.ref c) H'
theorem op_repB : OpR X (binaryOp .Mult) (rRepB X.K) := by
  intro pins s σ H x y v u Q I rx ry ⟨l, k, z, ex, ey, hl, h2, h3, q⟩
  refine op_repT pins s σ H x y v u Q I rx ry ⟨l, k, [z], ex, ey, hl, by simp, h2, h3, by simp, fun p hp => q _ p (Same.new hp) ?_⟩
  have e : (List.replicate k.toNat [z]).flatten = List.replicate k.toNat z := by
    induction k.toNat with
    | zero => rfl
    | succ n ih => rw [List.replicate_succ, List.flatten_cons, ih, List.replicate_succ]; rfl
  rw [e]
  exact .of upd_same
end
theorem cut_to (xs : List V) (k : Nat) : cutV xs none (some (k : Int)) = xs.take k := by
  unfold cutV
  rw [HT.sIx_none, HT.sIx_nat, List.drop_zero, Nat.sub_zero]
  by_cases h : k ≤ xs.length
  · rw [Nat.min_eq_left h]
  · rw [Nat.min_eq_right (by omega), List.take_length, List.take_of_length_le (by omega)]
theorem cut_from (xs : List V) (k : Nat) : cutV xs (some (k : Int)) none = xs.drop k := by
  unfold cutV
  rw [HT.sIx_none, HT.sIx_nat]
  by_cases h : k ≤ xs.length
  · rw [Nat.min_eq_left h, List.take_of_length_le (by rw [List.length_drop]; omega)]
  · rw [Nat.min_eq_right (by omega), List.drop_of_length_le (Nat.le_refl _), List.drop_of_length_le (by omega), List.take_nil]
theorem DqAll.rep {K : PySem.W.Frag} {p : Addr} {H : Hp} {v : V} {d : PyData} (h : Dq K p H v d) : ∀ n : Nat, DqAll K p H (List.replicate n v) (List.replicate n d)
  | 0 => .nil
  | n + 1 => .cons h (DqAll.rep h n)
/-! ### small data made of small data -/
theorem showAll {b k : Nat} : ∀ {ds : List PyData}, (∀ d ∈ ds, Small b k d) → PyData.showableAll ds = true ∧ PyData.depthAll ds ≤ k ∧ wzAll ds ≤ ds.length * (b + 2)
  | [], _ => ⟨rfl, Nat.zero_le _, Nat.zero_le _⟩
  | d :: ds, h => by
    obtain ⟨h1, h2, h3⟩ := h d (List.mem_cons_self ..)
    obtain ⟨a1, a2, a3⟩ := showAll fun e he => h e (List.mem_cons_of_mem _ he)
    refine ⟨by simp [PyData.showableAll, h1, a1], ?_, ?_⟩
    · simp only [PyData.depthAll]; omega
    · simp only [wzAll, List.length_cons]
      have e : (ds.length + 1) * (b + 2) = ds.length * (b + 2) + (b + 2) := Nat.succ_mul _ _
      omega
theorem Small.tuple {b k m : Nat} {ds : List PyData} (h : ∀ d ∈ ds, Small b k d) (hl : ds.length ≤ m) : Small (m * (b + 2) + 3) (k + 1) (.tuple ds) := by
  obtain ⟨a1, a2, a3⟩ := showAll h
  have e : ds.length * (b + 2) ≤ m * (b + 2) := Nat.mul_le_mul_right _ hl
  refine ⟨by simpa [PyData.showable] using a1, ?_, ?_⟩
  · simp only [PyData.depth]; omega
  · simp only [wz]; omega
theorem Small.list {b k m : Nat} {ds : List PyData} (h : ∀ d ∈ ds, Small b k d) (hl : ds.length ≤ m) : Small (m * (b + 2) + 3) (k + 1) (.list ds) := by
  obtain ⟨a1, a2, a3⟩ := showAll h
  have e : ds.length * (b + 2) ≤ m * (b + 2) := Nat.mul_le_mul_right _ hl
  refine ⟨by simpa [PyData.showable] using a1, ?_, ?_⟩
  · simp only [PyData.depth]; omega
  · simp only [wz]; omega
theorem log_small {i : Int} (h0 : -(2 ^ 100) < i) (h1 : i < 2 ^ 100) : i.natAbs.log2 < 100 := by
  have h : i.natAbs < 2 ^ 100 := by omega
  by_cases e : i.natAbs = 0
  · rw [e]; decide
  · exact (Nat.log2_lt e).mpr h
theorem Small.int {i : Int} (h0 : -(2 ^ 100) < i) (h1 : i < 2 ^ 100) : Small 104 0 (.int i) := by
  have h := log_small h0 h1
  refine ⟨by simp [PyData.showable]; omega, Nat.zero_le _, ?_⟩
  simp only [wz]; omega
theorem Small.ints {w : Int} {ns : List Int} (h : ∀ x ∈ ns, 1 ≤ x ∧ x ≤ w) (hw : w ≤ 1000000001) : ∀ d ∈ ns.map PyData.int, Small 104 0 d := fun d hd => by
  obtain ⟨x, hx, rfl⟩ := List.mem_map.mp hd
  have := h x hx
  exact Small.int (by omega) (by omega)
end SL
namespace SL
open PySem PySem.Spec PyProof.Rows L2
theorem Kp.free {p a : Addr} {H H' : Hp} (k : Kp p H H') (n : a ≠ p) (h : H' a = none) : H a = none := by
  match e : H a with
  | none => rfl
  | some o =>
    rw [k a o n e] at h
    exact nomatch h
theorem Kp.set {p a : Addr} {H H' : Hp} {o : HO} (k : Kp p H H') (h : H a = none) : Kp p H (upd H' a o) := fun b u n e => by
  rw [upd_ne (ne_of_none e h)]
  exact k b u n e
theorem Same.set {a : Addr} {H H' : Hp} {o : HO} (k : Same H H') (h : H a = none) : Same H (upd H' a o) := fun b u e => by
  rw [upd_ne (ne_of_none e h)]
  exact k b u e
theorem PotAt.set {p a : Addr} {H : Hp} {n : Nat} {o : HO} (h : PotAt H p n) (ne : a ≠ p) : PotAt (upd H a o) p n := by
  obtain ⟨x, y, z, e, r⟩ := h
  exact ⟨x, y, z, by rw [upd_ne ne.symm]; exact e, r⟩
theorem Cr.set {K : PySem.W.Frag} {p a : Addr} {H0 H : Hp} {n : Nat} {o : HO} (c : Cr K p H0 H n [] []) (h : H0 a = none) (ne : a ≠ p) : Cr K p H0 (upd H a o) n [] [] := ⟨c.k.set h, c.pot.set ne, .nil⟩
theorem Cr.free {K : PySem.W.Frag} {p a : Addr} {H0 H : Hp} {n : Nat} {vs : List V} {ds : List PyData} (c : Cr K p H0 H n vs ds) (h : H a = none) : H0 a = none := c.k.free (ne_pot c.pot h) h
theorem Cr.ne {K : PySem.W.Frag} {p a : Addr} {H0 H : Hp} {n : Nat} {vs : List V} {ds : List PyData} (c : Cr K p H0 H n vs ds) (h : H a = none) : a ≠ p := ne_pot c.pot h
/-- begun anew at the heap as it is -/
theorem Cr.here {K : PySem.W.Frag} {p : Addr} {H0 H : Hp} {n : Nat} {vs : List V} {ds : List PyData} (c : Cr K p H0 H n vs ds) : Cr K p H H n vs ds := ⟨Kp.refl, c.pot, c.all⟩
theorem Cr.get {K : PySem.W.Frag} {p a : Addr} {H0 H : Hp} {n : Nat} {vs : List V} {ds : List PyData} {o : HO} (c : Cr K p H0 H n vs ds) (ne : a ≠ p) (h : H0 a = some o) : H a = some o := c.k a o ne h
theorem Cr.tupAt {K : PySem.W.Frag} {p a : Addr} {H0 H : Hp} {n m : Nat} {vs : List V} {ds : List PyData} {xs : List V} (c : Cr K p H0 H n vs ds) (hp : PotAt H0 p m) (h : SqT K H0 a xs) : SqT K H a xs := c.k.tup hp h
theorem Cr.mono {K : PySem.W.Frag} {p : Addr} {H0 H : Hp} {n m : Nat} {vs : List V} {ds : List PyData} (c : Cr K p H0 H n vs ds) (h : n ≤ m) : Cr K p H0 H m vs ds := ⟨c.k, c.pot.mono h, c.all⟩
theorem Cr.tupS {K : PySem.W.Frag} {p a : Addr} {H0 H H' : Hp} {n : Nat} {vs xs : List V} {ds es : List PyData} (c : Cr K p H0 H n vs ds) (k : Same H H') (hS : SqT K H' a xs) (h : DqAll K p H xs es) : Cr K p H0 H' n (.ref a :: vs) (.tuple es :: ds) :=
  (c.same k).push (.tup hS (h.keep (.same k) _))
/-! ### the text of a tuple of ints is a small text -/
def OkS (x : Str) : Prop := ∀ c ∈ x.cps.toList, c < 16 ^ 8
theorem okS_of (s : String) : OkS (Str.ofString s) := by
  intro c hc
  rw [Str.ofString_eq_toList] at hc
  obtain ⟨k, _, rfl⟩ := List.mem_map.mp (show c ∈ s.toList.map Char.toNat from hc)
  have h : k.toNat < 1114112 := by
    have hv := k.valid
    simp only [UInt32.isValidChar, Nat.isValidChar] at hv
    show k.val.toNat < 1114112
    omega
  exact Nat.lt_of_lt_of_le h (by decide)
theorem OkS.app {x y : Str} (hx : OkS x) (hy : OkS y) : OkS (x ++ y) := by
  intro c hc
  have e : (x ++ y).cps.toList = x.cps.toList ++ y.cps.toList := by
    show (x.cps ++ y.cps).toList = _
    rw [Array.toList_append]
  rw [e] at hc
  exact (List.mem_append.mp hc).elim (hx c) (hy c)
theorem OkS.join {sep : Str} (hs : OkS sep) : ∀ {ts : List Str}, (∀ t ∈ ts, OkS t) → OkS (Str.join sep ts)
  | [], _ => fun c hc => by cases hc
  | [t], h => h t (List.mem_cons_self ..)
  | t :: u :: r, h => ((h t (List.mem_cons_self ..)).app hs).app (OkS.join hs fun v hv => h v (List.mem_cons_of_mem _ hv))
theorem shown_ints_ok (ns : List Int) : OkS (PyData.tuple (ns.map PyData.int)).shown := by
  simp only [PyData.shown]
  have h : ∀ t ∈ PyData.shownAll (ns.map PyData.int), OkS t := by
    induction ns with
    | nil => intro t ht; simp [PyData.shownAll] at ht
    | cons n ns ih =>
      intro t ht
      simp only [List.map_cons, PyData.shownAll, List.mem_cons] at ht
      rcases ht with rfl | ht
      · simp only [PyData.shown]
        exact okS_of _
      · exact ih t ht
  unfold tupleText
  refine OkS.app (OkS.app (okS_of _) (OkS.join (okS_of _) h)) ?_
  exact okS_of _
theorem Small.text {b : Nat} {ns : List Int} (h : wz (PyData.tuple (ns.map PyData.int)) ≤ b) : Small (10 * b + 2) 0 (.str (PyData.tuple (ns.map PyData.int)).shown) := by
  have h1 := StrLaws.reprText_len _ (shown_ints_ok ns)
  have h2 := shownz (PyData.tuple (ns.map PyData.int))
  refine ⟨rfl, Nat.zero_le _, ?_⟩
  show (reprText _).length ≤ _
  omega
def spRows (K : PySem.W.Frag) : Sp := fun vs H Q _ => ∃ (p : Addr) (m : Int) (n : Nat), vs = [.ref p, .int m] ∧ PotAt H p n ∧ n < 800000 ∧ 1 ≤ m ∧ m ≤ 1000000000 ∧
  ∀ H' l xs ds, Kp p H H' → PotAt H' p (n + 60) → H' l = some (.lst xs) → l ≠ p → DqAll K p H' xs ds → (∀ d ∈ ds, Small 50000 15 d) → Q (.ref l) H'
end SL
namespace SL
open PySem PySem.Spec PyProof.Rows L2
/-- what a law's turn is worth: it says True, and draws at most so often -/
def spRight (b : Nat) : Sp := fun vs H Q _ => ∃ (p : Addr) (n : Nat), vs = [.ref p] ∧ PotAt H p n ∧ n < 500000 ∧ ∀ H', Kp p H H' → PotAt H' p (n + b) → Q (.bl true) H'
def spLaw (K : PySem.W.Frag) : Sp := fun vs H Q _ => ∃ (a : Addr) (ns : List Int), vs = [.ref a] ∧ SqL K H a (ns.map V.int) ∧ ns.length ≤ 63 ∧ ∀ H', Q (.bl true) H'
theorem seq_past {K : PySem.W.Frag} {H H2 H' : Hp} {a p : Addr} {xs : List V} (h : SqL K H a xs) (hp : H p = none) (sm : Same H H2) (k : Kp p H2 H') : SqL K H' a xs := by
  rcases h with (h | ⟨o, h⟩) | h
  · exact .inl (.inl (k _ _ (ne_of_none h hp) (sm _ _ h)))
  · exact .inl (.inr ⟨o, k _ _ (ne_of_none h hp) (sm _ _ h)⟩)
  · exact .inr h
theorem rep_true (i : Nat) : ((List.replicate i true).all id) = true := by
  rw [List.all_eq_true]
  intro x hx
  rw [List.eq_of_mem_replicate hx]
  rfl
end SL

set_option Elab.async false
set_option linter.all false
set_option maxRecDepth 100000
/-! Own layer 5: where defs and constants of the text stand. -/
namespace SL
open PySem PySem.Spec PyProof.Rows L2
theorem stands_mk {K : PySem.W.Frag} {mg : Str → Option Value} {h : Heap} {x : Str} {st : Stmt} {f : Addr} {oc : Value} {od an : Option Addr} {osl : Array (Option Value)} {kV doc pm cdv ct : Value} (X : K.In h) (G : h.Ns mainGlobals mg)
    (a : PySem.W.nsIn K mainGlobals x = some (some (.ref f))) (l : K.lookup f = some ⟨oc, od, .func (PySem.W.fnOf x x (defArgs st) (defBody st) (defScope st) .none kV doc pm an cdv ct), osl⟩) (c : PySem.W.codeIn K cdv x = true) (k : PySem.W.keepIn K (.ref f) = true) : Stands K mg x st :=
  ⟨f, _, fun_mk l c k, PySem.W.mg_of X G a⟩
/-- the law itself: its one argument -/
theorem law_fd {K : PySem.W.Frag} {mg : Str → Option Value} {st : Stmt} {fa : Addr} {x : Str} (S : Stands K mg "law" st) (hfa : mg "law" = some (.ref fa))
    (hbind : ∀ (kV doc pm : Value) (an : Option Addr) (cdv ct u : Value), bindArgs (PySem.W.fnOf "law" "law" (defArgs st) (defBody st) (defScope st) .none kV doc pm an cdv ct) ⟨[u], []⟩ = pure [(x, u)]) :
    ∃ fd : FuncData, Fun K "law" "law" st fa fd ∧ ∀ (s : Shared) (u : Value), BindsTo s fd ⟨[u], []⟩ [(x, u)] := by
  obtain ⟨f, fd, F, hm⟩ := S
  have e : f = fa := by
    have z := hm.symm.trans hfa
    injection z with z
    injection z
  subst e
  refine ⟨fd, F, fun s u => ?_⟩
  obtain ⟨oc, od, kV, doc, pm, an, cdv, ct, osl, rfl, lk, hcd⟩ := F.ex
  exact .of_eq (hbind kV doc pm an cdv ct u)
end SL

set_option Elab.async false
set_option linter.all false
set_option maxRecDepth 100000
set_option maxHeartbeats 4000000
namespace Lk
open PySem PySem.Spec PyProof.Rows L2 SL
/-! ### the text -/
def topS (i : Nat) : Stmt := PySem.Challenge.pw_settledlines_k01_widths_and_texts_of_any.main.body.getD i (.Pass ⟨0, 0, 0, 0⟩)

abbrev s__law_pot : Stmt := topS 8
theorem sc__law_pot : FnScope ["_law_script", "_law_spot", "_law_cell", "_law_own"] ["_law_script", "_law_spot"] (defScope s__law_pot) := ⟨rfl, rfl, rfl, by decide +kernel, rfl, by decide +kernel, by decide +kernel⟩

abbrev s__law_take : Stmt := topS 9
theorem sc__law_take : FnScope ["_law_pot_here", "_law_upto", "_law_prime", "_law_mixed", "_law_digit"] ["_law_pot_here", "_law_upto"] (defScope s__law_take) := ⟨rfl, rfl, rfl, by decide +kernel, rfl, by decide +kernel, by decide +kernel⟩

abbrev s__law_of : Stmt := topS 10
theorem sc__law_of : FnScope ["_law_pot_here", "_law_some"] ["_law_pot_here", "_law_some"] (defScope s__law_of) := ⟨rfl, rfl, rfl, by decide +kernel, rfl, by decide +kernel, by decide +kernel⟩

section
variable {P : Program} {w : World} {K : PySem.W.Frag} {mg : Str → Option Value} {base : Heap}
theorem ok_pot (S : Stands K mg "_law_pot" s__law_pot) (B : Blt mg) : Def P w K mg base CX0 1 "_law_pot" s__law_pot ["_law_script", "_law_spot"] (spPot K) := by
  obtain ⟨f, fd, F, hm⟩ := S
  refine ⟨f, fd, F, hm, okG0 F sc__law_pot (fun vs H Q E h => ?_) (fun cdv A outer s H vs Q E hg0 hr h => ?_)⟩
  · obtain ⟨l, ns, j, rfl, _⟩ := h
    rfl
  · obtain ⟨l, ns, j, rfl, hS, hl, hj, q⟩ := h
    refine ⟨_, (pss_cons (ps_set (i := 2) sc__law_pot.nd rfl (Or.inl rfl) (pe_ifExp (pt_cmpR op_lt (pv 1) (pe_callB call_len_seq (by rfl) B.len PySem.boot_len (pa_cons (pv 0) pa_nil)) (nomark _)) (pe_ix ix_list (pv 0) (pv 1) (fun _ _ => rfl)) (pe_op op_add pe_int (pe_op op_mul pe_int (pv 1)))))
      (pss_cons (ps_set (i := 3) sc__law_pot.nd rfl (Or.inl rfl) (pe_op op_mul (pe_op op_mod (pe_callB call_abs (by rfl) B.abs PyProof.Rows.boot_abs (pa_cons (pv 2) pa_nil)) (pe_op op_powW (pe_op op_pow pe_int pe_int) pe_int)) (pe_callTy call_int1 (by rfl) B.int PyProof.Rows.boot_int (pa_cons (pe_cmpR op_ge (pe_callB call_abs (by rfl) B.abs PyProof.Rows.boot_abs (pa_cons (pv 2) pa_nil)) (pe_op op_pow pe_int pe_int) (nomark _)) pa_nil))))
      (pss_one (ps_ret (pe_lst (pa_cons (pv 3) (pa_cons (pe_op op_mod (pe_op op_add (pe_op op_add (pe_op op_mul (pe_op op_mod (pv 2) pe_int) pe_int) (pe_op op_mul (pe_op op_mul pe_int (pv 1)) (pv 1))) pe_int) pe_int) (pa_cons pe_int pa_nil)))))))), ?_⟩
    refine ⟨_, rfl, _, rfl, l, _, rfl, .inl hS, _, _, rfl, rfl, _, rfl, ?_⟩
    refine ite2 (fun hlt => ?a) (fun hlt => ?b)
    case' a =>
      have hlt2 : j < ns.length := by
        have z := of_decide_eq_true hlt
        rw [List.length_map] at z
        omega
      refine ⟨_, rfl, _, rfl, l, _, _, .int ns[j], rfl, rfl, hS, atI_nat (by rw [List.getElem?_map, List.getElem?_eq_getElem hlt2]; rfl), ?_⟩
      generalize ns[j] = c
    case' b =>
      refine ⟨_, rfl, _, _, rfl, rfl, .inl ⟨by decide, by decide⟩, _, _, rfl, rfl, ?_⟩
      dsimp only
      generalize (7 : Int) + 11 * (j : Int) = c
    all_goals
      refine ⟨_, rfl, c, rfl, _, _, rfl, rfl, ⟨by decide, by decide, by decide⟩, _, _, rfl, rfl, ⟨by decide, by decide +kernel⟩, _, _, rfl, rfl, (by show (0 : Int) < _; decide +kernel), ?_⟩
      refine ⟨_, rfl, c, rfl, _, _, rfl, rfl, ⟨by decide, by decide, by decide⟩, _, _, rfl, rfl, .inr ⟨_, rfl, ?_⟩⟩
      refine ⟨_, _, rfl, rfl, .inr ?_, ?_⟩
      · exact small_bit _
      refine ⟨_, rfl, _, rfl, _, _, rfl, rfl, (by show (0 : Int) < _; decide), _, _, rfl, rfl, .inr ⟨by decide, by decide⟩, _, rfl, _, _, rfl, rfl, .inl ⟨by decide, by decide⟩, _, rfl, _, _, rfl, rfl, .inr ⟨by omega, by omega⟩, _, _, rfl, rfl, _, _, rfl, rfl, _, _, rfl, rfl, (by show (0 : Int) < _; decide), ?_⟩
      refine ⟨by show 3 ≤ sizeLine; decide, fun p hp => ?_⟩
      refine q _ p (Same.new hp) hp ⟨_, _, 0, upd_same, ?_, ?_, ?_, ?_, by decide, by decide⟩
      · exact pot_own0 _ _
      · exact pot_own1 _ _
      · exact Int.emod_nonneg _ (by decide)
      · exact Int.lt_trans (Int.emod_lt_of_pos _ (by decide)) (by decide)
theorem ok_take (S : Stands K mg "_law_take" s__law_take) (B : Blt mg) : Def P w K mg base CX0 1 "_law_take" s__law_take ["_law_pot_here", "_law_upto"] spTake := by
  obtain ⟨f, fd, F, hm⟩ := S
  refine ⟨f, fd, F, hm, okG0 F sc__law_take (fun vs H Q E h => ?_) (fun cdv A outer s H vs Q E hg0 hr h => ?_)⟩
  · obtain ⟨p, u, n, rfl, _⟩ := h
    rfl
  · obtain ⟨p, u, n, rfl, ⟨a, b, c, hp, a0, a1, b0, b1, c0, c1⟩, hn, hu, hu2, q⟩ := h
    refine ⟨_, (pss_cons (ps_if (pt_cmpR op_gt (pe_ix ix_list (pv 0) pe_int (fun _ _ => rfl)) pe_int (nomark _)) (pss_cons (ps_set (i := 4) sc__law_take.nd rfl (Or.inl rfl) (pe_op op_mod (pe_ix ix_list (pv 0) pe_int (fun _ _ => rfl)) (pv 1)))
      (pss_cons (ps_asg (pe_op op_fdivW (pe_ix ix_list (pv 0) pe_int (fun _ _ => rfl)) (pv 1)) (pg_sub (pv 0) pe_int set_list))
      (pss_one (ps_ret (pv 4))))) pss_nil)
      (pss_cons (ps_asg (pe_op op_add (pe_ix ix_list (pv 0) pe_int (fun _ _ => rfl)) pe_int) (pg_sub (pv 0) pe_int set_list))
      (pss_cons (ps_set (i := 2) sc__law_take.nd rfl (Or.inl rfl) (pe_ix ix_list (pe_lst (pa_cons pe_int (pa_cons pe_int (pa_cons pe_int (pa_cons pe_int (pa_cons pe_int pa_nil)))))) (pe_op op_mod (pe_ix ix_list (pv 0) pe_int (fun _ _ => rfl)) pe_int) (fun _ _ => rfl)))
      (pss_cons (ps_set (i := 3) sc__law_take.nd rfl (Or.inl rfl) (pe_op op_mod (pe_op op_pow (pe_op op_add (pe_op op_add (pe_ix ix_list (pv 0) pe_int (fun _ _ => rfl)) (pe_op op_mul (pe_op op_mul pe_int (pe_ix ix_list (pv 0) pe_int (fun _ _ => rfl))) (pe_ix ix_list (pv 0) pe_int (fun _ _ => rfl)))) pe_int) pe_int) (pv 2)))
      (pss_one (ps_ret (pe_op op_mod (pe_op op_fdiv (pe_op op_mod (pe_op op_mul (pv 3) (pe_op op_add (pe_op op_mod (pv 3) pe_int) (pe_op op_mul pe_int (pe_ix ix_list (pv 0) pe_int (fun _ _ => rfl))))) pe_int) pe_int) (pv 1)))))))), ?_⟩
    -- if pot[0] > 0
    refine ⟨_, rfl, p, _, 0, .int a, rfl, rfl, SqL.of hp, rfl, _, _, rfl, rfl, _, rfl, ite2 (fun ha => ?_) (fun ha => ?_)⟩
    · have ha := of_decide_eq_true ha
      refine ⟨_, rfl, p, _, 0, .int a, rfl, rfl, SqL.of hp, rfl, _, rfl, _, _, rfl, rfl, hu, ?_⟩
      refine ⟨_, rfl, p, _, 0, .int a, rfl, rfl, SqL.of hp, rfl, _, rfl, _, _, rfl, rfl, wide_div hu (b := 200) (by omega) (by decide) (by decide), ?_⟩
      refine ⟨_, rfl, p, _, 0, 0, rfl, rfl, hp, rfl, ?_⟩
      refine ⟨_, rfl, ?_⟩
      refine q _ _ Kp.self ⟨a / u, b, c, upd_same, Int.ediv_nonneg a0 (by omega), ?_, b0, b1, c0, by omega⟩ (Int.emod_nonneg _ (by omega)) (Int.emod_lt_of_pos _ hu)
      exact Int.lt_of_le_of_lt (Int.ediv_le_self u a0) a1
    · refine ⟨_, rfl, p, _, 2, .int c, rfl, rfl, SqL.of hp, rfl, _, _, rfl, rfl, ?_⟩
      refine ⟨_, rfl, p, _, 2, 2, rfl, rfl, hp, rfl, ?_⟩
      have hp2 : upd H p (.lst [.int a, .int b, .int (c + 1)]) p = some (.lst [.int a, .int b, .int (c + 1)]) := upd_same
      refine ⟨by show 5 ≤ sizeLine; decide, fun l hl => ?_⟩
      have nlp : p ≠ l := ne_of_none hp2 hl
      have hp3 : upd (upd H p (.lst [.int a, .int b, .int (c + 1)])) l (.lst [.int 2147483647, .int 2147483629, .int 2147483587, .int 2147483579, .int 2147483563]) p = some (.lst [.int a, .int b, .int (c + 1)]) := by rw [upd_ne nlp]; exact hp2
      obtain ⟨pr, hpr, hpr1, hpr2⟩ := prime_at (c + 1)
      refine ⟨_, rfl, p, _, 2, .int (c + 1), rfl, rfl, SqL.of hp3, rfl, _, _, rfl, rfl, (by show (0 : Int) < _; decide), l, _, _, .int pr, rfl, rfl, SqL.of upd_same, hpr, ?_⟩
      refine ⟨_, rfl, p, _, 1, .int b, rfl, rfl, SqL.of hp3, rfl, _, rfl, p, _, 2, .int (c + 1), rfl, rfl, SqL.of hp3, rfl, _, _, rfl, rfl, .inl ⟨by decide, by decide⟩, ?_⟩
      refine ⟨_, rfl, p, _, 2, .int (c + 1), rfl, rfl, SqL.of hp3, rfl, _, _, rfl, rfl, .inr ⟨by omega, by omega⟩, _, _, rfl, rfl, _, _, rfl, rfl, _, _, rfl, rfl, ⟨by decide, by decide, take_base (by omega) (by omega) b0 b1⟩, ?_⟩
      refine ⟨_, rfl, _, _, rfl, rfl, by omega, ?_⟩
      have m0 := Int.emod_nonneg ((b + 65537 * (c + 1) * (c + 1) + 41) ^ Int.toNat 3) (show pr ≠ 0 by omega)
      have m1 := Int.emod_lt_of_pos ((b + 65537 * (c + 1) * (c + 1) + 41) ^ Int.toNat 3) (show 0 < pr by omega)
      dsimp only
      generalize (b + 65537 * (c + 1) * (c + 1) + 41) ^ Int.toNat 3 % pr = mx at m0 m1 ⊢
      refine ⟨_, rfl, _, rfl, _, _, rfl, rfl, (by show (0 : Int) < _; decide), _, rfl, p, _, 2, .int (c + 1), rfl, rfl, SqL.of hp3, rfl, _, _, rfl, rfl, .inl ⟨by decide, by decide⟩, _, _, rfl, rfl, _, _, rfl, rfl, .inl ⟨by omega, by omega⟩, _, _, rfl, rfl, (by show (0 : Int) < _; decide), _, _, rfl, rfl, ⟨by decide, by decide⟩, _, rfl, _, _, rfl, rfl, hu, ?_⟩
      have kk : Kp p H (upd (upd H p (.lst [.int a, .int b, .int (c + 1)])) l (.lst [.int 2147483647, .int 2147483629, .int 2147483587, .int 2147483579, .int 2147483563])) := Kp.self.trans (Kp.new hl)
      exact q _ _ kk ⟨a, b, c + 1, hp3, a0, a1, b0, b1, by omega, by omega⟩ (Int.emod_nonneg _ (by omega)) (Int.emod_lt_of_pos _ hu)
theorem ok_of (S : Stands K mg "_law_of" s__law_of) (B : Blt mg) (D__law_take : Def P w K mg base CX0 1 "_law_take" s__law_take ["_law_pot_here", "_law_upto"] spTake) : Def P w K mg base CX0 2 "_law_of" s__law_of ["_law_pot_here", "_law_some"] (spOf K) := by
  obtain ⟨f, fd, F, hm⟩ := S
  refine ⟨f, fd, F, hm, okG0 F sc__law_of (fun vs H Q E h => ?_) (fun cdv A outer s H vs Q E hg hr h => ?_)⟩
  · obtain ⟨p, l, xs, n, rfl, _⟩ := h
    rfl
  · obtain ⟨p, l, xs, n, rfl, hp, hn, hS, hlp, h0, h1, q⟩ := h
    refine ⟨_, (pss_one (ps_ret (pe_ix ix_list (pv 1) (pe_callG D__law_take hg (hr.mono (by decide)) (by rfl) pass0 (fun _ _ _ _ _ _ us hl => match us, hl with | [_, _], _ => rfl) (pa_cons (pv 0) (pa_cons (pe_callB call_len_seq (by rfl) B.len PySem.boot_len (pa_cons (pv 1) pa_nil)) pa_nil))) (fun _ _ => rfl)))), ?_⟩
    refine ⟨_, rfl, _, rfl, _, rfl, l, _, rfl, .inl hS, p, _, n, rfl, hp, hn, by omega, by omega, fun H1 r k1 hp1 r0 r1 => ?_⟩
    obtain ⟨i, rfl⟩ := Int.eq_ofNat_of_zero_le r0
    have hi : i < xs.length := by omega
    refine ⟨l, _, _, xs[i], rfl, rfl, k1.seq hlp hS, atI_nat (List.getElem?_eq_getElem hi), ?_⟩
    exact q _ i _ k1 hp1 (List.getElem?_eq_getElem hi)
end

abbrev s__law_odd : Stmt := topS 11
theorem sc__law_odd : FnScope ["_law_pot_here", "_law_some", "_law_found", "_law_turn"] ["_law_pot_here"] (defScope s__law_odd) := ⟨rfl, rfl, rfl, by decide +kernel, rfl, by decide +kernel, by decide +kernel⟩

section
variable {P : Program} {w : World} {K : PySem.W.Frag} {mg : Str → Option Value} {base : Heap}
theorem ok_odd (S : Stands K mg "_law_odd" s__law_odd) (B : Blt mg) (D__law_of : Def P w K mg base CX0 2 "_law_of" s__law_of ["_law_pot_here", "_law_some"] (spOf K)) : Def P w K mg base CX0 3 "_law_odd" s__law_odd ["_law_pot_here"] (spOdd K) := by
  obtain ⟨f, fd, F, hm⟩ := S
  refine ⟨f, fd, F, hm, okG0 F sc__law_odd (fun vs H Q E h => ?_) (fun cdv A outer s H vs Q E hg hr h => ?_)⟩
  · obtain ⟨p, n, rfl, _⟩ := h
    rfl
  · obtain ⟨p, n, rfl, hp, hn, q⟩ := h
    refine ⟨_, (pss_cons (ps_set (i := 1) sc__law_odd.nd rfl (Or.inl rfl) (pe_lst (pa_cons pe_non (pa_cons pe_bl (pa_cons pe_bl (pa_cons (pe_un un_neg pe_int) (pa_cons pe_int (pa_cons pe_int (pa_cons (pe_op op_pow pe_int pe_int) (pa_cons pe_str (pa_cons pe_str (pa_cons pe_str (pa_cons (pe_tup pa_nil) (pa_cons (pe_lstS pa_nil) (pa_cons pe_dnewK (pa_cons (pe_tup (pa_cons pe_int pa_nil)) (pa_cons (pe_lstS (pa_cons pe_int pa_nil)) (pa_cons (pe_tup (pa_cons pe_int (pa_cons pe_int pa_nil))) (pa_cons (pe_tup (pa_cons pe_bl pa_nil)) (pa_cons (pe_tup (pa_cons (pe_tup (pa_cons pe_int pa_nil)) pa_nil)) pa_nil))))))))))))))))))))
      (pss_cons (ps_set (i := 2) sc__law_odd.nd rfl (Or.inl rfl) (pe_callG D__law_of hg (hr.mono (by decide)) (by rfl) pass0 (fun _ _ _ _ _ _ us hl => match us, hl with | [_, _], _ => rfl) (pa_cons (pv 0) (pa_cons (pv 1) pa_nil))))
      (pss_cons (ps_for PassesOwn.never rfl (pi_range1 (by rfl) B.range (pa_cons (pe_callG D__law_of hg (hr.mono (by decide)) (by rfl) pass0 (fun _ _ _ _ _ _ us hl => match us, hl with | [_, _], _ => rfl) (pa_cons (pv 0) (pa_cons (pe_lst (pa_cons pe_int (pa_cons pe_int (pa_cons pe_int (pa_cons pe_int (pa_cons pe_int (pa_cons pe_int pa_nil))))))) pa_nil))) pa_nil)) (pg_name (i := 3) sc__law_odd.nd rfl (Or.inl rfl)) (pss_one (ps_set (i := 2) sc__law_odd.nd rfl (Or.inl rfl) (pe_callG D__law_of hg (hr.mono (by decide)) (by rfl) pass0 (fun _ _ _ _ _ _ us hl => match us, hl with | [_, _], _ => rfl) (pa_cons (pv 0) (pa_cons (pe_lst (pa_cons (pe_tup (pa_cons (pv 2) pa_nil)) (pa_cons (pe_lstS (pa_cons (pv 2) pa_nil)) (pa_cons (pe_disp (pps_cons pe_str (pv 2) pps_nil) (by rfl) (by rfl) (fun z => by cases z) (by decide)) pa_nil)))) pa_nil))))))
      (pss_one (ps_ret (pv 2)))))), ?_⟩
    have one : 1 ≤ sizeLine := by decide
    have two : 2 ≤ sizeLine := by decide
    refine ⟨_, rfl, _, _, rfl, rfl, ⟨by decide, by decide, by decide⟩, Nat.zero_le _, fun a1 h1 => ⟨Nat.zero_le _, fun a2 h2 y2 => fun a3 h3 => ⟨one, fun a4 h4 => ⟨one, fun a5 h5 y5 => ⟨two, fun a6 h6 => ⟨one, fun a7 h7 => ⟨one, fun a8 h8 => ⟨one, fun a9 h9 => ⟨by show 18 ≤ sizeLine; decide, fun l hl => ?_⟩⟩⟩⟩⟩⟩⟩⟩⟩
    have c1 := (Cr.start (K := K) hp).tup h1 .nil
    have c2 := c1.lst h2 y2 .nil
    have c3 := c2.dic0 h3
    have c4 := c3.tup h4 (.cons (.int 0) .nil)
    have c5 := c4.lst h5 y5 (.cons (.int 1) .nil)
    have c6 := c5.tup h6 (.cons (.int 1) (.cons (.int 1) .nil))
    have c7 := c6.tup h7 (.cons (.bl true) .nil)
    have c8 := c7.tup h8 (.cons (.int 1) .nil)
    have c9 := c8.tup h9 (.cons c8.head .nil)
    have nlp : l ≠ p := ne_pot c9.pot hl
    have cl := c9.new (o := .lst [.non, .bl true, .bl false, .int (-1), .int 0, .int 1, .int (10 ^ Int.toNat 20), .str "", .str "1", .str "a", .ref a1, .ref a2, .ref a3, .ref a4, .ref a5, .ref a6, .ref a7, .ref a9]) hl
    refine ⟨_, rfl, _, rfl, p, l, _, n, rfl, cl.pot, by omega, SqL.of upd_same, nlp, (by show 0 < 18; decide), (by show 18 < 1000000; decide), fun H1 i x k1 hp1 hx => ?_⟩
    obtain ⟨d, hd, hs⟩ : ∃ d, Dq K p H1 x d ∧ Small 100 2 d := by
      have hk := cl.draw k1 hp1
      match hk.all with
      | .cons d9 (.cons _ (.cons d7 (.cons d6 (.cons d5 (.cons d4 (.cons d3 (.cons d2 (.cons d1 .nil)))))))) =>
        obtain ⟨d, e, hd⟩ := DqAll.get (.cons .non (.cons (.bl true) (.cons (.bl false) (.cons (.int (-1)) (.cons (.int 0) (.cons (.int 1) (.cons (.int (10 ^ Int.toNat 20)) (.cons (.str "") (.cons (.str "1") (.cons (.str "a") (.cons d1 (.cons d2 (.cons d3 (.cons d4 (.cons d5 (.cons d6 (.cons d7 (.cons d9 .nil)))))))))))))))))) hx
        exact ⟨d, hd, small_all (by decide +kernel) e⟩
    have ca : Cr K p H H1 (n + 1) [x] [d] := (cl.draw k1 hp1).bare.push hd
    -- for turn in range(of(pot, [0, 0, 0, 1, 2, 9]))
    refine ⟨_, rfl, by decide, fun l2 hl2 => ?_⟩
    have nlp2 : l2 ≠ p := ne_pot ca.pot hl2
    have cb := ca.new (o := .lst [.int 0, .int 0, .int 0, .int 1, .int 2, .int 9]) hl2
    refine ⟨p, l2, _, n + 1, rfl, cb.pot, by omega, SqL.of upd_same, nlp2, by decide, by decide, fun H2 i2 x2 k2 hp2 hx2 => ?_⟩
    have cc := cb.draw k2 hp2
    obtain ⟨j, hj, hj9⟩ : ∃ j : Nat, x2 = .int (j : Int) ∧ j ≤ 9 := by
      match i2, hx2 with
      | 0, e => exact ⟨0, (Option.some.inj e).symm, by decide⟩
      | 1, e => exact ⟨0, (Option.some.inj e).symm, by decide⟩
      | 2, e => exact ⟨0, (Option.some.inj e).symm, by decide⟩
      | 3, e => exact ⟨1, (Option.some.inj e).symm, by decide⟩
      | 4, e => exact ⟨2, (Option.some.inj e).symm, by decide⟩
      | 5, e => exact ⟨9, (Option.some.inj e).symm, by decide⟩
    subst hj
    refine ⟨(j : Int), rfl, by omega, by omega, ?_⟩
    rw [show ((j : Int).toNat) = j by omega]
    refine for_range (lo := 0) (n := j) (fun i σ H' => ∃ (v : V) (d : PyData) (y1 y3 : Option V), σ = [some (.ref p), y1, some v, y3] ∧ Cr K p H H' (n + 2 + i) [v] [d] ∧ Small (100 + 20 * i) (2 + i) d) ⟨x, d, _, _, rfl, cc, hs⟩ ?_ ?_
    · rintro i σ H' hi ⟨v, d, y1, y3, rfl, c, hsm⟩
      have hd := c.head
      refine ⟨_, rfl, _, rfl, one, fun b1 g1 => ⟨_, rfl, one, fun b2 g2 z2 => fun b3 g3 => ⟨_, rfl, upd_same, [(Sum.inr "a", v)], rfl, (by show 1 ≤ 15; decide), (by show 3 ≤ sizeLine; decide), fun b4 g4 => ?_⟩⟩⟩
      have e1 := c.tup g1 (.cons hd .nil)
      have e2 := e1.lst g2 z2 (.cons e1.drop.head .nil)
      have e3 := e2.dic1 (x := "a") g3 e2.drop.drop.head
      rw [upd_upd] at g4 ⊢
      have nb4 : b4 ≠ p := ne_pot e3.pot g4
      have e4 := e3.new (o := .lst [.ref b1, .ref b2, .ref b3]) g4
      refine ⟨p, b4, _, n + 2 + i, rfl, e4.pot, by omega, SqL.of upd_same, nb4, (by show 0 < 3; decide), (by show 3 < 1000000; decide), fun H3 i3 x3 k3 hp3 hx3 => ?_⟩
      have e5 := e4.draw k3 hp3
      match e5.all, i3, hx3 with
      | .cons q3 (.cons q2 (.cons q1 _)), 0, e => cases e; exact ⟨_, _, _, _, rfl, e5.bare.push q1, hsm.tup1⟩
      | .cons q3 (.cons q2 (.cons q1 _)), 1, e => cases e; exact ⟨_, _, _, _, rfl, e5.bare.push q2, hsm.lst1⟩
      | .cons q3 (.cons q2 (.cons q1 _)), 2, e => cases e; exact ⟨_, _, _, _, rfl, e5.bare.push q3, hsm.dic1⟩
    · rintro σ H' ⟨v, d, y1, y3, rfl, c, hsm⟩
      exact ⟨_, rfl, q H' v d c.k (c.pot.mono (by omega)) c.head (hsm.mono (by omega) (by omega))⟩
end

abbrev s__law_rows : Stmt := topS 14
theorem sc__law_rows : FnScope ["_law_pot_here", "_law_wide", "_law_row", "_law_bent", "_law_found", "_law_at", "_law_some", "_law_turn"] ["_law_pot_here", "_law_wide"] (defScope s__law_rows) := ⟨rfl, rfl, rfl, by decide +kernel, rfl, by decide +kernel, by decide +kernel⟩

section
variable {P : Program} {w : World} {K : PySem.W.Frag} {mg : Str → Option Value} {base : Heap}
theorem ok_rows (S : Stands K mg "_law_rows" s__law_rows) (B : Blt mg) (D__law_take : Def P w K mg base CX0 1 "_law_take" s__law_take ["_law_pot_here", "_law_upto"] spTake) (D__law_of : Def P w K mg base CX0 2 "_law_of" s__law_of ["_law_pot_here", "_law_some"] (spOf K)) (D__law_odd : Def P w K mg base CX0 3 "_law_odd" s__law_odd ["_law_pot_here"] (spOdd K)) :
    Def P w K mg base CX0 4 "_law_rows" s__law_rows ["_law_pot_here", "_law_wide"] (spRows K) := by
  obtain ⟨f, fd, F, hm⟩ := S
  refine ⟨f, fd, F, hm, okG0 F sc__law_rows (fun vs H Q E h => ?_) (fun cdv A outer s H vs Q E hg hr h => ?_)⟩
  · obtain ⟨p, m, n, rfl, _⟩ := h
    rfl
  · obtain ⟨p, m, n, rfl, hp, hn, hm0, hm1, q⟩ := h
    have hu := hr.units
    refine ⟨_, (pss_cons (ps_set (i := 2) sc__law_rows.nd rfl (Or.inl rfl) (pe_callTy call_tuple_of (by rfl) B.tuple PyProof.Rows.boot_tuple (pa_cons (pe_lc (own := [("_law_turn", 7)]) (g := gName 7) (tt := tYes) rfl sc__law_rows.nd (pi_range1 (by rfl) B.range (pa_cons (pe_callG D__law_take hg (hr.mono (by decide)) (by rfl) pass0 (fun _ _ _ _ _ _ us hl => match us, hl with | [_, _], _ => rfl) (pa_cons (pv 0) (pa_cons pe_int pa_nil))) pa_nil)) (blkOk_by (own := [("_law_turn", 7)]) (N := ["_law_pot_here", "_law_wide", "_law_row", "_law_bent", "_law_found", "_law_at", "_law_some", "_law_turn"]) (sc := defScope s__law_rows) (by decide +kernel)) (fun _ _ _ _ _ => (pg_name (i := 7) sc__law_rows.nd rfl (Or.inl rfl))) (fun _ _ _ _ _ => pts_nil) (fun _ _ _ _ _ => (pe_op op_add pe_int (pe_callG D__law_take hg (hr.mono (by decide)) (by rfl) pass0 (fun _ _ _ _ _ _ us hl => match us, hl with | [_, _], _ => rfl) (pa_cons (pv 0) (pa_cons (pv 1) pa_nil)))))) pa_nil)))
      (pss_cons (ps_par (i := 5) (j := 6) (by rfl) sc__law_rows.nd rfl rfl (by decide) rfl rfl (pa_cons (pe_callG D__law_take hg (hr.mono (by decide)) (by rfl) pass0 (fun _ _ _ _ _ _ us hl => match us, hl with | [_, _], _ => rfl) (pa_cons (pv 0) (pa_cons (pe_op op_add (pe_callB call_len_seq (by rfl) B.len PySem.boot_len (pa_cons (pv 2) pa_nil)) pe_int) pa_nil))) (pa_cons (pe_lst (pa_cons pe_int (pa_cons (pe_un un_neg pe_int) (pa_cons (pv 1) (pa_cons (pe_op op_add (pv 1) pe_int) (pa_cons pe_bl (pa_cons pe_str (pa_cons pe_non (pa_cons pe_int (pa_cons (pe_callG D__law_odd hg (hr.mono (by decide)) (by rfl) pass0 (fun _ _ _ _ _ _ us hl => match us, hl with | [_], _ => rfl) (pa_cons (pv 0) pa_nil)) pa_nil)))))))))) pa_nil)) (by rfl))
      (pss_cons (ps_set (i := 3) sc__law_rows.nd rfl (Or.inl rfl) (pe_callG D__law_of hg (hr.mono (by decide)) (by rfl) pass0 (fun _ _ _ _ _ _ us hl => match us, hl with | [_, _], _ => rfl) (pa_cons (pv 0) (pa_cons (pv 6) pa_nil))))
      (pss_cons (ps_set (i := 4) sc__law_rows.nd rfl (Or.inl rfl) (pe_lst (pa_cons (pv 2) (pa_cons (pe_callTy call_listS (by rfl) B.list PyProof.Rows.boot_list (pa_cons (pv 2) pa_nil)) (pa_cons (pe_op op_catB (pe_op op_catB (pe_slice sl_tupB (pv 2) po_none (po_some (pv 5))) (pe_tup (pa_cons (pv 3) pa_nil))) (pe_slice sl_tupB (pv 2) (po_some (pv 5)) po_none)) pa_nil)))))
      (pss_cons (ps_set (i := 4) sc__law_rows.nd rfl (Or.inl rfl) (pe_op op_cat (pv 4) (pe_lst (pa_cons (pe_tup (pa_cons (pv 2) pa_nil)) (pa_cons (pe_lstS (pa_cons (pv 2) pa_nil)) (pa_cons (pe_op op_catB (pv 2) (pe_tup (pa_cons (pe_lstS pa_nil) pa_nil))) (pa_cons (pe_op op_repB (pe_tup (pa_cons (pv 1) pa_nil)) pe_int) pa_nil)))))))
      (pss_cons (ps_set (i := 4) sc__law_rows.nd rfl (Or.inl rfl) (pe_op op_cat (pv 4) (pe_lst (pa_cons (pe_op op_repB (pe_tup (pa_cons pe_int pa_nil)) pe_int) (pa_cons (pe_op op_repB (pe_tup (pa_cons pe_int pa_nil)) pe_int) (pa_cons (pe_tup pa_nil) (pa_cons (pe_lstS pa_nil) (pa_cons (pe_tup (pa_cons (pe_op op_add (pv 1) pe_int) pa_nil)) (pa_cons (pe_tup (pa_cons pe_int pa_nil)) (pa_cons (pe_tup (pa_cons pe_bl pa_nil)) (pa_cons (pv 1) (pa_cons (pe_callTy (cr_strQ hg hu) (by rfl) B.str PyProof.Rows.boot_str (pa_cons (pv 2) pa_nil)) pa_nil))))))))))))
      (pss_one (ps_ret (pe_op op_cat (pv 4) (pe_lst (pa_cons (pe_callG D__law_odd hg (hr.mono (by decide)) (by rfl) pass0 (fun _ _ _ _ _ _ us hl => match us, hl with | [_], _ => rfl) (pa_cons (pv 0) pa_nil)) (pa_cons (pe_callG D__law_odd hg (hr.mono (by decide)) (by rfl) pass0 (fun _ _ _ _ _ _ us hl => match us, hl with | [_], _ => rfl) (pa_cons (pv 0) pa_nil)) pa_nil)))))))))))), ?_⟩
    have one : 1 ≤ sizeLine := by decide
    -- row
    refine ⟨_, rfl, p, 8, n, rfl, hp, by omega, by decide, by decide, fun H1 r k1 hp1 r0 r1 => ⟨r, rfl, by omega, by omega, fun D hD => ?_⟩⟩
    have c1 := (Cr.start (K := K) hp).draw k1 hp1
    have nDp : D ≠ p := c1.ne hD
    have hD0 : H D = none := c1.free hD
    refine lc_range (lo := 0) (n := r.toNat) (fun i H' => ∃ ns : List Int, Cr K p H H' (n + 1 + i) [] [] ∧ H' D = some (.lst (ns.map V.int)) ∧ ns.length = i ∧ ∀ x ∈ ns, 1 ≤ x ∧ x ≤ m) ⟨[], c1.new hD, upd_same, rfl, fun _ z => nomatch z⟩ ?_ ?_
    · rintro i H' hi ⟨ns, c, eD, el, hb⟩
      refine ⟨rfl, _, rfl, _, rfl, p, m, _, rfl, c.pot, by omega, by omega, by omega, fun H2 r2 k2 hp2 r20 r21 => ⟨_, _, rfl, rfl, _, k2 D _ nDp eD, ?_, ns ++ [1 + r2], ?_, ?_, ?_, ?_⟩⟩
      · rw [List.length_map, sizeLine_eq]
        omega
      · exact ((c.draw k2 hp2).set hD0 nDp).mono (by omega)
      · rw [upd_same, List.map_append]
        rfl
      · rw [List.length_append, el]
        rfl
      · intro x hx
        rcases List.mem_append.mp hx with hx | hx
        · exact hb x hx
        · obtain rfl := List.mem_singleton.mp hx
          omega
    · rintro H2 ⟨ns, c, eD, el, hb⟩
      refine ⟨D, _, rfl, .inl ⟨SqL.of eD, fun t ht => ?_⟩⟩
      have hl8 : ns.length ≤ 7 := by omega
      have ct := c.tup ht (DqAll.ints ns)
      have hT : SqT K (upd H2 t (.tup (ns.map V.int))) t (ns.map V.int) := .of upd_same
      have kt := ct.k
      have pt : PotAt (upd H2 t (.tup (ns.map V.int))) p (n + 8) := ct.pot.mono (by omega)
      have ca := (ct.here).mono (show n + 1 + r.toNat ≤ n + 8 by omega)
      clear ct c eD
      have hlen : (ns.map V.int).length = ns.length := List.length_map ..
      -- at, some
      refine ⟨_, rfl, _, rfl, t, _, rfl, .inr hT, _, _, rfl, rfl, p, _, _, rfl, pt, by omega, by omega, by omega, fun H3 at_ k3 hp3 a0 a1 => ⟨_, rfl, _, rfl, _, rfl, _, _, rfl, rfl, _, rfl, p, _, rfl, hp3, by omega, fun H4 v d k4 hp4 hv hs => ⟨by show 9 ≤ sizeLine; decide, fun l hl => ⟨_, _, rfl, ?_⟩⟩⟩⟩
      have cb := ((ca.draw k3 hp3).draw k4 hp4).push hv
      have nlp : l ≠ p := cb.ne hl
      have cc := cb.new (o := .lst [.int 0, .int (-1), .int m, .int (m + 1), .bl true, .str "1", .non, .int 1, v]) hl
      -- bent
      refine ⟨_, rfl, _, rfl, p, l, _, _, rfl, cc.pot, by omega, SqL.of upd_same, nlp, (by show 0 < 9; decide), (by show 9 < 1000000; decide), fun H5 i x k5 hp5 hx => ?_⟩
      have cd := cc.draw k5 hp5
      obtain ⟨db, hdb, hsb⟩ : ∃ db, Dq K p H5 x db ∧ Small 300 12 db := by
        obtain ⟨db, e, hd⟩ := DqAll.get (.cons (.int 0) (.cons (.int (-1)) (.cons (.int m) (.cons (.int (m + 1)) (.cons (.bl true) (.cons (.str "1") (.cons .non (.cons (.int 1) (.cons cd.head .nil))))))))) hx
        refine ⟨db, hd, ?_⟩
        have all : ∀ y ∈ [PyData.int 0, .int (-1), .int m, .int (m + 1), .bool true, .str "1", .none, .int 1, d], Small 300 12 y := by
          refine List.forall_mem_cons.mpr ⟨small_of (by decide), List.forall_mem_cons.mpr ⟨small_of (by decide), List.forall_mem_cons.mpr ⟨(Small.int (by omega) (by omega)).mono (by decide) (by decide), List.forall_mem_cons.mpr ⟨(Small.int (by omega) (by omega)).mono (by decide) (by decide), List.forall_mem_cons.mpr ⟨small_of (by decide), List.forall_mem_cons.mpr ⟨small_of (by decide +kernel), List.forall_mem_cons.mpr ⟨small_of (by decide), List.forall_mem_cons.mpr ⟨small_of (by decide), List.forall_mem_cons.mpr ⟨hs, fun _ z => nomatch z⟩⟩⟩⟩⟩⟩⟩⟩⟩
        exact all db (List.mem_of_getElem? e)
      have ce := cd.drop.push hdb
      clear cd cc cb hv
      obtain ⟨k, rfl⟩ := Int.eq_ofNat_of_zero_le a0
      -- found = [row, list(row), row[:at] + (bent,) + row[at:]]
      refine ⟨_, rfl, _, rfl, t, _, rfl, .inr (ce.tupAt pt hT), fun l2 hl2 y2 => ?_⟩
      have cf := ce.lst hl2 y2 (DqAll.ints ns)
      refine ⟨_, rfl, _, rfl, _, rfl, t, _, rfl, cf.tupAt pt hT, fun H6 s1 sm1 hS1 => ?_⟩
      rw [cut_to] at hS1
      have cg := cf.tupS sm1 hS1 ((DqAll.ints ns).take k)
      refine ⟨_, rfl, one, fun b hb9 => ?_⟩
      have ch := cg.tup hb9 (.cons cg.drop.drop.head .nil)
      refine ⟨s1, b, _, _, rfl, rfl, Same.tup (Same.new hb9) hS1, .of upd_same, ?_, fun H7 c7 sm7 hS7 => ?_⟩
      · rw [List.length_take, hlen, List.length_singleton, sizeLine_eq]
        omega
      have ci := ch.tupS sm7 hS7 (((DqAll.ints ns).take k).append (.cons ch.drop.drop.drop.head .nil))
      refine ⟨_, rfl, _, rfl, _, rfl, t, _, rfl, ci.tupAt pt hT, fun H8 s2 sm8 hS8 => ?_⟩
      rw [cut_from] at hS8
      have cj := ci.tupS sm8 hS8 ((DqAll.ints ns).drop k)
      refine ⟨c7, s2, _, _, rfl, rfl, Same.tup sm8 hS7, hS8, ?_, fun H9 f3 sm9 hS9 => ?_⟩
      · rw [List.length_append, List.length_take, List.length_drop, hlen, List.length_singleton, sizeLine_eq]
        omega
      have ck := cj.tupS sm9 hS9 ((((DqAll.ints ns).take k).append (.cons cj.drop.drop.drop.drop.drop.head .nil)).append ((DqAll.ints ns).drop k))
      refine ⟨by show 3 ≤ sizeLine; decide, fun fl hfl => ?_⟩
      have nfl : fl ≠ p := ck.ne hfl
      have cl := ck.new (o := .lst [.ref t, .ref l2, .ref f3]) hfl
      have kF := kt.trans cl.k
      have pF := cl.pot.mono (show _ ≤ n + 30 by omega)
      have hTF := cl.tupAt pt hT
      have eF : (upd H9 fl (.lst [.ref t, .ref l2, .ref f3])) fl = some (.lst [.ref t, .ref l2, .ref f3]) := upd_same
      have aF : DqAll K p (upd H9 fl (.lst [.ref t, .ref l2, .ref f3])) [.ref t, .ref l2, .ref f3] [.tuple (ns.map PyData.int), .list (ns.map PyData.int), .tuple (((ns.map PyData.int).take k ++ [db]) ++ (ns.map PyData.int).drop k)] :=
        match cl.all with
        | .cons q3 (.cons _ (.cons _ (.cons _ (.cons _ (.cons q2 (.cons _ (.cons q1 .nil))))))) => .cons q1 (.cons q2 (.cons q3 .nil))
      clear ca ce cf cg ch ci cj ck cl
      have cm : Cr K p _ _ (n + 30) [.ref t] [.tuple (ns.map PyData.int)] := ⟨Kp.refl, pF, by cases aF with | cons a _ => exact .cons a .nil⟩
      -- found + [(row,), [row], row + ([],), (wide,) * 300]
      refine ⟨_, rfl, _, rfl, one, fun a1 h1 => ?_⟩
      have d1 := cm.tup h1 (.cons cm.head .nil)
      refine ⟨_, rfl, one, fun a2 h2 y2 => ?_⟩
      have d2 := d1.lst h2 y2 (.cons d1.drop.head .nil)
      refine ⟨_, rfl, Nat.zero_le _, fun a3 h3 y3 => ?_⟩
      have d3 := d2.lst h3 y3 .nil
      refine ⟨one, fun a4 h4 => ?_⟩
      have d4 := d3.tup h4 (.cons d3.head .nil)
      refine ⟨t, a4, _, _, rfl, rfl, d4.tupAt pF hTF, .of upd_same, ?_, fun G5 a5 sm5 hS5 => ?_⟩
      · rw [hlen, List.length_singleton, sizeLine_eq]
        omega
      have d5 := d4.tupS sm5 hS5 ((DqAll.ints ns).append (.cons d4.drop.head .nil))
      refine ⟨_, rfl, one, fun a6 h6 => ?_⟩
      have d6 := d5.tup h6 (.cons (.int m) .nil)
      refine ⟨a6, 300, _, rfl, rfl, .of upd_same, by decide, by decide, fun G7 a7 sm7 hS7 => ?_⟩
      have d7 := d6.tupS sm7 hS7 (DqAll.rep (.int m) _)
      refine ⟨by show 4 ≤ sizeLine; decide, fun l3 hl3 => ?_⟩
      have d8 := d7.new (o := .lst [.ref a1, .ref a2, .ref a5, .ref a7]) hl3
      refine ⟨fl, l3, _, _, rfl, rfl, d8.get nfl eF, upd_same, by show 7 ≤ sizeLine; decide, fun fl2 hfl2 => ?_⟩
      have nfl2 : fl2 ≠ p := d8.ne hfl2
      have d9 := d8.new (o := .lst ([.ref t, .ref l2, .ref f3] ++ [.ref a1, .ref a2, .ref a5, .ref a7])) hfl2
      have kG := kF.trans d9.k
      have pG := d9.pot
      have hTG := d9.tupAt pF hTF
      have eG : (upd (upd G7 l3 (.lst [.ref a1, .ref a2, .ref a5, .ref a7])) fl2 (.lst ([.ref t, .ref l2, .ref f3] ++ [.ref a1, .ref a2, .ref a5, .ref a7]))) fl2 = some (.lst [.ref t, .ref l2, .ref f3, .ref a1, .ref a2, .ref a5, .ref a7]) := upd_same
      have aG : DqAll K p (upd (upd G7 l3 (.lst [.ref a1, .ref a2, .ref a5, .ref a7])) fl2 (.lst ([.ref t, .ref l2, .ref f3] ++ [.ref a1, .ref a2, .ref a5, .ref a7]))) [.ref t, .ref l2, .ref f3, .ref a1, .ref a2, .ref a5, .ref a7]
          ([.tuple (ns.map PyData.int), .list (ns.map PyData.int), .tuple (((ns.map PyData.int).take k ++ [db]) ++ (ns.map PyData.int).drop k)] ++ [.tuple [.tuple (ns.map PyData.int)], .list [.tuple (ns.map PyData.int)], .tuple (ns.map PyData.int ++ [.list []]), .tuple (List.replicate (Int.toNat 300) (.int m))]) :=
        match d9.all with
        | .cons q7 (.cons _ (.cons q5 (.cons _ (.cons _ (.cons q2 (.cons q1 _)))))) => (aF.keep (d9.k.leaves pF) _).append (.cons q1 (.cons q2 (.cons q5 (.cons q7 .nil))))
      clear cm d1 d2 d3 d4 d5 d6 d7 d8 d9
      have cn : Cr K p _ _ (n + 30) [.ref t] [.tuple (ns.map PyData.int)] := ⟨Kp.refl, pG, by cases aG with | cons a _ => exact .cons a .nil⟩
      -- found + [(1,) * 301, ..]
      refine ⟨_, rfl, one, fun b1 g1 => ?_⟩
      have e1 := cn.tup g1 (.cons (.int 1) .nil)
      refine ⟨b1, 301, _, rfl, rfl, .of upd_same, by decide, by decide, fun J1 b2 s2' hb2 => ?_⟩
      have e2 := e1.tupS s2' hb2 (DqAll.rep (.int 1) _)
      refine ⟨one, fun b3 g3 => ?_⟩
      have e3 := e2.tup g3 (.cons (.int 1) .nil)
      refine ⟨b3, 300, _, rfl, rfl, .of upd_same, by decide, by decide, fun J2 b4 s4' hb4 => ?_⟩
      have e4 := e3.tupS s4' hb4 (DqAll.rep (.int 1) _)
      refine ⟨Nat.zero_le _, fun b5 g5 => ?_⟩
      have e5 := e4.tup g5 .nil
      refine ⟨Nat.zero_le _, fun b6 g6 z6 => ?_⟩
      have e6 := e5.lst g6 z6 .nil
      refine ⟨_, rfl, _, _, rfl, rfl, one, fun b7 g7 => ?_⟩
      have e7 := e6.tup g7 (.cons (.int (m + 1)) .nil)
      refine ⟨one, fun b8 g8 => ?_⟩
      have e8 := e7.tup g8 (.cons (.int 0) .nil)
      refine ⟨one, fun b9 g9 => ?_⟩
      have e9 := e8.tup g9 (.cons (.bl true) .nil)
      have hR : Small 745 1 (.tuple (ns.map PyData.int)) := (Small.tuple (m := 7) (Small.ints hb (by omega)) (by rw [List.length_map]; omega))
      refine ⟨_, rfl, _, rfl, p, t, _, rfl, e9.drop.drop.drop.drop.drop.drop.drop.drop.drop.head, hR.1, Nat.le_trans hR.2.1 (by decide), Nat.le_trans hR.2.2 (by decide), ?_⟩
      refine ⟨by show 9 ≤ sizeLine; decide, fun l4 hl4 => ?_⟩
      have ea := e9.new (o := .lst [.ref b2, .ref b4, .ref b5, .ref b6, .ref b7, .ref b8, .ref b9, .int m, .str (PyData.tuple (ns.map PyData.int)).shown]) hl4
      refine ⟨fl2, l4, _, _, rfl, rfl, ea.get nfl2 eG, upd_same, by show 16 ≤ sizeLine; decide, fun fl3 hfl3 => ?_⟩
      have nfl3 : fl3 ≠ p := ea.ne hfl3
      have eb := ea.new (o := .lst ([.ref t, .ref l2, .ref f3, .ref a1, .ref a2, .ref a5, .ref a7] ++ [.ref b2, .ref b4, .ref b5, .ref b6, .ref b7, .ref b8, .ref b9, .int m, .str (PyData.tuple (ns.map PyData.int)).shown])) hfl3
      have kI := kG.trans eb.k
      have pI := eb.pot
      have aI := (aG.keep (eb.k.leaves pG) _).append (match eb.all with
        | .cons q9 (.cons q8 (.cons q7 (.cons q6 (.cons q5 (.cons q4 (.cons _ (.cons q2 (.cons _ _)))))))) => DqAll.cons q2 (.cons q4 (.cons q5 (.cons q6 (.cons q7 (.cons q8 (.cons q9 (.cons (.int m) (.cons (.str (PyData.tuple (ns.map PyData.int)).shown) .nil)))))))))
      have eI : ∀ (G : Hp), upd G fl3 (.lst ([.ref t, .ref l2, .ref f3, .ref a1, .ref a2, .ref a5, .ref a7] ++ [.ref b2, .ref b4, .ref b5, .ref b6, .ref b7, .ref b8, .ref b9, .int m, .str (PyData.tuple (ns.map PyData.int)).shown])) fl3 = some (.lst ([.ref t, .ref l2, .ref f3, .ref a1, .ref a2, .ref a5, .ref a7] ++ [.ref b2, .ref b4, .ref b5, .ref b6, .ref b7, .ref b8, .ref b9, .int m, .str (PyData.tuple (ns.map PyData.int)).shown])) := fun G => upd_same
      clear cn e1 e2 e3 e4 e5 e6 e7 e8 e9 ea
      have co := (⟨Kp.refl, pI, .nil⟩ : Cr K p _ _ (n + 30) [] [])
      -- found + [odd, odd]
      refine ⟨_, rfl, _, rfl, p, _, rfl, pI, by omega, fun M1 v1 w1 k1' hp1' hv1 hs1 => ?_⟩
      have f1 := (co.draw k1' hp1').push hv1
      refine ⟨_, rfl, p, _, rfl, f1.pot, by omega, fun M2 v2 w2 k2' hp2' hv2 hs2 => ?_⟩
      have f2 := (f1.draw k2' hp2').push hv2
      refine ⟨by show 2 ≤ sizeLine; decide, fun l5 hl5 => ?_⟩
      have f3' := f2.new (o := .lst [v1, v2]) hl5
      refine ⟨fl3, l5, _, _, rfl, rfl, f3'.get nfl3 (eI _), upd_same, by show 18 ≤ sizeLine; decide, fun fl4 hfl4 => ?_⟩
      have f4 := f3'.new (o := .lst (([.ref t, .ref l2, .ref f3, .ref a1, .ref a2, .ref a5, .ref a7] ++ [.ref b2, .ref b4, .ref b5, .ref b6, .ref b7, .ref b8, .ref b9, .int m, .str (PyData.tuple (ns.map PyData.int)).shown]) ++ [v1, v2])) hfl4
      refine q _ fl4 _ _ (kI.trans f4.k) (f4.pot.mono (by omega)) upd_same (f3'.ne hfl4) ((aI.keep (f4.k.leaves pI) _).append (match f4.all with
        | .cons y2 (.cons y1 .nil) => .cons y1 (.cons y2 .nil))) ?_
      have big : ∀ {b' k' : Nat} {d' : PyData}, Small b' k' d' → b' ≤ 50000 → k' ≤ 15 → Small 50000 15 d' := fun h a b => h.mono a b
      have rI : ∀ d ∈ ns.map PyData.int, Small 310 12 d := fun d hd => (Small.ints hb (by omega) d hd).mono (by decide) (by decide)
      have hm2 : ∀ d ∈ List.replicate (Int.toNat 300) (PyData.int m), Small 104 0 d := fun d hd => by
        obtain rfl := List.eq_of_mem_replicate hd
        exact Small.int (by omega) (by omega)
      have h1s : ∀ j : Nat, ∀ d ∈ List.replicate j (PyData.int 1), Small 104 0 d := fun j d hd => by
        obtain rfl := List.eq_of_mem_replicate hd
        exact Small.int (by omega) (by omega)
      intro y hy
      rcases List.mem_append.mp hy with hy | hy
      · rcases List.mem_append.mp hy with hy | hy
        · rcases List.mem_append.mp hy with hy | hy
          · simp only [List.mem_cons, List.not_mem_nil, or_false] at hy
            rcases hy with rfl | rfl | rfl
            · exact big hR (by decide) (by decide)
            · exact big (Small.list (m := 7) (Small.ints hb (by omega)) (by rw [List.length_map]; omega)) (by decide) (by decide)
            · refine big (Small.tuple (m := 8) (b := 310) (k := 12) (fun d hd => ?_) ?_) (by decide) (by decide)
              · rcases List.mem_append.mp hd with hd | hd
                · rcases List.mem_append.mp hd with hd | hd
                  · exact rI d (List.mem_of_mem_take hd)
                  · obtain rfl := List.mem_singleton.mp hd
                    exact hsb.mono (by decide) (by decide)
                · exact rI d (List.mem_of_mem_drop hd)
              · rw [List.length_append, List.length_append, List.length_take, List.length_drop, List.length_map, List.length_singleton]
                omega
          · simp only [List.mem_cons, List.not_mem_nil, or_false] at hy
            rcases hy with rfl | rfl | rfl | rfl
            · exact big hR.tup1 (by decide) (by decide)
            · exact big hR.lst1 (by decide) (by decide)
            · refine big (Small.tuple (m := 8) (b := 310) (k := 12) (fun d hd => ?_) ?_) (by decide) (by decide)
              · rcases List.mem_append.mp hd with hd | hd
                · exact rI d hd
                · obtain rfl := List.mem_singleton.mp hd
                  exact small_of (by decide)
              · rw [List.length_append, List.length_map, List.length_singleton]
                omega
            · exact big (Small.tuple (m := 300) hm2 (by rw [List.length_replicate]; decide)) (by decide) (by decide)
        · simp only [List.mem_cons, List.not_mem_nil, or_false] at hy
          rcases hy with rfl | rfl | rfl | rfl | rfl | rfl | rfl | rfl | rfl
          · exact big (Small.tuple (m := 301) (h1s _) (by rw [List.length_replicate]; decide)) (by decide) (by decide)
          · exact big (Small.tuple (m := 300) (h1s _) (by rw [List.length_replicate]; decide)) (by decide) (by decide)
          · exact small_of (by decide)
          · exact small_of (by decide)
          · exact big (Small.tup1 (Small.int (by omega) (by omega))) (by decide) (by decide)
          · exact small_of (by decide)
          · exact small_of (by decide)
          · exact big (Small.int (by omega) (by omega)) (by decide) (by decide)
          · exact big (Small.text hR.2.2) (by decide) (by decide)
      · simp only [List.mem_cons, List.not_mem_nil, or_false] at hy
        rcases hy with rfl | rfl
        · exact big hs1 (by decide) (by decide)
        · exact big hs2 (by decide) (by decide)
end

abbrev s_is_whole_number : Stmt := topS 3
theorem sc_is_whole_number : FnScope ["value"] ["value"] (defScope s_is_whole_number) := ⟨rfl, rfl, rfl, by decide +kernel, rfl, by decide +kernel, by decide +kernel⟩

abbrev s_is_width : Stmt := topS 4
theorem sc_is_width : FnScope ["value"] ["value"] (defScope s_is_width) := ⟨rfl, rfl, rfl, by decide +kernel, rfl, by decide +kernel, by decide +kernel⟩

abbrev s_is_word : Stmt := topS 5
theorem sc_is_word : FnScope ["width", "value"] ["width", "value"] (defScope s_is_word) := ⟨rfl, rfl, rfl, by decide +kernel, rfl, by decide +kernel, by decide +kernel⟩

abbrev s_is_text : Stmt := topS 6
theorem sc_is_text : FnScope ["width", "value", "word"] ["width", "value"] (defScope s_is_text) := ⟨rfl, rfl, rfl, by decide +kernel, rfl, by decide +kernel, by decide +kernel⟩

section
variable {P : Program} {w : World} {K : PySem.W.Frag} {mg : Str → Option Value} {base : Heap}
theorem ok_whole (S : Stands K mg "is_whole_number" s_is_whole_number) (B : Blt mg) : Def P w K mg base CX0 1 "is_whole_number" s_is_whole_number ["value"] (spWhole K) := by
  obtain ⟨f, fd, F, hm⟩ := S
  refine ⟨f, fd, F, hm, okG0 F sc_is_whole_number (fun vs H Q E h => ?_) (fun cdv A outer s H vs Q E hg hr h => ?_)⟩
  · obtain ⟨p, v, d, rfl, _⟩ := h
    rfl
  · obtain ⟨p, v, d, rfl, hd, q⟩ := h
    refine ⟨_, (pss_one (ps_ret (pe_and (pe_callB call_isi (by rfl) B.isinstance PyProof.Rows.boot_isinstance (pa_cons (pv 0) (pa_cons (pe_bltn (v := .ty "int") (by rfl) B.int PyProof.Rows.boot_int rfl) pa_nil))) (pe_one (pe_not (pe_callB call_isi (by rfl) B.isinstance PyProof.Rows.boot_isinstance (pa_cons (pv 0) (pa_cons (pe_bltn (v := .ty "bool") (by rfl) B.bool PyProof.Rows.boot_bool rfl) pa_nil)))))))), ?_⟩
    refine ⟨_, rfl, v, .ty "int", _, _, _, rfl, .ty _, hd.ty, kit_int d, _, rfl, ite2 (fun h1 => ?_) (fun h1 => ?_)⟩
    · refine ⟨_, rfl, v, .ty "bool", _, _, _, rfl, .ty _, hd.ty, kit_bool d, _, rfl, ?_⟩
      cases d <;> first | exact q | cases h1
    · cases d <;> first | exact q | exact absurd rfl h1
theorem ok_is_width (S : Stands K mg "is_width" s_is_width) (B : Blt mg) (D_is_whole_number : Def P w K mg base CX0 1 "is_whole_number" s_is_whole_number ["value"] (spWhole K)) {t1 : Tok} (hGW : mg "GREATEST_WIDTH" = some (.int 1000000000 t1)) : Def P w K mg base CX0 2 "is_width" s_is_width ["value"] (spIsWidth K) := by
  obtain ⟨f, fd, F, hm⟩ := S
  refine ⟨f, fd, F, hm, okG0 F sc_is_width (fun vs H Q E h => ?_) (fun cdv A outer s H vs Q E hg hr h => ?_)⟩
  · obtain ⟨p, v, d, rfl, _⟩ := h
    rfl
  · obtain ⟨p, v, d, rfl, hd, q⟩ := h
    refine ⟨_, (pss_one (ps_ret (pe_and (pe_callG D_is_whole_number hg (hr.mono (by decide)) (by rfl) pass0 (fun _ _ _ _ _ _ us hl => match us, hl with | [_], _ => rfl) (pa_cons (pv 0) pa_nil)) (pe_one (pe_chain op_le op_le pe_int (pv 0) (pe_glob (v := .int 1000000000) (by rfl) hGW ⟨_, rfl⟩)))))), ?_⟩
    refine ⟨_, rfl, p, v, d, rfl, hd, _, rfl, ite2 (fun h1 => ?_) (fun h1 => ?_)⟩
    · cases d <;> try exact absurd h1 Bool.false_ne_true
      rename_i i
      cases hd.intv
      refine ⟨_, rfl, _, _, rfl, rfl, _, rfl, ite2 (fun h2 => ?_) (fun h2 => ?_)⟩
      · refine ⟨_, _, rfl, rfl, ?_⟩
        have e : inRange (.int i) 1 1000000000 = decide (i ≤ 1000000000) := by
          show (decide (1 ≤ i) && _) = _
          rw [h2, Bool.true_and]
        exact (congrArg (fun b => Q (V.bl b) H) e).mp q
      · have e : inRange (.int i) 1 1000000000 = false := by
          show (decide (1 ≤ i) && _) = _
          rw [Bool.eq_false_iff.mpr h2, Bool.false_and]
        exact (congrArg (fun b => Q (V.bl b) H) e).mp q
    · cases d <;> first | exact q | exact absurd rfl h1
theorem ok_is_word (S : Stands K mg "is_word" s_is_word) (B : Blt mg) (D_is_whole_number : Def P w K mg base CX0 1 "is_whole_number" s_is_whole_number ["value"] (spWhole K)) : Def P w K mg base CX0 2 "is_word" s_is_word ["width", "value"] (spIsWord K) := by
  obtain ⟨f, fd, F, hm⟩ := S
  refine ⟨f, fd, F, hm, okG0 F sc_is_word (fun vs H Q E h => ?_) (fun cdv A outer s H vs Q E hg hr h => ?_)⟩
  · obtain ⟨p, m, v, d, rfl, _⟩ := h
    rfl
  · obtain ⟨p, m, v, d, rfl, hd, q⟩ := h
    refine ⟨_, (pss_one (ps_ret (pe_and (pe_callG D_is_whole_number hg (hr.mono (by decide)) (by rfl) pass0 (fun _ _ _ _ _ _ us hl => match us, hl with | [_], _ => rfl) (pa_cons (pv 1) pa_nil)) (pe_one (pe_chain op_le op_le pe_int (pv 1) (pv 0)))))), ?_⟩
    refine ⟨_, rfl, p, v, d, rfl, hd, _, rfl, ite2 (fun h1 => ?_) (fun h1 => ?_)⟩
    · cases d <;> try exact absurd h1 Bool.false_ne_true
      rename_i i
      cases hd.intv
      refine ⟨_, rfl, _, _, rfl, rfl, _, rfl, ite2 (fun h2 => ?_) (fun h2 => ?_)⟩
      · refine ⟨_, rfl, _, _, rfl, rfl, ?_⟩
        have e : inRange (.int i) 1 m = decide (i ≤ m) := by
          show (decide (1 ≤ i) && _) = _
          rw [h2, Bool.true_and]
        exact (congrArg (fun b => Q (V.bl b) H) e).mp q
      · have e : inRange (.int i) 1 m = false := by
          show (decide (1 ≤ i) && _) = _
          rw [Bool.eq_false_iff.mpr h2, Bool.false_and]
        exact (congrArg (fun b => Q (V.bl b) H) e).mp q
    · cases d <;> first | exact q | exact absurd rfl h1
theorem ok_is_text (S : Stands K mg "is_text" s_is_text) (B : Blt mg) (D_is_word : Def P w K mg base CX0 2 "is_word" s_is_word ["width", "value"] (spIsWord K)) {t1 : Tok} (hMW : mg "MOST_WORDS" = some (.int 300 t1)) : Def P w K mg base CX0 3 "is_text" s_is_text ["width", "value"] (spIsText K) := by
  obtain ⟨f, fd, F, hm⟩ := S
  refine ⟨f, fd, F, hm, okG0 F sc_is_text (fun vs H Q E h => ?_) (fun cdv A outer s H vs Q E hg hr h => ?_)⟩
  · obtain ⟨p, m, v, d, rfl, _⟩ := h
    rfl
  · obtain ⟨p, m, v, d, rfl, hd, q⟩ := h
    refine ⟨_, (pss_cons (ps_if (PW.pt (pw_or (pt_not (pt_val (pe_callB call_isi (by rfl) B.isinstance PyProof.Rows.boot_isinstance (pa_cons (pv 1) (pa_cons (pe_bltn (v := .ty "tuple") (by rfl) B.tuple PyProof.Rows.boot_tuple rfl) pa_nil))))) (pw_or1 (pt_cmpR op_gt (pe_callB call_len_seq (by rfl) B.len PySem.boot_len (pa_cons (pv 1) pa_nil)) (pe_glob (v := .int 300) (by rfl) hMW ⟨_, rfl⟩) (nomark _))))) (pss_one (ps_ret pe_bl)) pss_nil)
      (pss_one (ps_ret (pe_callB (cr_all rfl) (by rfl) B.all PyProof.Rows.boot_all (pa_cons (pe_lc (own := [("word", 2)]) (g := gName 2) (tt := tYes) rfl sc_is_text.nd (pi_tup (pv 1)) (blkOk_by (own := [("word", 2)]) (N := ["width", "value", "word"]) (sc := defScope s_is_text) (by decide +kernel)) (fun _ _ _ _ _ => (pg_name (i := 2) sc_is_text.nd rfl (Or.inl rfl))) (fun _ _ _ _ _ => pts_nil) (fun _ _ _ _ _ => (pe_callG D_is_word hg (hr.mono (by decide)) (by rfl) pass0 (fun _ _ _ _ _ _ us hl => match us, hl with | [_, _], _ => rfl) (pa_cons (pv 0) (pa_cons (pv 2) pa_nil))))) pa_nil))))), ?_⟩
    refine ⟨_, rfl, v, .ty "tuple", _, _, _, rfl, .ty _, hd.ty, kit_tup d, _, rfl, ite2 (fun h1 => ?_) (fun h1 => ?_)⟩
    · refine iteT ?_
      cases d <;> first | exact q _ (Same.refl _) | cases h1
    · cases d <;> try exact absurd rfl h1
      rename_i ds
      obtain ⟨a, xs, rfl, hS, hA⟩ := hd.tupv
      refine ⟨_, rfl, a, _, rfl, .inr hS, _, _, rfl, rfl, _, rfl, ite2 (fun h2 => ?_) (fun h2 => ?_)⟩
      · have h2 := of_decide_eq_true h2
        have e : isTextD m (.tuple ds) = false := by
          show (decide (ds.length ≤ 300) && _) = _
          rw [decide_eq_false (by have := hA.length; omega), Bool.false_and]
        rw [← e]
        exact q _ (Same.refl _)
      · have h2 : xs.length ≤ 300 := by
          have z : ¬ ((300 : Int) < (xs.length : Nat)) := fun z => h2 (decide_eq_true z)
          omega
        refine ⟨_, rfl, a, rfl, ⟨_, hS⟩, fun l hl => ?_⟩
        refine lc_tup (xs := xs) (fun i H' => Same H H' ∧ H' l = some (.lst (((ds.take i).map fun x => inRange x 1 m).map V.bl))) ⟨Same.new hl, upd_same⟩ (fun i H' _ h => Same.tup h.1 hS) ?_ ?_
        · rintro i x H' hx ⟨sm, el⟩
          obtain ⟨d, hd1, hd2⟩ := hA.get hx
          have hd3 := hd2.keep (Leaves.same sm) d
          refine ⟨rfl, _, rfl, _, rfl, p, m, x, d, rfl, hd3, _, el, ?_, ?_⟩
          · have hi := (List.getElem?_eq_some_iff.mp hx).1
            rw [List.length_map, List.length_map, List.length_take, sizeLine_eq]
            omega
          · refine ⟨fun b o e => ?_, ?_⟩
            · rw [upd_ne (ne_of_none e hl)]
              exact sm b o e
            · rw [upd_same, List.take_add_one, hd1]
              simp only [Option.toList_some, List.map_append, List.map_cons, List.map_nil]
        · rintro H' ⟨sm, el⟩
          refine ⟨l, _, rfl, SqL.of el, ?_⟩
          have hlen := hA.length
          have e : ((ds.take xs.length).map fun x => inRange x 1 m).all id = isTextD m (.tuple ds) := by
            show _ = (decide (ds.length ≤ 300) && _)
            rw [List.take_of_length_le (by omega), decide_eq_true (by omega), Bool.true_and, List.all_map]
            rfl
          rw [e]
          exact q _ sm
end

abbrev s__law_is_int : Stmt := topS 12
theorem sc__law_is_int : FnScope ["_law_thing", "_law_least", "_law_most"] ["_law_thing", "_law_least", "_law_most"] (defScope s__law_is_int) := ⟨rfl, rfl, rfl, by decide +kernel, rfl, by decide +kernel, by decide +kernel⟩

abbrev s__law_is_row : Stmt := topS 13
theorem sc__law_is_row : FnScope ["_law_wide", "_law_thing", "_law_one"] ["_law_wide", "_law_thing"] (defScope s__law_is_row) := ⟨rfl, rfl, rfl, by decide +kernel, rfl, by decide +kernel, by decide +kernel⟩

section
variable {P : Program} {w : World} {K : PySem.W.Frag} {mg : Str → Option Value} {base : Heap}
theorem ok_is_int (S : Stands K mg "_law_is_int" s__law_is_int) (B : Blt mg) : Def P w K mg base CX0 1 "_law_is_int" s__law_is_int ["_law_thing", "_law_least", "_law_most"] (spIsInt K) := by
  obtain ⟨f, fd, F, hm⟩ := S
  refine ⟨f, fd, F, hm, okG0 F sc__law_is_int (fun vs H Q E h => ?_) (fun cdv A outer s H vs Q E hg hr h => ?_)⟩
  · obtain ⟨p, v, d, lo, hi, rfl, _⟩ := h
    rfl
  · obtain ⟨p, v, d, lo, hi, rfl, hd, q⟩ := h
    refine ⟨_, (pss_one (ps_ret (pe_and (pe_callB call_isi (by rfl) B.isinstance PyProof.Rows.boot_isinstance (pa_cons (pv 0) (pa_cons (pe_bltn (v := .ty "int") (by rfl) B.int PyProof.Rows.boot_int rfl) pa_nil))) (pe_and (pe_not (pe_callB call_isi (by rfl) B.isinstance PyProof.Rows.boot_isinstance (pa_cons (pv 0) (pa_cons (pe_bltn (v := .ty "bool") (by rfl) B.bool PyProof.Rows.boot_bool rfl) pa_nil)))) (pe_one (pe_chain op_le op_le (pv 1) (pv 0) (pv 2))))))), ?_⟩
    refine ⟨_, rfl, v, .ty "int", _, _, _, rfl, .ty _, hd.ty, kit_int d, _, rfl, ite2 (fun h1 => ?_) (fun h1 => ?_)⟩
    · refine ⟨_, rfl, v, .ty "bool", _, _, _, rfl, .ty _, hd.ty, kit_bool d, _, rfl, _, rfl, ite2 (fun h2 => ?_) (fun h2 => ?_)⟩
      · cases d <;> try first | exact absurd h1 Bool.false_ne_true | exact absurd h2 Bool.false_ne_true
        rename_i i
        cases hd.intv
        refine ⟨_, rfl, _, rfl, _, _, rfl, rfl, _, rfl, ite2 (fun h3 => ?_) (fun h3 => ?_)⟩
        · refine ⟨_, rfl, _, _, rfl, rfl, ?_⟩
          have e : inRange (.int i) lo hi = decide (i ≤ hi) := by
            show (decide (lo ≤ i) && _) = _
            rw [h3, Bool.true_and]
          exact (congrArg (fun b => Q (V.bl b) H) e).mp q
        · have e : inRange (.int i) lo hi = false := by
            show (decide (lo ≤ i) && _) = _
            rw [Bool.eq_false_iff.mpr h3, Bool.false_and]
          exact (congrArg (fun b => Q (V.bl b) H) e).mp q
      · cases d <;> first | exact q | exact absurd rfl h2 | cases h1
    · cases d <;> first | exact q | exact absurd rfl h1
theorem ok_is_row (S : Stands K mg "_law_is_row" s__law_is_row) (B : Blt mg) (D__law_is_int : Def P w K mg base CX0 1 "_law_is_int" s__law_is_int ["_law_thing", "_law_least", "_law_most"] (spIsInt K)) : Def P w K mg base CX0 2 "_law_is_row" s__law_is_row ["_law_wide", "_law_thing"] (spIsRow K) := by
  obtain ⟨f, fd, F, hm⟩ := S
  refine ⟨f, fd, F, hm, okG0 F sc__law_is_row (fun vs H Q E h => ?_) (fun cdv A outer s H vs Q E hg hr h => ?_)⟩
  · obtain ⟨p, m, v, d, rfl, _⟩ := h
    rfl
  · obtain ⟨p, m, v, d, rfl, hd, q⟩ := h
    refine ⟨_, (pss_one (ps_ret (pe_and (pe_callB call_isi (by rfl) B.isinstance PyProof.Rows.boot_isinstance (pa_cons (pv 1) (pa_cons (pe_bltn (v := .ty "tuple") (by rfl) B.tuple PyProof.Rows.boot_tuple rfl) pa_nil))) (pe_and (pe_cmpR op_le (pe_callB call_len_seq (by rfl) B.len PySem.boot_len (pa_cons (pv 1) pa_nil)) pe_int (nomark _)) (pe_one (pe_callB (cr_all rfl) (by rfl) B.all PyProof.Rows.boot_all (pa_cons (pe_lc (own := [("_law_one", 2)]) (g := gName 2) (tt := tYes) rfl sc__law_is_row.nd (pi_tup (pv 1)) (blkOk_by (own := [("_law_one", 2)]) (N := ["_law_wide", "_law_thing", "_law_one"]) (sc := defScope s__law_is_row) (by decide +kernel)) (fun _ _ _ _ _ => (pg_name (i := 2) sc__law_is_row.nd rfl (Or.inl rfl))) (fun _ _ _ _ _ => pts_nil) (fun _ _ _ _ _ => (pe_callG D__law_is_int hg (hr.mono (by decide)) (by rfl) pass0 (fun _ _ _ _ _ _ us hl => match us, hl with | [_, _, _], _ => rfl) (pa_cons (pv 2) (pa_cons pe_int (pa_cons (pv 0) pa_nil)))))) pa_nil))))))), ?_⟩
    refine ⟨_, rfl, v, .ty "tuple", _, _, _, rfl, .ty _, hd.ty, kit_tup d, _, rfl, ite2 (fun h1 => ?_) (fun h1 => ?_)⟩
    · cases d <;> try exact absurd h1 Bool.false_ne_true
      rename_i ds
      obtain ⟨a, xs, rfl, hS, hA⟩ := hd.tupv
      refine ⟨_, rfl, a, _, rfl, .inr hS, _, _, rfl, rfl, _, rfl, ite2 (fun h2 => ?_) (fun h2 => ?_)⟩
      · have h2 : xs.length ≤ 300 := by
          have z := of_decide_eq_true h2
          omega
        refine ⟨_, rfl, a, rfl, ⟨_, hS⟩, fun l hl => ?_⟩
        refine lc_tup (xs := xs) (fun i H' => Same H H' ∧ H' l = some (.lst (((ds.take i).map fun x => inRange x 1 m).map V.bl))) ⟨Same.new hl, upd_same⟩ (fun i H' _ h => Same.tup h.1 hS) ?_ ?_
        · rintro i x H' hx ⟨sm, el⟩
          obtain ⟨d, hd1, hd2⟩ := hA.get hx
          have hd3 := hd2.keep (Leaves.same sm) d
          refine ⟨rfl, _, rfl, _, rfl, p, x, d, 1, m, rfl, hd3, _, el, ?_, ?_, ?_⟩
          · have hi := (List.getElem?_eq_some_iff.mp hx).1
            rw [List.length_map, List.length_map, List.length_take, sizeLine_eq]
            omega
          · exact Same.set sm hl
          · rw [upd_same, List.take_add_one, hd1]
            simp only [Option.toList_some, List.map_append, List.map_cons, List.map_nil]
        · rintro H' ⟨sm, el⟩
          refine ⟨l, _, rfl, SqL.of el, ?_⟩
          have hlen := hA.length
          have e : ((ds.take xs.length).map fun x => inRange x 1 m).all id = isTextD m (.tuple ds) := by
            show _ = (decide (ds.length ≤ 300) && _)
            rw [List.take_of_length_le (by omega), decide_eq_true (by omega), Bool.true_and, List.all_map]
            rfl
          rw [e]
          exact q _ sm
      · have e : isTextD m (.tuple ds) = false := by
          show (decide (ds.length ≤ 300) && _) = _
          rw [decide_eq_false (fun z => h2 (decide_eq_true (by have := hA.length; omega))), Bool.false_and]
        exact (congrArg (fun b => Q (V.bl b) H) e).mp (q _ (Same.refl _))
    · cases d <;> first | exact q _ (Same.refl _) | exact absurd rfl h1
end

abbrev s__law_right : Stmt := topS 15
theorem sc__law_right : FnScope ["_law_pot_here", "_law_some", "_law_thing", "_law_wide", "_law_told", "_law_kept", "_law_due"] ["_law_pot_here"] (defScope s__law_right) := ⟨rfl, rfl, rfl, by decide +kernel, rfl, by decide +kernel, by decide +kernel⟩

section
variable {P : Program} {w : World} {K : PySem.W.Frag} {mg : Str → Option Value} {base : Heap}
theorem ok_right (S : Stands K mg "_law_right" s__law_right) (B : Blt mg) (D__law_take : Def P w K mg base CX0 1 "_law_take" s__law_take ["_law_pot_here", "_law_upto"] spTake) (D__law_of : Def P w K mg base CX0 2 "_law_of" s__law_of ["_law_pot_here", "_law_some"] (spOf K))
    (D__law_odd : Def P w K mg base CX0 3 "_law_odd" s__law_odd ["_law_pot_here"] (spOdd K)) (D__law_rows : Def P w K mg base CX0 4 "_law_rows" s__law_rows ["_law_pot_here", "_law_wide"] (spRows K))
    (D__law_is_int : Def P w K mg base CX0 1 "_law_is_int" s__law_is_int ["_law_thing", "_law_least", "_law_most"] (spIsInt K)) (D__law_is_row : Def P w K mg base CX0 2 "_law_is_row" s__law_is_row ["_law_wide", "_law_thing"] (spIsRow K))
    (D_is_width : Def P w K mg base CX0 2 "is_width" s_is_width ["value"] (spIsWidth K)) (D_is_text : Def P w K mg base CX0 3 "is_text" s_is_text ["width", "value"] (spIsText K)) :
    Def P w K mg base CX0 5 "_law_right" s__law_right ["_law_pot_here"] (spRight 80) := by
  obtain ⟨f, fd, F, hm⟩ := S
  refine ⟨f, fd, F, hm, okG0 F sc__law_right (fun vs H Q E h => ?_) (fun cdv A outer s H vs Q E hg hr h => ?_)⟩
  · obtain ⟨p, n, rfl, _⟩ := h
    rfl
  · obtain ⟨p, n, rfl, hp, hn, q⟩ := h
    have hu := hr.units
    refine ⟨_, (pss_cons (ps_set (i := 1) sc__law_right.nd rfl (Or.inl rfl) (pe_lst (pa_cons pe_int (pa_cons pe_int (pa_cons (pe_un un_neg pe_int) (pa_cons pe_int (pa_cons (pe_op op_pow pe_int pe_int) (pa_cons (pe_op op_add (pe_op op_pow pe_int pe_int) pe_int) (pa_cons (pe_op op_pow pe_int pe_int) (pa_cons pe_bl (pa_cons pe_bl (pa_cons pe_non (pa_cons pe_str (pa_cons (pe_tup (pa_cons pe_int pa_nil)) (pa_cons (pe_lstS (pa_cons pe_int pa_nil)) (pa_cons pe_dnewK (pa_cons (pe_callG D__law_odd hg (hr.mono (by decide)) (by rfl) pass0 (fun _ _ _ _ _ _ us hl => match us, hl with | [_], _ => rfl) (pa_cons (pv 0) pa_nil)) pa_nil)))))))))))))))))
      (pss_cons (ps_for PassesOwn.never rfl (pi_list (pv 1)) (pg_name (i := 2) sc__law_right.nd rfl (Or.inl rfl)) (pss_cons (ps_par (i := 5) (j := 6) (by rfl) sc__law_right.nd rfl rfl (by decide) rfl rfl (pa_cons (pe_callB (cr_reprQ hg hu) (by rfl) B.repr PyProof.Rows.boot_repr (pa_cons (pv 2) pa_nil)) (pa_cons (pe_callG D__law_is_int hg (hr.mono (by decide)) (by rfl) pass0 (fun _ _ _ _ _ _ us hl => match us, hl with | [_, _, _], _ => rfl) (pa_cons (pv 2) (pa_cons pe_int (pa_cons (pe_op op_pow pe_int pe_int) pa_nil)))) pa_nil)) (by rfl))
      (pss_one (ps_if (PW.pt (pw_or (pt_cmpR op_ne (pe_callB (cr_repr hg hu) (by rfl) B.repr PyProof.Rows.boot_repr (pa_cons (pe_lst (pa_cons (pe_callG D_is_width hg (hr.mono (by decide)) (by rfl) pass0 (fun _ _ _ _ _ _ us hl => match us, hl with | [_], _ => rfl) (pa_cons (pv 2) pa_nil)) (pa_cons (pe_callKG (ks := ["value"]) (g := fun {_} l => match l with | [w0] => [w0] | _ => []) D_is_width hg (hr.mono (by decide)) (by rfl) pass0 (fun _ _ _ _ _ _ ws hl => match ws, hl with | [_], _ => rfl) (fun hn r => match r, hn with | (.cons a0 .nil), _ => (.cons a0 .nil)) (pk_cons (pv 2) pk_nil)) pa_nil))) pa_nil)) (pe_callB (cr_repr hg hu) (by rfl) B.repr PyProof.Rows.boot_repr (pa_cons (pe_lst (pa_cons (pv 6) (pa_cons (pv 6) pa_nil))) pa_nil)) (nomark _)) (pw_or1 (pt_cmpR op_ne (pe_callB (cr_reprQ hg hu) (by rfl) B.repr PyProof.Rows.boot_repr (pa_cons (pv 2) pa_nil)) (pv 5) (nomark _))))) (pss_one (ps_ret pe_bl)) pss_nil))))
      (pss_cons (ps_set (i := 3) sc__law_right.nd rfl (Or.inl rfl) (pe_callG D__law_of hg (hr.mono (by decide)) (by rfl) pass0 (fun _ _ _ _ _ _ us hl => match us, hl with | [_, _], _ => rfl) (pa_cons (pv 0) (pa_cons (pe_lst (pa_cons pe_int (pa_cons pe_int (pa_cons pe_int (pa_cons (pe_op op_pow pe_int pe_int) (pa_cons (pe_op op_add pe_int (pe_callG D__law_take hg (hr.mono (by decide)) (by rfl) pass0 (fun _ _ _ _ _ _ us hl => match us, hl with | [_, _], _ => rfl) (pa_cons (pv 0) (pa_cons (pe_op op_pow pe_int pe_int) pa_nil)))) pa_nil)))))) pa_nil))))
      (pss_cons (ps_for PassesOwn.never rfl (pi_list (pe_callG D__law_rows hg (hr.mono (by decide)) (by rfl) pass0 (fun _ _ _ _ _ _ us hl => match us, hl with | [_, _], _ => rfl) (pa_cons (pv 0) (pa_cons (pv 3) pa_nil)))) (pg_name (i := 2) sc__law_right.nd rfl (Or.inl rfl)) (pss_cons (ps_par (i := 5) (j := 6) (by rfl) sc__law_right.nd rfl rfl (by decide) rfl rfl (pa_cons (pe_callB (cr_reprQ hg hu) (by rfl) B.repr PyProof.Rows.boot_repr (pa_cons (pv 2) pa_nil)) (pa_cons (pe_callG D__law_is_row hg (hr.mono (by decide)) (by rfl) pass0 (fun _ _ _ _ _ _ us hl => match us, hl with | [_, _], _ => rfl) (pa_cons (pv 3) (pa_cons (pv 2) pa_nil))) pa_nil)) (by rfl))
      (pss_cons (ps_set (i := 4) sc__law_right.nd rfl (Or.inl rfl) (pe_lst (pa_cons (pe_callG D_is_text hg (hr.mono (by decide)) (by rfl) pass0 (fun _ _ _ _ _ _ us hl => match us, hl with | [_, _], _ => rfl) (pa_cons (pv 3) (pa_cons (pv 2) pa_nil))) (pa_cons (pe_callKG (ks := ["value", "width"]) (g := fun {_} l => match l with | [w0, w1] => [w1, w0] | _ => []) D_is_text hg (hr.mono (by decide)) (by rfl) pass0 (fun _ _ _ _ _ _ ws hl => match ws, hl with | [_, _], _ => rfl) (fun hn r => match r, hn with | (.cons a0 (.cons a1 .nil)), _ => (.cons a1 (.cons a0 .nil))) (pk_cons (pv 2) (pk_cons (pv 3) pk_nil))) pa_nil))))
      (pss_one (ps_if (PW.pt (pw_or (pt_cmpR op_ne (pe_callB (cr_repr hg hu) (by rfl) B.repr PyProof.Rows.boot_repr (pa_cons (pv 4) pa_nil)) (pe_callB (cr_repr hg hu) (by rfl) B.repr PyProof.Rows.boot_repr (pa_cons (pe_lst (pa_cons (pv 6) (pa_cons (pv 6) pa_nil))) pa_nil)) (nomark _)) (pw_or1 (pt_cmpR op_ne (pe_callB (cr_reprQ hg hu) (by rfl) B.repr PyProof.Rows.boot_repr (pa_cons (pv 2) pa_nil)) (pv 5) (nomark _))))) (pss_one (ps_ret pe_bl)) pss_nil)))))
      (pss_one (ps_ret pe_bl)))))), ?_⟩
    have one : 1 ≤ sizeLine := by decide
    have two : 2 ≤ sizeLine := by decide
    have pw : ∀ {k : Nat}, k ≤ 1000000 → CPow 10 (k : Int) := fun h => ⟨by omega, by omega, by decide⟩
    -- some
    refine ⟨_, rfl, _, _, rfl, rfl, pw (k := 9) (by decide), _, _, rfl, rfl, pw (k := 9) (by decide), _, _, rfl, rfl, _, _, rfl, rfl, pw (k := 30) (by decide), one, fun a1 h1 => ⟨one, fun a2 h2 y2 => fun a3 h3 => ⟨_, rfl, p, n, rfl, ?_, by omega, fun H1 v d k1 hp1 hv hs => ⟨by show 15 ≤ sizeLine; decide, fun l hl => ?_⟩⟩⟩⟩
    · exact ((hp.new h1).new h2).new h3
    have c1 := (Cr.start (K := K) hp).tup h1 (.cons (.int 5) .nil)
    have c2 := c1.lst h2 y2 (.cons (.int 5) .nil)
    have c3 := c2.dic0 h3
    have c4 := (c3.draw k1 hp1).push hv
    have nlp : l ≠ p := c4.ne hl
    have c5 := c4.new (o := .lst [.int 0, .int 1, .int (-1), .int 2, .int (10 ^ Int.toNat 9), .int (10 ^ Int.toNat 9 + 1), .int (10 ^ Int.toNat 30), .bl true, .bl false, .non, .str "5", .ref a1, .ref a2, .ref a3, v]) hl
    have kl := c5.k
    have pl := c5.pot
    have eL : ∀ G : Hp, upd G l (.lst [.int 0, .int 1, .int (-1), .int 2, .int (10 ^ Int.toNat 9), .int (10 ^ Int.toNat 9 + 1), .int (10 ^ Int.toNat 30), .bl true, .bl false, .non, .str "5", .ref a1, .ref a2, .ref a3, v]) l = some (.lst [.int 0, .int 1, .int (-1), .int 2, .int (10 ^ Int.toNat 9), .int (10 ^ Int.toNat 9 + 1), .int (10 ^ Int.toNat 30), .bl true, .bl false, .non, .str "5", .ref a1, .ref a2, .ref a3, v]) := fun G => upd_same
    have aL := match c5.all with
      | .cons q4 (.cons q3 (.cons q2 (.cons q1 .nil))) => (DqAll.cons (.int 0) (.cons (.int 1) (.cons (.int (-1)) (.cons (.int 2) (.cons (.int (10 ^ Int.toNat 9)) (.cons (.int (10 ^ Int.toNat 9 + 1)) (.cons (.int (10 ^ Int.toNat 30)) (.cons (.bl true) (.cons (.bl false) (.cons .non (.cons (.str "5") (.cons q1 (.cons q2 (.cons q3 (.cons q4 .nil)))))))))))))))
    have sL : ∀ y ∈ [PyData.int 0, .int 1, .int (-1), .int 2, .int (10 ^ Int.toNat 9), .int (10 ^ Int.toNat 9 + 1), .int (10 ^ Int.toNat 30), .bool true, .bool false, .none, .str "5", .tuple [.int 5], .list [.int 5], .dict [], d], Small 300 12 y := by
      have h14 : ([PyData.int 0, .int 1, .int (-1), .int 2, .int (10 ^ Int.toNat 9), .int (10 ^ Int.toNat 9 + 1), .int (10 ^ Int.toNat 30), .bool true, .bool false, .none, .str "5", .tuple [.int 5], .list [.int 5], .dict []].all (smallB 300 12)) = true := by decide +kernel
      intro y hy
      rcases List.mem_append.mp (show y ∈ [PyData.int 0, .int 1, .int (-1), .int 2, .int (10 ^ Int.toNat 9), .int (10 ^ Int.toNat 9 + 1), .int (10 ^ Int.toNat 30), .bool true, .bool false, .none, .str "5", .tuple [.int 5], .list [.int 5], .dict []] ++ [d] from hy) with hy | hy
      · exact small_of (List.all_eq_true.mp h14 y hy)
      · obtain rfl := List.mem_singleton.mp hy
        exact hs
    have co : Cr K p _ _ (n + 11) _ _ := ⟨Kp.refl, pl, aL⟩
    clear c1 c2 c3 c4 c5 hv
    -- for thing in some
    refine ⟨_, rfl, l, rfl, ⟨_, SqL.of (eL _)⟩, ?_⟩
    refine for_list (K := K) (a := l) (xs := [.int 0, .int 1, .int (-1), .int 2, .int (10 ^ Int.toNat 9), .int (10 ^ Int.toNat 9 + 1), .int (10 ^ Int.toNat 30), .bl true, .bl false, .non, .str "5", .ref a1, .ref a2, .ref a3, v])
      (fun i σ H' => ∃ z2 z5 z6, σ = [some (.ref p), some (.ref l), z2, none, none, z5, z6] ∧ Cr K p (upd H1 l (.lst [.int 0, .int 1, .int (-1), .int 2, .int (10 ^ Int.toNat 9), .int (10 ^ Int.toNat 9 + 1), .int (10 ^ Int.toNat 30), .bl true, .bl false, .non, .str "5", .ref a1, .ref a2, .ref a3, v])) H' (n + 11) [.int 0, .int 1, .int (-1), .int 2, .int (10 ^ Int.toNat 9), .int (10 ^ Int.toNat 9 + 1), .int (10 ^ Int.toNat 30), .bl true, .bl false, .non, .str "5", .ref a1, .ref a2, .ref a3, v]
        [PyData.int 0, .int 1, .int (-1), .int 2, .int (10 ^ Int.toNat 9), .int (10 ^ Int.toNat 9 + 1), .int (10 ^ Int.toNat 30), .bool true, .bool false, .none, .str "5", .tuple [.int 5], .list [.int 5], .dict [], d]) ⟨none, none, none, rfl, co⟩ ?_ ?_ ?_
    · rintro i σ H' _ ⟨z2, z5, z6, rfl, c⟩
      exact SqL.of (c.get nlp (eL _))
    · rintro i x σ H' hx ⟨z2, z5, z6, rfl, c⟩
      obtain ⟨dx, hdx, hq⟩ := c.all.get hx
      have sx := sL dx (List.mem_of_getElem? hdx)
      refine ⟨_, rfl, p, x, dx, rfl, hq, sx.1, Nat.le_trans sx.2.1 (by decide), Nat.le_trans sx.2.2 (by decide), _, rfl, _, _, rfl, rfl, pw (k := 9) (by decide), p, x, dx, 1, 1000000000, rfl, hq, _, _, rfl, ?_⟩
      refine ⟨_, rfl, p, x, dx, rfl, hq, _, rfl, rfl, p, x, dx, rfl, hq, two, fun m1 g1 => ?_⟩
      have c1 := c.new (o := .lst [.bl (inRange dx 1 1000000000), .bl (inRange dx 1 1000000000)]) g1
      refine ⟨.ref m1, .list [.bool (inRange dx 1 1000000000), .bool (inRange dx 1 1000000000)], rfl, .lst (.of upd_same) (.cons (.bl _) (.cons (.bl _) .nil)), rfl, by show 1 ≤ 50; decide, by show 17 ≤ 1000000; decide, ?_⟩
      refine ⟨_, rfl, _, rfl, two, fun m2 g2 => ?_⟩
      have c2 := c1.new (o := .lst [.bl (inRange dx 1 1000000000), .bl (inRange dx 1 1000000000)]) g2
      refine ⟨.ref m2, .list [.bool (inRange dx 1 1000000000), .bool (inRange dx 1 1000000000)], rfl, .lst (.of upd_same) (.cons (.bl _) (.cons (.bl _) .nil)), rfl, by show 1 ≤ 50; decide, by show 17 ≤ 1000000; decide, rfl, _, rfl, iteNS rfl ?_⟩
      obtain ⟨dy, hdy, hq2⟩ := c2.all.get hx
      obtain rfl : dy = dx := Option.some.inj (hdy.symm.trans hdx)
      refine ⟨_, rfl, p, x, dy, rfl, hq2, sx.1, Nat.le_trans sx.2.1 (by decide), Nat.le_trans sx.2.2 (by decide), _, rfl, rfl, _, rfl, iteNS rfl ?_⟩
      exact ⟨_, _, _, rfl, c2⟩
    · rintro σ H' ⟨z2, z5, z6, rfl, c⟩
      have k2 := kl.trans c.k
      have p2 := c.pot
      have ca : Cr K p H' H' (n + 11) [] [] := ⟨Kp.refl, p2, .nil⟩
      clear c co
      -- wide
      refine ⟨_, rfl, _, _, rfl, rfl, pw (k := 9) (by decide), _, rfl, _, _, rfl, rfl, pw (k := 9) (by decide), p, _, _, rfl, p2, by omega, by decide, by decide, fun H2 r k3 hp3 r0 r1 => ⟨_, _, rfl, rfl, by show 5 ≤ sizeLine; decide, fun l2 hl2 => ?_⟩⟩
      have cb := (ca.draw k3 hp3).new (o := .lst [.int 1, .int 2, .int 5, .int (10 ^ Int.toNat 9), .int (1 + r)]) hl2
      have r1 : r < 1000000000 := r1
      refine ⟨p, l2, _, _, rfl, cb.pot, by omega, SqL.of upd_same, (ca.draw k3 hp3).ne hl2, (by show 0 < 5; decide), (by show 5 < 1000000; decide), fun H3 i x k4 hp4 hx => ?_⟩
      obtain ⟨m, hm, m0, m1⟩ : ∃ m : Int, x = .int m ∧ 1 ≤ m ∧ m ≤ 1000000000 := by
        match i, hx with
        | 0, e => exact ⟨1, (Option.some.inj e).symm, by decide, by decide⟩
        | 1, e => exact ⟨2, (Option.some.inj e).symm, by decide, by decide⟩
        | 2, e => exact ⟨5, (Option.some.inj e).symm, by decide, by decide⟩
        | 3, e => exact ⟨1000000000, (Option.some.inj e).symm, by decide, by decide⟩
        | 4, e => exact ⟨1 + r, (Option.some.inj e).symm, by omega, by omega⟩
      subst hm
      have cc := cb.draw k4 hp4
      -- for thing in rows
      refine ⟨_, rfl, _, rfl, p, m, _, rfl, cc.pot, by omega, m0, m1, fun H4 l3 xs ds k5 hp5 e3 n3 a3 s3 => ?_⟩
      have kz := k2.trans (cc.draw k5 hp5).k
      refine ⟨l3, rfl, ⟨_, SqL.of e3⟩, ?_⟩
      refine for_list (K := K) (a := l3) (xs := xs) (fun i σ H' => ∃ y1 z2 z4 z5 z6, σ = [some (.ref p), y1, z2, some (.int m), z4, z5, z6] ∧ Cr K p H4 H' (n + 80) xs ds) ⟨_, _, _, _, _, rfl, ⟨Kp.refl, hp5.mono (by omega), a3⟩⟩ ?_ ?_ ?_
      · rintro i σ H' _ ⟨y1, z2, z4, z5, z6, rfl, c⟩
        exact SqL.of (c.get n3 e3)
      · rintro i x σ H' hx ⟨y1, z2, z4, z5, z6, rfl, c⟩
        obtain ⟨dx, hdx, hq⟩ := c.all.get hx
        have sx := s3 dx (List.mem_of_getElem? hdx)
        have again : ∀ {G : Hp}, Cr K p H4 G (n + 80) xs ds → Dq K p G x dx := fun c => by
          obtain ⟨dy, hdy, hq2⟩ := c.all.get hx
          obtain rfl : dy = dx := Option.some.inj (hdy.symm.trans hdx)
          exact hq2
        refine ⟨_, rfl, p, x, dx, rfl, hq, sx.1, Nat.le_trans sx.2.1 (by decide), Nat.le_trans sx.2.2 (by decide), _, rfl, _, rfl, p, m, x, dx, rfl, hq, fun G1 s1 => ⟨_, _, rfl, ?_⟩⟩
        have d1 := c.same s1
        refine ⟨_, rfl, _, rfl, p, m, x, dx, rfl, again d1, fun G2 s2 => ?_⟩
        have d2 := d1.same s2
        refine ⟨_, rfl, _, rfl, rfl, p, m, x, dx, rfl, again d2, fun G3 s3' => ⟨two, fun t ht => ?_⟩⟩
        have d3 := (d2.same s3').new (o := .lst [.bl (isTextD m dx), .bl (isTextD m dx)]) ht
        have two7 : 17 ≤ 1000000 := by decide
        refine ⟨_, rfl, .ref t, .list [.bool (isTextD m dx), .bool (isTextD m dx)], rfl, .lst (.of upd_same) (.cons (.bl _) (.cons (.bl _) .nil)), rfl, by show 1 ≤ 50; decide, two7, ?_⟩
        refine ⟨_, rfl, _, rfl, two, fun m2 g2 => ?_⟩
        have d4 := d3.new (o := .lst [.bl (isTextD m dx), .bl (isTextD m dx)]) g2
        refine ⟨.ref m2, .list [.bool (isTextD m dx), .bool (isTextD m dx)], rfl, .lst (.of upd_same) (.cons (.bl _) (.cons (.bl _) .nil)), rfl, by show 1 ≤ 50; decide, two7, rfl, _, rfl, iteNS rfl ?_⟩
        refine ⟨_, rfl, p, x, dx, rfl, again d4, sx.1, Nat.le_trans sx.2.1 (by decide), Nat.le_trans sx.2.2 (by decide), _, rfl, rfl, _, rfl, iteNS rfl ?_⟩
        exact ⟨_, _, _, _, _, rfl, d4⟩
      · rintro σ H' ⟨y1, z2, z4, z5, z6, rfl, c⟩
        exact q H' (kz.trans c.k) c.pot
end

abbrev s_law : Stmt := topS 16
theorem sc_law : FnScope ["_law_script", "_law_spot", "_law_pot_here", "_law_turn"] ["_law_script"] (defScope s_law) := ⟨rfl, rfl, rfl, by decide +kernel, rfl, by decide +kernel, by decide +kernel⟩

section
variable {P : Program} {w : World} {K : PySem.W.Frag} {mg : Str → Option Value} {base : Heap}
theorem ok_law {f : Addr} {fd : FuncData} {b : Nat} (F : Fun K "law" "law" s_law f fd) (B : Blt mg) (D__law_pot : Def P w K mg base CX0 1 "_law_pot" s__law_pot ["_law_script", "_law_spot"] (spPot K)) (D__law_right : Def P w K mg base CX0 5 "_law_right" s__law_right ["_law_pot_here"] (spRight b)) (hb : b ≤ 10000) :
    FnG P w K mg base CX0 6 f fd ["_law_script"] (spLaw K) := by
  refine okG0 F sc_law (fun vs H Q E h => ?_) (fun cdv A outer s H vs Q E hg hr h => ?_)
  · obtain ⟨a, ns, rfl, _⟩ := h
    rfl
  · obtain ⟨a, ns, rfl, hS, hl, q⟩ := h
    refine ⟨_, (pss_cons (ps_for PassesOwn.never rfl (pi_range1 (by rfl) B.range (pa_cons (pe_callB (call_max2 rfl) (by rfl) B.max PyProof.Rows.boot_max (pa_cons pe_int (pa_cons (pe_callB (call_min2 rfl) (by rfl) B.min PyProof.Rows.boot_min (pa_cons pe_int (pa_cons (pe_callB call_len_seq (by rfl) B.len PySem.boot_len (pa_cons (pv 0) pa_nil)) pa_nil))) pa_nil))) pa_nil)) (pg_name (i := 1) sc_law.nd rfl (Or.inl rfl)) (pss_cons (ps_set (i := 2) sc_law.nd rfl (Or.inr rfl) (pe_callG D__law_pot hg (hr.mono (by decide)) (by rfl) pass0 (fun _ _ _ _ _ _ us hl => match us, hl with | [_, _], _ => rfl) (pa_cons (pv 0) (pa_cons (pv 1) pa_nil))))
      (pss_one (ps_if (pt_not (pt_val (pe_callB (cr_all rfl) (by rfl) B.all PyProof.Rows.boot_all (pa_cons (pe_lc (own := [("_law_turn", 3)]) (g := gName 3) (tt := tYes) rfl sc_law.nd (pi_range1 (by rfl) B.range (pa_cons pe_int pa_nil)) (blkOk_by (own := [("_law_turn", 3)]) (N := ["_law_script", "_law_spot", "_law_pot_here", "_law_turn"]) (sc := defScope s_law) (by decide +kernel)) (fun _ _ _ _ _ => (pg_name (i := 3) sc_law.nd rfl (Or.inl rfl))) (fun _ _ _ _ _ => pts_nil) (fun _ _ _ _ _ => (pe_callG D__law_right hg (hr.mono (by decide)) (by rfl) pass0 (fun _ _ _ _ _ _ us hl => match us, hl with | [_], _ => rfl) (pa_cons (pv 2) pa_nil)))) pa_nil)))) (pss_one (ps_ret pe_bl)) pss_nil))))
      (pss_one (ps_ret pe_bl))), ?_⟩
    have hnl : (ns.map V.int).length = ns.length := List.length_map ..
    refine ⟨_, rfl, a, _, rfl, .inl hS, _, _, rfl, _, _, rfl, _, rfl, ?_, ?_, ?_⟩
    · split <;> (try split) <;> omega
    · split <;> (try split) <;> omega
    generalize hj : (if (if (((ns.map V.int).length : Nat) : Int) < 3 then (((ns.map V.int).length : Nat) : Int) else 3) > 1 then (if (((ns.map V.int).length : Nat) : Int) < 3 then (((ns.map V.int).length : Nat) : Int) else 3) else (1 : Int)) = j
    have j3 : j ≤ 3 := by
      subst hj
      split <;> (try split) <;> omega
    refine for_range (lo := 0) (n := j.toNat) (fun i σ H' => ∃ y1 y2 y3, σ = [some (.ref a), y1, y2, y3] ∧ SqL K H' a (ns.map V.int)) ⟨_, _, _, rfl, hS⟩ ?_ ?_
    · rintro i σ H' hi ⟨y1, y2, y3, rfl, hS1⟩
      refine ⟨_, rfl, _, rfl, a, ns, i, by rw [Int.zero_add], hS1, hl, by omega, fun H2 p sm hp0 hp => ?_⟩
      refine ⟨4, rfl, by decide, by decide, fun D hD => ?_⟩
      have c0 := Cr.start (K := K) hp
      have nDp : D ≠ p := c0.ne hD
      refine lc_range (lo := 0) (n := 4) (fun i H' => Cr K p H2 H' (b * i) [] [] ∧ H' D = some (.lst ((List.replicate i true).map V.bl))) ⟨c0.new hD, upd_same⟩ ?_ ?_
      · rintro i H3 hi ⟨c, eD⟩
        have hbi : b * i ≤ 10000 * 10 := Nat.mul_le_mul hb (by omega)
        refine ⟨rfl, _, rfl, p, _, rfl, c.pot, by omega, fun H4 k4 hp4 => ⟨_, k4 D _ nDp eD, ?_, ?_, ?_⟩⟩
        · rw [List.length_map, List.length_replicate, sizeLine_eq]
          omega
        · exact ((c.draw k4 hp4).set hD nDp).mono (by rw [Nat.mul_succ]; omega)
        · rw [upd_same, List.replicate_succ', List.map_append]
          rfl
      · rintro H3 ⟨c, eD⟩
        refine ⟨D, _, rfl, SqL.of eD, _, rfl, ?_⟩
        rw [rep_true]
        exact iteF ⟨_, _, _, rfl, seq_past hS1 hp0 sm c.k⟩
    · rintro σ H' ⟨y1, y2, y3, rfl, _⟩
      exact q H'
end

theorem all_mk {P : Program} {w : World} {K : PySem.W.Frag} {mg : Str → Option Value} {fa : Addr} {t1 t2 : Tok} (hfa : mg "law" = some (.ref fa)) (B : Blt mg)
    (hGW : mg "GREATEST_WIDTH" = some (.int 1000000000 t1)) (hMW : mg "MOST_WORDS" = some (.int 300 t2))
    (S1 : Stands K mg "_law_pot" s__law_pot) (S2 : Stands K mg "_law_take" s__law_take) (S3 : Stands K mg "_law_of" s__law_of) (S4 : Stands K mg "_law_odd" s__law_odd) (S5 : Stands K mg "_law_is_int" s__law_is_int) (S6 : Stands K mg "_law_is_row" s__law_is_row) (S7 : Stands K mg "_law_rows" s__law_rows) (S8 : Stands K mg "_law_right" s__law_right)
    (S9 : Stands K mg "is_whole_number" s_is_whole_number) (Sa : Stands K mg "is_width" s_is_width) (Sb : Stands K mg "is_word" s_is_word) (Sc : Stands K mg "is_text" s_is_text) (SL : Stands K mg "law" s_law) :
    ∃ fd : FuncData, (∀ (s : Shared) (u : Value), BindsTo s fd ⟨[u], []⟩ [("_law_script", u)]) ∧ ∀ base : Heap, K.In base → base.Ns mainGlobals mg → FnG P w K mg base CX0 6 fa fd ["_law_script"] (spLaw K) := by
  obtain ⟨fd, F, hb⟩ := law_fd (x := "_law_script") SL hfa (fun _ _ _ _ _ _ _ => rfl)
  refine ⟨fd, hb, fun base _ _ => ?_⟩
  have d1 := ok_pot (P := P) (w := w) (base := base) S1 B
  have d2 := ok_take (P := P) (w := w) (base := base) S2 B
  have d3 := ok_of S3 B d2
  have d4 := ok_odd S4 B d3
  have d7 := ok_rows S7 B d2 d3 d4
  have d5 := ok_is_int (P := P) (w := w) (base := base) S5 B
  have d6 := ok_is_row S6 B d5
  have d9 := ok_whole (P := P) (w := w) (base := base) S9 B
  have da := ok_is_width Sa B d9 hGW
  have db := ok_is_word Sb B d9
  have dc := ok_is_text Sc B db hMW
  have d8 := ok_right S8 B d2 d3 d4 d7 d5 d6 da dc
  exact ok_law F B d1 d8 (by decide)

theorem all_top {P : Program} {w : World} {K : PySem.W.Frag} {h : Heap} {mg : Str → Option Value} {fa : Addr} (X : K.In h) (G : h.Ns mainGlobals mg) (hfa : mg "law" = some (.ref fa))
    (z0 : PySem.W.nsIn K mainGlobals "len" = some none)
    (z1 : PySem.W.nsIn K mainGlobals "abs" = some none)
    (z2 : PySem.W.nsIn K mainGlobals "max" = some none)
    (z3 : PySem.W.nsIn K mainGlobals "min" = some none)
    (z4 : PySem.W.nsIn K mainGlobals "sum" = some none)
    (z5 : PySem.W.nsIn K mainGlobals "range" = some none)
    (z6 : PySem.W.nsIn K mainGlobals "repr" = some none)
    (z7 : PySem.W.nsIn K mainGlobals "all" = some none)
    (z8 : PySem.W.nsIn K mainGlobals "any" = some none)
    (z9 : PySem.W.nsIn K mainGlobals "int" = some none)
    (z10 : PySem.W.nsIn K mainGlobals "tuple" = some none)
    (z11 : PySem.W.nsIn K mainGlobals "list" = some none)
    (z12 : PySem.W.nsIn K mainGlobals "str" = some none)
    (z13 : PySem.W.nsIn K mainGlobals "bool" = some none)
    (z14 : PySem.W.nsIn K mainGlobals "dict" = some none)
    (z15 : PySem.W.nsIn K mainGlobals "zip" = some none)
    (z16 : PySem.W.nsIn K mainGlobals "enumerate" = some none)
    (z17 : PySem.W.nsIn K mainGlobals "isinstance" = some none)
    (z18 : PySem.W.nsIn K mainGlobals "sorted" = some none)
    (z19 : PySem.W.nsIn K mainGlobals "reversed" = some none)
    (z20 : PySem.W.nsIn K mainGlobals "set" = some none)
    {tk0 : Tok} (cc0 : PySem.W.nsIn K mainGlobals "GREATEST_WIDTH" = some (some (.int 1000000000 tk0)))
    {tk1 : Tok} (cc1 : PySem.W.nsIn K mainGlobals "MOST_WORDS" = some (some (.int 300 tk1)))
    {f0 : Addr} {od0 an0 : Option Addr} {sl0 : Array (Option Value)} {oc0 kV0 dc0 pm0 cd0 ct0 : Value}
    (a0 : PySem.W.nsIn K mainGlobals "_law_pot" = some (some (.ref f0))) (l0 : K.lookup f0 = some ⟨oc0, od0, .func (PySem.W.fnOf "_law_pot" "_law_pot" (defArgs s__law_pot) (defBody s__law_pot) (defScope s__law_pot) .none kV0 dc0 pm0 an0 cd0 ct0), sl0⟩) (c0 : PySem.W.codeIn K cd0 "_law_pot" = true) (k0 : PySem.W.keepIn K (.ref f0) = true)
    {f1 : Addr} {od1 an1 : Option Addr} {sl1 : Array (Option Value)} {oc1 kV1 dc1 pm1 cd1 ct1 : Value}
    (a1 : PySem.W.nsIn K mainGlobals "_law_take" = some (some (.ref f1))) (l1 : K.lookup f1 = some ⟨oc1, od1, .func (PySem.W.fnOf "_law_take" "_law_take" (defArgs s__law_take) (defBody s__law_take) (defScope s__law_take) .none kV1 dc1 pm1 an1 cd1 ct1), sl1⟩) (c1 : PySem.W.codeIn K cd1 "_law_take" = true) (k1 : PySem.W.keepIn K (.ref f1) = true)
    {f2 : Addr} {od2 an2 : Option Addr} {sl2 : Array (Option Value)} {oc2 kV2 dc2 pm2 cd2 ct2 : Value}
    (a2 : PySem.W.nsIn K mainGlobals "_law_of" = some (some (.ref f2))) (l2 : K.lookup f2 = some ⟨oc2, od2, .func (PySem.W.fnOf "_law_of" "_law_of" (defArgs s__law_of) (defBody s__law_of) (defScope s__law_of) .none kV2 dc2 pm2 an2 cd2 ct2), sl2⟩) (c2 : PySem.W.codeIn K cd2 "_law_of" = true) (k2 : PySem.W.keepIn K (.ref f2) = true)
    {f3 : Addr} {od3 an3 : Option Addr} {sl3 : Array (Option Value)} {oc3 kV3 dc3 pm3 cd3 ct3 : Value}
    (a3 : PySem.W.nsIn K mainGlobals "_law_odd" = some (some (.ref f3))) (l3 : K.lookup f3 = some ⟨oc3, od3, .func (PySem.W.fnOf "_law_odd" "_law_odd" (defArgs s__law_odd) (defBody s__law_odd) (defScope s__law_odd) .none kV3 dc3 pm3 an3 cd3 ct3), sl3⟩) (c3 : PySem.W.codeIn K cd3 "_law_odd" = true) (k3 : PySem.W.keepIn K (.ref f3) = true)
    {f4 : Addr} {od4 an4 : Option Addr} {sl4 : Array (Option Value)} {oc4 kV4 dc4 pm4 cd4 ct4 : Value}
    (a4 : PySem.W.nsIn K mainGlobals "_law_is_int" = some (some (.ref f4))) (l4 : K.lookup f4 = some ⟨oc4, od4, .func (PySem.W.fnOf "_law_is_int" "_law_is_int" (defArgs s__law_is_int) (defBody s__law_is_int) (defScope s__law_is_int) .none kV4 dc4 pm4 an4 cd4 ct4), sl4⟩) (c4 : PySem.W.codeIn K cd4 "_law_is_int" = true) (k4 : PySem.W.keepIn K (.ref f4) = true)
    {f5 : Addr} {od5 an5 : Option Addr} {sl5 : Array (Option Value)} {oc5 kV5 dc5 pm5 cd5 ct5 : Value}
    (a5 : PySem.W.nsIn K mainGlobals "_law_is_row" = some (some (.ref f5))) (l5 : K.lookup f5 = some ⟨oc5, od5, .func (PySem.W.fnOf "_law_is_row" "_law_is_row" (defArgs s__law_is_row) (defBody s__law_is_row) (defScope s__law_is_row) .none kV5 dc5 pm5 an5 cd5 ct5), sl5⟩) (c5 : PySem.W.codeIn K cd5 "_law_is_row" = true) (k5 : PySem.W.keepIn K (.ref f5) = true)
    {f6 : Addr} {od6 an6 : Option Addr} {sl6 : Array (Option Value)} {oc6 kV6 dc6 pm6 cd6 ct6 : Value}
    (a6 : PySem.W.nsIn K mainGlobals "_law_rows" = some (some (.ref f6))) (l6 : K.lookup f6 = some ⟨oc6, od6, .func (PySem.W.fnOf "_law_rows" "_law_rows" (defArgs s__law_rows) (defBody s__law_rows) (defScope s__law_rows) .none kV6 dc6 pm6 an6 cd6 ct6), sl6⟩) (c6 : PySem.W.codeIn K cd6 "_law_rows" = true) (k6 : PySem.W.keepIn K (.ref f6) = true)
    {f7 : Addr} {od7 an7 : Option Addr} {sl7 : Array (Option Value)} {oc7 kV7 dc7 pm7 cd7 ct7 : Value}
    (a7 : PySem.W.nsIn K mainGlobals "_law_right" = some (some (.ref f7))) (l7 : K.lookup f7 = some ⟨oc7, od7, .func (PySem.W.fnOf "_law_right" "_law_right" (defArgs s__law_right) (defBody s__law_right) (defScope s__law_right) .none kV7 dc7 pm7 an7 cd7 ct7), sl7⟩) (c7 : PySem.W.codeIn K cd7 "_law_right" = true) (k7 : PySem.W.keepIn K (.ref f7) = true)
    {f8 : Addr} {od8 an8 : Option Addr} {sl8 : Array (Option Value)} {oc8 kV8 dc8 pm8 cd8 ct8 : Value}
    (a8 : PySem.W.nsIn K mainGlobals "is_whole_number" = some (some (.ref f8))) (l8 : K.lookup f8 = some ⟨oc8, od8, .func (PySem.W.fnOf "is_whole_number" "is_whole_number" (defArgs s_is_whole_number) (defBody s_is_whole_number) (defScope s_is_whole_number) .none kV8 dc8 pm8 an8 cd8 ct8), sl8⟩) (c8 : PySem.W.codeIn K cd8 "is_whole_number" = true) (k8 : PySem.W.keepIn K (.ref f8) = true)
    {f9 : Addr} {od9 an9 : Option Addr} {sl9 : Array (Option Value)} {oc9 kV9 dc9 pm9 cd9 ct9 : Value}
    (a9 : PySem.W.nsIn K mainGlobals "is_width" = some (some (.ref f9))) (l9 : K.lookup f9 = some ⟨oc9, od9, .func (PySem.W.fnOf "is_width" "is_width" (defArgs s_is_width) (defBody s_is_width) (defScope s_is_width) .none kV9 dc9 pm9 an9 cd9 ct9), sl9⟩) (c9 : PySem.W.codeIn K cd9 "is_width" = true) (k9 : PySem.W.keepIn K (.ref f9) = true)
    {f10 : Addr} {od10 an10 : Option Addr} {sl10 : Array (Option Value)} {oc10 kV10 dc10 pm10 cd10 ct10 : Value}
    (a10 : PySem.W.nsIn K mainGlobals "is_word" = some (some (.ref f10))) (l10 : K.lookup f10 = some ⟨oc10, od10, .func (PySem.W.fnOf "is_word" "is_word" (defArgs s_is_word) (defBody s_is_word) (defScope s_is_word) .none kV10 dc10 pm10 an10 cd10 ct10), sl10⟩) (c10 : PySem.W.codeIn K cd10 "is_word" = true) (k10 : PySem.W.keepIn K (.ref f10) = true)
    {f11 : Addr} {od11 an11 : Option Addr} {sl11 : Array (Option Value)} {oc11 kV11 dc11 pm11 cd11 ct11 : Value}
    (a11 : PySem.W.nsIn K mainGlobals "is_text" = some (some (.ref f11))) (l11 : K.lookup f11 = some ⟨oc11, od11, .func (PySem.W.fnOf "is_text" "is_text" (defArgs s_is_text) (defBody s_is_text) (defScope s_is_text) .none kV11 dc11 pm11 an11 cd11 ct11), sl11⟩) (c11 : PySem.W.codeIn K cd11 "is_text" = true) (k11 : PySem.W.keepIn K (.ref f11) = true)
    {f12 : Addr} {od12 an12 : Option Addr} {sl12 : Array (Option Value)} {oc12 kV12 dc12 pm12 cd12 ct12 : Value}
    (a12 : PySem.W.nsIn K mainGlobals "law" = some (some (.ref f12))) (l12 : K.lookup f12 = some ⟨oc12, od12, .func (PySem.W.fnOf "law" "law" (defArgs s_law) (defBody s_law) (defScope s_law) .none kV12 dc12 pm12 an12 cd12 ct12), sl12⟩) (c12 : PySem.W.codeIn K cd12 "law" = true) (k12 : PySem.W.keepIn K (.ref f12) = true)
    : ∃ fd : FuncData, (∀ (s : Shared) (u : Value), BindsTo s fd ⟨[u], []⟩ [("_law_script", u)]) ∧ ∀ base : Heap, K.In base → base.Ns mainGlobals mg → FnG P w K mg base CX0 6 fa fd ["_law_script"] (spLaw K) :=
  all_mk hfa ⟨PySem.W.mg_none_of X G z0, PySem.W.mg_none_of X G z1, PySem.W.mg_none_of X G z2, PySem.W.mg_none_of X G z3, PySem.W.mg_none_of X G z4, PySem.W.mg_none_of X G z5, PySem.W.mg_none_of X G z6, PySem.W.mg_none_of X G z7, PySem.W.mg_none_of X G z8, PySem.W.mg_none_of X G z9, PySem.W.mg_none_of X G z10, PySem.W.mg_none_of X G z11, PySem.W.mg_none_of X G z12, PySem.W.mg_none_of X G z13, PySem.W.mg_none_of X G z14, PySem.W.mg_none_of X G z15, PySem.W.mg_none_of X G z16, PySem.W.mg_none_of X G z17, PySem.W.mg_none_of X G z18, PySem.W.mg_none_of X G z19, PySem.W.mg_none_of X G z20⟩ (PySem.W.mg_of X G cc0) (PySem.W.mg_of X G cc1)
    (stands_mk X G a0 l0 c0 k0)
    (stands_mk X G a1 l1 c1 k1)
    (stands_mk X G a2 l2 c2 k2)
    (stands_mk X G a3 l3 c3 k3)
    (stands_mk X G a4 l4 c4 k4)
    (stands_mk X G a5 l5 c5 k5)
    (stands_mk X G a6 l6 c6 k6)
    (stands_mk X G a7 l7 c7 k7)
    (stands_mk X G a8 l8 c8 k8)
    (stands_mk X G a9 l9 c9 k9)
    (stands_mk X G a10 l10 c10 k10)
    (stands_mk X G a11 l11 c11 k11)
    (stands_mk X G a12 l12 c12 k12)

end Lk

open PySem PySem.W PyProof.Rows in
set_option maxRecDepth 100000 in
set_option maxHeartbeats 0 in
theorem PySem.Challenge.cw_settledlines_k01_widths_and_texts_of_any_holds : PySem.Challenge.rw_settledlines_k01_widths_and_texts_of_any.Holds := by
  w_on; o_law; k_head; (case hw => w_witness2)
  k_fill
  refine SL.walkG (l := PySem.Challenge.rw_settledlines_k01_widths_and_texts_of_any) (n := 63) (k := 6) (x := "_law_script") (sp := SL.spLaw) rfl (by decide) rfl ⟨rfl, by decide, by decide⟩ (fun w h Y => PySem.W.kIn_of Y) ?F (fun K H a ns hl hS => ⟨a, ns, rfl, hS, hl, fun _ => rfl⟩)
  case F =>
    intro w mg fa h KX G hmg
    refine' Lk.all_top KX G hmg ?z0 ?z1 ?z2 ?z3 ?z4 ?z5 ?z6 ?z7 ?z8 ?z9 ?z10 ?z11 ?z12 ?z13 ?z14 ?z15 ?z16 ?z17 ?z18 ?z19 ?z20 ?cc0 ?cc1 ?a0 ?l0 ?c0 ?k0 ?a1 ?l1 ?c1 ?k1 ?a2 ?l2 ?c2 ?k2 ?a3 ?l3 ?c3 ?k3 ?a4 ?l4 ?c4 ?k4 ?a5 ?l5 ?c5 ?k5 ?a6 ?l6 ?c6 ?k6 ?a7 ?l7 ?c7 ?k7 ?a8 ?l8 ?c8 ?k8 ?a9 ?l9 ?c9 ?k9 ?a10 ?l10 ?c10 ?k10 ?a11 ?l11 ?c11 ?k11 ?a12 ?l12 ?c12 ?k12
    (case z0 => k_is)
    (case z1 => k_is)
    (case z2 => k_is)
    (case z3 => k_is)
    (case z4 => k_is)
    (case z5 => k_is)
    (case z6 => k_is)
    (case z7 => k_is)
    (case z8 => k_is)
    (case z9 => k_is)
    (case z10 => k_is)
    (case z11 => k_is)
    (case z12 => k_is)
    (case z13 => k_is)
    (case z14 => k_is)
    (case z15 => k_is)
    (case z16 => k_is)
    (case z17 => k_is)
    (case z18 => k_is)
    (case z19 => k_is)
    (case z20 => k_is)
    (case cc0 => k_is)
    (case cc1 => k_is)
    (case a0 => k_is)
    (case l0 => k_is)
    (case c0 => k_is)
    (case k0 => k_is)
    (case a1 => k_is)
    (case l1 => k_is)
    (case c1 => k_is)
    (case k1 => k_is)
    (case a2 => k_is)
    (case l2 => k_is)
    (case c2 => k_is)
    (case k2 => k_is)
    (case a3 => k_is)
    (case l3 => k_is)
    (case c3 => k_is)
    (case k3 => k_is)
    (case a4 => k_is)
    (case l4 => k_is)
    (case c4 => k_is)
    (case k4 => k_is)
    (case a5 => k_is)
    (case l5 => k_is)
    (case c5 => k_is)
    (case k5 => k_is)
    (case a6 => k_is)
    (case l6 => k_is)
    (case c6 => k_is)
    (case k6 => k_is)
    (case a7 => k_is)
    (case l7 => k_is)
    (case c7 => k_is)
    (case k7 => k_is)
    (case a8 => k_is)
    (case l8 => k_is)
    (case c8 => k_is)
    (case k8 => k_is)
    (case a9 => k_is)
    (case l9 => k_is)
    (case c9 => k_is)
    (case k9 => k_is)
    (case a10 => k_is)
    (case l10 => k_is)
    (case c10 => k_is)
    (case k10 => k_is)
    (case a11 => k_is)
    (case l11 => k_is)
    (case c11 => k_is)
    (case k11 => k_is)
    (case a12 => k_is)
    (case l12 => k_is)
    (case c12 => k_is)
    (case k12 => k_is)

