import PyProof.Rows.All
import Wide.All
import OpenK.AllK
import Wide.FinOn
import PyProof.EqAt
import PyProof.EqKinds
import PyProof.TupleCall
import HandS.ForMost
import HandS.Wide
import HandS.WideBits
import HandS.IsInst
import HandS.TupMul
import HandS.TupAny
import HandS.Style
import HandS.Conv
import HandS.Evl
import HandS.Rev
import HandS.SortRule
import HandS.List
import KE.DataMinMax
import PyProof.LongRange
import PySem.Challenge.RW_greenroads_k02_next_and_last_greens
set_option Elab.async false
set_option linter.all false
set_option maxRecDepth 100000
set_option maxHeartbeats 2000000
/-! Defs under which no guard stands (so that repr of lists may be asked), and rules that the layer lacks. -/
namespace Gr
open PySem PySem.Spec PyProof.Rows L2

/-- no repr is under way around the call -/
abbrev Free (A : Around) : Prop := A.guards = some []
theorem Free.deep {A : Around} (h : Free A) (env : Env) : Free (A.deeper env) := h

structure FnG (P : Program) (w : World) (K : PySem.W.Frag) (mg : Str → Option Value) (base : Heap) (C : CXT) (k : Nat) (f : Addr) (fd : FuncData) (ps : List Str) (sp : Sp) : Prop where
  sized : ∀ xs G Z E, sp xs G Z E → xs.length = ps.length
  go : ∀ (A : Around) (envs : List Env) (st : Shared) (G : Hp) (ar : Args) (vals : List Value) (xs : List V) (Z : VK) (E : XK), Free A → Room k A → Env0 P w K mg base A envs st G →
    BindsTo st fd ar (ps.zip vals) → Vals xs vals → sp xs G Z E → codeAny (model P w) A (.call (.ref f) ar) (CR C envs P w G st Z E) st

section
variable {P : Program} {w : World} {K : PySem.W.Frag} {mg : Str → Option Value} {base : Heap} {C : CXT} {k : Nat} {f : Addr} {fd : FuncData} {ps : List Str} {sp : Sp}
theorem FnG.ofOk (F : FnOk P w K mg base C k f fd ps sp) : FnG P w K mg base C k f fd ps sp := ⟨F.len, fun A o st G ar vals xs Z E _ => F.run A o st G ar vals xs Z E⟩

theorem fnG_body {name qual : Str} {params : Arguments} {body : List Stmt} {sc : Scope} {dV kV doc pm cdv ct oc : Value} {an od : Option Addr} {osl : Array (Option Value)} {N : List Str}
    (lk : K.lookup f = some ⟨oc, od, .func (PySem.W.fnOf name qual params body sc dV kV doc pm an cdv ct), osl⟩) (hc : PySem.W.codeIn K cdv qual = true) (S : FnScope N ps sc) (sized : ∀ xs G Z E, sp xs G Z E → xs.length = ps.length)
    (hb : ∀ (A : Around) (envs : List Env) (st : Shared) (G : Hp) (xs : List V) (Z : VK) (E : XK), Free A → Room k (A.deeper (envOfC qual sc st.heap.objs.size f cdv)) → sp xs G Z E →
      ∃ t, PSs (cxOf C P w K mg base N qual sc f cdv A envs st G E) body t ∧ t { nx := fun _ G' => Z .non G', rt := Z } (start N xs) G) :
    FnG P w K mg base C (k + 1) f (PySem.W.fnOf name qual params body sc dV kV doc pm an cdv ct) ps sp where
  sized := sized
  go := by
    intro A envs st G ar vals xs Z E hf room e0 bt rv want
    have kin : K.In st.heap := e0.mod.kin.keeps (fun b o q => (e0.bs b o q).1)
    have nl : st.heap.NoLimit := e0.mod.nolimit.keeps (fun b o q => (e0.bs b o q).1)
    have kinds : ∀ q ∈ ps.zip vals, sc.names.lookup q.1 = some .local ∨ (sc.names.lookup q.1 = some .cell ∧ ((cellsFrom (st.heap.objs.size + 1) sc.names []).lookup q.1).isSome = true) := by
      rintro ⟨n, v⟩ hq
      cases S.par n (List.of_mem_zip hq).1 with
      | inl h => exact Or.inl h
      | inr h => exact Or.inr ⟨h, PySem.W.cellsFrom_some _ _ _ (Or.inl h)⟩
    apply codeAny_call_function room.depth (kin _ _ lk) rfl S.co S.gen rfl (PySem.W.codeRec_of kin hc)
    apply bt
    apply wpAny_newFunctionEnv_cells S.kind kinds
    intro env he s1 x
    cases he
    refine ⟨nl.keeps x.toInCall.keep, codeAny_func ?_⟩
    obtain ⟨t, ht, hq⟩ := hb A envs st G xs Z E hf (room.deeper _) want
    have J0 : Inv (cxOf C P w K mg base N qual sc f cdv A envs st G E) [] (start N xs) G s1 := inv_start S room.hd e0 (sized _ _ _ _ want) rv x
    apply wpAny_mono (ht.run [] s1 (start N xs) G _ J0 hq) _ (fun _ _ h => h)
    intro fl s2 hs
    cases fl with
    | ret u =>
      obtain ⟨v, τ, G2, J, r2, q2⟩ := hs
      exact ⟨v, G2, J.os, J.bare, J.base, J.hok, r2, q2⟩
    | next =>
      obtain ⟨τ, G2, J, q2⟩ := hs
      exact ⟨.non, G2, J.os, J.bare, J.base, J.hok, rfl, q2⟩
    | brk => exact (hs.elim fun _ h => h.elim fun _ h => h.2).elim
    | cont => exact (hs.elim fun _ h => h.elim fun _ h => h.2).elim

/-- a def by its body, guards known -/
theorem okG {x qual : Str} {st : Stmt} {N : List Str} (F : Fun K x qual st f fd) (S : FnScope N ps (defScope st)) (sized : ∀ xs G Z E, sp xs G Z E → xs.length = ps.length)
    (hb : ∀ (cdv : Value) (A : Around) (envs : List Env) (s : Shared) (G : Hp) (xs : List V) (Z : VK) (E : XK), Free A → Room k (A.deeper (envOfC qual (defScope st) s.heap.objs.size f cdv)) → sp xs G Z E →
      ∃ t, PSs (cxOf CX0 P w K mg base N qual (defScope st) f cdv A envs s G E).nox (defBody st) t ∧ t { nx := fun _ G' => Z .non G', rt := Z } (start N xs) G) : FnG P w K mg base CX0 (k + 1) f fd ps sp := by
  obtain ⟨oc, od, kV, doc, pm, an, cdv, ct, osl, rfl, lk, hcd⟩ := F.ex
  apply fnG_body lk hcd S sized
  intro A envs s G xs Z E hf hr hs
  obtain ⟨t, h, q⟩ := hb cdv A envs s G xs Z E hf hr hs
  exact ⟨t, h.nox, q⟩
end

section
variable {X : Cx} {C : CXT} {k : Nat} {f : Addr} {fd : FuncData} {ps : List Str} {sp : Sp} {dvs : List V} {ds : List Value} {E : XK} {x : Str} {p pos : Pos} {e : Expr} {es : List Expr} {t : TA}
theorem pe_callG (F : FnG X.prog X.w X.K X.mg X.base C k f fd ps sp) (hf : Free X.A) (hr : Room k X.A) (hg : Gl X x) (hm : X.mg x = some (.ref f)) (hk : PySem.W.keepIn X.K (.ref f) = true) (hb : Binds X.K fd ps ds) (hd : Vals dvs ds)
    (hx : Passes C X E) (ha : PA X (e :: es) t) (hdb : (x == ("__debug__" : Str)) = false := by decide) (he : starEach (e :: es) X.env = (false, eval e X.env) :: starEach es X.env := by rfl)
    (hpl : (backTo pos (starEach es X.env)).any (·.1) = false := by rfl) : PE X (.Call (.Name x p) (e :: es) [] pos) (tCall sp dvs E t) where
  run := by
    intro pins s σ H Q I h
    apply wpAny_Call_Name_kw
    apply ld_glob I hg hm _ hdb
    apply PySem.W.callWith_K (h₀ := X.base) I.ok.mod.kin hk _ he hpl
    apply thn (ha.run pos pins s σ H _ I h)
    rintro us s1 ⟨vs, H1, I1, r, q⟩
    have both : Vals (vs ++ dvs) (us ++ ds) := r.append hd
    have many : (us ++ ds).length = ps.length := both.length.symm.trans (F.sized _ _ _ _ q)
    refine ⟨I1.kIn, wpAny_call (codeAny_mono (F.go X.A X.stack s1 H1 ⟨us, []⟩ (us ++ ds) (vs ++ dvs) Q E hf hr I1.env0 (hb s1 us I1.kIn many) both q) ?_)⟩
    intro res s2 hq
    match res, hq with
    | .ok (.ret u), hq => exact I1.after hq
    | .error err, hq => exact hx pins σ H1 s1 err s2 I1 hq
end

/-! ### rules -/
section
variable {X : Cx}
def CPowW (i j : Int) : Prop := 0 ≤ j ∧ (Builtin.Int.intBits i : Int) * j ≤ 2 ^ 27
theorem op_powW : OpR X (binaryOp .Pow) (rI CPowW fun i j => .int (i ^ j.toNat)) := opI fun _ _ _ _ _ _ _ hc q => pow_int hc.1 hc.2 q
theorem bits_le {i : Int} {n : Nat} (h : i.natAbs < 2 ^ n) (h0 : 0 < n) : Builtin.Int.intBits i ≤ n := by
  have a := PySem.Flt.log2_lt_of h0 h
  unfold Builtin.Int.intBits
  split <;> omega
theorem cube_ok {i : Int} (h : i.natAbs < 2 ^ 1000) : CPowW i 3 := by
  have a := bits_le h (by decide)
  exact ⟨by decide, by omega⟩

/-- repr of a list, a tuple, what lies in them -/
def rRepr (K : PySem.W.Frag) : List V → Hp → VK → Prop := fun xs H Q => ∃ (a : Addr) (d : PyData), xs = [.ref a] ∧ Dp K H (.ref a) d ∧ d.showable = true ∧ d.hasDict = false ∧ d.depth ≤ 40 ∧ d.shown.length ≤ sizeLine ∧ Q (.str d.shown) H
theorem call_reprD (hf : Free X.A) (hu : X.A.units + 64 < cLine) : CallR X (.builtin "repr") (rRepr X.K) := by
  rintro pins s σ H xs us Q I r ⟨a, d, rfl, hD, hs, hd, h20, hz, q⟩
  obtain ⟨u, rfl, hr⟩ := vals1 r
  cases (show u = Value.ref a from hr)
  obtain ⟨as, rd⟩ := Dp.reads I d (.ref a) (.ref a) hD rfl
  exact repr_of_reads' rd hs (fun e => by rw [hd] at e; cases e) hf (by omega) (fun _ _ e => e) (fun h' u tk hk => ⟨.str d.shown, H, I.kept hk, ⟨u, rfl⟩, q⟩) hz
end

/-! ### the law's own call -/
section
variable {P : Program} {w : World} {K : PySem.W.Frag} {mg mb : Str → Option Value} {k : Nat} {fa a : Addr} {fd : FuncData} {x : Str} {sp : Sp} {st : Shared} {vs : List Value} {ns : List Int}
/-- behind the top: the heap with what G tracks hidden is a module's base -/
theorem base_mod {G : Hp} (kin : K.In st.heap) (hg : st.heap.Ns mainGlobals mg) (hb : st.heap.Ns builtinsNs mb) (hbb : ∀ y : Str, y ≠ "__name__" → mb y = bootBuiltins y) (nl : st.heap.NoLimit)
    (notD : ∀ b o es ep, st.heap.get? b = some o → o.data = .dict es ep → G b = none) (notK : ∀ b o, K.lookup b = some o → G b = none) :
    K.In (hidT st.heap G) ∧ (hidT st.heap G).Ns mainGlobals mg ∧ Mod K mg (hidT st.heap G) := by
  have nsH : ∀ {b : Addr} {m : Str → Option Value}, st.heap.Ns b m → (hidT st.heap G).Ns b m := by
    rintro b m ⟨o, es, ep, e, d, rest⟩
    exact ⟨o, es, ep, hidT_get e (notD b o es ep e d), d, rest⟩
  have kH : K.In (hidT st.heap G) := fun b o e => hidT_get (kin b o e) (notK b o e)
  obtain ⟨mc, c1, c2⟩ := nl
  exact ⟨kH, nsH hg, kH, nsH hg, ⟨mb, nsH hb, hbb⟩, mc, nsH c1, c2⟩

theorem law_run {G : Hp} (bm : K.In (hidT st.heap G) ∧ (hidT st.heap G).Ns mainGlobals mg ∧ Mod K mg (hidT st.heap G)) (no : st.gens = #[]) (only : Only G) (sq : SqL K G a (ns.map V.int)) (ok : HOk P w G st.heap) (room : Room k callerA)
    (F : ∀ base : Heap, K.In base → base.Ns mainGlobals mg → FnG P w K mg base CX0 k fa fd [x] sp) (bt : ∀ (s : Shared) (u : Value), BindsTo s fd ⟨[u], []⟩ [(x, u)])
    (want : sp [.ref a] G (fun v _ => v = .bl true) fun _ _ _ => False) :
    codeAny (model P w) callerA (.call (.ref fa) ⟨[.ref a], []⟩) (fun r s2 => r = .ok (.ret (.bool true)) ∧ OldK st.heap s2.heap ∧ s2.os = st.os ∧ AllBare s2.gens) st := by
  obtain ⟨b1, b2, b3⟩ := bm
  have e0 : Env0 P w K mg (hidT st.heap G) callerA [] st G :=
    { frames := rfl, mod := b3, bs := fun b o e => of_hidT e, bsz := Nat.le_of_eq (hidT_size _ _), funs := trivial, frf := fun b h => (List.not_mem_nil (show b ∈ ([] : List Addr) from h)).elim, hok := ok, bare := .of_eq no }
  apply codeAny_mono ((F _ b1 b2).go callerA [] st G ⟨[.ref a], []⟩ [.ref a] [.ref a] _ _ rfl room e0 (bt st (.ref a)) (.cons rfl .nil) want)
  intro r s2 h
  match r, h with
  | .ok (.ret u), h =>
    obtain ⟨v, G2, os, bare, un, ok2, rv, q⟩ := h
    cases (show v = .bl true from q)
    cases (show u = Value.bool true from rv)
    refine ⟨rfl, OldK.of_keep (fun b o e => ?_), os, bare⟩
    rcases only b with z | ⟨ob, xs, z⟩
    · exact un.keep b o e z (fun h => (List.not_mem_nil (show b ∈ ([] : List Addr) from h)).elim) (by simp)
    · have e1 := (ok b _ z).1
      have e2 := (ok2 b _ (un.frzs b ob _ z)).1
      rw [e] at e1
      cases e1
      exact e2

theorem law_callG (kin : K.In st.heap) (hg : st.heap.Ns mainGlobals mg) (hb : st.heap.Ns builtinsNs mb) (hbb : ∀ y : Str, y ≠ "__name__" → mb y = bootBuiltins y) (nl : st.heap.NoLimit) (no : st.gens = #[])
    (ha : st.heap.get? a = some { cls := .type "list", data := .seq vs.toArray }) (hi : IntsAre vs ns) (hl : ns.length ≤ sizeLine) (room : Room k callerA)
    (F : ∀ base : Heap, K.In base → base.Ns mainGlobals mg → FnG P w K mg base CX0 k fa fd [x] sp) (bt : ∀ (s : Shared) (u : Value), BindsTo s fd ⟨[u], []⟩ [(x, u)])
    (want : ∀ G : Hp, Only G → SqL K G a (ns.map V.int) → sp [.ref a] G (fun v _ => v = .bl true) fun _ _ _ => False) :
    codeAny (model P w) callerA (.call (.ref fa) ⟨[.ref a], []⟩) (fun r s2 => r = .ok (.ret (.bool true)) ∧ OldK st.heap s2.heap ∧ s2.os = st.os ∧ AllBare s2.gens) st := by
  have rv := vals_ints hi
  cases hk : K.lookup a with
  | some o =>
    have e := kin a o hk
    rw [ha] at e
    cases e
    have sq : SqL K (fun _ => none) a (ns.map V.int) := Or.inr ⟨_, vs.toArray, _, hk, rfl, rfl, rfl, by rw [List.size_toArray, hi.length]; exact hl, by simpa using rv⟩
    exact law_run (G := fun _ => none) (base_mod kin hg hb hbb nl (fun _ _ _ _ _ _ => rfl) fun _ _ _ => rfl) no (fun _ => Or.inl rfl) sq (fun b u z => nomatch (show (none : Option HO) = some u from z)) room F bt (want _ (fun _ => Or.inl rfl) sq)
  | none =>
    have at1 : (fun b => if b = a then some (HO.frz { cls := .type "list", data := .seq vs.toArray } (.lst (ns.map V.int))) else none : Hp) a = some (HO.frz { cls := .type "list", data := .seq vs.toArray } (.lst (ns.map V.int))) := if_pos rfl
    generalize hG : (fun b => if b = a then some (HO.frz { cls := .type "list", data := .seq vs.toArray } (.lst (ns.map V.int))) else none : Hp) = G at at1
    have at0 : ∀ b, b ≠ a → G b = none := fun b hb => by rw [← hG]; exact if_neg hb
    have sq : SqL K G a (ns.map V.int) := Or.inl (Or.inr ⟨_, at1⟩)
    have only : Only G := fun b => by
      by_cases hb : b = a
      · exact Or.inr ⟨_, _, hb ▸ at1⟩
      · exact Or.inl (at0 b hb)
    refine law_run (base_mod kin hg hb hbb nl (fun b o es ep e d => ?_) fun b o e => ?_) no only sq (fun b u z => ?_) room F bt (want _ only sq)
    · by_cases hb : b = a
      · rw [hb, ha] at e
        cases e
        cases (show Data.seq vs.toArray _ = Data.dict es ep from d)
      · exact at0 b hb
    · exact at0 b (fun hb => by rw [hb, hk] at e; cases e)
    · by_cases hb : b = a
      · subst hb
        rw [at1] at z
        cases z
        exact ⟨ha, by rw [List.length_map]; exact hl, vs, _, rv, ha⟩
      · rw [at0 b hb] at z
        cases z
end

theorem walkG {l : PySem.W.OpenLaw} {n k : Nat} {q : Program} {loose : List Str} {XP : (Str → Option Value) → Heap → Prop} {YP : World → Heap → Prop} {d : DefRec} {K : Params → PySem.W.Frag} {sp : PySem.W.Frag → Sp} {x : Str}
    (hn : l.most = some n) (hn2 : n ≤ sizeLine) (hdf : d.params.defaults = []) (hr : Room k callerA) (hY : ∀ (w : World) (h : Heap), YP w h → (K w.params).In h)
    (F : ∀ (w : World) (mg : Str → Option Value) (fa : Addr) (h : Heap), (K w.params).In h → h.Ns mainGlobals mg → mg d.name = some (.ref fa) →
      ∃ fd : FuncData, (∀ (s : Shared) (u : Value), BindsTo s fd ⟨[u], []⟩ [(x, u)]) ∧ ∀ base : Heap, (K w.params).In base → base.Ns mainGlobals mg → FnG l.prog w (K w.params) mg base CX0 k fa fd [x] (sp (K w.params)))
    (hsp : ∀ (K : PySem.W.Frag) (G : Hp) (a : Addr) (ns : List Int), ns.length ≤ n → Only G → SqL K G a (ns.map V.int) → sp K [.ref a] G (fun v _ => v = .bl true) fun _ _ _ => False) :
    PySem.W.WalkO q loose XP YP l.row.toRowW d [] (fun f vs => PySem.call f vs) := by
  apply Att.attach_call hn hdf
  intro w s₀ s₁ mg mb fa o pm cd doc a vs ns G Y ho hd hcd hmg hobj hints hlen hg
  have kin := hY w _ Y
  obtain ⟨fd, hb, hF⟩ := F w mg fa _ kin G.T.g hmg
  exact law_callG kin G.T.g G.T.b G.T.builtins G.T.nolimit hg hobj hints (Nat.le_trans hlen hn2) hr hF hb (fun H hO hS => hsp (K w.params) H a ns hlen hO hS)
end Gr

set_option Elab.async false
set_option linter.all false
set_option maxRecDepth 100000
set_option maxHeartbeats 4000000
/-! t[::-1] of a tuple, repr of what is no object. -/
namespace Gr
open PySem PySem.Spec PyProof.Rows L2 HT
section
variable {prog : Program} {w : World} {A : Around} {E : Value → Shared → Prop} {s : Shared}
theorem back_places (n : Nat) : Builtin.Slice.slicePlaces ((n : Int) - 1) (-1) (-1) = n := by
  unfold Builtin.Slice.slicePlaces
  rw [if_neg (by decide)]
  by_cases h : (n : Int) - 1 > -1
  · rw [if_pos h]
    simp only [Int.neg_neg, Int.ediv_one]
    omega
  · rw [if_neg h]; omega
theorem back_applied {sl : Addr} {n : Nat} {t : Tok} {Q : Int × Int × Nat → Shared → Prop} (hs : s.heap.IsSliceOf sl .none .none (.int (-1) t)) (h : Q ((n : Int) - 1, -1, n) s) :
    wpAny (model prog w) A (Builtin.Slice.sliceApplied (.ref sl) (pure (n : Int))) Q E s := by
  obtain ⟨os, e1, e2, e3⟩ := id hs
  unfold Builtin.Slice.sliceApplied Builtin.Slice.sliceFields
  apply wpAny_bind
  apply wpAny_bind
  refine wpAny_field e1 e3 (x := .none) rfl ?_
  apply wpAny_bind
  refine wpAny_field e1 e3 (x := .none) rfl ?_
  apply wpAny_bind
  refine wpAny_field e1 e3 (x := .int (-1) t) rfl (wpAny_pure ?_)
  refine wpAny_bind (slicePart_int ?_)
  show wpAny _ _ (if ((-1 : Int) == 0) = true then _ else _) _ _ s
  rw [if_neg (by decide)]
  apply wpAny_bind
  apply slicePart_none
  apply wpAny_bind
  apply slicePart_none
  refine wpAny_bind (wpAny_pure ?_)
  show wpAny _ _ (pure ((n : Int) - 1, (-1 : Int), Builtin.Slice.slicePlaces ((n : Int) - 1) (-1) (-1))) _ _ s
  rw [back_places]
  exact wpAny_pure h
theorem fm_congr {α β : Type} {f g : α → Option β} : ∀ {l : List α}, (∀ x ∈ l, f x = g x) → l.filterMap f = l.filterMap g
  | [], _ => rfl
  | a :: r, h => by
    rw [List.filterMap_cons, List.filterMap_cons, h a List.mem_cons_self, fm_congr fun x hx => h x (List.mem_cons_of_mem _ hx)]
theorem back_pick (xs : Array Value) : ((List.range xs.size).filterMap fun (m : Nat) => xs[(((xs.size : Int) - 1) + (m : Int) * (-1)).toNat]?).toArray = xs.toList.reverse.toArray := by
  congr 1
  have key : ∀ m ∈ List.range xs.size, xs[(((xs.size : Int) - 1) + (m : Int) * (-1)).toNat]? = xs.toList.reverse[m]? := by
    intro m hm
    have hm' : m < xs.size := List.mem_range.mp hm
    rw [List.getElem?_reverse (by simpa using hm')]
    have e : (((xs.size : Int) - 1) + (m : Int) * (-1)).toNat = xs.toList.length - 1 - m := by
      rw [Array.length_toList]; omega
    rw [e, Array.getElem?_toList]
  rw [fm_congr key]
  have : ∀ l : List Value, (List.range l.length).filterMap (fun m => l[m]?) = l := by
    intro l
    induction l with
    | nil => rfl
    | cons a r ih =>
      rw [List.length_cons, List.range_succ_eq_map, List.filterMap_cons]
      show a :: _ = _
      rw [List.filterMap_map]
      exact congrArg (a :: ·) ih
  have z := this xs.toList.reverse
  rw [List.length_reverse, Array.length_toList] at z
  exact z
theorem getItem_tuple_back {t sl : Addr} {items : Array Value} {u : Tok} {Q : Value → Shared → Prop} (ht : IsTup s.heap t items) (hs : s.heap.IsSliceOf sl .none .none (.int (-1) u))
    (h : Q (.ref s.heap.objs.size) { s with heap := s.heap.push { cls := .type "tuple", data := .seq items.toList.reverse.toArray } }) (hsz : items.size ≤ sizeLine) : wpAny (model prog w) A (getItem (.ref t) (.ref sl)) Q E s := by
  have ok : sizeOk (.seq items.toList.reverse.toArray) := by
    show items.toList.reverse.toArray.size ≤ sizeLine
    rw [List.size_toArray, List.length_reverse, Array.length_toList]
    exact hsz
  obtain ⟨os, e1, e2, e3⟩ := id hs
  have tS : s.TypeIs (.ref sl) "slice" := ⟨os, e1, e2⟩
  unfold getItem
  try with_reducible refine wpAny_holding ?_
  first | refine wpAny_bind (wpAny_pure ?_) | skip
  apply wpAny_bind
  apply wpAny_sequenceKey ht.typeIs (by decide)
  apply wpAny_bind
  refine wpAny_callSpecial?_slot (name := Str.ofString "__getitem__") ht.typeIs PyProof.Rows.slot_tuple_getitem ?_
  refine wpAny_call_entry PyProof.Rows.slot_tuple_getitem ht.typeIs entry_tuple_getitem ?_ (args_tuple_getitem _ _)
  show wpAny _ _ (Builtin.Tuple.tupleItemsOf (.ref t) >>= _) _ _ s
  apply wpAny_bind
  apply tupleItemsOf_ ht
  apply wpAny_bind
  apply wpAny_typeOf tS
  rw [if_pos (by decide)]
  apply wpAny_bind
  apply back_applied hs
  have no : ¬ ((((items.size : Int) - 1) == 0 && (-1 : Int) == 1 && items.size == items.size) = true) := by
    rw [show ((-1 : Int) == 1) = false from rfl, Bool.and_false, Bool.false_and]
    exact Bool.false_ne_true
  show wpAny _ _ (if (((items.size : Int) - 1) == 0 && (-1 : Int) == 1 && items.size == items.size) = true then _ else _) _ _ s
  rw [if_neg no, back_pick]
  first
    | exact wpAny_bind (m := Builtin.Tuple.tupleExact _) (wpAny_newObj_type (wpAny_pure ⟨_, rfl, wpAny_pure h⟩) ok)
    | exact wpAny_bind (m := Builtin.Tuple.tupleExact _) (wpAny_newObj_type (wpAny_bind (wpAny_pure (wpAny_pure ⟨_, rfl, wpAny_pure h⟩))) ok)
    | exact wpAny_bind (wpAny_bind (m := Builtin.Tuple.tupleExact _) (wpAny_newObj_type (wpAny_pure (wpAny_pure ⟨_, rfl, wpAny_pure h⟩)) ok))
    | exact wpAny_bind (wpAny_bind (m := Builtin.Tuple.tupleExact _) (wpAny_newObj_type (wpAny_pure ⟨_, rfl, wpAny_pure h⟩) ok))
end
section
variable {X : Cx}
/-- t[::-1] -/
def tRevT (K : PySem.W.Frag) (te : TE) : TE := fun σ H Q => te σ H fun x H1 => ∃ a xs, x = .ref a ∧ SqT K H1 a xs ∧ ∀ p, H1 p = none → Q (.ref p) (upd H1 p (.tup xs.reverse))
theorem pe_revT {e : Expr} {te : TE} {k : Nat} {p1 p2 p3 pos : Pos} (he : PE X e te) : PE X (.Subscript e (.Slice none none (some (.UnaryOp .USub (.Constant (.int 1) k p1) p2)) p3) pos) (tRevT X.K te) where
  run := by
    intro pins s σ H Q I h
    apply Subscript_
    refine thn (he.run pins s σ H _ I h) ?_
    rintro v s1 ⟨x, H1, I1, r1, a, xs, rfl, hx, q⟩
    cases r1
    have step : PO X (some (.UnaryOp .USub (.Constant (.int 1) k p1) p2)) (tPart (tUn (rU fun i => .int (-i)) (tC (.int 1)))) := po_some (pe_un un_neg pe_int)
    apply wpAny_Slice
    refine thn (po_none.run pins s1 σ H1 (fun o G => o = none ∧ G = H1) I1 ⟨rfl, rfl⟩) ?_
    rintro vl s2 ⟨_, G2, I2, pl, rfl, g2⟩
    rw [g2] at I2
    refine thn (po_none.run pins s2 σ H1 (fun o G => o = none ∧ G = H1) I2 ⟨rfl, rfl⟩) ?_
    rintro vu s3 ⟨_, G3, I3, pu, rfl, g3⟩
    rw [g3] at I3
    refine thn (step.run pins s3 σ H1 (fun o G => o = some (-1) ∧ G = H1) I3 ⟨1, rfl, -1, rfl, rfl, rfl⟩) ?_
    rintro vs s4 ⟨_, G4, I4, ps, rfl, g4⟩
    rw [g4] at I4
    cases pl
    cases pu
    cases ps with
    | int i t =>
      have I5 : Inv X pins σ H1 { s4 with heap := s4.heap.push { cls := .type "slice", data := .fields #[.none, .none, .int (-1) t] } } := I4.kept (t' := s4.toks) fun b ob q => Heap.get?_push_of_some _ q
      obtain ⟨its, r, ht, hz⟩ := I5.tuple hx
      have hlen : its.toArray.size = xs.length := by rw [List.size_toArray]; exact r.length.symm
      show wpAny (model X.prog X.w) X.A (subscriptTail e (.Slice none none (some (.UnaryOp .USub (.Constant (.int 1) k p1) p2)) p3) (.ref a) (.ref s4.heap.objs.size)) (EP X pins σ Q) X.xe { s4 with heap := s4.heap.push { cls := .type "slice", data := .fields #[.none, .none, .int (-1) t] } }
      refine tail_any (ops := [.ref a, .ref s4.heap.objs.size]) ht.typeIs (PyProof.Rows.slot_tuple_getitem.lookup) ?_ (by with_unfolding_all rfl)
      refine getItem_tuple_back ht (Heap.IsSliceOf.new _ .none .none (.int (-1) t)) ?_ (by rw [hlen]; exact hz)
      refine ⟨.ref _, _, I5.laid (t' := s4.toks) (o := .tup xs.reverse) (fun b ob q => Heap.get?_push_of_some _ q) (Nat.le_refl _) ?_, rfl, q _ (I5.hok.fresh (Nat.le_refl _))⟩
      exact ⟨by rw [List.length_reverse]; exact hz, its.toArray.toList.reverse, by simpa using r.reverse, IsTup.new _ _⟩

/-- repr of an object, a truth, None, an int -/
def rReprA (K : PySem.W.Frag) : List V → Hp → VK → Prop := fun xs H Q => ∃ (x : V) (d : PyData), xs = [x] ∧ Dp K H x d ∧ d.showable = true ∧ d.hasDict = false ∧ d.depth ≤ 40 ∧ d.shown.length ≤ sizeLine ∧ (∀ y, x ≠ .str y) ∧ Q (.str d.shown) H
theorem call_reprA (hf : Free X.A) (hu : X.A.units + 64 < cLine) : CallR X (.builtin "repr") (rReprA X.K) := by
  rintro pins s σ H xs us Q I r ⟨x, d, rfl, hD, hs, hd, h20, hz, hy, q⟩
  obtain ⟨u, rfl, hr⟩ := vals1 r
  cases hD with
  | non =>
    cases (show u = Value.none from hr)
    exact PySem.P.repr_of_none ⟨.str _, H, I.tok _, ⟨_, rfl⟩, by simpa [PyData.shown] using q⟩
  | bl b =>
    cases (show u = Value.bool b from hr)
    exact PySem.P.repr_of_bool ⟨.str _, H, I.tok _, ⟨_, rfl⟩, by simpa [PyData.shown] using q⟩
  | int i =>
    obtain ⟨t, rfl⟩ := (show ∃ t, u = Value.int i t from hr)
    exact PySem.P.repr_of_int (by simpa [PyData.showable] using hs) ⟨.str _, H, I.tok _, ⟨_, rfl⟩, by simpa [PyData.shown] using q⟩
  | str y => exact absurd rfl (hy y)
  | @lst a ys ds h1 h2 => exact call_reprD hf hu pins s σ H [.ref a] [u] Q I r ⟨a, _, rfl, .lst h1 h2, hs, hd, h20, hz, q⟩
  | @tup a ys ds h1 h2 => exact call_reprD hf hu pins s σ H [.ref a] [u] Q I r ⟨a, _, rfl, .tup h1 h2, hs, hd, h20, hz, q⟩
end
end Gr

set_option Elab.async false
set_option linter.all false
set_option pp.deepTerms false
set_option pp.maxSteps 3000
set_option maxRecDepth 100000
set_option maxHeartbeats 4000000
namespace Gr
open PySem PySem.Spec PyProof.Rows L2
def topS (i : Nat) : Stmt := PySem.Challenge.pw_greenroads_k02_next_and_last_greens.main.body.getD i (.Pass ⟨0, 0, 0, 0⟩)
abbrev s_is_whole : Stmt := topS 7
theorem scis_whole : FnScope ["value"] ["value"] (defScope s_is_whole) := ⟨rfl, rfl, rfl, by decide +kernel, rfl, by decide +kernel, by decide +kernel⟩
abbrev s_check_cycle : Stmt := topS 8
theorem sccheck_cycle : FnScope ["cycle"] ["cycle"] (defScope s_check_cycle) := ⟨rfl, rfl, rfl, by decide +kernel, rfl, by decide +kernel, by decide +kernel⟩
abbrev s_check_moment : Stmt := topS 9
theorem sccheck_moment : FnScope ["moment"] ["moment"] (defScope s_check_moment) := ⟨rfl, rfl, rfl, by decide +kernel, rfl, by decide +kernel, by decide +kernel⟩
abbrev s_is_green_pair : Stmt := topS 12
theorem scis_green_pair : FnScope ["value", "cycle", "offset", "length"] ["value", "cycle"] (defScope s_is_green_pair) := ⟨rfl, rfl, rfl, by decide +kernel, rfl, by decide +kernel, by decide +kernel⟩
abbrev s_is_signal : Stmt := topS 13
theorem scis_signal : FnScope ["value", "cycle", "green"] ["value", "cycle"] (defScope s_is_signal) := ⟨rfl, rfl, rfl, by decide +kernel, rfl, by decide +kernel, by decide +kernel⟩
abbrev s_check_signal : Stmt := topS 14
theorem sccheck_signal : FnScope ["cycle", "signal"] ["cycle", "signal"] (defScope s_check_signal) := ⟨rfl, rfl, rfl, by decide +kernel, rfl, by decide +kernel, by decide +kernel⟩
abbrev s_next_green : Stmt := topS 15
theorem scnext_green : FnScope ["cycle", "signal", "moment", "green"] ["cycle", "signal", "moment"] (defScope s_next_green) := ⟨rfl, rfl, rfl, by decide +kernel, rfl, by decide +kernel, by decide +kernel⟩
abbrev s_last_green : Stmt := topS 16
theorem sclast_green : FnScope ["cycle", "signal", "moment", "green"] ["cycle", "signal", "moment"] (defScope s_last_green) := ⟨rfl, rfl, rfl, by decide +kernel, rfl, by decide +kernel, by decide +kernel⟩
abbrev s_green_from : Stmt := topS 17
theorem scgreen_from : FnScope ["cycle", "green", "moment", "offset", "length", "into"] ["cycle", "green", "moment"] (defScope s_green_from) := ⟨rfl, rfl, rfl, by decide +kernel, rfl, by decide +kernel, by decide +kernel⟩
abbrev s_green_up_to : Stmt := topS 18
theorem scgreen_up_to : FnScope ["cycle", "green", "moment", "offset", "length", "into"] ["cycle", "green", "moment"] (defScope s_green_up_to) := ⟨rfl, rfl, rfl, by decide +kernel, rfl, by decide +kernel, by decide +kernel⟩
abbrev s_count_green : Stmt := topS 19
theorem sccount_green : FnScope ["cycle", "signal", "low", "high", "parted", "green"] ["cycle", "signal", "low", "high"] (defScope s_count_green) := ⟨rfl, rfl, rfl, by decide +kernel, rfl, by decide +kernel, by decide +kernel⟩
abbrev s_green_before : Stmt := topS 20
theorem scgreen_before : FnScope ["cycle", "green", "moment", "offset", "length", "rounds", "into"] ["cycle", "green", "moment"] (defScope s_green_before) := ⟨rfl, rfl, rfl, by decide +kernel, rfl, by decide +kernel, by decide +kernel⟩
abbrev s_shortest_greens : Stmt := topS 21
theorem scshortest_greens : FnScope ["cycle", "signal"] ["cycle", "signal"] (defScope s_shortest_greens) := ⟨rfl, rfl, rfl, by decide +kernel, rfl, by decide +kernel, by decide +kernel⟩
abbrev s_parted_greens : Stmt := topS 22
theorem scparted_greens : FnScope ["cycle", "signal", "joined", "offset", "length", "begin", "reach"] ["cycle", "signal"] (defScope s_parted_greens) := ⟨rfl, rfl, rfl, by decide +kernel, rfl, by decide +kernel, by decide +kernel⟩
abbrev s_joined_over_end : Stmt := topS 23
theorem scjoined_over_end : FnScope ["cycle", "greens", "begin", "reach", "met", "green", "offset", "length"] ["cycle", "greens"] (defScope s_joined_over_end) := ⟨rfl, rfl, rfl, by decide +kernel, rfl, by decide +kernel, by decide +kernel⟩
abbrev s_l_pond : Stmt := topS 25
theorem scl_pond : FnScope ["_law_script", "_law_k", "_law_cell"] ["_law_script", "_law_k"] (defScope s_l_pond) := ⟨rfl, rfl, rfl, by decide +kernel, rfl, by decide +kernel, by decide +kernel⟩
abbrev s_l_fish : Stmt := topS 26
theorem scl_fish : FnScope ["_law_pond_here", "_law_bound", "_law_found", "_law_turn", "_law_mixed"] ["_law_pond_here", "_law_bound"] (defScope s_l_fish) := ⟨rfl, rfl, rfl, by decide +kernel, rfl, by decide +kernel, by decide +kernel⟩
abbrev s_l_greens : Stmt := topS 27
theorem scl_greens : FnScope ["_law_pond_here", "_law_span", "_law_found", "_law_turn", "_law_place", "_law_few", "_law_many"] ["_law_pond_here", "_law_span"] (defScope s_l_greens) := ⟨rfl, rfl, rfl, by decide +kernel, rfl, by decide +kernel, by decide +kernel⟩
abbrev s_l_rests : Stmt := topS 28
theorem scl_rests : FnScope ["_law_span", "_law_greens_here", "_law_found", "_law_place", "_law_size", "_law_j"] ["_law_span", "_law_greens_here"] (defScope s_l_rests) := ⟨rfl, rfl, rfl, by decide +kernel, rfl, by decide +kernel, by decide +kernel⟩
abbrev s_l_scaled : Stmt := topS 29
theorem scl_scaled : FnScope ["_law_greens_here", "_law_factor", "_law_place", "_law_size"] ["_law_greens_here", "_law_factor"] (defScope s_l_scaled) := ⟨rfl, rfl, rfl, by decide +kernel, rfl, by decide +kernel, by decide +kernel⟩
abbrev s_l_next : Stmt := topS 30
theorem scl_next : FnScope ["_law_span", "_law_lit", "_law_t", "_law_step"] ["_law_span", "_law_lit", "_law_t", "_law_step"] (defScope s_l_next) := ⟨rfl, rfl, rfl, by decide +kernel, rfl, by decide +kernel, by decide +kernel⟩
abbrev s_l_far_right : Stmt := topS 31
theorem scl_far_right : FnScope ["_law_pond_here", "_law_span", "_law_greens_here", "_law_lit", "_law_factor", "_law_great", "_law_whole", "_law_ends", "_law_turn", "_law_t", "_law_rest", "_law_here", "_law_is_lit", "_law_due", "_law_one", "_law_other", "_law_blocks", "_law_low", "_law_high"] ["_law_pond_here", "_law_span", "_law_greens_here", "_law_lit"] (defScope s_l_far_right) := ⟨rfl, rfl, rfl, by decide +kernel, rfl, by decide +kernel, by decide +kernel⟩
abbrev s_l_right : Stmt := topS 32
theorem scl_right : FnScope ["_law_pond_here", "_law_span", "_law_greens_here", "_law_lit", "_law_t", "_law_s", "_law_turn", "_law_low", "_law_size", "_law_due", "_law_far", "_law_more", "_law_begin", "_law_found"] ["_law_pond_here", "_law_span", "_law_greens_here"] (defScope s_l_right) := ⟨rfl, rfl, rfl, by decide +kernel, rfl, by decide +kernel, by decide +kernel⟩
abbrev s_l_free_right : Stmt := topS 33
theorem scl_free_right : FnScope ["_law_pond_here", "_law_span", "_law_greens_here", "_law_turn", "_law_place", "_law_size", "_law_t", "_law_due", "_law_one", "_law_other", "_law_moment_here", "_law_whole"] ["_law_pond_here"] (defScope s_l_free_right) := ⟨rfl, rfl, rfl, by decide +kernel, rfl, by decide +kernel, by decide +kernel⟩
abbrev s_law : Stmt := topS 34
theorem sclaw : FnScope ["_law_script", "_law_k", "_law_pond_here", "_law_turn", "_law_span", "_law_told"] ["_law_script"] (defScope s_law) := ⟨rfl, rfl, rfl, by decide +kernel, rfl, by decide +kernel, by decide +kernel⟩
/-- what the text has at the top beside its defs -/
structure Blt (mg : Str → Option Value) (tMOST_CYCLE : Tok) (tMOST_GREENS : Tok) : Prop where
  n_all : mg "all" = none
  n_bool : mg "bool" = none
  n_divmod : mg "divmod" = none
  n_int : mg "int" = none
  n_isinstance : mg "isinstance" = none
  len : mg "len" = none
  n_list : mg "list" = none
  n_max : mg "max" = none
  n_min : mg "min" = none
  range : mg "range" = none
  n_sorted : mg "sorted" = none
  n_sum : mg "sum" = none
  n_tuple : mg "tuple" = none
  n_zip : mg "zip" = none
  MOST_CYCLE : mg "MOST_CYCLE" = some (.int (10 ^ 30) tMOST_CYCLE)
  MOST_GREENS : mg "MOST_GREENS" = some (.int 6 tMOST_GREENS)
/-- a def that stands under its name -/
structure Def (K : PySem.W.Frag) (mg : Str → Option Value) (x : Str) (st : Stmt) (ps : List Str) (f : Addr) (fd : FuncData) : Prop where
  F : Fun K x x st f fd
  g : mg x = some (.ref f)
  b : Binds K fd ps []
theorem Same.new {H : Hp} {p : Addr} {o : HO} (h : H p = none) : Same H (upd H p o) := fun b u e => by
  rw [upd_ne (ne_of_none e h)]; exact e

/-! ### the checks and is_green -/
def spWhole : Sp := fun vs H Q _ => ∃ i : Int, vs = [.int i] ∧ Q (.bl true) H
def spCycle : Sp := fun vs H Q _ => ∃ c : Int, vs = [.int c] ∧ 1 ≤ c ∧ c ≤ 10 ^ 30 ∧ Q .non H
def spMoment : Sp := fun vs H Q _ => ∃ c : Int, vs = [.int c] ∧ Q .non H
def pairB (c o l : Int) : Bool := decide (0 ≤ o) && decide (o < c) && decide (1 ≤ l) && decide (l ≤ c)
/-- what is_green_pair says of x -/
def PairK (H : Hp) (c : Int) (x : V) (b : Bool) : Prop :=
  (∃ a o l, x = .ref a ∧ H a = some (.tup [.int o, .int l]) ∧ b = pairB c o l) ∨ (∃ a ys, x = .ref a ∧ H a = some (.tup ys) ∧ ys.length ≠ 2 ∧ b = false) ∨ (∃ a ys, x = .ref a ∧ H a = some (.lst ys) ∧ b = false)
theorem PairK.mono {H H' : Hp} {c : Int} {x : V} {b : Bool} (s : Same H H') (h : PairK H c x b) : PairK H' c x b := by
  rcases h with ⟨a, o, l, e, h, k⟩ | ⟨a, ys, e, h, k⟩ | ⟨a, ys, e, h, k⟩
  · exact .inl ⟨a, o, l, e, s _ _ h, k⟩
  · exact .inr (.inl ⟨a, ys, e, s _ _ h, k⟩)
  · exact .inr (.inr ⟨a, ys, e, s _ _ h, k⟩)
def SigK (H : Hp) (c : Int) (x : V) (b : Bool) : Prop :=
  (∃ a ys, x = .ref a ∧ H a = some (.lst ys) ∧ b = false) ∨ (∃ a ys, x = .ref a ∧ H a = some (.tup ys) ∧ ¬ (1 ≤ ys.length ∧ ys.length ≤ 6) ∧ b = false) ∨
  (∃ a ys bs, x = .ref a ∧ H a = some (.tup ys) ∧ 1 ≤ ys.length ∧ ys.length ≤ 6 ∧ Paired (PairK H c) ys bs ∧ b = bs.all id)
def spPair : Sp := fun vs H Q _ => ∃ (x : V) (c : Int) (b : Bool), vs = [x, .int c] ∧ PairK H c x b ∧ Q (.bl b) H
def spSignal : Sp := fun vs H Q _ => ∃ (x : V) (c : Int) (b : Bool), vs = [x, .int c] ∧ 1 ≤ c ∧ c ≤ 10 ^ 30 ∧ SigK H c x b ∧ ∀ H', Same H H' → Q (.bl b) H'
def spChkSignal : Sp := fun vs H Q _ => ∃ (x : V) (c : Int), vs = [.int c, x] ∧ 1 ≤ c ∧ c ≤ 10 ^ 30 ∧ SigK H c x true ∧ ∀ H', Same H H' → Q .non H'
def GrAt (H : Hp) (x : V) (g : Int × Int) : Prop := ∃ b, x = .ref b ∧ H b = some (.tup [.int g.1, .int g.2])
def SigT (H : Hp) (a : Addr) (gs : List (Int × Int)) : Prop := ∃ xs, H a = some (.tup xs) ∧ Paired (GrAt H) xs gs
theorem SigT.mono {H H' : Hp} {a : Addr} {gs : List (Int × Int)} (s : Same H H') (h : SigT H a gs) : SigT H' a gs := by
  obtain ⟨xs, h1, h2⟩ := h
  exact ⟨xs, s _ _ h1, L2.Paired.mapP h2 fun x g ⟨b, e, h⟩ => ⟨b, e, s _ _ h⟩⟩
def OkG (c : Int) (gs : List (Int × Int)) : Prop := 1 ≤ gs.length ∧ gs.length ≤ 6 ∧ ∀ g ∈ gs, 0 ≤ g.1 ∧ g.1 < c ∧ 1 ≤ g.2 ∧ g.2 ≤ c
def lit (c : Int) (gs : List (Int × Int)) (m : Int) : Bool := gs.any fun g => decide ((m - g.1) % c < g.2)
def spGreen : Sp := fun vs H Q _ => ∃ (a : Addr) (c m : Int) (gs : List (Int × Int)), vs = [.int c, .ref a, .int m] ∧ 1 ≤ c ∧ c ≤ 10 ^ 30 ∧ SigT H a gs ∧ OkG c gs ∧ ∀ H', Same H H' → Q (.bl (lit c gs m)) H'

theorem paired_at {α β : Type} {R : α → β → Prop} : ∀ {xs : List α} {ys : List β} {i : Nat} {x : α}, Paired R xs ys → xs[i]? = some x → ∃ y, ys[i]? = some y ∧ R x y
  | _, _, _, _, .nil, e => by simp at e
  | _, _, 0, _, .cons r _, e => by simp at e; subst e; exact ⟨_, rfl, r⟩
  | _, _, i + 1, x, .cons _ t, e => by
    obtain ⟨u, h1, h2⟩ := paired_at (i := i) (x := x) t (by simpa using e)
    exact ⟨u, by simpa using h1, h2⟩
theorem paired_len {α β : Type} {R : α → β → Prop} : ∀ {xs : List α} {ys : List β}, Paired R xs ys → xs.length = ys.length
  | _, _, .nil => rfl
  | _, _, .cons _ t => congrArg (· + 1) (paired_len t)
/-- a signal is one by is_signal -/
theorem SigT.sigK {H : Hp} {a : Addr} {c : Int} {gs : List (Int × Int)} (h : SigT H a gs) (hl : 1 ≤ gs.length ∧ gs.length ≤ 6) : SigK H c (.ref a) (gs.all fun g => pairB c g.1 g.2) := by
  obtain ⟨xs, h1, h2⟩ := h
  have el := paired_len h2
  refine .inr (.inr ⟨a, xs, gs.map (fun g => pairB c g.1 g.2), rfl, h1, by omega, by omega, ?_, ?_⟩)
  · clear h1 el hl
    induction h2 with
    | nil => exact .nil
    | cons r t ih =>
      obtain ⟨b, e, h⟩ := r
      exact .cons (.inl ⟨b, _, _, e, h, rfl⟩) ih
  · rw [List.all_map]; rfl
theorem OkG.all {c : Int} {gs : List (Int × Int)} (h : OkG c gs) : (gs.all fun g => pairB c g.1 g.2) = true := by
  rw [List.all_eq_true]
  intro g hg
  have := h.2.2 g hg
  simp [pairB, this]

section
variable {P : Program} {w : World} {K : PySem.W.Frag} {mg : Str → Option Value} {base : Heap} {tC tG : Tok}
theorem ok_is_whole {f : Addr} {fd : FuncData} (B : Blt mg tC tG) (Dis_whole : Def K mg "is_whole" s_is_whole ["value"] f fd) : FnOk P w K mg base CX0 1 f fd ["value"] spWhole := by
  refine Dis_whole.F.ok scis_whole (fun vs H Q E h => ?_) (fun cdv A outer s H vs Q E hr h => ⟨_, (pss_one (ps_ret (pe_and (pe_callB call_isi (by rfl) B.n_isinstance (by decide +kernel) (pa_cons (pv 0) (pa_cons (pe_bltn (v := .ty "int") (u := .type "int") (by rfl) B.n_int (by decide +kernel) rfl) pa_nil))) (pe_one (pe_not (pe_callB call_isi (by rfl) B.n_isinstance (by decide +kernel) (pa_cons (pv 0) (pa_cons (pe_bltn (v := .ty "bool") (u := .type "bool") (by rfl) B.n_bool (by decide +kernel) rfl) pa_nil)))))))), ?_⟩)
  · obtain ⟨i, rfl, _⟩ := h; rfl
  · obtain ⟨i, rfl, q⟩ := h
    refine ⟨_, rfl, .int i, .ty "int", .type "int", .type "int", true, rfl, .ty _, .base (.int i), kit_ty (by decide +kernel), _, rfl, ?_⟩
    refine ⟨_, rfl, .int i, .ty "bool", .type "int", .type "bool", false, rfl, .ty _, .base (.int i), kit_ty (by decide +kernel), _, rfl, q⟩
theorem ok_check_cycle {f f1 : Addr} {fd fd1 : FuncData} (B : Blt mg tC tG) (Dcheck_cycle : Def K mg "check_cycle" s_check_cycle ["cycle"] f fd) (Dis_whole : Def K mg "is_whole" s_is_whole ["value"] f1 fd1) : FnOk P w K mg base CX0 2 f fd ["cycle"] spCycle := by
  have Gis_whole := ok_is_whole (P := P) (w := w) (base := base) B Dis_whole
  refine Dcheck_cycle.F.ok sccheck_cycle (fun vs H Q E h => ?_) (fun cdv A outer s H vs Q E hr h => ⟨_, (pss_one (ps_if (PW.pt (pw_or (pt_not (pt_val (pe_call Gis_whole (hr.mono (by decide)) (by rfl) Dis_whole.g Dis_whole.F.kp Dis_whole.b .nil pass0 (pa_cons (pv 0) pa_nil)))) (pw_or1 (pt_not (pt_chain op_le op_le pe_int (pv 0) (pe_glob (v := .int (10 ^ 30)) (by rfl) B.MOST_CYCLE ⟨_, rfl⟩))))))
   (pss_one ps_never)
   pss_nil)), ?_⟩)
  · obtain ⟨i, rfl, _⟩ := h; rfl
  · obtain ⟨i, rfl, h1, h2, q⟩ := h
    refine ⟨_, rfl, _, rfl, _, rfl, ?_⟩
    refine ⟨_, rfl, _, _, rfl, rfl, _, rfl, ?_⟩
    rw [decide_eq_true h1]
    refine ⟨_, _, rfl, rfl, _, rfl, ?_⟩
    rw [decide_eq_true h2]
    exact q
theorem ok_check_moment {f f1 : Addr} {fd fd1 : FuncData} (B : Blt mg tC tG) (Dcheck_moment : Def K mg "check_moment" s_check_moment ["moment"] f fd) (Dis_whole : Def K mg "is_whole" s_is_whole ["value"] f1 fd1) : FnOk P w K mg base CX0 2 f fd ["moment"] spMoment := by
  have Gis_whole := ok_is_whole (P := P) (w := w) (base := base) B Dis_whole
  refine Dcheck_moment.F.ok sccheck_moment (fun vs H Q E h => ?_) (fun cdv A outer s H vs Q E hr h => ⟨_, (pss_one (ps_if (pt_not (pt_val (pe_call Gis_whole (hr.mono (by decide)) (by rfl) Dis_whole.g Dis_whole.F.kp Dis_whole.b .nil pass0 (pa_cons (pv 0) pa_nil))))
   (pss_one ps_never)
   pss_nil)), ?_⟩)
  · obtain ⟨i, rfl, _⟩ := h; rfl
  · obtain ⟨i, rfl, q⟩ := h
    exact ⟨_, rfl, _, rfl, _, rfl, q⟩
end
end Gr

set_option Elab.async false
set_option linter.all false
set_option pp.deepTerms false
set_option pp.maxSteps 3000
set_option maxRecDepth 100000
set_option maxHeartbeats 4000000
namespace Gr
open PySem PySem.Spec PyProof.Rows L2
theorem iteNT {c A B : Prop} [Decidable c] (hc : ¬ c) (h : A) : if (!decide c) = true then A else B := by
  rw [decide_eq_false hc]; exact iteT h
theorem iteY {c A B : Prop} [Decidable c] (hc : c) (h : A) : if (decide c) = true then A else B := by
  rw [decide_eq_true hc]; exact iteT h
theorem iteN {c A B : Prop} [Decidable c] (hc : ¬ c) (h : B) : if (decide c) = true then A else B := by
  rw [decide_eq_false hc]; exact iteF h
theorem chain_b {a b : Bool} {Q : V → Prop} (h : Q (.bl (a && b))) : ∃ k, V.bl a = .bl k ∧ (if k = true then Q (.bl b) else Q (.bl false)) := ⟨a, rfl, by cases a <;> exact h⟩
section
variable {P : Program} {w : World} {K : PySem.W.Frag} {mg : Str → Option Value} {base : Heap} {tC tG : Tok}
theorem ok_is_green_pair {f f1 : Addr} {fd fd1 : FuncData} (B : Blt mg tC tG) (Dis_green_pair : Def K mg "is_green_pair" s_is_green_pair ["value", "cycle"] f fd) (Dis_whole : Def K mg "is_whole" s_is_whole ["value"] f1 fd1) : FnOk P w K mg base CX0 2 f fd ["value", "cycle"] spPair := by
  have Gis_whole := ok_is_whole (P := P) (w := w) (base := base) B Dis_whole
  refine Dis_green_pair.F.ok scis_green_pair (fun vs H Q E h => ?_) (fun cdv A outer s H vs Q E hr h => ⟨_, (pss_cons (ps_if (PW.pt (pw_or (pt_not (pt_val (pe_callB call_isi (by rfl) B.n_isinstance (by decide +kernel) (pa_cons (pv 0) (pa_cons (pe_bltn (v := .ty "tuple") (u := .type "tuple") (by rfl) B.n_tuple (by decide +kernel) rfl) pa_nil))))) (pw_or1 (pt_cmpR op_ne (pe_callB call_len_seq (by rfl) B.len PySem.boot_len (pa_cons (pv 0) pa_nil)) pe_int (nomark _)))))
   (pss_one (ps_ret pe_bl))
   pss_nil)
  (pss_cons (ps_asg (pv 0) (pg_tup rfl (pgs_cons (pg_name (i := 2) scis_green_pair.nd rfl (Or.inl rfl)) (pgs_cons (pg_name (i := 3) scis_green_pair.nd rfl (Or.inl rfl)) pgs_nil))))
  (pss_one (ps_ret (pe_and (pe_call Gis_whole (hr.mono (by decide)) (by rfl) Dis_whole.g Dis_whole.F.kp Dis_whole.b .nil pass0 (pa_cons (pv 2) pa_nil)) (pe_and (pe_call Gis_whole (hr.mono (by decide)) (by rfl) Dis_whole.g Dis_whole.F.kp Dis_whole.b .nil pass0 (pa_cons (pv 3) pa_nil)) (pe_and (pe_chain op_le op_lt pe_int (pv 2) (pv 1)) (pe_one (pe_chain op_le op_le pe_int (pv 3) (pv 1)))))))))), ?_⟩)
  · obtain ⟨x, c, b, rfl, _⟩ := h; rfl
  · obtain ⟨x, c, b, rfl, hp, q⟩ := h
    rcases hp with ⟨a, o, l, rfl, hT, rfl⟩ | ⟨a, ys, rfl, hT, hl, rfl⟩ | ⟨a, ys, rfl, hT, rfl⟩
    · refine ⟨_, rfl, .ref a, .ty "tuple", .type "tuple", .type "tuple", true, rfl, .ty _, .base (.tup hT), kit_ty (by decide +kernel), _, rfl, ?_⟩
      refine ⟨_, rfl, a, _, rfl, .inr (SqT.of hT), rfl, _, rfl, ?_⟩
      refine iteNS rfl ?_
      refine ⟨_, rfl, a, _, rfl, SqT.of hT, rfl, _, _, rfl, _, _, rfl, rfl, ?_⟩
      refine ⟨_, rfl, o, rfl, _, rfl, ⟨_, rfl, l, rfl, _, rfl, ?_⟩⟩
      by_cases h0 : 0 ≤ o
      · by_cases h1 : o < c
        · refine ⟨_, rfl, _, _, rfl, rfl, true, congrArg V.bl (decide_eq_true h0), _, rfl, _, _, rfl, rfl, true, congrArg V.bl (decide_eq_true h1), ?_⟩
          by_cases h2 : 1 ≤ l
          · refine ⟨_, rfl, _, _, rfl, rfl, true, congrArg V.bl (decide_eq_true h2), _, rfl, _, _, rfl, rfl, ?_⟩
            have e : pairB c o l = decide (l ≤ c) := by simp [pairB, h0, h1, h2]
            rw [e] at q
            exact q
          · have e : pairB c o l = false := by simp [pairB, h2]
            rw [e] at q
            exact ⟨_, rfl, _, _, rfl, rfl, false, congrArg V.bl (decide_eq_false h2), q⟩
        · have e : pairB c o l = false := by simp [pairB, h1]
          rw [e] at q
          exact ⟨_, rfl, _, _, rfl, rfl, true, congrArg V.bl (decide_eq_true h0), _, rfl, _, _, rfl, rfl, false, congrArg V.bl (decide_eq_false h1), q⟩
      · have e : pairB c o l = false := by simp [pairB, h0]
        rw [e] at q
        exact ⟨_, rfl, _, _, rfl, rfl, false, congrArg V.bl (decide_eq_false h0), false, rfl, q⟩
    · refine ⟨_, rfl, .ref a, .ty "tuple", .type "tuple", .type "tuple", true, rfl, .ty _, .base (.tup hT), kit_ty (by decide +kernel), _, rfl, ?_⟩
      refine ⟨_, rfl, a, _, rfl, .inr (SqT.of hT), rfl, _, rfl, ?_⟩
      exact iteNT (fun e => hl (by have := V.int.inj e; omega)) q
    · exact ⟨_, rfl, .ref a, .ty "tuple", .type "list", .type "tuple", false, rfl, .ty _, .base (.lst hT), kit_ty (by decide +kernel), _, rfl, q⟩
theorem ok_is_signal {f f1 f2 f3 : Addr} {fd fd1 fd2 fd3 : FuncData} (B : Blt mg tC tG) (Dis_signal : Def K mg "is_signal" s_is_signal ["value", "cycle"] f fd) (Dis_whole : Def K mg "is_whole" s_is_whole ["value"] f1 fd1) (Dcheck_cycle : Def K mg "check_cycle" s_check_cycle ["cycle"] f2 fd2) (Dis_green_pair : Def K mg "is_green_pair" s_is_green_pair ["value", "cycle"] f3 fd3) : FnOk P w K mg base CX0 3 f fd ["value", "cycle"] spSignal := by
  have Gcheck_cycle := ok_check_cycle (P := P) (w := w) (base := base) B Dcheck_cycle Dis_whole
  have Gis_green_pair := ok_is_green_pair (P := P) (w := w) (base := base) B Dis_green_pair Dis_whole
  refine Dis_signal.F.ok scis_signal (fun vs H Q E h => ?_) (fun cdv A outer s H vs Q E hr h => ⟨_, (pss_cons (ps_expr (pe_call Gcheck_cycle (hr.mono (by decide)) (by rfl) Dcheck_cycle.g Dcheck_cycle.F.kp Dcheck_cycle.b .nil pass0 (pa_cons (pv 1) pa_nil)))
  (pss_cons (ps_if (PW.pt (pw_or (pt_not (pt_val (pe_callB call_isi (by rfl) B.n_isinstance (by decide +kernel) (pa_cons (pv 0) (pa_cons (pe_bltn (v := .ty "tuple") (u := .type "tuple") (by rfl) B.n_tuple (by decide +kernel) rfl) pa_nil))))) (pw_or1 (pt_not (pt_chain op_le op_le pe_int (pe_callB call_len_seq (by rfl) B.len PySem.boot_len (pa_cons (pv 0) pa_nil)) (pe_glob (v := .int 6) (by rfl) B.MOST_GREENS ⟨_, rfl⟩))))))
   (pss_one (ps_ret pe_bl))
   pss_nil)
  (pss_one (ps_ret (pe_callB (cr_all rfl) (by rfl) B.n_all (by decide +kernel) (pa_cons (pe_lc (own := [("green", 2)]) (g := (gName 2)) (tt := tYes) rfl scis_signal.nd (pi_tup (pv 0)) (blkOk_by (N := ["value", "cycle", "green"]) (sc := defScope s_is_signal) (by decide +kernel)) (fun _ _ _ _ _ => (pg_name (i := 2) scis_signal.nd rfl (Or.inl rfl))) (fun _ _ _ _ _ => pts_nil) (fun _ _ _ _ _ => (pe_call Gis_green_pair (hr.mono (by decide)) (by rfl) Dis_green_pair.g Dis_green_pair.F.kp Dis_green_pair.b .nil pass0 (pa_cons (pv 2) (pa_cons (pv 1) pa_nil))))) pa_nil)))))), ?_⟩)
  · obtain ⟨x, c, b, rfl, _⟩ := h; rfl
  · obtain ⟨x, c, b, rfl, c1, c2, hp, q⟩ := h
    refine ⟨_, rfl, c, rfl, c1, c2, ?_⟩
    rcases hp with ⟨a, ys, rfl, hT, rfl⟩ | ⟨a, ys, rfl, hT, hl, rfl⟩ | ⟨a, ys, bs, rfl, hT, l1, l2, hP, rfl⟩
    · exact ⟨_, rfl, .ref a, .ty "tuple", .type "list", .type "tuple", false, rfl, .ty _, .base (.lst hT), kit_ty (by decide +kernel), _, rfl, q _ (Same.refl H)⟩
    · refine ⟨_, rfl, .ref a, .ty "tuple", .type "tuple", .type "tuple", true, rfl, .ty _, .base (.tup hT), kit_ty (by decide +kernel), _, rfl, ?_⟩
      refine ⟨_, rfl, a, _, rfl, .inr (SqT.of hT), _, _, rfl, rfl, ?_⟩
      by_cases h0 : 1 ≤ ys.length
      · refine ⟨true, congrArg V.bl (decide_eq_true (by omega)), _, _, rfl, rfl, false, congrArg V.bl (decide_eq_false (by omega)), ?_⟩
        exact q _ (Same.refl H)
      · refine ⟨false, congrArg V.bl (decide_eq_false (by omega)), false, rfl, ?_⟩
        exact q _ (Same.refl H)
    · refine ⟨_, rfl, .ref a, .ty "tuple", .type "tuple", .type "tuple", true, rfl, .ty _, .base (.tup hT), kit_ty (by decide +kernel), _, rfl, ?_⟩
      refine ⟨_, rfl, a, _, rfl, .inr (SqT.of hT), _, _, rfl, rfl, ?_⟩
      refine ⟨true, congrArg V.bl (decide_eq_true (by omega)), _, _, rfl, rfl, true, congrArg V.bl (decide_eq_true (by omega)), ?_⟩
      have el := paired_len hP
      refine ⟨_, rfl, a, rfl, ⟨_, SqT.of hT⟩, fun D hD => ?_⟩
      refine lc_tup (xs := ys) (fun i H' => Same H H' ∧ H' D = some (.lst ((bs.take i).map V.bl))) ⟨Same.new hD, upd_same⟩ (fun i H' _ p => SqT.of (p.1 _ _ hT)) (fun i x H' hx p => ?_) (fun H' p => ?_)
      · obtain ⟨b, hb, hk⟩ := paired_at hP hx
        refine ⟨rfl, _, rfl, _, rfl, x, c, b, rfl, hk.mono p.1, (bs.take i).map V.bl, p.2, ?_, ?_, ?_⟩
        · rw [List.length_map, List.length_take]
          exact Nat.lt_of_le_of_lt (Nat.min_le_left _ _) (small1000 (by have := (List.getElem?_eq_some_iff.mp hx).1; omega))
        · intro b' o e
          rw [upd_ne (ne_of_none e hD)]
          exact p.1 _ _ e
        · rw [upd_same, List.take_add_one, hb, List.map_append]
          rfl
      · refine ⟨D, bs, rfl, .inl (.inl ?_), q _ p.1⟩
        rw [p.2, List.take_of_length_le (by omega)]
theorem ok_check_signal {f f0 f1 f2 f3 : Addr} {fd fd0 fd1 fd2 fd3 : FuncData} (B : Blt mg tC tG) (Dcheck_signal : Def K mg "check_signal" s_check_signal ["cycle", "signal"] f fd) (Dis_signal : Def K mg "is_signal" s_is_signal ["value", "cycle"] f0 fd0) (Dis_whole : Def K mg "is_whole" s_is_whole ["value"] f1 fd1) (Dcheck_cycle : Def K mg "check_cycle" s_check_cycle ["cycle"] f2 fd2) (Dis_green_pair : Def K mg "is_green_pair" s_is_green_pair ["value", "cycle"] f3 fd3) : FnOk P w K mg base CX0 4 f fd ["cycle", "signal"] spChkSignal := by
  have Gis_signal := ok_is_signal (P := P) (w := w) (base := base) B Dis_signal Dis_whole Dcheck_cycle Dis_green_pair
  refine Dcheck_signal.F.ok sccheck_signal (fun vs H Q E h => ?_) (fun cdv A outer s H vs Q E hr h => ⟨_, (pss_one (ps_if (pt_not (pt_val (pe_call Gis_signal (hr.mono (by decide)) (by rfl) Dis_signal.g Dis_signal.F.kp Dis_signal.b .nil pass0 (pa_cons (pv 1) (pa_cons (pv 0) pa_nil)))))
   (pss_one ps_never)
   pss_nil)), ?_⟩)
  · obtain ⟨x, c, rfl, _⟩ := h; rfl
  · obtain ⟨x, c, rfl, c1, c2, hp, q⟩ := h
    exact ⟨_, rfl, _, rfl, x, c, true, rfl, c1, c2, hp, fun H' s => ⟨_, rfl, q _ s⟩⟩
end
end Gr

set_option Elab.async false
set_option linter.all false
set_option pp.deepTerms false
set_option pp.maxSteps 3000
set_option maxRecDepth 100000
set_option maxHeartbeats 4000000
namespace Gr
open PySem PySem.Spec PyProof.Rows L2
/-! ### the draws -/
/-- all but p stands -/
def But (p : Addr) (H H' : Hp) : Prop := ∀ q o, q ≠ p → H q = some o → H' q = some o
theorem But.refl (p : Addr) (H : Hp) : But p H H := fun _ _ _ h => h
theorem But.trans {p : Addr} {H H1 H2 : Hp} (a : But p H H1) (b : But p H1 H2) : But p H H2 := fun q o n h => b q o n (a q o n h)
theorem Same.but {p : Addr} {H H' : Hp} (s : Same H H') : But p H H' := fun q o _ h => s q o h
theorem But.new {p q : Addr} {H H' : Hp} {o : HO} (s : But p H H') (h : H' q = none) : But p H (upd H' q o) := fun r u n e => by
  have := s r u n e
  rw [upd_ne (ne_of_none this h)]; exact this
/-- an object that H does not know may change -/
theorem But.mut {p q : Addr} {H H' : Hp} {o : HO} (s : But p H H') (h : H q = none) : But p H (upd H' q o) := fun r u n e => by
  rw [upd_ne (ne_of_none e h)]; exact s r u n e
theorem But.at {p : Addr} {H H' : Hp} {o : HO} (s : But p H H') : But p H (upd H' p o) := fun r u n e => by
  rw [upd_ne n]; exact s r u n e
theorem But.fresh {p q : Addr} {H H' : Hp} {u : HO} (s : But p H H') (hp : H p = some u) (hp' : H' p ≠ none) (h : H' q = none) : H q = none := by
  cases e : H q with
  | none => rfl
  | some o =>
    by_cases hq : q = p
    · exact absurd (hq ▸ h) hp'
    · rw [s q o hq e] at h; cases h
/-- a pond at p of which n draws at most were taken -/
def Pond (n : Int) (p : Addr) (H : Hp) : Prop := ∃ a b c : Int, H p = some (.lst [.int a, .int b, .int c]) ∧ 0 ≤ b ∧ b < 10 ^ 60 ∧ 0 ≤ c ∧ c ≤ n
theorem Pond.mono {n m : Int} {p : Addr} {H : Hp} (h : Pond n p H) (l : n ≤ m) : Pond m p H := by
  obtain ⟨a, b, c, h1, h2, h3, h4, h5⟩ := h
  exact ⟨a, b, c, h1, h2, h3, h4, by omega⟩
theorem Pond.same {n : Int} {p : Addr} {H H' : Hp} (s : Same H H') (h : Pond n p H) : Pond n p H' := by
  obtain ⟨a, b, c, h1, h2⟩ := h
  exact ⟨a, b, c, s _ _ h1, h2⟩
theorem Pond.some {n : Int} {p : Addr} {H : Hp} (h : Pond n p H) : ∃ xs, H p = some (.lst xs) := by
  obtain ⟨a, b, c, h1, h2⟩ := h
  exact ⟨_, h1⟩
theorem Pond.ne {n : Int} {p : Addr} {H : Hp} (h : Pond n p H) : H p ≠ none := by
  obtain ⟨xs, h⟩ := h.some
  rw [h]; exact fun z => nomatch z
theorem Pond.new {n : Int} {p q : Addr} {H : Hp} {o : HO} (h : Pond n p H) (hq : H q = none) : Pond n p (upd H q o) := h.same (Same.new hq)
theorem natAbs_lt {i : Int} {k : Nat} (h0 : 0 ≤ i) (h : i < ((2 ^ k : Nat) : Int)) : i.natAbs < 2 ^ k := by omega
theorem e60 : ((10 : Int) ^ 60) < ((2 ^ 200 : Nat) : Int) := by decide +kernel
theorem e100 : ((10 : Int) ^ 100) < ((2 ^ 1000 : Nat) : Int) := by decide +kernel
theorem draw_ok {m : Int} (h1 : 1 ≤ m) (h2 : m ≤ 10 ^ 100) : m.natAbs < 2 ^ 1000 := natAbs_lt (by omega) (Int.lt_of_le_of_lt h2 e100)
theorem fmod_rng {x m : Int} (h : 1 ≤ m) : 0 ≤ x.fmod m ∧ x.fmod m < m := by
  rw [Int.fmod_eq_emod_of_nonneg x (by omega)]
  exact ⟨Int.emod_nonneg x (by omega), Int.emod_lt_of_pos x (by omega)⟩
def spFish : Sp := fun vs H Q _ => ∃ (p : Addr) (m n : Int), vs = [.ref p, .int m] ∧ Pond n p H ∧ n ≤ 10 ^ 9 ∧ 1 ≤ m ∧ m ≤ 10 ^ 100 ∧ ∀ r H', But p H H' → Pond (n + 12) p H' → 0 ≤ r → r < m → Q (.int r) H'
def spFish1 : Sp := fun vs H Q _ => ∃ (p : Addr) (m n : Int), vs = [.ref p, .int m] ∧ Pond n p H ∧ n ≤ 10 ^ 9 + 100 ∧ 1 ≤ m ∧ m ≤ 10 ^ 30 ∧ ∀ r H', But p H H' → Pond (n + 1) p H' → 0 ≤ r → r < m → Q (.int r) H'
theorem cp30 : CPowW 10 30 := ⟨by decide, by decide +kernel⟩
theorem cp42 : CPowW 10 42 := ⟨by decide, by decide +kernel⟩
theorem cp44 : CPowW 10 44 := ⟨by decide, by decide +kernel⟩
theorem cube_of {i : Int} (h0 : 0 ≤ i) (h : i < ((2 ^ 1000 : Nat) : Int)) : CPowW i 3 := cube_ok (natAbs_lt h0 h)
theorem mulc {k c : Int} (h0 : 0 ≤ k) (h1 : k < ((2 ^ 40 : Nat) : Int)) (c0 : 0 ≤ c) (c1 : c ≤ 10 ^ 10) : CMulW k c := by
  have e : ((10 : Int) ^ 10) < ((2 ^ 40 : Nat) : Int) := by decide +kernel
  exact wide_mul (a := 40) (b := 40) (natAbs_lt h0 h1) (natAbs_lt c0 (by omega)) (by decide) (by decide) (by decide)
theorem p200 : ((2 ^ 200 : Nat) : Int) + 10 ^ 20 < ((2 ^ 1000 : Nat) : Int) := by decide +kernel
theorem p42 : (10 : Int) ^ (42 : Int).toNat + 63 < 10 ^ 60 := by decide +kernel
theorem q42 : (10 : Int) ^ (42 : Int).toNat + 63 ≠ 0 := by decide +kernel
theorem q44 : (10 : Int) ^ (44 : Int).toNat + 57 ≠ 0 := by decide +kernel
set_option exponentiation.threshold 2000
section
variable {P : Program} {w : World} {K : PySem.W.Frag} {mg : Str → Option Value} {base : Heap} {tC tG : Tok}
theorem ok_fish1 {f : Addr} {fd : FuncData} (B : Blt mg tC tG) (Dl_fish : Def K mg "_law_fish" s_l_fish ["_law_pond_here", "_law_bound"] f fd) : FnOk P w K mg base CX0 1 f fd ["_law_pond_here", "_law_bound"] spFish1 := by
  refine Dl_fish.F.ok scl_fish (fun vs H Q E h => ?_) (fun cdv A outer s H vs Q E hr h => ⟨_, (pss_cons (ps_if (pt_cmpR op_gt (pv 1) (pe_op op_powW pe_int pe_int) (nomark _))
   (pss_cons (ps_set (i := 2) scl_fish.nd rfl (Or.inl rfl) pe_int)
  (pss_cons (ps_for PassesOwn.never rfl (pi_range1 (by rfl) B.range (pa_cons (pe_op op_add pe_int (pe_op op_fdivW (pe_bits (pv 1)) pe_int)) pa_nil)) (pg_name (i := 3) scl_fish.nd rfl (Or.inl rfl))
   (pss_one ps_never))
  (pss_one (ps_ret (pe_op op_modN (pv 2) (pv 1))))))
   pss_nil)
  (pss_cons (ps_if (pt_cmpR op_gt (pe_ix ix_list (pv 0) pe_int (fun _ _ => rfl)) pe_int (nomark _))
   (pss_cons (ps_set (i := 2) scl_fish.nd rfl (Or.inl rfl) (pe_op op_modN (pe_ix ix_list (pv 0) pe_int (fun _ _ => rfl)) (pv 1)))
  (pss_cons (ps_asg (pe_op op_fdivW (pe_ix ix_list (pv 0) pe_int (fun _ _ => rfl)) (pv 1)) (pg_sub (pv 0) pe_int set_list))
  (pss_one (ps_ret (pv 2)))))
   pss_nil)
  (pss_cons (ps_asg (pe_op op_add (pe_ix ix_list (pv 0) pe_int (fun _ _ => rfl)) pe_int) (pg_sub (pv 0) pe_int set_list))
  (pss_cons (ps_set (i := 4) scl_fish.nd rfl (Or.inl rfl) (pe_op op_modN (pe_op op_powW (pe_op op_add (pe_ix ix_list (pv 0) pe_int (fun _ _ => rfl)) (pe_op op_mulW pe_int (pe_ix ix_list (pv 0) pe_int (fun _ _ => rfl)))) pe_int) (pe_op op_add (pe_op op_powW pe_int pe_int) pe_int)))
  (pss_cons (ps_set (i := 4) scl_fish.nd rfl (Or.inl rfl) (pe_op op_modN (pe_op op_powW (pe_op op_add (pv 4) (pe_op op_mulW pe_int (pe_ix ix_list (pv 0) pe_int (fun _ _ => rfl)))) pe_int) (pe_op op_add (pe_op op_powW pe_int pe_int) pe_int)))
  (pss_one (ps_ret (pe_op op_modN (pe_op op_fdivW (pv 4) pe_int) (pv 1))))))))), ?_⟩)
  · obtain ⟨p, m, n, rfl, _⟩ := h; rfl
  · obtain ⟨p, m, n, rfl, ⟨a, b, c, hp, b0, b1, c0, c1⟩, hn, m1, m2, q⟩ := h
    refine ⟨_, rfl, _, _, rfl, rfl, cp30, _, _, rfl, rfl, _, rfl, iteN (show ¬ (10 : Int) ^ 30 < m by omega) ?_⟩
    refine ⟨_, rfl, p, _, _, _, rfl, rfl, SqL.of hp, rfl, _, _, rfl, rfl, _, rfl, ?_⟩
    have dm : CDivW a m := wide_div (b := 1000) (by omega) (draw_ok m1 (by omega)) (by decide) (by decide)
    by_cases ha : 0 < a
    · refine iteY ha ?_
      refine ⟨_, rfl, p, _, _, _, rfl, rfl, SqL.of hp, rfl, _, rfl, _, _, rfl, rfl, (by show m ≠ 0; omega), ?_⟩
      refine ⟨_, rfl, p, _, _, _, rfl, rfl, SqL.of hp, rfl, _, rfl, _, _, rfl, rfl, dm, _, rfl, p, _, _, _, rfl, rfl, hp, rfl, ?_⟩
      refine ⟨_, rfl, q _ _ (But.refl p H).at ⟨a / m, b, c, upd_same, b0, b1, c0, by omega⟩ (fmod_rng m1).1 (fmod_rng m1).2⟩
    · refine iteN ha ?_
      refine ⟨_, rfl, p, _, _, _, rfl, rfl, SqL.of hp, rfl, _, _, rfl, rfl, _, rfl, p, _, _, _, rfl, rfl, hp, rfl, ?_⟩
      have hp2 : (upd H p (.lst ([V.int a, .int b, .int c].set 2 (.int (c + 1))))) p = some (.lst [.int a, .int b, .int (c + 1)]) := upd_same
      refine ⟨_, rfl, p, _, _, _, rfl, rfl, SqL.of hp2, rfl, _, rfl, p, _, _, _, rfl, rfl, SqL.of hp2, rfl, _, _, rfl, rfl, mulc (by decide) (by decide) (by omega) (by omega), _, _, rfl, rfl, ?_⟩
      refine ⟨_, _, rfl, rfl, cube_of (by omega) (by have := e60; have := p200; omega), _, _, rfl, rfl, cp42, _, _, rfl, rfl, _, _, rfl, rfl, q42, ?_⟩
      have r1 := fmod_rng (x := (b + 49979687 * (c + 1)) ^ (3 : Int).toNat) (m := 10 ^ (42 : Int).toNat + 63) (by decide +kernel)
      refine ⟨_, rfl, _, rfl, p, _, _, _, rfl, rfl, SqL.of hp2, rfl, _, _, rfl, rfl, mulc (by decide) (by decide) (by omega) (by omega), _, _, rfl, rfl, ?_⟩
      refine ⟨_, _, rfl, rfl, cube_of (by omega) (by have := e60; have := p200; have := p42; omega), _, _, rfl, rfl, cp44, _, _, rfl, rfl, _, _, rfl, rfl, q44, ?_⟩
      refine ⟨_, rfl, _, _, rfl, rfl, ⟨by decide, by decide +kernel⟩, _, rfl, _, _, rfl, rfl, (by show m ≠ 0; omega), ?_⟩
      exact q _ _ (But.refl p H).at ⟨a, b, c + 1, upd_same, b0, b1, by omega, by omega⟩ (fmod_rng m1).1 (fmod_rng m1).2
end
end Gr

set_option Elab.async false
set_option linter.all false
set_option pp.deepTerms false
set_option pp.maxSteps 3000
set_option maxRecDepth 100000
set_option maxHeartbeats 4000000
set_option exponentiation.threshold 3000
namespace Gr
open PySem PySem.Spec PyProof.Rows L2
/-! ### greens drawn, their rests, scaled -/
theorem fnok_or {P : Program} {w : World} {K : PySem.W.Frag} {mg : Str → Option Value} {base : Heap} {C : CXT} {k : Nat} {f : Addr} {fd : FuncData} {ps : List Str} {s1 s2 : Sp} (a : FnOk P w K mg base C k f fd ps s1) (b : FnOk P w K mg base C k f fd ps s2) :
    FnOk P w K mg base C k f fd ps (fun vs H Q E => s1 vs H Q E ∨ s2 vs H Q E) :=
  ⟨fun vs H Q E h => h.elim (a.len vs H Q E) (b.len vs H Q E), fun A o s H ar us vs Q E hr he hb hv h => h.elim (a.run A o s H ar us vs Q E hr he hb hv) (b.run A o s H ar us vs Q E hr he hb hv)⟩
def spFish2 : Sp := fun vs H Q _ => ∃ (p : Addr) (m n : Int), vs = [.ref p, .int m] ∧ Pond n p H ∧ n ≤ 10 ^ 9 ∧ 10 ^ 30 < m ∧ m ≤ 10 ^ 100 ∧ ∀ r H', But p H H' → Pond (n + 12) p H' → 0 ≤ r → r < m → Q (.int r) H'
def pairD (g : Int × Int) : PyData := .tuple [.int g.1, .int g.2]
theorem lay_pairs : ∀ gs : List (Int × Int), PyData.canLayAll0 (gs.map pairD) = true
  | [] => by simp [PyData.canLayAll0]
  | g :: gs => by simp [PyData.canLayAll0, PyData.canLay0, pairD, lay_pairs gs]
theorem depth_pairs : ∀ gs : List (Int × Int), PyData.depthAll (gs.map pairD) ≤ 5
  | [] => by simp [PyData.depthAll]
  | g :: gs => by
    have := depth_pairs gs
    simp only [List.map_cons, PyData.depthAll, PyData.depth, pairD]
    omega
theorem shaped_pairs (gs : List (Int × Int)) : SeqAt.shaped (.list (gs.map pairD)) = true := by
  have h := depth_pairs gs
  unfold SeqAt.shaped
  rw [Bool.and_eq_true]
  refine ⟨by simpa only [PyData.canLay0] using lay_pairs gs, decide_eq_true ?_⟩
  simp only [PyData.depth]
  omega
theorem shaped_nil : SeqAt.shaped (.list []) = true := by decide +kernel
theorem eqv_nil : ∀ gs : List (Int × Int), PyData.eqv (.list (gs.map pairD)) (.list []) = gs.isEmpty
  | [] => by simp [PyData.eqv, PyData.eqvAll]
  | g :: gs => by simp [PyData.eqv, PyData.eqvAll]
theorem dp_pairs {K : PySem.W.Frag} {H : Hp} {xs : List V} {gs : List (Int × Int)} (h : Paired (GrAt H) xs gs) : DpAll K H xs (gs.map pairD) := by
  induction h with
  | nil => exact .nil
  | cons r t ih =>
    obtain ⟨b, rfl, h⟩ := r
    exact .cons (.tup (SqT.of h) (.cons (.int _) (.cons (.int _) .nil))) ih
theorem pick {xs : List Int} {r : Int} (h0 : 0 ≤ r) (h1 : r < (xs.length : Int)) : ∃ v ∈ xs, atI (xs.map V.int) r = some (.int v) := by
  obtain ⟨j, rfl⟩ : ∃ j : Nat, r = (j : Int) := ⟨r.toNat, (Int.toNat_of_nonneg h0).symm⟩
  have hl : j < xs.length := by omega
  refine ⟨xs[j], List.getElem_mem hl, atI_nat ?_⟩
  rw [List.getElem?_map, List.getElem?_eq_getElem hl]
  rfl
theorem GrAt.but {p : Addr} {H H' : Hp} {us : List V} (s : But p H H') (hp : H p = some (.lst us)) {x : V} {g : Int × Int} (h : GrAt H x g) : GrAt H' x g := by
  obtain ⟨b, e, h⟩ := h
  exact ⟨b, e, s b _ (ne_of h hp (fun z => nomatch z)) h⟩
theorem grs_but {p : Addr} {H H' : Hp} {us : List V} (s : But p H H') (hp : H p = some (.lst us)) {xs : List V} {gs : List (Int × Int)} (h : Paired (GrAt H) xs gs) : Paired (GrAt H') xs gs := L2.Paired.mapP h fun _ _ r => r.but s hp
theorem grs_same {H H' : Hp} (s : Same H H') {xs : List V} {gs : List (Int × Int)} (h : Paired (GrAt H) xs gs) : Paired (GrAt H') xs gs := L2.Paired.mapP h fun _ _ ⟨b, e, h⟩ => ⟨b, e, s _ _ h⟩
theorem SigT.but {p g : Addr} {H H' : Hp} {us : List V} (s : But p H H') (hp : H p = some (.lst us)) {gs : List (Int × Int)} (h : SigT H g gs) : SigT H' g gs := by
  obtain ⟨xs, h1, h2⟩ := h
  exact ⟨xs, s g _ (ne_of h1 hp (fun z => nomatch z)) h1, grs_but s hp h2⟩
theorem paired_snoc {α β : Type} {R : α → β → Prop} : ∀ {xs : List α} {ys : List β} {x : α} {y : β}, Paired R xs ys → R x y → Paired R (xs ++ [x]) (ys ++ [y])
  | _, _, _, _, .nil, r => .cons r .nil
  | _, _, _, _, .cons q t, r => .cons q (paired_snoc t r)
def spPondNew (K : PySem.W.Frag) : Sp := fun vs H Q _ => ∃ (a : Addr) (k : Int) (ns : List Int), vs = [.ref a, .int k] ∧ SqL K H a (ns.map V.int) ∧ 0 ≤ k ∧ k ≤ 100 ∧ ∀ p H', H p = none → Same H H' → Pond 0 p H' → Q (.ref p) H'
def spGreens : Sp := fun vs H Q _ => ∃ (p : Addr) (s n : Int), vs = [.ref p, .int s] ∧ Pond n p H ∧ n ≤ 10 ^ 8 ∧ 1 ≤ s ∧ s ≤ 10 ^ 30 ∧ ∀ g gs H', But p H H' → Pond (n + 1000) p H' → SigT H' g gs → OkG s gs → Q (.ref g) H'
section
variable {P : Program} {w : World} {K : PySem.W.Frag} {mg : Str → Option Value} {base : Heap} {tC tG : Tok}
theorem ok_fish2 {f : Addr} {fd : FuncData} (B : Blt mg tC tG) (Dl_fish : Def K mg "_law_fish" s_l_fish ["_law_pond_here", "_law_bound"] f fd) : FnOk P w K mg base CX0 2 f fd ["_law_pond_here", "_law_bound"] spFish2 := by
  have Gl_fish := ok_fish1 (P := P) (w := w) (base := base) B Dl_fish
  refine Dl_fish.F.ok scl_fish (fun vs H Q E h => ?_) (fun cdv A outer s H vs Q E hr h => ⟨_, (pss_cons (ps_if (pt_cmpR op_gt (pv 1) (pe_op op_powW pe_int pe_int) (nomark _))
   (pss_cons (ps_set (i := 2) scl_fish.nd rfl (Or.inl rfl) pe_int)
  (pss_cons (ps_for PassesOwn.never rfl (pi_range1 (by rfl) B.range (pa_cons (pe_op op_add pe_int (pe_op op_fdivW (pe_bits (pv 1)) pe_int)) pa_nil)) (pg_name (i := 3) scl_fish.nd rfl (Or.inl rfl))
   (pss_one (ps_set (i := 2) scl_fish.nd rfl (Or.inl rfl) (pe_op op_add (pe_op op_mulW (pv 2) (pe_op op_powW pe_int pe_int)) (pe_call Gl_fish (hr.mono (by decide)) (by rfl) Dl_fish.g Dl_fish.F.kp Dl_fish.b .nil pass0 (pa_cons (pv 0) (pa_cons (pe_op op_powW pe_int pe_int) pa_nil)))))))
  (pss_one (ps_ret (pe_op op_modN (pv 2) (pv 1))))))
   pss_nil)
  (pss_cons (ps_if (pt_cmpR op_gt (pe_ix ix_list (pv 0) pe_int (fun _ _ => rfl)) pe_int (nomark _))
   (pss_cons (ps_set (i := 2) scl_fish.nd rfl (Or.inl rfl) (pe_op op_modN (pe_ix ix_list (pv 0) pe_int (fun _ _ => rfl)) (pv 1)))
  (pss_cons (ps_asg (pe_op op_fdivW (pe_ix ix_list (pv 0) pe_int (fun _ _ => rfl)) (pv 1)) (pg_sub (pv 0) pe_int set_list))
  (pss_one (ps_ret (pv 2)))))
   pss_nil)
  (pss_cons (ps_asg (pe_op op_add (pe_ix ix_list (pv 0) pe_int (fun _ _ => rfl)) pe_int) (pg_sub (pv 0) pe_int set_list))
  (pss_cons (ps_set (i := 4) scl_fish.nd rfl (Or.inl rfl) (pe_op op_modN (pe_op op_powW (pe_op op_add (pe_ix ix_list (pv 0) pe_int (fun _ _ => rfl)) (pe_op op_mulW pe_int (pe_ix ix_list (pv 0) pe_int (fun _ _ => rfl)))) pe_int) (pe_op op_add (pe_op op_powW pe_int pe_int) pe_int)))
  (pss_cons (ps_set (i := 4) scl_fish.nd rfl (Or.inl rfl) (pe_op op_modN (pe_op op_powW (pe_op op_add (pv 4) (pe_op op_mulW pe_int (pe_ix ix_list (pv 0) pe_int (fun _ _ => rfl)))) pe_int) (pe_op op_add (pe_op op_powW pe_int pe_int) pe_int)))
  (pss_one (ps_ret (pe_op op_modN (pe_op op_fdivW (pv 4) pe_int) (pv 1))))))))), ?_⟩)
  · obtain ⟨p, m, n, rfl, _⟩ := h; rfl
  · obtain ⟨p, m, n, rfl, hP, hn, m1, m2, q⟩ := h
    refine ⟨_, rfl, _, _, rfl, rfl, cp30, _, _, rfl, rfl, _, rfl, iteY (show (10 : Int) ^ 30 < m from m1) ?_⟩
    have hb := bits_le (draw_ok (m := m) (by omega) m2) (by decide)
    refine ⟨_, rfl, _, rfl, _, _, rfl, rfl, ⟨by decide, by decide +kernel⟩, _, _, rfl, rfl, _, rfl, by omega, by omega, ?_⟩
    refine for_range (lo := 0) (fun i σ H' => ∃ f y, σ = [some (.ref p), some (.int m), some (.int f), y, none] ∧ 0 ≤ f ∧ f < 10 ^ (30 * i) ∧ But p H H' ∧ Pond (n + i) p H') ⟨0, none, rfl, by decide, by decide, But.refl p H, hP.mono (by omega)⟩ ?_ ?_
    · rintro i σ H' hi ⟨f, y, rfl, f0, f1, bt, pd⟩
      have i12 : i ≤ 12 := by omega
      have fs : f.natAbs < 2 ^ 1200 := natAbs_lt f0 (by
        have a : (10 : Int) ^ (30 * i) ≤ 10 ^ 360 := by
          have : (10 : Nat) ^ (30 * i) ≤ 10 ^ 360 := Nat.pow_le_pow_right (by decide) (by omega)
          exact_mod_cast this
        have b : (10 : Int) ^ 360 < ((2 ^ 1200 : Nat) : Int) := by decide +kernel
        exact Int.lt_trans (Int.lt_of_lt_of_le f1 a) b)
      refine ⟨_, rfl, _, _, rfl, rfl, cp30, _, _, rfl, rfl, wide_mul (a := 1200) (b := 100) fs (by decide +kernel) (by decide) (by decide) (by decide), _, rfl, _, _, rfl, rfl, cp30, ?_⟩
      refine ⟨p, _, n + i, rfl, pd, by omega, by decide +kernel, by decide +kernel, fun r H2 bt2 pd2 r0 r1 => ?_⟩
      refine ⟨_, _, rfl, rfl, f * 10 ^ (30 : Int).toNat + r, some (.int (0 + (i : Int))), rfl, ?_, ?_, bt.trans bt2, pd2.mono (by omega)⟩
      · have : 0 ≤ f * 10 ^ (30 : Int).toNat := Int.mul_nonneg f0 (by decide +kernel)
        omega
      · have e : (10 : Int) ^ (30 * (i + 1)) = 10 ^ (30 * i) * 10 ^ (30 : Int).toNat := by
          rw [show 30 * (i + 1) = 30 * i + 30 by omega, Int.pow_add]; rfl
        have a : (f + 1) * 10 ^ (30 : Int).toNat ≤ 10 ^ (30 * i) * 10 ^ (30 : Int).toNat := Int.mul_le_mul_of_nonneg_right (by omega) (by decide +kernel)
        rw [e]
        rw [Int.add_mul, Int.one_mul] at a
        omega
    · rintro σ H' ⟨f, y, rfl, f0, f1, bt, pd⟩
      exact ⟨_, rfl, _, rfl, _, _, rfl, rfl, (by show m ≠ 0; omega), q _ _ bt (pd.mono (by omega)) (fmod_rng (by omega)).1 (fmod_rng (by omega)).2⟩
theorem ok_fish {f : Addr} {fd : FuncData} (B : Blt mg tC tG) (Dl_fish : Def K mg "_law_fish" s_l_fish ["_law_pond_here", "_law_bound"] f fd) : FnOk P w K mg base CX0 2 f fd ["_law_pond_here", "_law_bound"] spFish :=
  (fnok_or (FnOk.mono (k := 2) (ok_fish1 B Dl_fish) (by decide)) (ok_fish2 B Dl_fish)).imp fun vs H Q E ⟨p, m, n, e, hP, hn, m1, m2, q⟩ => by
    by_cases h : m ≤ 10 ^ 30
    · exact .inl ⟨p, m, n, e, hP, by omega, m1, h, fun r H' bt pd => q r H' bt (pd.mono (by omega))⟩
    · exact .inr ⟨p, m, n, e, hP, hn, by omega, m2, q⟩
theorem ok_pond {f : Addr} {fd : FuncData} (B : Blt mg tC tG) (Dl_pond : Def K mg "_law_pond" s_l_pond ["_law_script", "_law_k"] f fd) : FnOk P w K mg base CX0 1 f fd ["_law_script", "_law_k"] (spPondNew K) := by
  refine Dl_pond.F.ok scl_pond (fun vs H Q E h => ?_) (fun cdv A outer s H vs Q E hr h => ⟨_, (pss_cons (ps_set (i := 2) scl_pond.nd rfl (Or.inl rfl) pe_int)
  (pss_cons (ps_if (pt_cmpR op_lt (pv 1) (pe_callB call_len_seq (by rfl) B.len PySem.boot_len (pa_cons (pv 0) pa_nil)) (nomark _))
   (pss_one (ps_set (i := 2) scl_pond.nd rfl (Or.inl rfl) (pe_ix ix_list (pv 0) (pv 1) (fun _ _ => rfl))))
   pss_nil)
  (pss_one (ps_ret (pe_lst (pa_cons (pe_callB (call_max2 rfl) (by rfl) B.n_max (by decide +kernel) (pa_cons pe_int (pa_cons (pe_op op_sub (pv 2) (pe_op op_powW pe_int pe_int)) pa_nil))) (pa_cons (pe_op op_add (pe_op op_modN (pv 2) (pe_op op_add (pe_op op_powW pe_int pe_int) pe_int)) (pe_op op_mulW pe_int (pv 1))) (pa_cons pe_int pa_nil)))))))), ?_⟩)
  · obtain ⟨a, k, ns, rfl, _⟩ := h; rfl
  · obtain ⟨a, k, ns, rfl, hS, k0, k1, q⟩ := h
    have cp18 : CPowW 10 18 := ⟨by decide, by decide +kernel⟩
    have cp38 : CPowW 10 38 := ⟨by decide, by decide +kernel⟩
    have e38 : (10 : Int) ^ (38 : Int).toNat + 133 + 15487469 * 100 < 10 ^ 60 := by decide +kernel
    have e1 : 1 ≤ (10 : Int) ^ (38 : Int).toNat + 133 := by decide +kernel
    have fin : ∀ z : Int, 0 ≤ z.fmod ((10 : Int) ^ (38 : Int).toNat + 133) + 15487469 * k ∧ z.fmod ((10 : Int) ^ (38 : Int).toNat + 133) + 15487469 * k < 10 ^ 60 := fun z => by
      have := fmod_rng (x := z) e1
      omega
    refine ⟨_, rfl, _, rfl, a, _, rfl, .inl hS, _, _, rfl, rfl, _, rfl, ?_⟩
    rw [List.length_map]
    by_cases hk : k < (ns.length : Int)
    · refine iteY hk ?_
      obtain ⟨v, _, hv⟩ := pick k0 hk
      refine ⟨_, rfl, _, rfl, a, _, _, _, rfl, rfl, hS, hv, ?_⟩
      refine ⟨_, rfl, _, _, rfl, rfl, cp18, _, _, rfl, rfl, _, _, rfl, _, rfl, _, _, rfl, rfl, cp38, _, _, rfl, rfl, _, _, rfl, rfl, (by show (10 : Int) ^ (38 : Int).toNat + 133 ≠ 0; omega), _, rfl, _, _, rfl, rfl, mulc (by decide) (by decide) k0 (by omega), _, _, rfl, rfl, (by show 3 ≤ sizeLine; decide), fun p hp => ?_⟩
      exact q p _ hp (Same.new hp) ⟨_, _, _, upd_same, (fin v).1, (fin v).2, by decide, by decide⟩
    · refine iteN hk ?_
      refine ⟨_, rfl, _, _, rfl, rfl, cp18, _, _, rfl, rfl, _, _, rfl, _, rfl, _, _, rfl, rfl, cp38, _, _, rfl, rfl, _, _, rfl, rfl, (by show (10 : Int) ^ (38 : Int).toNat + 133 ≠ 0; omega), _, rfl, _, _, rfl, rfl, mulc (by decide) (by decide) k0 (by omega), _, _, rfl, rfl, (by show 3 ≤ sizeLine; decide), fun p hp => ?_⟩
      exact q p _ hp (Same.new hp) ⟨_, _, _, upd_same, (fin 0).1, (fin 0).2, by decide, by decide⟩
theorem ok_greens {f f1 : Addr} {fd fd1 : FuncData} (B : Blt mg tC tG) (Dl_greens : Def K mg "_law_greens" s_l_greens ["_law_pond_here", "_law_span"] f fd) (Dl_fish : Def K mg "_law_fish" s_l_fish ["_law_pond_here", "_law_bound"] f1 fd1) : FnOk P w K mg base CX0 3 f fd ["_law_pond_here", "_law_span"] spGreens := by
  have Gl_fish := ok_fish (P := P) (w := w) (base := base) B Dl_fish
  refine Dl_greens.F.ok scl_greens (fun vs H Q E h => ?_) (fun cdv A outer s H vs Q E hr h => ⟨_, (pss_cons (ps_set (i := 2) scl_greens.nd rfl (Or.inl rfl) (pe_lst pa_nil))
  (pss_cons (ps_for PassesOwn.never rfl (pi_range1 (by rfl) B.range (pa_cons (pe_ix ix_list (pe_lst (pa_cons pe_int (pa_cons pe_int (pa_cons pe_int (pa_cons pe_int (pa_cons pe_int (pa_cons (pe_op op_add pe_int (pe_call Gl_fish (hr.mono (by decide)) (by rfl) Dl_fish.g Dl_fish.F.kp Dl_fish.b .nil pass0 (pa_cons (pv 0) (pa_cons pe_int pa_nil)))) pa_nil))))))) (pe_call Gl_fish (hr.mono (by decide)) (by rfl) Dl_fish.g Dl_fish.F.kp Dl_fish.b .nil pass0 (pa_cons (pv 0) (pa_cons pe_int pa_nil))) (fun _ _ => rfl)) pa_nil)) (pg_name (i := 3) scl_greens.nd rfl (Or.inl rfl))
   (pss_cons (ps_set (i := 4) scl_greens.nd rfl (Or.inl rfl) (pe_call Gl_fish (hr.mono (by decide)) (by rfl) Dl_fish.g Dl_fish.F.kp Dl_fish.b .nil pass0 (pa_cons (pv 0) (pa_cons (pv 1) pa_nil))))
  (Evl.pss_cut (ps_if (PW.pt (pw_and (pt_cmpR (op_neD hr.units) (pv 2) (pe_lst pa_nil) (nomark _)) (pw_and1 (pt_cmpR op_eq (pe_call Gl_fish (hr.mono (by decide)) (by rfl) Dl_fish.g Dl_fish.F.kp Dl_fish.b .nil pass0 (pa_cons (pv 0) (pa_cons pe_int pa_nil))) pe_int (nomark _)))))
   (pss_one (ps_set (i := 4) scl_greens.nd rfl (Or.inl rfl) (pe_op op_modN (pe_op op_add (pe_ix ix_tup (pe_ix ix_list (pv 2) (pe_un un_neg pe_int) (fun _ _ => rfl)) pe_int (fun _ _ => rfl)) (pe_ix ix_tup (pe_ix ix_list (pv 2) (pe_un un_neg pe_int) (fun _ _ => rfl)) pe_int (fun _ _ => rfl))) (pv 1))))
   pss_nil)
  (pss_cons (ps_set (i := 5) scl_greens.nd rfl (Or.inl rfl) (pe_op op_add pe_int (pe_call Gl_fish (hr.mono (by decide)) (by rfl) Dl_fish.g Dl_fish.F.kp Dl_fish.b .nil pass0 (pa_cons (pv 0) (pa_cons (pe_callB (call_min2 rfl) (by rfl) B.n_min (by decide +kernel) (pa_cons (pv 1) (pa_cons pe_int pa_nil))) pa_nil)))))
  (pss_cons (ps_set (i := 6) scl_greens.nd rfl (Or.inl rfl) (pe_ix ix_list (pe_lst (pa_cons (pv 5) (pa_cons (pe_op op_add pe_int (pe_call Gl_fish (hr.mono (by decide)) (by rfl) Dl_fish.g Dl_fish.F.kp Dl_fish.b .nil pass0 (pa_cons (pv 0) (pa_cons (pe_op op_add (pe_op op_fdivW (pv 1) pe_int) pe_int) pa_nil)))) (pa_cons (pe_op op_add pe_int (pe_call Gl_fish (hr.mono (by decide)) (by rfl) Dl_fish.g Dl_fish.F.kp Dl_fish.b .nil pass0 (pa_cons (pv 0) (pa_cons (pv 1) pa_nil)))) pa_nil)))) (pe_call Gl_fish (hr.mono (by decide)) (by rfl) Dl_fish.g Dl_fish.F.kp Dl_fish.b .nil pass0 (pa_cons (pv 0) (pa_cons pe_int pa_nil))) (fun _ _ => rfl)))
  (pss_one (ps_expr (pe_bm PySem.F.plainAttrs_list PySem.F.slot_list_append PySem.F.type_list_append mt_append (pv 2) (pa_cons (pe_tup (pa_cons (pv 4) (pa_cons (pe_ifExp (pt_cmpR op_eq (pe_op op_modN (pv 3) pe_int) pe_int (nomark _)) (pv 5) (pv 6)) pa_nil))) pa_nil)))))))))
  (pss_one (ps_ret (pe_callTy call_tuple_of (by rfl) B.n_tuple (by decide +kernel) (pa_cons (pv 2) pa_nil)))))), ?_⟩)
  · obtain ⟨p, m, n, rfl, _⟩ := h; rfl
  · obtain ⟨p, m, n, rfl, hP, hn, m1, m2, q⟩ := h
    refine ⟨Nat.zero_le _, fun F hF => ?_⟩
    have hpF : p ≠ F := fun e => hP.ne (e ▸ hF)
    -- how many
    refine ⟨_, rfl, p, 6, n, rfl, hP.new hF, by omega, by decide, by decide +kernel, fun r1 H2 bt2 pd2 r10 r11 => ?_⟩
    refine ⟨_, _, rfl, rfl, (by show 6 ≤ sizeLine; decide), fun L hL => ⟨_, rfl, p, 6, n + 12, rfl, pd2.new hL, by omega, by decide, by decide +kernel, fun r2 H3 bt3 pd3 r20 r21 => ?_⟩⟩
    obtain ⟨v, hv, ha⟩ := pick (xs := [1, 1, 2, 3, 6, 1 + r1]) r20 r21
    have hLp : L ≠ p := fun e => pd2.ne (e ▸ hL)
    have b23 : But p (upd H F (.lst [])) H3 := (bt2.new hL).trans bt3
    have v16 : 1 ≤ v ∧ v ≤ 6 := by
      simp only [List.mem_cons, List.not_mem_nil, or_false] at hv
      omega
    refine ⟨L, _, _, _, rfl, rfl, SqL.of (bt3 L _ hLp upd_same), ha, v, rfl, by omega, by omega, ?_⟩
    refine for_range (lo := 0) (fun i σ H' => ∃ gs us y3 y4 y5 y6, σ = [some (.ref p), some (.int m), some (.ref F), y3, y4, y5, y6] ∧ But p H H' ∧ Pond (n + 24 + 100 * i) p H' ∧ H' F = some (.lst us) ∧ Paired (GrAt H') us gs ∧
      gs.length = i ∧ ∀ g ∈ gs, 0 ≤ g.1 ∧ g.1 < m ∧ 1 ≤ g.2 ∧ g.2 ≤ m)
      ⟨[], [], none, none, none, none, rfl, fun q' o hq e => b23 q' o hq ((Same.new hF) q' o e), pd3.mono (by omega), b23 F _ hpF.symm upd_same, .nil, rfl, fun _ h => (List.not_mem_nil h).elim⟩ ?_ ?_
    · rintro i σ H' hi ⟨gs, us, y3, y4, y5, y6, rfl, bt, pd, hf, hG, hlen, hok⟩
      have i6 : i ≤ 6 := by omega
      have m100 : m ≤ 10 ^ 100 := by
        have : (10 : Int) ^ 30 ≤ 10 ^ 100 := by decide +kernel
        omega
      refine ⟨_, rfl, _, rfl, p, m, _, rfl, pd, by omega, m1, m100, fun r4 H4 bt4 pd4 r40 r41 => ?_⟩
      obtain ⟨pu, hpu⟩ := pd.some
      have hf4 := bt4 F _ hpF.symm hf
      have hG4 := grs_but bt4 hpu hG
      refine ⟨fun σ' H' => ∃ pl, σ' = [some (.ref p), some (.int m), some (.ref F), some (.int (0 + (i : Int))), some (.int pl), y5, y6] ∧ But p H H' ∧ Pond (n + 24 + 100 * i + 24) p H' ∧ H' F = some (.lst us) ∧ Paired (GrAt H') us gs ∧ 0 ≤ pl ∧ pl < m, ?_, ?_⟩
      · refine ⟨_, rfl, Nat.zero_le _, fun Z hZ => ⟨_, _, .lst (SqL.of (Same.new hZ _ _ hf4)) (dp_pairs (grs_same (Same.new hZ) hG4)), .lst (SqL.of upd_same) .nil, shaped_pairs gs, shaped_nil, _, rfl, ?_⟩⟩
        have hfZ := Same.new hZ (o := .lst []) _ _ hf4
        have hGZ := grs_same (Same.new hZ (o := .lst [])) hG4
        rw [eqv_nil]
        rcases List.eq_nil_or_concat gs with rfl | ⟨gs', g, rfl⟩
        · exact ⟨r4, rfl, (bt.trans bt4).new hZ, (pd4.new hZ).mono (by omega), hfZ, hGZ, r40, r41⟩
        · rw [show (gs'.concat g).isEmpty = false by simp]
          refine ⟨_, rfl, p, 3, _, rfl, pd4.new hZ, by omega, by decide, by decide +kernel, fun r5 H5 bt5 pd5 r50 r51 => ⟨rfl, _, rfl, ?_⟩⟩
          obtain ⟨pu5, hpu5⟩ := (pd4.new hZ (o := .lst [])).some
          have hf5 := bt5 F _ hpF.symm hfZ
          have hG5 := grs_but bt5 hpu5 hGZ
          have b5 : But p H H5 := ((bt.trans bt4).new hZ).trans bt5
          by_cases h5 : r5 = 0
          · refine iteY (congrArg V.int h5) ?_
            rcases List.eq_nil_or_concat us with rfl | ⟨us', x, rfl⟩
            · have := paired_len hG5
              simp at this
            · have el := paired_len hG5
              have hx : (us'.concat x)[us'.length]? = some x := by simp
              obtain ⟨g', hg', b, rfl, hb⟩ := paired_at hG5 hx
              have hat : atI (us'.concat (V.ref b)) (-1) = some (V.ref b) := by rw [List.concat_eq_append]; exact atI_last _ _
              refine ⟨_, rfl, _, rfl, F, _, _, _, rfl, rfl, SqL.of hf5, hat, b, _, _, _, rfl, rfl, SqT.of hb, rfl, _, rfl, _, rfl, F, _, _, _, rfl, rfl, SqL.of hf5, hat, b, _, _, _, rfl, rfl, SqT.of hb, rfl, _, _, rfl, rfl, _, rfl, _, _, rfl, rfl, (by show m ≠ 0; omega), ?_⟩
              exact ⟨_, rfl, b5, pd5.mono (by omega), hf5, hG5, (fmod_rng m1).1, (fmod_rng m1).2⟩
          · exact iteN (fun e => h5 (V.int.inj e)) ⟨r4, rfl, b5, pd5.mono (by omega), hf5, hG5, r40, r41⟩
      · rintro σ' H5 ⟨pl, rfl, bt5, pd5, hf5, hG5, p0, p1⟩
        -- few
        have mn : 1 ≤ (if (4 : Int) < m then (4 : Int) else m) ∧ (if (4 : Int) < m then (4 : Int) else m) ≤ m := by split <;> omega
        refine ⟨_, rfl, _, rfl, _, _, rfl, p, _, _, rfl, pd5, by omega, mn.1, by omega, fun r6 H6 bt6 pd6 r60 r61 => ⟨_, _, rfl, rfl, ?_⟩⟩
        obtain ⟨pu5, hpu5⟩ := pd5.some
        have hf6 := bt6 F _ hpF.symm hf5
        have hG6 := grs_but bt6 hpu5 hG5
        -- many
        have half : 0 ≤ m / 2 ∧ m / 2 ≤ m := by omega
        refine ⟨_, rfl, _, rfl, _, rfl, _, _, rfl, rfl, ⟨by decide, by decide +kernel⟩, _, _, rfl, rfl, p, _, _, rfl, pd6, by omega, by show 1 ≤ m / 2 + 1; omega, by show m / 2 + 1 ≤ 10 ^ 100; omega, fun r7 H7 bt7 pd7 r70 r71 => ⟨_, _, rfl, rfl, ?_⟩⟩
        obtain ⟨pu6, hpu6⟩ := pd6.some
        have hf7 := bt7 F _ hpF.symm hf6
        have hG7 := grs_but bt7 hpu6 hG6
        refine ⟨_, rfl, _, rfl, p, _, _, rfl, pd7, by omega, m1, m100, fun r8 H8 bt8 pd8 r80 r81 => ⟨_, _, rfl, rfl, (by show 3 ≤ sizeLine; decide), fun LL hLL => ?_⟩⟩
        obtain ⟨pu7, hpu7⟩ := pd7.some
        have hf8 := Same.new hLL (o := .lst [.int (1 + r6), .int (1 + r7), .int (1 + r8)]) _ _ (bt8 F _ hpF.symm hf7)
        have hG8 := grs_same (Same.new hLL (o := .lst [.int (1 + r6), .int (1 + r7), .int (1 + r8)])) (grs_but bt8 hpu7 hG7)
        have hLLp : LL ≠ p := fun e => pd8.ne (e ▸ hLL)
        have pd8' := pd8.new hLL (o := .lst [.int (1 + r6), .int (1 + r7), .int (1 + r8)])
        refine ⟨_, rfl, p, 3, _, rfl, pd8', by omega, by decide, by decide +kernel, fun r9 H9 bt9 pd9 r90 r91 => ?_⟩
        obtain ⟨pu8, hpu8⟩ := pd8'.some
        have hf9 := bt9 F _ hpF.symm hf8
        have hG9 := grs_but bt9 hpu8 hG8
        obtain ⟨mv, hmv, hma⟩ := pick (xs := [1 + r6, 1 + r7, 1 + r8]) r90 r91
        have many : 1 ≤ mv ∧ mv ≤ m := by
          simp only [List.mem_cons, List.not_mem_nil, or_false] at hmv
          omega
        have few : 1 ≤ 1 + r6 ∧ 1 + r6 ≤ m := by omega
        have b9 : But p H H9 := (((bt5.trans bt6).trans (bt7.trans bt8)).new hLL).trans bt9
        refine ⟨LL, _, _, _, rfl, rfl, SqL.of (bt9 LL _ hLLp upd_same), hma, ?_⟩
        -- append
        refine ⟨_, rfl, .inl ⟨rfl, _, SqL.of hf9⟩, _, rfl, _, rfl, _, _, rfl, rfl, (by show (2 : Int) ≠ 0; decide), rfl, _, rfl, ?_⟩
        have put : ∀ lv : Int, 1 ≤ lv → lv ≤ m → ∀ T, H9 T = none → But p H (upd (upd H9 T (.tup [.int pl, .int lv])) F (.lst (us ++ [.ref T]))) ∧ Pond (n + 24 + 100 * ((i + 1 : Nat) : Int)) p (upd (upd H9 T (.tup [.int pl, .int lv])) F (.lst (us ++ [.ref T]))) ∧
            (upd (upd H9 T (.tup [.int pl, .int lv])) F (.lst (us ++ [.ref T]))) F = some (.lst (us ++ [.ref T])) ∧ Paired (GrAt (upd (upd H9 T (.tup [.int pl, .int lv])) F (.lst (us ++ [.ref T])))) (us ++ [.ref T]) (gs ++ [(pl, lv)]) ∧
            (gs ++ [(pl, lv)]).length = i + 1 ∧ ∀ g ∈ gs ++ [(pl, lv)], 0 ≤ g.1 ∧ g.1 < m ∧ 1 ≤ g.2 ∧ g.2 ≤ m := by
          intro lv l1 l2 T hT
          have nTF : T ≠ F := fun e => by rw [e, hf9] at hT; cases hT
          have keep : ∀ b xs, H9 b = some (.tup xs) → (upd (upd H9 T (.tup [.int pl, .int lv])) F (.lst (us ++ [.ref T]))) b = some (.tup xs) := fun b xs e => by
            have nb : b ≠ F := ne_of e hf9 (fun z => nomatch z)
            rw [upd_ne nb]
            exact Same.new hT _ _ e
          refine ⟨(b9.new hT).mut hF, ?_, upd_same, paired_snoc (L2.Paired.mapP hG9 fun _ _ ⟨b, e, h⟩ => ⟨b, e, keep _ _ h⟩) ⟨T, rfl, ?_⟩, by simp [hlen], ?_⟩
          · obtain ⟨a, b, c, e1, e2, e3, e4, e5⟩ := pd9.new hT (o := .tup [.int pl, .int lv])
            exact ⟨a, b, c, by rw [upd_ne hpF]; exact e1, e2, e3, e4, by push_cast; omega⟩
          · rw [upd_ne nTF]; exact upd_same
          · intro g hg
            rcases List.mem_append.mp hg with h | h
            · exact hok g h
            · rw [List.mem_singleton.mp h]
              exact ⟨p0, p1, l1, l2⟩
        have hsz : us.length < sizeLine := small1000 (by have := paired_len hG9; omega)
        refine ite2 (fun _ => ⟨_, rfl, (by show 2 ≤ sizeLine; decide), fun T hT => ?_⟩) (fun _ => ⟨_, rfl, (by show 2 ≤ sizeLine; decide), fun T hT => ?_⟩)
        · have nTF : F ≠ T := fun e => by rw [← e, hf9] at hT; cases hT
          refine ⟨F, us, _, rfl, rfl, (by rw [upd_ne nTF]; exact hf9), hsz, gs ++ [(pl, 1 + r6)], us ++ [.ref T], _, _, _, _, rfl, ?_⟩
          exact put _ few.1 few.2 T hT
        · have nTF : F ≠ T := fun e => by rw [← e, hf9] at hT; cases hT
          refine ⟨F, us, _, rfl, rfl, (by rw [upd_ne nTF]; exact hf9), hsz, gs ++ [(pl, mv)], us ++ [.ref T], _, _, _, _, rfl, ?_⟩
          exact put _ many.1 many.2 T hT
    · rintro σ H' ⟨gs, us, y3, y4, y5, y6, rfl, bt, pd, hf, hG, hlen, hok⟩
      refine ⟨_, rfl, F, us, rfl, .inl ⟨SqL.of hf, fun l hl => ?_⟩⟩
      refine q l gs _ (bt.new hl) ((pd.new hl).mono (by omega)) ⟨us, upd_same, grs_same (Same.new hl) hG⟩ ⟨by omega, by omega, hok⟩
end
end Gr

set_option Elab.async false
set_option linter.all false
set_option pp.deepTerms false
set_option pp.maxSteps 3000
set_option maxRecDepth 100000
set_option maxHeartbeats 4000000
set_option exponentiation.threshold 3000
namespace Gr
open PySem PySem.Spec PyProof.Rows L2
/-! ### the rests -/
theorem emod_two {x s : Int} (h0 : -s ≤ x) (h1 : x < 2 * s) (hs : 0 < s) : x % s = if x < 0 then x + s else if x < s then x else x - s := by
  by_cases a : x < 0
  · rw [if_pos a, ← Int.add_emod_right, Int.emod_eq_of_lt (by omega) (by omega)]
  · rw [if_neg a]
    by_cases b : x < s
    · rw [if_pos b, Int.emod_eq_of_lt (by omega) b]
    · rw [if_neg b, ← Int.sub_emod_right, Int.emod_eq_of_lt (by omega) (by omega)]
theorem rest_eq {t o j s : Int} (t0 : 0 ≤ t) (t1 : t < s) (o0 : 0 ≤ o) (o1 : o < s) (j0 : 0 ≤ j) (j1 : j < s) : ((t - o) % s = j) ↔ t = (o + j) % s := by
  rw [emod_two (x := t - o) (s := s) (by omega) (by omega) (by omega), emod_two (x := o + j) (s := s) (by omega) (by omega) (by omega)]
  split <;> split <;> (try split) <;> omega
/-- a dict that holds just the moments of f, each from 0 to below s -/
structure LitP (s : Int) (f : Int → Bool) (kvs : List (Key × V)) : Prop where
  is : ∀ t, 0 ≤ t → t < s → (valV kvs (.inl t)).isSome = f t
  once : (kvs.map (·.1)).Nodup
  rng : ∀ k ∈ kvs.map (·.1), ∃ t, k = .inl t ∧ 0 ≤ t ∧ t < s
theorem keys_put (kvs : List (Key × V)) (k : Key) (y : V) : (k ∈ kvs.map (·.1) ∧ (putK kvs k y).map (·.1) = kvs.map (·.1)) ∨ (¬ k ∈ kvs.map (·.1) ∧ (putK kvs k y).map (·.1) = kvs.map (·.1) ++ [k]) := by
  have h : ((kvs.any fun kv => decide (kv.1 = k)) = true) ↔ k ∈ kvs.map (·.1) := by
    rw [List.any_eq_true, List.mem_map]
    constructor
    · rintro ⟨x, h1, h2⟩; exact ⟨x, h1, of_decide_eq_true h2⟩
    · rintro ⟨x, h1, h2⟩; exact ⟨x, h1, decide_eq_true h2⟩
  unfold putK
  by_cases a : k ∈ kvs.map (·.1)
  · refine .inl ⟨a, ?_⟩
    rw [if_pos (h.mpr a), List.map_map]
    apply List.map_congr_left
    intro p _
    show (if p.1 = k then (p.1, y) else p).1 = p.1
    split <;> rfl
  · refine .inr ⟨a, ?_⟩
    rw [if_neg (fun z => a (h.mp z)), List.map_append]; rfl
theorem LitP.put {s : Int} {f : Int → Bool} {kvs : List (Key × V)} (h : LitP s f kvs) {u : Int} (u0 : 0 ≤ u) (u1 : u < s) (y : V) : LitP s (fun t => f t || decide (t = u)) (putK kvs (.inl u) y) where
  is := fun t t0 t1 => by
    rw [valV_put]
    by_cases e : t = u
    · rw [if_pos (congrArg Sum.inl e), decide_eq_true e, Bool.or_true]; rfl
    · rw [if_neg (fun z => e (Sum.inl.inj z)), decide_eq_false e, Bool.or_false]; exact h.is t t0 t1
  once := by
    rcases keys_put kvs (.inl u) y with ⟨_, e⟩ | ⟨a, e⟩
    · rw [e]; exact h.once
    · rw [e]
      exact List.nodup_append.mpr ⟨h.once, by simp, fun x hx z hz e => a (by rw [← List.mem_singleton.mp hz, ← e]; exact hx)⟩
  rng := fun k hk => by
    rcases keys_put kvs (.inl u) y with ⟨_, e⟩ | ⟨a, e⟩
    · rw [e] at hk; exact h.rng k hk
    · rw [e] at hk
      rcases List.mem_append.mp hk with z | z
      · exact h.rng k z
      · exact ⟨u, List.mem_singleton.mp z, u0, u1⟩
theorem LitP.to {s : Int} {f g : Int → Bool} {kvs : List (Key × V)} (h : LitP s f kvs) (e : ∀ t, 0 ≤ t → t < s → f t = g t) : LitP s g kvs := ⟨fun t t0 t1 => (h.is t t0 t1).trans (e t t0 t1), h.once, h.rng⟩
theorem len_put (kvs : List (Key × V)) (k : Key) (y : V) : (putK kvs k y).length ≤ kvs.length + 1 := by
  unfold putK
  split
  · rw [List.length_map]; omega
  · rw [List.length_append]; exact Nat.le_refl _
def spRests : Sp := fun vs H Q _ => ∃ (g : Addr) (s : Int) (gs : List (Int × Int)), vs = [.int s, .ref g] ∧ SigT H g gs ∧ OkG s gs ∧ s ≤ 10000 ∧ ∀ d kvs H', Same H H' → H d = none → H' d = some (.dK kvs) → LitP s (lit s gs) kvs → Q (.ref d) H'
/-! ### scaled -/
def scal2 (f : Int) (gs : List (Int × Int)) : List (Int × Int) := gs.map fun g => (g.1 * f, g.2 * f)
def spScaled : Sp := fun vs H Q _ => ∃ (g : Addr) (f : Int) (gs : List (Int × Int)), vs = [.ref g, .int f] ∧ SigT H g gs ∧ gs.length ≤ 100 ∧ (∀ x ∈ gs, 0 ≤ x.1 ∧ x.1 ≤ 10 ^ 30 ∧ 0 ≤ x.2 ∧ x.2 ≤ 10 ^ 30) ∧ 0 ≤ f ∧ f ≤ 10 ^ 30 ∧ ∀ a H', Same H H' → SigT H' a (scal2 f gs) → Q (.ref a) H'
theorem mul30 {i j : Int} (i0 : 0 ≤ i) (i1 : i ≤ 10 ^ 30) (j0 : 0 ≤ j) (j1 : j ≤ 10 ^ 30) : CMulW i j := by
  have e : (10 : Int) ^ 30 < ((2 ^ 100 : Nat) : Int) := by decide +kernel
  exact wide_mul (a := 100) (b := 100) (natAbs_lt i0 (by omega)) (natAbs_lt j0 (by omega)) (by decide) (by decide) (by decide)
theorem mulBig {i j : Int} (i0 : i.natAbs < 2 ^ 1000) (j0 : j.natAbs < 2 ^ 1000) : CMulW i j := wide_mul (a := 1000) (b := 1000) i0 j0 (by decide) (by decide) (by decide)
theorem lit_mod (s : Int) (gs : List (Int × Int)) (t : Int) : lit s gs (t % s) = lit s gs t := by
  unfold lit
  congr 1
  funext g
  rw [Int.emod_sub_emod]
theorem lit_far (s : Int) (gs : List (Int × Int)) (t k : Int) : lit s gs (t + k * s) = lit s gs t := by
  rw [← lit_mod s gs (t + k * s), Int.add_mul_emod_self_right, lit_mod]
theorem lit_scal {s f : Int} (gs : List (Int × Int)) (x r : Int) (hs : 0 < s) (hf : 0 < f) (r0 : 0 ≤ r) (r1 : r < f) : lit (s * f) (scal2 f gs) (x * f + r) = lit s gs x := by
  unfold lit scal2
  rw [List.any_map]
  congr 1
  funext g
  show decide ((x * f + r - g.1 * f) % (s * f) < g.2 * f) = decide ((x - g.1) % s < g.2)
  have e : (x * f + r - g.1 * f) % (s * f) = ((x - g.1) % s) * f + r := by
    have h1 : x * f + r - g.1 * f = (((x - g.1) % s) * f + r) + (s * f) * ((x - g.1) / s) := by
      have := Int.emod_add_mul_ediv (x - g.1) s
      have h2 : (x - g.1) * f = ((x - g.1) % s + s * ((x - g.1) / s)) * f := by rw [this]
      rw [Int.sub_mul, Int.add_mul] at h2
      have h3 : s * ((x - g.1) / s) * f = s * f * ((x - g.1) / s) := by rw [Int.mul_right_comm]
      omega
    rw [h1, Int.add_mul_emod_self_left]
    have m0 := Int.emod_nonneg (x - g.1) (show s ≠ 0 by omega)
    have m1 := Int.emod_lt_of_pos (x - g.1) hs
    have a : ((x - g.1) % s) * f ≥ 0 := Int.mul_nonneg m0 (by omega)
    have b : ((x - g.1) % s + 1) * f ≤ s * f := Int.mul_le_mul_of_nonneg_right (by omega) (by omega)
    rw [Int.add_mul, Int.one_mul] at b
    exact Int.emod_eq_of_lt (by omega) (by omega)
  rw [e]
  congr 1
  apply propext
  constructor
  · intro h
    have : ((x - g.1) % s) * f < g.2 * f := by omega
    exact Int.lt_of_mul_lt_mul_right this (by omega)
  · intro h
    have b : ((x - g.1) % s + 1) * f ≤ g.2 * f := Int.mul_le_mul_of_nonneg_right (by omega) (by omega)
    rw [Int.add_mul, Int.one_mul] at b
    omega
/-! ### truths told by repr -/
theorem textFrom_le : ∀ (ts : List Str) (k : Nat) (acc : Str), (∀ t ∈ ts, t.length ≤ 5) → (textFrom k acc ts).length ≤ acc.length + 7 * ts.length
  | [], k, acc, _ => Nat.le_refl _
  | t :: r, k, acc, h => by
    have ih := textFrom_le r (k + 1) (acc ++ (if k > 0 then ", " else "" : String) ++ t) (fun x hx => h x (List.mem_cons_of_mem _ hx))
    have e : (acc ++ (if k > 0 then ", " else "" : String) ++ t).length ≤ acc.length + 2 + 5 := by
      rw [strLen_append, strLen_append]
      have := h t List.mem_cons_self
      have z : (Str.ofString (if k > 0 then ", " else "" : String)).length ≤ 2 := by split <;> decide
      omega
    show (textFrom (k + 1) (acc ++ (if k > 0 then ", " else "" : String) ++ t) r).length ≤ _
    rw [List.length_cons]
    omega
def boolsD (bs : List Bool) : PyData := .list (bs.map PyData.bool)
theorem shownAll_b : ∀ bs : List Bool, (∀ t ∈ PyData.shownAll (bs.map PyData.bool), t.length ≤ 5) ∧ (PyData.shownAll (bs.map PyData.bool)).length = bs.length
  | [] => ⟨fun _ h => by simp [PyData.shownAll] at h, rfl⟩
  | b :: bs => by
    have ih := shownAll_b bs
    refine ⟨fun t h => ?_, by simpa [PyData.shownAll] using ih.2⟩
    simp only [List.map_cons, PyData.shownAll, List.mem_cons] at h
    rcases h with rfl | h
    · cases b <;> decide
    · exact ih.1 t h
theorem bools_len (bs : List Bool) (h : bs.length ≤ 10000) : (boolsD bs).shown.length ≤ sizeLine := by
  have h1 := shownAll_b bs
  have h2 := textFrom_le _ 0 "[" h1.1
  have e : (boolsD bs).shown = textFrom 0 "[" (PyData.shownAll (bs.map PyData.bool)) ++ "]" := by
    unfold boolsD
    simp only [PyData.shown, listText]
  rw [e, strLen_append]
  rw [h1.2] at h2
  have z1 : (Str.ofString "[").length = 1 := by decide
  have z2 : (Str.ofString "]").length = 1 := by decide
  rw [z1] at h2
  rw [z2, sizeLine_eq]
  omega
theorem bools_show : ∀ bs : List Bool, (boolsD bs).showable = true ∧ (boolsD bs).hasDict = false ∧ (boolsD bs).depth ≤ 40 := fun bs => by
  have a : PyData.showableAll (bs.map PyData.bool) = true := by
    induction bs with
    | nil => simp [PyData.showableAll]
    | cons b r ih => simp [PyData.showableAll, PyData.showable, ih]
  have b : PyData.hasDictAll (bs.map PyData.bool) = false := by
    induction bs with
    | nil => simp [PyData.hasDictAll]
    | cons b r ih => simp [PyData.hasDictAll, PyData.hasDict] ; simp [PyData.showableAll, PyData.showable] at a; exact ih a
  have c : PyData.depthAll (bs.map PyData.bool) ≤ 5 := by
    clear a b
    induction bs with
    | nil => simp [PyData.depthAll]
    | cons b r ih => simp only [List.map_cons, PyData.depthAll, PyData.depth]; omega
  unfold boolsD
  refine ⟨by simpa only [PyData.showable] using a, by simpa only [PyData.hasDict] using b, ?_⟩
  simp only [PyData.depth]
  omega
theorem dp_bools {K : PySem.W.Frag} {H : Hp} : ∀ bs : List Bool, DpAll K H (bs.map V.bl) (bs.map PyData.bool)
  | [] => .nil
  | b :: bs => .cons (.bl b) (dp_bools bs)
section
variable {P : Program} {w : World} {K : PySem.W.Frag} {mg : Str → Option Value} {base : Heap} {tC tG : Tok}
theorem ok_rests {f : Addr} {fd : FuncData} (B : Blt mg tC tG) (Dl_rests : Def K mg "_law_rests" s_l_rests ["_law_span", "_law_greens_here"] f fd) : FnOk P w K mg base CX0 1 f fd ["_law_span", "_law_greens_here"] spRests := by
  refine Dl_rests.F.ok scl_rests (fun vs H Q E h => ?_) (fun cdv A outer s H vs Q E hr h => ⟨_, (pss_cons (ps_set (i := 2) scl_rests.nd rfl (Or.inl rfl) pe_dnewK)
  (pss_cons (ps_for PassesOwn.never rfl (pi_tup (pv 1)) (pg_tup rfl (pgs_cons (pg_name (i := 3) scl_rests.nd rfl (Or.inl rfl)) (pgs_cons (pg_name (i := 4) scl_rests.nd rfl (Or.inl rfl)) pgs_nil)))
   (pss_one (ps_for PassesOwn.never rfl (pi_range1 (by rfl) B.range (pa_cons (pv 4) pa_nil)) (pg_name (i := 5) scl_rests.nd rfl (Or.inl rfl))
   (pss_one (ps_dput (hu_of hr) (pv 2) (pe_op op_modN (pe_op op_add (pv 3) (pv 5)) (pv 0)) pe_bl rfl)))))
  (pss_one (ps_ret (pv 2))))), ?_⟩)
  · obtain ⟨g, m, gs, rfl, _⟩ := h; rfl
  · obtain ⟨g, m, gs, rfl, ⟨xs, hT, hP⟩, hG, hm, q⟩ := h
    have el := paired_len hP
    refine fun d hd => ?_
    refine ⟨_, rfl, g, rfl, ⟨_, SqT.of (Same.new hd _ _ hT)⟩, ?_⟩
    refine for_tup (xs := xs) (fun i σ H' => ∃ kvs y3 y4 y5, σ = [some (.int m), some (.ref g), some (.ref d), y3, y4, y5] ∧ Same H H' ∧ H' d = some (.dK kvs) ∧ LitP m (lit m (gs.take i)) kvs ∧ kvs.length ≤ i * 10000)
      ⟨[], none, none, none, rfl, Same.new hd, upd_same, ⟨fun t _ _ => rfl, List.nodup_nil, fun _ h => (List.not_mem_nil h).elim⟩, Nat.zero_le _⟩ (fun i σ H' _ ⟨_, _, _, _, _, s1, _⟩ => SqT.of (s1 _ _ hT)) ?_ ?_
    · rintro i x σ H' hx ⟨kvs, y3, y4, y5, rfl, s1, e1, hL, hz⟩
      obtain ⟨gr, hg, b, rfl, hb⟩ := paired_at hP hx
      have hin := hG.2.2 gr (List.mem_of_getElem? hg)
      have i6 : i < 6 := by have := (List.getElem?_eq_some_iff.mp hg).1; have := hG.2.1; omega
      refine ⟨b, _, rfl, SqT.of (s1 _ _ hb), rfl, _, _, rfl, _, _, rfl, rfl, ?_⟩
      refine ⟨_, rfl, gr.2, rfl, by omega, by omega, ?_⟩
      refine for_range (lo := 0) (fun j σ H' => ∃ kvs y5, σ = [some (.int m), some (.ref g), some (.ref d), some (.int gr.1), some (.int gr.2), y5] ∧ Same H H' ∧ H' d = some (.dK kvs) ∧
          LitP m (fun t => lit m (gs.take i) t || decide ((t - gr.1) % m < (j : Int))) kvs ∧ kvs.length ≤ i * 10000 + j) ⟨kvs, y5, rfl, s1, e1, hL.to fun t _ _ => ?_, by omega⟩ ?_ ?_
      · have := Int.emod_nonneg (t - gr.1) (show m ≠ 0 by omega)
        rw [decide_eq_false (by omega), Bool.or_false]
      · rintro j σ H2 hj ⟨kv, y, rfl, s2, e2, hL2, hz2⟩
        refine ⟨_, rfl, _, rfl, _, rfl, _, _, rfl, rfl, _, rfl, _, _, rfl, rfl, (by show m ≠ 0; omega), ?_⟩
        refine ⟨d, _, rfl, DPut.k (k := .inl _) e2 (by rw [sizeLine_eq]; omega), ?_⟩
        have e3 : (gr.1 + (0 + (j : Int))).fmod m = (gr.1 + (j : Int)) % m := by rw [Int.fmod_eq_emod_of_nonneg _ (by omega), Int.zero_add]
        have u0 := Int.emod_nonneg (gr.1 + (j : Int)) (show m ≠ 0 by omega)
        have u1 := Int.emod_lt_of_pos (gr.1 + (j : Int)) (show 0 < m by omega)
        refine ⟨_, _, rfl, fun b' o h => ?_, upd_same, ?_, ?_⟩
        · rw [upd_ne (ne_of_none h hd)]; exact s2 _ _ h
        · rw [e3]
          refine (hL2.put u0 u1 _).to fun t t0 t1 => ?_
          have := rest_eq (t := t) (o := gr.1) (j := (j : Int)) t0 t1 hin.1 hin.2.1 (by omega) (by omega)
          rw [Bool.or_assoc]
          congr 1
          rw [← Bool.decide_or]
          congr 1
          apply propext
          rw [← this]
          push_cast
          omega
        · have := len_put kv (.inl ((gr.1 + (0 + (j : Int))).fmod m)) (.bl true)
          omega
      · rintro σ H2 ⟨kv, y, rfl, s2, e2, hL2, hz2⟩
        refine ⟨kv, _, _, _, rfl, s2, e2, hL2.to fun t t0 t1 => ?_, by omega⟩
        unfold lit
        rw [List.take_add_one, hg, List.any_append]
        congr 1
        show _ = (decide ((t - gr.1) % m < gr.2) || false)
        rw [Bool.or_false, Int.toNat_of_nonneg (by omega)]
    · rintro σ H' ⟨kvs, y3, y4, y5, rfl, s1, e1, hL, hz⟩
      rw [List.take_of_length_le (by omega)] at hL
      exact ⟨_, rfl, q d kvs H' s1 hd e1 hL⟩
theorem ok_scaled {f : Addr} {fd : FuncData} (B : Blt mg tC tG) (Dl_scaled : Def K mg "_law_scaled" s_l_scaled ["_law_greens_here", "_law_factor"] f fd) : FnOk P w K mg base CX0 1 f fd ["_law_greens_here", "_law_factor"] spScaled := by
  refine Dl_scaled.F.ok scl_scaled (fun vs H Q E h => ?_) (fun cdv A outer s H vs Q E hr h => ⟨_, (pss_one (ps_ret (pe_callTy call_tuple_of (by rfl) B.n_tuple (by decide +kernel) (pa_cons (pe_lc (own := [("_law_place", 2), ("_law_size", 3)]) (g := (gTup K 2 (gCons (gName 2) (gCons (gName 3) gNil)))) (tt := tYes) rfl scl_scaled.nd (pi_tup (pv 0)) (blkOk_by (N := ["_law_greens_here", "_law_factor", "_law_place", "_law_size"]) (sc := defScope s_l_scaled) (by decide +kernel)) (fun _ _ _ _ _ => (pg_tup rfl (pgs_cons (pg_name (i := 2) scl_scaled.nd rfl (Or.inl rfl)) (pgs_cons (pg_name (i := 3) scl_scaled.nd rfl (Or.inl rfl)) pgs_nil)))) (fun _ _ _ _ _ => pts_nil) (fun _ _ _ _ _ => (pe_tup (pa_cons (pe_op op_mulW (pv 2) (pv 1)) (pa_cons (pe_op op_mulW (pv 3) (pv 1)) pa_nil))))) pa_nil)))), ?_⟩)
  · obtain ⟨g, m, gs, rfl, _⟩ := h; rfl
  · obtain ⟨g, m, gs, rfl, ⟨xs, hT, hP⟩, hl, hb, m0, m1, q⟩ := h
    have el := paired_len hP
    refine ⟨_, rfl, g, rfl, ⟨_, SqT.of hT⟩, fun D hD => ?_⟩
    refine lc_tup (xs := xs) (fun i H' => ∃ ys, Same H H' ∧ H' D = some (.lst ys) ∧ Paired (GrAt H') ys (scal2 m (gs.take i))) ⟨[], Same.new hD, upd_same, .nil⟩ (fun i H' _ ⟨_, s1, _⟩ => SqT.of (s1 _ _ hT)) ?_ ?_
    · rintro i x H' hx ⟨ys, s1, e1, hY⟩
      obtain ⟨gr, hg, b, rfl, hbT⟩ := paired_at hP hx
      have hin := hb gr (List.mem_of_getElem? hg)
      refine ⟨b, _, rfl, SqT.of (s1 _ _ hbT), rfl, _, _, rfl, _, _, rfl, rfl, rfl, ?_⟩
      refine ⟨_, rfl, _, rfl, _, _, rfl, rfl, mul30 hin.1 hin.2.1 m0 m1, _, rfl, _, rfl, _, _, rfl, rfl, mul30 hin.2.2.1 hin.2.2.2 m0 m1, (by show 2 ≤ sizeLine; decide), fun T hT2 => ?_⟩
      have nTD : D ≠ T := fun e => by rw [← e, e1] at hT2; cases hT2
      have lz : ys.length < sizeLine := small1000 (by
        have := paired_len hY
        rw [scal2, List.length_map, List.length_take] at this
        omega)
      refine ⟨ys, (by rw [upd_ne nTD]; exact e1), lz, ys ++ [.ref T], fun b' o h => ?_, upd_same, ?_⟩
      · rw [upd_ne (ne_of_none h hD)]
        exact Same.new hT2 _ _ (s1 _ _ h)
      · unfold scal2
        rw [List.take_add_one, hg, List.map_append]
        refine paired_snoc (L2.Paired.mapP hY fun _ _ ⟨b, e, h⟩ => ⟨b, e, ?_⟩) ⟨T, rfl, ?_⟩
        · rw [upd_ne (ne_of h e1 (fun z => nomatch z))]
          exact Same.new hT2 _ _ h
        · rw [upd_ne nTD.symm]; exact upd_same
    · rintro H' ⟨ys, s1, e1, hY⟩
      rw [List.take_of_length_le (by omega)] at hY
      exact ⟨D, ys, rfl, .inl ⟨SqL.of e1, fun l hl => q l _ (s1.trans (Same.new hl)) ⟨ys, upd_same, grs_same (Same.new hl) hY⟩⟩⟩
end
end Gr

set_option Elab.async false
set_option linter.all false
set_option pp.deepTerms false
set_option pp.maxSteps 3000
set_option maxRecDepth 100000
set_option maxHeartbeats 4000000
namespace Gr
open PySem PySem.Spec PyProof.Rows L2
/-! ### the longest stretches: one list alone -/
/-- a longest stretch of f, begun within the first cycle -/
def IsArc (c : Int) (f : Int → Bool) (g : Int × Int) : Prop :=
  0 ≤ g.1 ∧ g.1 < c ∧ 1 ≤ g.2 ∧ f (g.1 - 1) = false ∧ (∀ j, 0 ≤ j → j < g.2 → f (g.1 + j) = true) ∧ f (g.1 + g.2) = false
def Canon (c : Int) (f : Int → Bool) (A : List (Int × Int)) : Prop :=
  ((∀ t, f t = true) ∧ A = [(0, c)]) ∨ ((∃ t, f t = false) ∧ A.Pairwise (fun a b => a.1 < b.1) ∧ ∀ g, g ∈ A ↔ IsArc c f g)
theorem sorted_ext : ∀ {A B : List (Int × Int)}, A.Pairwise (fun a b => a.1 < b.1) → B.Pairwise (fun a b => a.1 < b.1) → (∀ g, g ∈ A ↔ g ∈ B) → A = B
  | [], [], _, _, _ => rfl
  | [], b :: B, _, _, h => absurd ((h b).mpr List.mem_cons_self) (by simp)
  | a :: A, [], _, _, h => absurd ((h a).mp List.mem_cons_self) (by simp)
  | a :: A, b :: B, hA, hB, h => by
    have hA' := List.pairwise_cons.mp hA
    have hB' := List.pairwise_cons.mp hB
    have e : a = b := by
      rcases List.mem_cons.mp ((h a).mp List.mem_cons_self) with e | e
      · exact e
      · rcases List.mem_cons.mp ((h b).mpr List.mem_cons_self) with e' | e'
        · exact e'.symm
        · have h1 := hB'.1 a e
          have h2 := hA'.1 b e'
          omega
    subst e
    congr 1
    refine sorted_ext hA'.2 hB'.2 fun g => ⟨fun hg => ?_, fun hg => ?_⟩
    · rcases List.mem_cons.mp ((h g).mp (List.mem_cons_of_mem _ hg)) with e | e
      · subst e; have := hA'.1 g hg; omega
      · exact e
    · rcases List.mem_cons.mp ((h g).mpr (List.mem_cons_of_mem _ hg)) with e | e
      · subst e; have := hB'.1 g hg; omega
      · exact e
theorem Canon.uniq {c : Int} {f : Int → Bool} {A B : List (Int × Int)} (hA : Canon c f A) (hB : Canon c f B) : A = B := by
  rcases hA with ⟨a1, a2⟩ | ⟨⟨t, a1⟩, a2, a3⟩
  · rcases hB with ⟨b1, b2⟩ | ⟨⟨t, b1⟩, b2, b3⟩
    · rw [a2, b2]
    · rw [a1 t] at b1; cases b1
  · rcases hB with ⟨b1, b2⟩ | ⟨⟨t, b1⟩, b2, b3⟩
    · rw [b1 t] at a1; cases a1
    · exact sorted_ext a2 b2 fun g => (a3 g).trans (b3 g).symm
theorem Canon.to {c : Int} {f h : Int → Bool} {A : List (Int × Int)} (hA : Canon c f A) (e : ∀ t, f t = h t) : Canon c h A := by
  have : f = h := funext e
  rw [← this]; exact hA
theorem lit_iff {c t : Int} {A : List (Int × Int)} : lit c A t = true ↔ ∃ g ∈ A, (t - g.1) % c < g.2 := by
  unfold lit
  rw [List.any_eq_true]
  constructor
  · rintro ⟨g, h1, h2⟩; exact ⟨g, h1, of_decide_eq_true h2⟩
  · rintro ⟨g, h1, h2⟩; exact ⟨g, h1, decide_eq_true h2⟩
theorem lit_no {c t : Int} {A : List (Int × Int)} : lit c A t = false ↔ ∀ g ∈ A, ¬ (t - g.1) % c < g.2 := by
  rw [← Bool.not_eq_true, lit_iff]
  exact ⟨fun h g hg z => h ⟨g, hg, z⟩, fun h ⟨g, hg, z⟩ => h g hg z⟩
/-- greens with a red moment behind each -/
structure Sep (c : Int) (A : List (Int × Int)) : Prop where
  up : A.Pairwise (fun a b => a.1 < b.1)
  rng : ∀ g ∈ A, 0 ≤ g.1 ∧ g.1 < c ∧ 1 ≤ g.2 ∧ g.2 < c
  gap : ∀ g ∈ A, ∀ h ∈ A, g ≠ h → g.2 < (h.1 - g.1) % c
theorem Sep.behind {c : Int} {A : List (Int × Int)} (S : Sep c A) {g : Int × Int} (hg : g ∈ A) : lit c A (g.1 + g.2) = false := lit_no.mpr fun h hh z => by
  have r1 := S.rng g hg
  have r2 := S.rng h hh
  by_cases e : g = h
  · subst e
    rw [Int.emod_eq_of_lt (by omega) (by omega)] at z
    omega
  · have g1 := S.gap g hg h hh e
    have g2 := S.gap h hh g hg (fun z => e z.symm)
    rw [emod_two (by omega) (by omega) (by omega)] at z g1 g2
    split at z <;> split at g1 <;> split at g2 <;> (try split at z) <;> (try split at g1) <;> (try split at g2) <;> omega
theorem Sep.ahead {c : Int} {A : List (Int × Int)} (S : Sep c A) {g : Int × Int} (hg : g ∈ A) : lit c A (g.1 - 1) = false := lit_no.mpr fun h hh z => by
  have r1 := S.rng g hg
  have r2 := S.rng h hh
  by_cases e : g = h
  · subst e
    rw [emod_two (by omega) (by omega) (by omega)] at z
    split at z <;> (try split at z) <;> omega
  · have g2 := S.gap h hh g hg (fun z => e z.symm)
    rw [emod_two (by omega) (by omega) (by omega)] at z g2
    split at z <;> split at g2 <;> (try split at z) <;> (try split at g2) <;> omega
theorem Sep.canon {c : Int} {A : List (Int × Int)} (S : Sep c A) (ne : A ≠ []) : Canon c (lit c A) A := by
  refine .inr ⟨?_, S.up, fun g => ⟨fun hg => ?_, fun ha => ?_⟩⟩
  · match A, ne, S with
    | g :: r, _, S => exact ⟨_, S.behind (List.mem_cons_self)⟩
  · have r := S.rng g hg
    refine ⟨r.1, r.2.1, r.2.2.1, S.ahead hg, fun j j0 j1 => lit_iff.mpr ⟨g, hg, ?_⟩, S.behind hg⟩
    rw [Int.emod_eq_of_lt (by omega) (by omega)]
    omega
  · obtain ⟨o, l⟩ := g
    obtain ⟨h1, h2, h3, h4, h5, h6⟩ := ha
    simp only at h1 h2 h3 h4 h5 h6
    have h50 := h5 0 (by omega) (by omega)
    rw [Int.add_zero] at h50
    obtain ⟨h, hh, z⟩ := lit_iff.mp h50
    have r := S.rng h hh
    have e : o = h.1 := by
      refine Decidable.byContradiction fun e => ?_
      refine lit_no.mp h4 h hh ?_
      rw [emod_two (by omega) (by omega) (by omega)] at z ⊢
      split at z <;> split <;> (try split at z) <;> (try split) <;> omega
    have e2 : l = h.2 := by
      subst e
      rcases Int.lt_trichotomy l h.2 with a | a | a
      · refine absurd ?_ (lit_no.mp h6 h hh)
        rw [Int.emod_eq_of_lt (by omega) (by omega)]
        omega
      · exact a
      · have b := h5 h.2 (by omega) a
        rw [S.behind hh] at b
        cases b
    rw [e, e2]; exact hh
/-! ### joined from the left -/
def Cov (A : List (Int × Int)) (x : Int) : Prop := ∃ g ∈ A, g.1 ≤ x ∧ x < g.1 + g.2
theorem lit_lin {c t : Int} {A : List (Int × Int)} (hc : 0 < c) : lit c A t = true ↔ ∃ k : Int, Cov A (t + c * k) := by
  rw [lit_iff]
  constructor
  · rintro ⟨g, hg, h⟩
    refine ⟨-((t - g.1) / c), g, hg, ?_⟩
    have h1 := Int.emod_add_mul_ediv (t - g.1) c
    have h2 := Int.emod_nonneg (t - g.1) (show c ≠ 0 by omega)
    rw [Int.mul_neg]
    omega
  · rintro ⟨k, g, hg, h⟩
    refine ⟨g, hg, ?_⟩
    have e : (t - g.1) % c = (t + c * k - g.1) % c := by
      rw [show t + c * k - g.1 = (t - g.1) + c * k by omega, Int.add_mul_emod_self_left]
    rw [e]
    have h1 := Int.emod_add_mul_ediv (t + c * k - g.1) c
    have h2 : 0 ≤ (t + c * k - g.1) / c := Int.ediv_nonneg (by omega) (by omega)
    have h3 : 0 ≤ c * ((t + c * k - g.1) / c) := Int.mul_nonneg (by omega) h2
    omega
structure Jn (c : Int) (pre J : List (Int × Int)) : Prop where
  sep : J.Pairwise (fun a b => a.1 + a.2 < b.1)
  rng : ∀ g ∈ J, 0 ≤ g.1 ∧ g.1 < c ∧ 1 ≤ g.2 ∧ g.1 + g.2 ≤ 2 * c
  cov : ∀ x, Cov J x ↔ Cov pre x
  beg : ∀ g ∈ J, ∃ p ∈ pre, g.1 = p.1
  len : J.length ≤ pre.length
  any : pre ≠ [] → J ≠ []
theorem Jn.nil (c : Int) : Jn c [] [] := ⟨List.Pairwise.nil, fun _ h => (List.not_mem_nil h).elim, fun _ => Iff.rfl, fun _ h => (List.not_mem_nil h).elim, Nat.le_refl _, fun h => h⟩
theorem cov_app {A B : List (Int × Int)} {x : Int} : Cov (A ++ B) x ↔ Cov A x ∨ Cov B x := by
  unfold Cov
  constructor
  · rintro ⟨g, hg, h⟩
    rcases List.mem_append.mp hg with z | z
    · exact .inl ⟨g, z, h⟩
    · exact .inr ⟨g, z, h⟩
  · rintro (⟨g, hg, h⟩ | ⟨g, hg, h⟩)
    · exact ⟨g, List.mem_append.mpr (.inl hg), h⟩
    · exact ⟨g, List.mem_append.mpr (.inr hg), h⟩
theorem cov_one {g : Int × Int} {x : Int} : Cov [g] x ↔ g.1 ≤ x ∧ x < g.1 + g.2 := by
  unfold Cov
  constructor
  · rintro ⟨h, hh, z⟩; rw [List.mem_singleton.mp hh] at z; exact z
  · intro z; exact ⟨g, List.mem_singleton.mpr rfl, z⟩
theorem Jn.app {c : Int} {pre J : List (Int × Int)} {g : Int × Int} (h : Jn c pre J) (hg : 0 ≤ g.1 ∧ g.1 < c ∧ 1 ≤ g.2 ∧ g.2 ≤ c) (far : ∀ b ∈ J, b.1 + b.2 < g.1) : Jn c (pre ++ [g]) (J ++ [g]) where
  sep := List.pairwise_append.mpr ⟨h.sep, List.pairwise_singleton _ _, fun a ha b hb => by rw [List.mem_singleton.mp hb]; exact far a ha⟩
  rng := fun b hb => by
    rcases List.mem_append.mp hb with z | z
    · exact h.rng b z
    · rw [List.mem_singleton.mp z]; omega
  cov := fun x => by rw [cov_app, cov_app, h.cov]
  beg := fun b hb => by
    rcases List.mem_append.mp hb with z | z
    · obtain ⟨p, hp, e⟩ := h.beg b z
      exact ⟨p, List.mem_append.mpr (.inl hp), e⟩
    · rw [List.mem_singleton.mp z]; exact ⟨g, by simp, rfl⟩
  len := by have := h.len; simp; omega
  any := fun _ => by simp
theorem Jn.ext {c : Int} {pre K : List (Int × Int)} {b g : Int × Int} {m : Int} (h : Jn c pre (K ++ [b])) (hg : 0 ≤ g.1 ∧ g.1 < c ∧ 1 ≤ g.2 ∧ g.2 ≤ c) (after : b.1 ≤ g.1) (near : g.1 ≤ b.1 + b.2) (m1 : b.2 ≤ m) (m2 : g.1 + g.2 - b.1 ≤ m) (m3 : m = b.2 ∨ m = g.1 + g.2 - b.1) :
    Jn c (pre ++ [g]) (K ++ [(b.1, m)]) where
  sep := by
    obtain ⟨h1, h2, h3⟩ := List.pairwise_append.mp h.sep
    exact List.pairwise_append.mpr ⟨h1, List.pairwise_singleton _ _, fun a ha z hz => by rw [List.mem_singleton.mp hz]; exact h3 a ha b (by simp)⟩
  rng := fun z hz => by
    have hb := h.rng b (by simp)
    rcases List.mem_append.mp hz with y | y
    · exact h.rng z (List.mem_append.mpr (.inl y))
    · rw [List.mem_singleton.mp y]; simp only; omega
  cov := fun x => by
    have := h.cov x
    rw [cov_app, cov_one] at this
    rw [cov_app, cov_app, cov_one, cov_one, ← this]
    simp only
    constructor
    · rintro (z | z)
      · exact .inl (.inl z)
      · by_cases y : x < b.1 + b.2
        · exact .inl (.inr ⟨z.1, y⟩)
        · exact .inr (by omega)
    · rintro ((z | z) | z)
      · exact .inl z
      · exact .inr (by omega)
      · exact .inr (by omega)
  beg := fun z hz => by
    rcases List.mem_append.mp hz with y | y
    · obtain ⟨p, hp, e⟩ := h.beg z (List.mem_append.mpr (.inl y))
      exact ⟨p, List.mem_append.mpr (.inl hp), e⟩
    · rw [List.mem_singleton.mp y]
      obtain ⟨p, hp, e⟩ := h.beg b (by simp)
      exact ⟨p, List.mem_append.mpr (.inl hp), e⟩
  len := by have := h.len; simp at this ⊢; omega
  any := fun _ => by simp
/-! ### over the end -/
theorem pw_two {α : Type} {R : α → α → Prop} : ∀ {A : List α}, A.Pairwise R → ∀ g ∈ A, ∀ k ∈ A, g ≠ k → R g k ∨ R k g
  | [], _, _, hg, _, _, _ => (List.not_mem_nil hg).elim
  | a :: A, h, g, hg, k, hk, ne => by
    have h' := List.pairwise_cons.mp h
    rcases List.mem_cons.mp hg with e | e
    · rcases List.mem_cons.mp hk with y | y
      · exact absurd (e.trans y.symm) ne
      · subst e; exact .inl (h'.1 k y)
    · rcases List.mem_cons.mp hk with y | y
      · subst y; exact .inr (h'.1 g e)
      · exact pw_two h'.2 g e k y ne
theorem filter_parts (p : Int × Int → Bool) : ∀ K : List (Int × Int), K.Pairwise (fun a b => p b = true → p a = true) → K.filter p ++ K.drop (K.filter p).length = K ∧ ∀ g ∈ K.drop (K.filter p).length, p g = false
  | [], _ => ⟨rfl, fun _ h => (List.not_mem_nil h).elim⟩
  | g :: K, h => by
    have h' := List.pairwise_cons.mp h
    cases e : p g with
    | true =>
      have ih := filter_parts p K h'.2
      rw [List.filter_cons_of_pos e]
      simp only [List.length_cons, List.drop_succ_cons, List.cons_append]
      exact ⟨by rw [ih.1], ih.2⟩
    | false =>
      have none : ∀ x ∈ K, p x = false := fun x hx => by
        cases ex : p x with
        | false => rfl
        | true => rw [h'.1 x hx ex] at e; cases e
      have fe : (g :: K).filter p = [] := List.filter_eq_nil_iff.mpr fun x hx => by
        rcases List.mem_cons.mp hx with z | z
        · rw [z, e]; simp
        · rw [none x z]; simp
      rw [fe]
      refine ⟨rfl, fun x hx => ?_⟩
      rcases List.mem_cons.mp hx with z | z
      · rw [z]; exact e
      · exact none x z
theorem over_end {c b r R : Int} {pre K met rest : List (Int × Int)} (hc : 0 < c) (h : Jn c pre (K ++ [(b, r)])) (eK : K = met ++ rest) (hm : ∀ g ∈ met, g.1 + c ≤ b + r) (hr : ∀ g ∈ rest, b + r < g.1 + c)
    (R0 : r ≤ R) (R1 : ∀ g ∈ met, g.1 + c + g.2 - b ≤ R) (R2 : R = r ∨ ∃ g ∈ met, R = g.1 + c + g.2 - b) :
    (c ≤ R → ∀ t, lit c pre t = true) ∧ (R < c → Sep c (rest ++ [(b, R)]) ∧ ∀ t, lit c (rest ++ [(b, R)]) t = lit c pre t) := by
  obtain ⟨s1, s2, s3⟩ := List.pairwise_append.mp h.sep
  have hb := h.rng (b, r) (by simp)
  simp only at hb
  have inK : ∀ g ∈ K, 0 ≤ g.1 ∧ g.1 + g.2 < b ∧ 1 ≤ g.2 := fun g hg => by
    have a := h.rng g (List.mem_append.mpr (.inl hg))
    have d := s3 g hg (b, r) (by simp)
    simp only at d
    omega
  have litJ : ∀ t, lit c pre t = true ↔ ∃ k : Int, Cov (K ++ [(b, r)]) (t + c * k) := fun t => by
    rw [lit_lin hc]
    exact ⟨fun ⟨k, z⟩ => ⟨k, (h.cov _).mpr z⟩, fun ⟨k, z⟩ => ⟨k, (h.cov _).mp z⟩⟩
  have pull : ∀ x, b ≤ x → x < b + R → ∃ k : Int, Cov (K ++ [(b, r)]) (x + c * k) := fun x x0 x1 => by
    by_cases y : x < b + r
    · exact ⟨0, (b, r), by simp, by simp only; omega⟩
    · rcases R2 with e | ⟨m, hmm, e⟩
      · omega
      · have m1 := hm m hmm
        refine ⟨-1, m, ?_, by omega⟩
        rw [eK]; simp [hmm]
  have shift : ∀ t k : Int, (∃ k', Cov (K ++ [(b, r)]) (t + c * k + c * k')) → lit c pre t = true := fun t k ⟨k', z⟩ => (litJ t).mpr ⟨k + k', by rw [Int.mul_add, ← Int.add_assoc]; exact z⟩
  refine ⟨fun hR t => ?_, fun hR => ⟨?_, fun t => ?_⟩⟩
  · have h1 := Int.emod_add_mul_ediv (t - b) c
    have h2 := Int.emod_nonneg (t - b) (show c ≠ 0 by omega)
    have h3 := Int.emod_lt_of_pos (t - b) hc
    have e : t + c * -((t - b) / c) = b + (t - b) % c := by rw [Int.mul_neg]; omega
    exact shift t (-((t - b) / c)) (by rw [e]; exact pull _ (by omega) (by omega))
  · have sub : ∀ g ∈ rest, g ∈ K := fun g hg => by rw [eK]; simp [hg]
    have sr : rest.Pairwise (fun a b => a.1 + a.2 < b.1) := by rw [eK] at s1; exact (List.pairwise_append.mp s1).2.1
    have metrest : ∀ m ∈ met, ∀ g ∈ rest, m.1 + m.2 < g.1 := by rw [eK] at s1; exact (List.pairwise_append.mp s1).2.2
    have past : ∀ g ∈ rest, b + R < g.1 + c := fun g hg => by
      rcases R2 with e | ⟨m, hmm, e⟩
      · have := hr g hg; omega
      · have := metrest m hmm g hg; omega
    have two : ∀ g ∈ rest, ∀ k ∈ rest, g ≠ k → g.1 + g.2 < k.1 ∨ k.1 + k.2 < g.1 := fun g hg k hk ne => by
      exact pw_two sr g hg k hk ne
    refine ⟨?_, fun g hg => ?_, fun g hg k hk ne => ?_⟩
    · refine List.pairwise_append.mpr ⟨List.Pairwise.imp_of_mem (fun {a b} ha hb z => by have := inK a (sub a ha); omega) sr, List.pairwise_singleton _ _, fun a ha z hz => ?_⟩
      rw [List.mem_singleton.mp hz]
      have := inK a (sub a ha)
      simp only; omega
    · rcases List.mem_append.mp hg with z | z
      · have := inK g (sub g z); omega
      · rw [List.mem_singleton.mp z]; simp only; omega
    · rcases List.mem_append.mp hg with z | z
      · have a1 := inK g (sub g z)
        rcases List.mem_append.mp hk with y | y
        · have a2 := inK k (sub k y)
          rw [emod_two (by omega) (by omega) (by omega)]
          have := two g z k y ne
          split <;> (try split) <;> omega
        · rw [List.mem_singleton.mp y]
          simp only
          rw [emod_two (by omega) (by omega) (by omega)]
          split <;> (try split) <;> omega
      · have eg := List.mem_singleton.mp z
        rcases List.mem_append.mp hk with y | y
        · have a2 := inK k (sub k y)
          have a3 := past k y
          rw [eg]
          simp only
          rw [emod_two (by omega) (by omega) (by omega)]
          split <;> (try split) <;> omega
        · exact absurd (eg.trans (List.mem_singleton.mp y).symm) ne
  · have iff : lit c (rest ++ [(b, R)]) t = true ↔ lit c pre t = true := by
      constructor
      · intro z
        obtain ⟨k, z⟩ := (lit_lin hc).mp z
        rcases cov_app.mp z with ⟨g, hg, y⟩ | y
        · exact (litJ t).mpr ⟨k, g, by rw [eK]; simp [hg], y⟩
        · have y' := cov_one.mp y
          exact shift t k (pull _ y'.1 y'.2)
      · intro z
        obtain ⟨k, g, hg, y⟩ := (litJ t).mp z
        refine (lit_lin hc).mpr ?_
        rcases List.mem_append.mp hg with x | x
        · rw [eK] at x
          rcases List.mem_append.mp x with x | x
          · refine ⟨k + 1, (b, R), by simp, ?_⟩
            have := R1 g x
            have := inK g (by rw [eK]; simp [x])
            rw [Int.mul_add, Int.mul_one]
            simp only; omega
          · exact ⟨k, g, by simp [x], y⟩
        · rw [List.mem_singleton.mp x] at y
          exact ⟨k, (b, R), by simp, by simp only at y ⊢; omega⟩
    cases e : lit c pre t with
    | true => exact iff.mpr e
    | false =>
      cases e2 : lit c (rest ++ [(b, R)]) t with
      | false => rfl
      | true => rw [iff.mp e2] at e; cases e
/-! ### scaled -/
theorem div_rest {f x : Int} (hf : 0 < f) : x = x / f * f + x % f := by
  have := Int.emod_add_mul_ediv x f
  rw [Int.mul_comm] at this
  omega
theorem lit_div {s f : Int} (gs : List (Int × Int)) (x : Int) (hs : 0 < s) (hf : 0 < f) : lit (s * f) (scal2 f gs) x = lit s gs (x / f) := by
  have a := lit_scal gs (x / f) (x % f) hs hf (Int.emod_nonneg x (by omega)) (Int.emod_lt_of_pos x hf)
  rw [← div_rest hf] at a
  exact a
theorem Canon.scal {c f : Int} {h : Int → Bool} {A : List (Int × Int)} (hc : 0 < c) (hf : 0 < f) (H : Canon c h A) : Canon (c * f) (fun t => h (t / f)) (scal2 f A) := by
  rcases H with ⟨a1, a2⟩ | ⟨⟨t, a1⟩, a2, a3⟩
  · exact .inl ⟨fun t => a1 _, by rw [a2]; simp [scal2]⟩
  · have mono : ∀ x y : Int, x < y → x * f < y * f := fun x y z => Int.mul_lt_mul_of_pos_right z hf
    refine .inr ⟨⟨t * f, by show h (t * f / f) = false; rw [Int.mul_ediv_cancel _ (by omega)]; exact a1⟩, ?_, fun g => ?_⟩
    · unfold scal2
      rw [List.pairwise_map]
      exact a2.imp fun z => mono _ _ z
    · unfold scal2
      rw [List.mem_map]
      have dv : ∀ o j : Int, (o * f + j) / f = o + j / f := fun o j => by rw [Int.add_comm, Int.add_mul_ediv_right _ _ (by omega), Int.add_comm]
      constructor
      · rintro ⟨⟨o, l⟩, ho, rfl⟩
        obtain ⟨h1, h2, h3, h4, h5, h6⟩ := (a3 (o, l)).mp ho
        simp only at h1 h2 h3 h4 h5 h6
        refine ⟨Int.mul_nonneg h1 (by omega), mono _ _ h2, ?_, ?_, fun j j0 j1 => ?_, ?_⟩
        · have := Int.mul_le_mul_of_nonneg_right h3 (show 0 ≤ f by omega)
          simp only; omega
        · show h ((o * f - 1) / f) = false
          rw [Int.sub_eq_add_neg, dv, show (-1 : Int) / f = -1 by
            rw [Int.neg_one_ediv, Int.sign_eq_one_of_pos hf]]
          exact h4
        · show h ((o * f + j) / f) = true
          rw [dv]
          refine h5 _ (Int.ediv_nonneg j0 (by omega)) ?_
          exact Int.ediv_lt_of_lt_mul hf j1
        · show h ((o * f + l * f) / f) = false
          rw [dv, Int.mul_ediv_cancel _ (by omega)]
          exact h6
      · rintro ⟨h1, h2, h3, h4, h5, h6⟩
        obtain ⟨O, L⟩ := g
        simp only at h1 h2 h3 h4 h5 h6
        -- both are multiples of f
        have k0 := h5 0 (by omega) (by omega)
        rw [Int.add_zero] at k0
        have eO := div_rest (x := O) hf
        have rO := Int.emod_nonneg O (show f ≠ 0 by omega)
        have rO1 := Int.emod_lt_of_pos O hf
        have mO : O % f = 0 := by
          refine Decidable.byContradiction fun z => ?_
          have e : (O - 1) / f = O / f := by
            have : O - 1 = O / f * f + (O % f - 1) := by omega
            have z0 : (O % f - 1) / f = 0 := Int.ediv_eq_zero_of_lt (by omega) (by omega)
            rw [this, dv, z0, Int.add_zero]
          rw [e, k0] at h4
          cases h4
        have eO' : O = O / f * f := by omega
        generalize hq : O / f = q at *
        subst eO'
        have eL := div_rest (x := L) hf
        have rL := Int.emod_nonneg L (show f ≠ 0 by omega)
        have rL1 := Int.emod_lt_of_pos L hf
        have mL : L % f = 0 := by
          refine Decidable.byContradiction fun z => ?_
          have e : (q * f + L) / f = (q * f + (L - 1)) / f := by
            rw [dv, dv]
            congr 1
            have : L - 1 = L / f * f + (L % f - 1) := by omega
            have z0 : (L % f - 1) / f = 0 := Int.ediv_eq_zero_of_lt (by omega) (by omega)
            rw [this, dv, z0, Int.add_zero]
          rw [e, h5 (L - 1) (by omega) (by omega)] at h6
          cases h6
        have eL' : L = L / f * f := by omega
        generalize hp : L / f = p at *
        subst eL'
        refine ⟨(q, p), (a3 (q, p)).mpr ?_, rfl⟩
        have p0 : 1 ≤ p := by
          refine Decidable.byContradiction fun z => ?_
          have := Int.mul_nonneg (show 0 ≤ -p by omega) (show 0 ≤ f by omega)
          rw [Int.neg_mul] at this
          omega
        have q0 : 0 ≤ q := by
          refine Decidable.byContradiction fun z => ?_
          have := Int.mul_le_mul_of_nonneg_right (show q ≤ -1 by omega) (show 0 ≤ f by omega)
          omega
        refine ⟨q0, Int.lt_of_mul_lt_mul_right h2 (by omega), p0, ?_, fun j j0 j1 => ?_, ?_⟩
        · have e : q * f - 1 = q * f + -1 := by omega
          rw [e, dv, show (-1 : Int) / f = -1 by
            rw [Int.neg_one_ediv, Int.sign_eq_one_of_pos hf]] at h4
          exact h4
        · have := h5 (j * f) (Int.mul_nonneg j0 (by omega)) (mono _ _ j1)
          rw [dv, Int.mul_ediv_cancel _ (by omega)] at this
          exact this
        · rw [dv, Int.mul_ediv_cancel _ (by omega)] at h6
          exact h6
end Gr

set_option Elab.async false
set_option linter.all false
set_option pp.deepTerms false
set_option pp.maxSteps 3000
set_option maxRecDepth 100000
set_option maxHeartbeats 4000000
namespace Gr
open PySem PySem.Spec PyProof.Rows L2
theorem cut_but (ks : List V) (x : V) : cutV (ks ++ [x]) none (some (-1)) = ks := by
  have e1 : HT.sIx (ks ++ [x]).length (ks ++ [x]).length (some (-1)) = ks.length := by
    show (if (-1 : Int) < 0 then ((-1 : Int) + ((ks ++ [x]).length : Int)).toNat else min (-1 : Int).toNat (ks ++ [x]).length) = ks.length
    rw [if_pos (by decide), List.length_append]
    simp
    omega
  unfold cutV
  rw [e1, HT.sIx_none]
  simp
theorem cut_from (ks : List V) (x : V) (m : Nat) (hm : m ≤ ks.length) : cutV (ks ++ [x]) (some (m : Int)) (some (-1)) = ks.drop m := by
  have e1 : HT.sIx (ks ++ [x]).length (ks ++ [x]).length (some (-1)) = ks.length := by
    show (if (-1 : Int) < 0 then ((-1 : Int) + ((ks ++ [x]).length : Int)).toNat else min (-1 : Int).toNat (ks ++ [x]).length) = ks.length
    rw [if_pos (by decide), List.length_append]
    simp
    omega
  have e2 := HT.sIx_nat (ks ++ [x]).length 0 m
  unfold cutV
  rw [e1, e2, List.length_append]
  have : min m (ks.length + [x].length) = m := by simp; omega
  rw [this, List.drop_append_of_le_length hm, List.take_append_of_le_length (by simp)]
  rw [List.take_of_length_le (by simp)]
theorem paired_drop {α β : Type} {R : α → β → Prop} : ∀ {xs : List α} {ys : List β} (n : Nat), Paired R xs ys → Paired R (xs.drop n) (ys.drop n)
  | _, _, 0, h => h
  | _, _, _ + 1, .nil => .nil
  | _, _, n + 1, .cons _ t => paired_drop n t
theorem paired_split {α β : Type} {R : α → β → Prop} : ∀ {zs : List α} {K : List β} {y : β}, Paired R zs (K ++ [y]) → ∃ ks x, zs = ks ++ [x] ∧ Paired R ks K ∧ R x y
  | _, [], _, .cons r .nil => ⟨[], _, rfl, .nil, r⟩
  | _, k :: K, _, .cons r t => by
    obtain ⟨ks, x, e, p, q⟩ := paired_split t
    exact ⟨_ :: ks, x, by rw [e]; rfl, .cons r p, q⟩
theorem none_of {H : Hp} {L D : Addr} {o : HO} (_ : H L = none) (h : (upd H L o) D = none) : H D = none := by
  by_cases e : D = L
  · subst e; rw [upd_same] at h; cases h
  · rwa [upd_ne e] at h
def spJoin : Sp := fun vs H Q _ => ∃ (g : Addr) (c : Int) (pre J : List (Int × Int)) (zs : List V), vs = [.int c, .ref g] ∧ H g = some (.lst zs) ∧ Paired (GrAt H) zs J ∧ Jn c pre J ∧ J ≠ [] ∧ J.length ≤ 6 ∧ 1 ≤ c ∧ c ≤ 10 ^ 30 ∧
  ∀ a ys A H', Same H H' → H' a = some (.lst ys) → Paired (GrAt H') ys A → Canon c (lit c pre) A → (∀ t, lit c A t = lit c pre t) → A ≠ [] → A.length ≤ 6 → Q (.ref a) H'
section
variable {P : Program} {w : World} {K : PySem.W.Frag} {mg : Str → Option Value} {base : Heap} {tC tG : Tok}
theorem ok_join {f : Addr} {fd : FuncData} (B : Blt mg tC tG) (Djoined_over_end : Def K mg "joined_over_end" s_joined_over_end ["cycle", "greens"] f fd) : FnOk P w K mg base CX0 1 f fd ["cycle", "greens"] spJoin := by
  refine Djoined_over_end.F.ok scjoined_over_end (fun vs H Q E h => ?_) (fun cdv A outer s H vs Q E hr h => ⟨_, (pss_cons (ps_asg (pe_ix ix_list (pv 1) (pe_un un_neg pe_int) (fun _ _ => rfl)) (pg_tup rfl (pgs_cons (pg_name (i := 2) scjoined_over_end.nd rfl (Or.inr rfl)) (pgs_cons (pg_name (i := 3) scjoined_over_end.nd rfl (Or.inr rfl)) pgs_nil))))
  (pss_cons (ps_setLc (i := 4) (own := [("green", 5)]) (g := (gName 5))  rfl scjoined_over_end.nd rfl rfl (sw_true rfl rfl rfl (by decide +kernel)) (pi_list (pe_slice sl_list (pv 1) po_none (po_some (pe_un un_neg pe_int)))) (blkOk_by (N := ["cycle", "greens", "begin", "reach", "met", "green", "offset", "length"]) (sc := defScope s_joined_over_end) (by decide +kernel)) (fun _ _ _ _ _ => (pg_name (i := 5) scjoined_over_end.nd rfl (Or.inl rfl))) (fun _ _ _ _ _ => pts_one (pt_cmpR op_le (pe_op op_add (pe_ix (r := rIxT K) (by exact ix_tup) (pv 5) pe_int (fun _ _ => rfl)) (pv 0)) (pe_op op_add (pv 2) (pv 3)) (nomark _))) (fun _ _ _ _ _ => (pv 5)))
  (pss_cons (ps_for PassesOwn.never rfl (pi_list (pv 4)) (pg_tup rfl (pgs_cons (pg_name (i := 6) scjoined_over_end.nd rfl (Or.inl rfl)) (pgs_cons (pg_name (i := 7) scjoined_over_end.nd rfl (Or.inl rfl)) pgs_nil)))
   (pss_one (ps_set (i := 3) scjoined_over_end.nd rfl (Or.inr rfl) (pe_callB (call_max2 rfl) (by rfl) B.n_max (by decide +kernel) (pa_cons (pv 3) (pa_cons (pe_op op_sub (pe_op op_add (pe_op op_add (pv 6) (pv 0)) (pv 7)) (pv 2)) pa_nil))))))
  (pss_cons (ps_if (pt_cmpR op_ge (pv 3) (pv 0) (nomark _))
   (pss_one (ps_ret (pe_lst (pa_cons (pe_tup (pa_cons pe_int (pa_cons (pv 0) pa_nil))) pa_nil))))
   pss_nil)
  (pss_one (ps_ret (pe_op op_cat (pe_slice sl_list (pv 1) (po_some (pe_callB call_len_seq (by rfl) B.len PySem.boot_len (pa_cons (pv 4) pa_nil))) (po_some (pe_un un_neg pe_int))) (pe_lst (pa_cons (pe_tup (pa_cons (pv 2) (pa_cons (pv 3) pa_nil))) pa_nil))))))))), ?_⟩)
  · obtain ⟨g, c, pre, J, zs, rfl, _⟩ := h; rfl
  · obtain ⟨g, c, pre, J, zs, rfl, hH, hP, hJ, hn, hl, c1, c2, q⟩ := h
    obtain ⟨Ks, ⟨b, r⟩, rfl⟩ : ∃ Ks y, J = Ks ++ [y] := ⟨J.dropLast, J.getLast hn, (List.dropLast_concat_getLast hn).symm⟩
    obtain ⟨ks, x, rfl, hK, q0, rfl, hq⟩ := paired_split hP
    simp only at hq
    have lk := paired_len hK
    have l5 : Ks.length ≤ 5 := by simpa using hl
    have rb := hJ.rng (b, r) (by simp)
    simp only at rb
    refine ⟨_, rfl, _, rfl, g, _, _, _, rfl, rfl, SqL.of hH, atI_last _ _, q0, _, rfl, SqT.of hq, rfl, _, _, rfl, _, _, rfl, rfl, ?_⟩
    refine ⟨_, rfl, _, rfl, _, rfl, g, _, rfl, SqL.of hH, fun L hL => ?_⟩
    rw [cut_but]
    refine ⟨L, rfl, ⟨_, SqL.of upd_same⟩, fun D hD => ?_⟩
    have nDL : L ≠ D := fun e => by rw [← e, upd_same] at hD; cases hD
    refine lc_list (xs := ks) (fun i H' => ∃ ys, Same H H' ∧ H' L = some (.lst ks) ∧ H' D = some (.lst ys) ∧ Paired (GrAt H) ys ((Ks.take i).filter fun g => decide (g.1 + c ≤ b + r))) ⟨[], (Same.new hL).trans (Same.new hD), by rw [upd_ne nDL]; exact upd_same, upd_same, .nil⟩ (fun i H' _ ⟨_, _, e, _⟩ => SqL.of e) ?_ ?_
    · rintro i x H' hx ⟨ys, s1, e1, e2, hY⟩
      obtain ⟨gr, hg, a, rfl, ha⟩ := paired_at hK hx
      refine ⟨rfl, _, rfl, a, _, 0, _, rfl, rfl, SqT.of (s1 _ _ ha), rfl, _, rfl, _, _, rfl, rfl, _, rfl, _, rfl, _, _, rfl, rfl, _, _, rfl, rfl, _, rfl, ?_⟩
      have et : (Ks.take (i + 1)).filter (fun g => decide (g.1 + c ≤ b + r)) = (Ks.take i).filter (fun g => decide (g.1 + c ≤ b + r)) ++ [gr].filter (fun g => decide (g.1 + c ≤ b + r)) := by
        rw [List.take_add_one, hg, List.filter_append]; rfl
      by_cases z : gr.1 + c ≤ b + r
      · refine iteY z ⟨_, rfl, _, e2, ?_, ys ++ [.ref a], fun b' o h => ?_, ?_, upd_same, ?_⟩
        · have := paired_len hY
          have h2 := List.length_filter_le (fun g : Int × Int => decide (g.1 + c ≤ b + r)) (Ks.take i)
          rw [List.length_take] at h2
          exact small1000 (by omega)
        · rw [upd_ne (ne_of_none h (none_of hL hD))]; exact s1 _ _ h
        · rw [upd_ne nDL]; exact e1
        · rw [et, show [gr].filter (fun g : Int × Int => decide (g.1 + c ≤ b + r)) = [gr] by simp [z]]
          exact paired_snoc hY ⟨a, rfl, ha⟩
      · refine iteN z ⟨ys, s1, e1, e2, ?_⟩
        rw [et, show [gr].filter (fun g : Int × Int => decide (g.1 + c ≤ b + r)) = [] by simp; omega, List.append_nil]
        exact hY
    · rintro H2 ⟨ys, s1, e1, e2, hY⟩
      rw [List.take_of_length_le (by omega)] at hY
      have pw : Ks.Pairwise (fun x y => decide (y.1 + c ≤ b + r) = true → decide (x.1 + c ≤ b + r) = true) := by
        have := (List.pairwise_append.mp hJ.sep).1
        refine List.Pairwise.imp_of_mem (fun {x y} hx hy z h => ?_) this
        have := hJ.rng x (by simp [hx])
        have h := of_decide_eq_true h
        exact decide_eq_true (by omega)
      obtain ⟨fp1, fp2⟩ := filter_parts (fun g => decide (g.1 + c ≤ b + r)) Ks pw
      generalize hmet : Ks.filter (fun g => decide (g.1 + c ≤ b + r)) = met at hY fp1 fp2
      have ly := paired_len hY
      have lm : met.length ≤ Ks.length := by rw [← hmet]; exact List.length_filter_le _ _
      have hm : ∀ g ∈ met, g.1 + c ≤ b + r := fun g hg => by rw [← hmet] at hg; exact of_decide_eq_true (List.mem_filter.mp hg).2
      have hrest : ∀ g ∈ Ks.drop met.length, b + r < g.1 + c := fun g hg => by
        have := of_decide_eq_false (fp2 g hg); omega
      refine ⟨_, rfl, D, rfl, ⟨_, SqL.of e2⟩, ?_⟩
      refine for_list (xs := ys) (fun i σ H' => ∃ R y6 y7, σ = [some (.int c), some (.ref g), some (.int b), some (.int R), some (.ref D), none, y6, y7] ∧ Same H H' ∧ H' D = some (.lst ys) ∧ r ≤ R ∧ (∀ m ∈ met.take i, m.1 + c + m.2 - b ≤ R) ∧ (R = r ∨ ∃ m ∈ met, R = m.1 + c + m.2 - b))
        ⟨r, none, none, rfl, s1, e2, Int.le_refl _, fun _ h => (List.not_mem_nil h).elim, .inl rfl⟩ (fun i σ H' _ ⟨_, _, _, _, _, e, _⟩ => SqL.of e) ?_ ?_
      · rintro i x σ H' hx ⟨R, y6, y7, rfl, s2, e3, R0, R1, R2⟩
        obtain ⟨m, hmi, a, rfl, ha⟩ := paired_at hY hx
        have mm := List.mem_of_getElem? hmi
        refine ⟨a, _, rfl, SqT.of (s2 _ _ ha), rfl, _, _, rfl, _, _, rfl, rfl, ?_⟩
        refine ⟨_, rfl, _, rfl, _, rfl, _, _, rfl, rfl, _, rfl, _, _, rfl, rfl, _, rfl, _, _, rfl, rfl, _, _, rfl, ?_⟩
        refine ⟨_, _, _, rfl, s2, e3, ?_, fun k hk => ?_, ?_⟩
        · split <;> omega
        · rw [List.take_add_one, hmi] at hk
          rcases List.mem_append.mp hk with z | z
          · have := R1 k z; split <;> omega
          · rw [List.mem_singleton.mp z]; split <;> omega
        · split
          · exact .inr ⟨m, mm, rfl⟩
          · exact R2
      · rintro σ H3 ⟨R, y6, y7, rfl, s2, e3, R0, R1, R2⟩
        rw [List.take_of_length_le (by omega)] at R1
        obtain ⟨full, part⟩ := over_end (c := c) (by omega) hJ fp1.symm hm hrest R0 R1 R2
        refine ⟨_, rfl, _, rfl, _, _, rfl, rfl, _, rfl, ?_⟩
        by_cases z : c ≤ R
        · refine iteY z ?_
          have F := full z
          refine ⟨_, rfl, (by show 2 ≤ sizeLine; decide), fun T hT => ⟨(by show 1 ≤ sizeLine; decide), fun U hU => ?_⟩⟩
          refine q U [.ref T] [(0, c)] _ ((s2.trans (Same.new hT)).trans (Same.new hU)) upd_same (.cons ⟨T, rfl, Same.new hU _ _ upd_same⟩ .nil) (.inl ⟨F, rfl⟩) (fun t => ?_) (by simp) (by simp)
          rw [F t]
          refine lit_iff.mpr ⟨(0, c), by simp, ?_⟩
          exact Int.emod_lt_of_pos _ (by omega)
        · refine iteN z ?_
          obtain ⟨S, same⟩ := part (by omega)
          refine ⟨_, rfl, _, rfl, D, _, rfl, .inl (SqL.of e3), _, rfl, _, rfl, _, rfl, g, _, rfl, SqL.of (s2 _ _ hH), fun M hM => ?_⟩
          rw [cut_from _ _ _ (by omega)]
          refine ⟨_, rfl, _, rfl, (by show 2 ≤ sizeLine; decide), fun T hT => ⟨(by show 1 ≤ sizeLine; decide), fun U hU => ?_⟩⟩
          have nMT : M ≠ T := ne_of_none upd_same hT
          have eM := Same.new hU (o := .lst [.ref T]) _ _ (Same.new hT (o := .tup [.int b, .int R]) _ _ (upd_same (H := H3) (a := M) (o := .lst (ks.drop ys.length))))
          refine ⟨M, U, _, _, rfl, rfl, eM, upd_same, ?_, fun W hW => ?_⟩
          · rw [List.length_drop, sizeLine_eq]; simp; omega
          have sW := (((Same.new hM (o := .lst (ks.drop ys.length))).trans (Same.new hT (o := .tup [.int b, .int R]))).trans (Same.new hU (o := .lst [.ref T]))).trans (Same.new hW (o := .lst (ks.drop ys.length ++ [.ref T])))
          refine q W _ (Ks.drop met.length ++ [(b, R)]) _ (s2.trans sW) upd_same (paired_snoc ?_ ⟨T, rfl, Same.new hW _ _ (Same.new hU _ _ upd_same)⟩) ?_ same (by simp) (by simp; omega)
          · rw [show Ks.drop met.length = Ks.drop ys.length by rw [ly]]
            exact paired_drop _ (grs_same (s2.trans sW) hK)
          · exact (S.canon (by simp)).to same
end
end Gr

set_option Elab.async false
set_option linter.all false
set_option pp.deepTerms false
set_option pp.maxSteps 3000
set_option maxRecDepth 100000
set_option maxHeartbeats 4000000
namespace Gr
open PySem PySem.Spec PyProof.Rows L2
def kOf (H : Hp) (x : V) : Int × Int := match x with
  | .ref t => match H t with
    | some (.tup [.int i, .int j]) => (i, j)
    | _ => (0, 0)
  | _ => (0, 0)
theorem kOf_at {H : Hp} {x : V} {g : Int × Int} (h : GrAt H x g) : kOf H x = g := by
  obtain ⟨b, rfl, e⟩ := h
  simp only [kOf, e]
theorem kOf_gr {H : Hp} : ∀ {xs : List V} {gs : List (Int × Int)}, Paired (GrAt H) xs gs → xs.map (kOf H) = gs ∧ ∀ x ∈ xs, GrAt H x (kOf H x)
  | _, _, .nil => ⟨rfl, fun _ h => (List.not_mem_nil h).elim⟩
  | _, _, .cons r t => by
    have ih := kOf_gr t
    refine ⟨by rw [List.map_cons, kOf_at r, ih.1], fun x hx => ?_⟩
    rcases List.mem_cons.mp hx with e | e
    · subst e; rw [kOf_at r]; exact r
    · exact ih.2 x e
theorem gr_of {H : Hp} : ∀ {xs : List V}, (∀ x ∈ xs, GrAt H x (kOf H x)) → Paired (GrAt H) xs (xs.map (kOf H))
  | [], _ => .nil
  | x :: xs, h => .cons (h x List.mem_cons_self) (gr_of fun y hy => h y (List.mem_cons_of_mem _ hy))
theorem lit_mem {c t : Int} {A B : List (Int × Int)} (h : ∀ g, g ∈ A ↔ g ∈ B) : lit c A t = lit c B t := by
  cases e : lit c B t with
  | true =>
    obtain ⟨g, hg, z⟩ := lit_iff.mp e
    exact lit_iff.mpr ⟨g, (h g).mpr hg, z⟩
  | false => exact lit_no.mpr fun g hg => lit_no.mp e g ((h g).mp hg)
theorem set_last {α : Type} (v x : α) : ∀ ks : List α, (ks ++ [x]).set ks.length v = ks ++ [v]
  | [] => rfl
  | k :: ks => by simp [set_last v x ks]
theorem ixN_last (ks : List V) (x : V) : ixN (ks ++ [x]).length (-1) = some ks.length := by
  unfold ixN
  rw [if_neg (by decide), if_pos (by rw [List.length_append]; simp; omega)]
  congr 1
  rw [List.length_append]; simp; omega
def ShortAt (Q : V → Hp → Prop) (c : Int) (gs : List (Int × Int)) (H : Hp) : Prop := ∀ a A H', Same H H' → SigT H' a A → Canon c (lit c gs) A → (∀ t, lit c A t = lit c gs t) → A ≠ [] → A.length ≤ 6 → Q (.ref a) H'
def spShort : Sp := fun vs H Q _ => ∃ (g : Addr) (c : Int) (gs : List (Int × Int)), vs = [.int c, .ref g] ∧ SigT H g gs ∧ OkG c gs ∧ c ≤ 10 ^ 30 ∧ ShortAt Q c gs H
section
variable {P : Program} {w : World} {K : PySem.W.Frag} {mg : Str → Option Value} {base : Heap} {tC tG : Tok}
theorem ok_parted {f f1 : Addr} {fd fd1 : FuncData} (B : Blt mg tC tG) (Dparted_greens : Def K mg "parted_greens" s_parted_greens ["cycle", "signal"] f fd) (Djoined_over_end : Def K mg "joined_over_end" s_joined_over_end ["cycle", "greens"] f1 fd1) : FnOk P w K mg base CX0 2 f fd ["cycle", "signal"] spShort := by
  have Gjoined_over_end := ok_join (P := P) (w := w) (base := base) B Djoined_over_end
  refine Dparted_greens.F.ok scparted_greens (fun vs H Q E h => ?_) (fun cdv A outer s H vs Q E hr h => ⟨_, (pss_cons (ps_set (i := 2) scparted_greens.nd rfl (Or.inl rfl) (pe_lst pa_nil))
  (pss_cons (ps_for PassesOwn.never rfl (pi_list (pe_callB cr_sortedPO (by rfl) B.n_sorted (by decide +kernel) (pa_cons (pe_callTy call_list_of (by rfl) B.n_list (by decide +kernel) (pa_cons (pv 1) pa_nil)) pa_nil))) (pg_tup rfl (pgs_cons (pg_name (i := 3) scparted_greens.nd rfl (Or.inl rfl)) (pgs_cons (pg_name (i := 4) scparted_greens.nd rfl (Or.inl rfl)) pgs_nil)))
   (pss_one (ps_if (PW.pt (pw_and (pt_truth (pv 2) (by intro _; rfl)) (pw_and1 (pt_cmpR op_le (pv 3) (pe_op op_add (pe_ix ix_tup (pe_ix ix_list (pv 2) (pe_un un_neg pe_int) (fun _ _ => rfl)) pe_int (fun _ _ => rfl)) (pe_ix ix_tup (pe_ix ix_list (pv 2) (pe_un un_neg pe_int) (fun _ _ => rfl)) pe_int (fun _ _ => rfl))) (nomark _)))))
   (pss_cons (ps_asg (pe_ix ix_list (pv 2) (pe_un un_neg pe_int) (fun _ _ => rfl)) (pg_tup rfl (pgs_cons (pg_name (i := 5) scparted_greens.nd rfl (Or.inl rfl)) (pgs_cons (pg_name (i := 6) scparted_greens.nd rfl (Or.inl rfl)) pgs_nil))))
  (pss_one (ps_asg (pe_tup (pa_cons (pv 5) (pa_cons (pe_callB (call_max2 rfl) (by rfl) B.n_max (by decide +kernel) (pa_cons (pv 6) (pa_cons (pe_op op_sub (pe_op op_add (pv 3) (pv 4)) (pv 5)) pa_nil))) pa_nil))) (pg_sub (pv 2) (pe_un un_neg pe_int) set_list))))
   (pss_one (ps_expr (pe_bm PySem.F.plainAttrs_list PySem.F.slot_list_append PySem.F.type_list_append mt_append (pv 2) (pa_cons (pe_tup (pa_cons (pv 3) (pa_cons (pv 4) pa_nil))) pa_nil)))))))
  (pss_one (ps_ret (pe_callTy call_tuple_of (by rfl) B.n_tuple (by decide +kernel) (pa_cons (pe_call Gjoined_over_end (hr.mono (by decide)) (by rfl) Djoined_over_end.g Djoined_over_end.F.kp Djoined_over_end.b .nil pass0 (pa_cons (pv 0) (pa_cons (pv 2) pa_nil))) pa_nil)))))), ?_⟩)
  · obtain ⟨g, c, gs, rfl, _⟩ := h; rfl
  · obtain ⟨g, c, gs, rfl, ⟨xs, hH, hP⟩, hG, c2, q⟩ := h
    obtain ⟨km, kg⟩ := kOf_gr hP
    refine ⟨Nat.zero_le _, fun F hF => ?_⟩
    have s0 := Same.new hF (o := .lst [])
    refine ⟨_, rfl, g, xs, rfl, .inr (SqT.of (s0 _ _ hH)), fun L hL => ?_⟩
    have sL := s0.trans (Same.new hL (o := .lst xs))
    have nFL : F ≠ L := fun e => by rw [← e, upd_same] at hL; cases hL
    have eF := Same.new hL (o := .lst xs) _ _ (upd_same (H := H) (a := F) (o := .lst []))
    refine ⟨L, xs, kOf H, rfl, SqL.of upd_same, fun x hx => ?_, fun ys M srt stb hM => ?_⟩
    · obtain ⟨b, e, h⟩ := kg x hx
      exact ⟨b, e, sL _ _ h⟩
    have sM := sL.trans (Same.new hM (o := .lst ys))
    have gy : ∀ y ∈ ys, GrAt H y (kOf H y) := fun y hy => kg y (stb.perm.mem_iff.mp hy)
    have hY := gr_of gy
    have hmem : ∀ p, p ∈ ys.map (kOf H) ↔ p ∈ gs := fun p => by rw [← km]; exact (stb.perm.map (kOf H)).mem_iff
    have hrng : ∀ p ∈ ys.map (kOf H), 0 ≤ p.1 ∧ p.1 < c ∧ 1 ≤ p.2 ∧ p.2 ≤ c := fun p hp => hG.2.2 p ((hmem p).mp hp)
    have hlen : ys.length = gs.length := by rw [stb.perm.length_eq, ← km, List.length_map]
    have hup : (ys.map (kOf H)).Pairwise (fun a b => a.1 ≤ b.1) := by
      rw [List.pairwise_map]
      refine List.Pairwise.imp (fun {x y} z => ?_) srt
      unfold ltP SrtO.lexB at z
      split at z
      · omega
      · have := of_decide_eq_false z; omega
    generalize hgs' : ys.map (kOf H) = gs' at hY hmem hrng hup
    have ly := paired_len hY
    have lg : gs'.length = gs.length := by omega
    have g1 := hG.1
    have g2 := hG.2.1
    refine ⟨M, rfl, ⟨_, SqL.of upd_same⟩, ?_⟩
    refine for_list (xs := ys) (fun i σ H' => ∃ J us y3 y4 y5 y6, σ = [some (.int c), some (.ref g), some (.ref F), y3, y4, y5, y6] ∧ Same H H' ∧ H' M = some (.lst ys) ∧ H' F = some (.lst us) ∧ Paired (GrAt H') us J ∧ Jn c (gs'.take i) J)
      ⟨[], [], none, none, none, none, rfl, sM, upd_same, Same.new hM _ _ eF, .nil, Jn.nil c⟩ (fun i σ H' _ ⟨_, _, _, _, _, _, _, _, e, _⟩ => SqL.of e) ?_ ?_
    · rintro i x σ H' hx ⟨J, us, y3, y4, y5, y6, rfl, s1, e1, e2, hU, hJ⟩
      obtain ⟨gr, hg, a, rfl, ha⟩ := paired_at hY hx
      have gin := List.mem_of_getElem? hg
      have rg := hrng gr gin
      have lj := paired_len hU
      have i6 : i < gs'.length := (List.getElem?_eq_some_iff.mp hg).1
      have jl : J.length ≤ i := by have := hJ.len; rw [List.length_take] at this; omega
      have before : ∀ p ∈ gs'.take i, p.1 ≤ gr.1 := fun p hp => by
        have eg : gs' = gs'.take i ++ gr :: gs'.drop (i + 1) := by
          have h1 := List.getElem?_eq_some_iff.mp hg
          rw [← h1.2, List.getElem_cons_drop, List.take_append_drop]
        rw [eg] at hup
        exact (List.pairwise_append.mp hup).2.2 p hp gr List.mem_cons_self
      have et : gs'.take (i + 1) = gs'.take i ++ [gr] := by rw [List.take_add_one, hg]; rfl
      have nFM : F ≠ M := fun e => by rw [← e, Same.new hL _ _ upd_same] at hM; cases hM
      have hFn : H F = none := hF
      refine ⟨a, _, rfl, SqT.of (s1 _ _ ha), rfl, _, _, rfl, _, _, rfl, rfl, ?_⟩
      have put : ∀ T, H' T = none → ∀ (bb : Int × Int) (ks : List V) (K' : List (Int × Int)), Paired (GrAt H') ks K' → Jn c (gs'.take (i + 1)) (K' ++ [bb]) → 
          Same H (upd (upd H' T (.tup [.int bb.1, .int bb.2])) F (.lst (ks ++ [.ref T]))) ∧ (upd (upd H' T (.tup [.int bb.1, .int bb.2])) F (.lst (ks ++ [.ref T]))) M = some (.lst ys) ∧
          (upd (upd H' T (.tup [.int bb.1, .int bb.2])) F (.lst (ks ++ [.ref T]))) F = some (.lst (ks ++ [.ref T])) ∧ Paired (GrAt (upd (upd H' T (.tup [.int bb.1, .int bb.2])) F (.lst (ks ++ [.ref T])))) (ks ++ [.ref T]) (K' ++ [bb]) ∧ Jn c (gs'.take (i + 1)) (K' ++ [bb]) := by
        intro T hT bb ks K' hk hj
        have nTF : T ≠ F := fun e => by rw [e, e2] at hT; cases hT
        refine ⟨fun b o h => ?_, ?_, upd_same, paired_snoc (L2.Paired.mapP hk fun _ _ ⟨b, e, h⟩ => ⟨b, e, ?_⟩) ⟨T, rfl, ?_⟩, hj⟩
        · rw [upd_ne (ne_of_none h hFn)]; exact Same.new hT _ _ (s1 _ _ h)
        · rw [upd_ne nFM.symm]; exact Same.new hT _ _ e1
        · rw [upd_ne (ne_of h e2 (fun z => nomatch z))]; exact Same.new hT _ _ h
        · rw [upd_ne nTF]; exact upd_same
      rcases List.eq_nil_or_concat J with rfl | ⟨K', bb, rfl⟩
      · obtain rfl : us = [] := by cases us with | nil => rfl | cons _ _ => simp at lj
        refine ⟨_, rfl, false, .inl ⟨[], SqL.of e2, rfl⟩, iteF (iteF ?_)⟩
        refine ⟨_, rfl, .inl ⟨rfl, _, SqL.of e2⟩, _, rfl, _, rfl, (by show 2 ≤ sizeLine; decide), fun T hT => ?_⟩
        have nTF : F ≠ T := fun e => by rw [← e, e2] at hT; cases hT
        refine ⟨F, [], _, rfl, rfl, (by rw [upd_ne nTF]; exact e2), small1000 (by simp), ?_⟩
        have := put T hT gr [] [] .nil (by rw [et]; exact hJ.app rg fun _ h => (List.not_mem_nil h).elim)
        exact ⟨_, _, _, _, _, _, rfl, this⟩
      · rw [List.concat_eq_append] at hU hJ jl
        obtain ⟨ks, x, rfl, hK, q0, rfl, hq⟩ := paired_split hU
        have jl' : K'.length + 1 ≤ i := by simpa using jl
        have lk := paired_len hK
        refine ⟨_, rfl, true, .inl ⟨_, SqL.of e2, by simp⟩, ?_⟩
        refine ⟨_, rfl, _, rfl, _, rfl, F, _, _, _, rfl, rfl, SqL.of e2, atI_last _ _, q0, _, _, _, rfl, rfl, SqT.of hq, rfl, _, rfl, _, rfl, F, _, _, _, rfl, rfl, SqL.of e2, atI_last _ _, q0, _, _, _, rfl, rfl, SqT.of hq, rfl, _, _, rfl, rfl, _, _, rfl, rfl, _, rfl, ?_⟩
        have bg : bb.1 ≤ gr.1 := by
          obtain ⟨p, hp, e⟩ := hJ.beg bb (by simp)
          have := before p hp
          omega
        by_cases z : gr.1 ≤ bb.1 + bb.2
        · refine iteY z ?_
          refine ⟨_, rfl, _, rfl, F, _, _, _, rfl, rfl, SqL.of e2, atI_last _ _, q0, _, rfl, SqT.of hq, rfl, _, _, rfl, _, _, rfl, rfl, ?_⟩
          refine ⟨_, rfl, _, rfl, _, rfl, _, rfl, _, _, rfl, rfl, _, rfl, _, _, rfl, rfl, _, _, rfl, (by show 2 ≤ sizeLine; decide), fun T hT => ?_⟩
          have nTF : F ≠ T := fun e => by rw [← e, e2] at hT; cases hT
          refine ⟨_, rfl, _, rfl, F, _, _, _, rfl, rfl, (by rw [upd_ne nTF]; exact e2), ixN_last _ _, ?_⟩
          rw [set_last]
          have := put T hT (bb.1, _) ks K' hK (by rw [et]; exact hJ.ext (m := if bb.2 < gr.1 + gr.2 - bb.1 then gr.1 + gr.2 - bb.1 else bb.2) rg bg z (by split <;> omega) (by split <;> omega) (by split <;> simp))
          exact ⟨_, _, _, _, _, _, rfl, this⟩
        · refine iteN z ?_
          refine ⟨_, rfl, .inl ⟨rfl, _, SqL.of e2⟩, _, rfl, _, rfl, (by show 2 ≤ sizeLine; decide), fun T hT => ?_⟩
          have nTF : F ≠ T := fun e => by rw [← e, e2] at hT; cases hT
          refine ⟨F, _, _, rfl, rfl, (by rw [upd_ne nTF]; exact e2), small1000 (by rw [List.length_append]; simp; omega), ?_⟩
          have := put T hT gr (ks ++ [.ref q0]) (K' ++ [bb]) hU (by
            rw [et]
            refine hJ.app rg fun b hb => ?_
            rcases List.mem_append.mp hb with y | y
            · have := (List.pairwise_append.mp hJ.sep).2.2 b y bb (by simp)
              have := hJ.rng bb (by simp)
              omega
            · rw [List.mem_singleton.mp y]; omega)
          exact ⟨_, _, _, _, _, _, rfl, this⟩
    · rintro σ H' ⟨J, us, y3, y4, y5, y6, rfl, s1, e1, e2, hU, hJ⟩
      rw [List.take_of_length_le (by omega)] at hJ
      have lj := paired_len hU
      have jl := hJ.len
      have ne : J ≠ [] := hJ.any (fun e => absurd (congrArg List.length e) (show ¬ gs'.length = 0 by omega))
      have cc : 1 ≤ c := by
        match gs, g1, hG with
        | g :: _, _, hG => have := hG.2.2 g List.mem_cons_self; omega
      have lm : ∀ t, lit c gs' t = lit c gs t := fun t => lit_mem hmem
      refine ⟨_, rfl, _, rfl, F, c, gs', J, us, rfl, e2, hU, hJ, ne, by omega, cc, c2, fun a ys' A H2 s2 e3 hA can same nA lA => ⟨a, ys', rfl, .inl ⟨SqL.of e3, fun l hl => ?_⟩⟩⟩
      refine q l A _ (s1.trans (s2.trans (Same.new hl))) ⟨ys', upd_same, grs_same (Same.new hl) hA⟩ (can.to lm) (fun t => (same t).trans (lm t)) nA lA
theorem OkG.c1 {c : Int} {gs : List (Int × Int)} (hG : OkG c gs) : 1 ≤ c := by
  have g1 := hG.1
  match gs, g1, hG with
  | g :: _, _, hG => have := hG.2.2 g List.mem_cons_self; omega
theorem ok_short {f f1 f2 f3 f4 f5 f6 f7 : Addr} {fd fd1 fd2 fd3 fd4 fd5 fd6 fd7 : FuncData} (B : Blt mg tC tG) (Dshortest_greens : Def K mg "shortest_greens" s_shortest_greens ["cycle", "signal"] f fd) (Dparted_greens : Def K mg "parted_greens" s_parted_greens ["cycle", "signal"] f1 fd1) (Djoined_over_end : Def K mg "joined_over_end" s_joined_over_end ["cycle", "greens"] f2 fd2) (Dcheck_signal : Def K mg "check_signal" s_check_signal ["cycle", "signal"] f3 fd3) (Dis_signal : Def K mg "is_signal" s_is_signal ["value", "cycle"] f4 fd4) (Dis_whole : Def K mg "is_whole" s_is_whole ["value"] f5 fd5) (Dcheck_cycle : Def K mg "check_cycle" s_check_cycle ["cycle"] f6 fd6) (Dis_green_pair : Def K mg "is_green_pair" s_is_green_pair ["value", "cycle"] f7 fd7) : FnOk P w K mg base CX0 5 f fd ["cycle", "signal"] spShort := by
  have Gparted_greens := ok_parted (P := P) (w := w) (base := base) B Dparted_greens Djoined_over_end
  have Gcheck_signal := ok_check_signal (P := P) (w := w) (base := base) B Dcheck_signal Dis_signal Dis_whole Dcheck_cycle Dis_green_pair
  refine Dshortest_greens.F.ok scshortest_greens (fun vs H Q E h => ?_) (fun cdv A outer s H vs Q E hr h => ⟨_, (pss_cons (ps_expr (pe_call Gcheck_signal (hr.mono (by decide)) (by rfl) Dcheck_signal.g Dcheck_signal.F.kp Dcheck_signal.b .nil pass0 (pa_cons (pv 0) (pa_cons (pv 1) pa_nil))))
  (pss_one (ps_ret (pe_call Gparted_greens (hr.mono (by decide)) (by rfl) Dparted_greens.g Dparted_greens.F.kp Dparted_greens.b .nil pass0 (pa_cons (pv 0) (pa_cons (pv 1) pa_nil)))))), ?_⟩)
  · obtain ⟨g, c, gs, rfl, _⟩ := h; rfl
  · obtain ⟨g, c, gs, rfl, hS, hG, c2, q⟩ := h
    refine ⟨_, rfl, _, rfl, .ref g, c, rfl, hG.c1, c2, (by have := hS.sigK (c := c) ⟨hG.1, hG.2.1⟩; rwa [hG.all] at this), fun H1 s1 => ?_⟩
    refine ⟨_, rfl, _, rfl, g, c, gs, rfl, hS.mono s1, hG, c2, fun a A H2 s2 hA can same nA lA => ?_⟩
    exact q a A H2 (s1.trans s2) hA can same nA lA
end
end Gr

set_option Elab.async false
set_option linter.all false
set_option pp.deepTerms false
set_option pp.maxSteps 3000
set_option maxRecDepth 100000
set_option maxHeartbeats 4000000
namespace Gr
open PySem PySem.Spec PyProof.Rows L2
theorem per_add {s : Int} {f : Int → Bool} (per : ∀ t, f (t % s) = f t) (t : Int) : f (t + s) = f t := by
  rw [← per (t + s), Int.add_emod_right, per]
theorem Canon.rng {c : Int} {f : Int → Bool} {A : List (Int × Int)} (hc : 1 ≤ c) (per : ∀ t, f (t % c) = f t) (H : Canon c f A) : ∀ g ∈ A, 0 ≤ g.1 ∧ g.1 < c ∧ 1 ≤ g.2 ∧ g.2 ≤ c := by
  rcases H with ⟨_, rfl⟩ | ⟨_, _, a3⟩
  · intro g hg
    rw [List.mem_singleton.mp hg]
    simp only; omega
  · intro g hg
    obtain ⟨h1, h2, h3, h4, h5, h6⟩ := (a3 g).mp hg
    refine ⟨h1, h2, h3, Decidable.byContradiction fun z => ?_⟩
    have := h5 (g.2 - c) (by omega) (by omega)
    rw [← per_add per, show g.1 + (g.2 - c) + c = g.1 + g.2 by omega, h6] at this
    cases this
/-! ### the next and the last green moment -/
def NextAt (f : Int → Bool) (t n : Int) : Prop := t ≤ n ∧ f n = true ∧ ∀ k, t ≤ k → k < n → f k = false
def LastAt (f : Int → Bool) (t n : Int) : Prop := n ≤ t ∧ f n = true ∧ ∀ k, n < k → k ≤ t → f k = false
theorem NextAt.uniq {f : Int → Bool} {t n m : Int} (h : NextAt f t n) (k : NextAt f t m) : n = m := by
  rcases Int.lt_trichotomy n m with z | z | z
  · have := k.2.2 n h.1 z; rw [h.2.1] at this; cases this
  · exact z
  · have := h.2.2 m k.1 z; rw [k.2.1] at this; cases this
theorem LastAt.uniq {f : Int → Bool} {t n m : Int} (h : LastAt f t n) (k : LastAt f t m) : n = m := by
  rcases Int.lt_trichotomy n m with z | z | z
  · have := h.2.2 m z k.1; rw [k.2.1] at this; cases this
  · exact z
  · have := k.2.2 n z h.1; rw [h.2.1] at this; cases this
def on1 (c : Int) (g : Int × Int) (k : Int) : Bool := decide ((k - g.1) % c < g.2)
def nextG (c : Int) (g : Int × Int) (t : Int) : Int := if (t - g.1) % c < g.2 then t else t - (t - g.1) % c + c
def lastG (c : Int) (g : Int × Int) (t : Int) : Int := if (t - g.1) % c < g.2 then t else t - (t - g.1) % c + g.2 - 1
theorem emod_move {c x j : Int} (hc : 0 < c) (h0 : 0 ≤ x % c + j) (h1 : x % c + j < c) : (x + j) % c = x % c + j := by
  have e := Int.emod_add_mul_ediv x c
  have : x + j = x % c + j + c * (x / c) := by omega
  rw [this, Int.add_mul_emod_self_left, Int.emod_eq_of_lt h0 h1]
theorem nextG_ok {c t : Int} {g : Int × Int} (hc : 0 < c) (h1 : 1 ≤ g.2) : NextAt (on1 c g) t (nextG c g t) := by
  have r0 := Int.emod_nonneg (t - g.1) (show c ≠ 0 by omega)
  have r1 := Int.emod_lt_of_pos (t - g.1) hc
  unfold nextG
  split
  · rename_i z
    exact ⟨Int.le_refl _, decide_eq_true z, fun k k0 k1 => by omega⟩
  · rename_i z
    refine ⟨by omega, decide_eq_true ?_, fun k k0 k1 => decide_eq_false ?_⟩
    · have e := Int.emod_add_mul_ediv (t - g.1) c
      have : t - (t - g.1) % c + c - g.1 = 0 + c * ((t - g.1) / c + 1) := by rw [Int.mul_add, Int.mul_one]; omega
      rw [this, Int.add_mul_emod_self_left, Int.zero_emod]
      omega
    · have := emod_move (c := c) (x := t - g.1) (j := k - t) hc (by omega) (by omega)
      rw [show t - g.1 + (k - t) = k - g.1 by omega] at this
      rw [this]
      omega
theorem lastG_ok {c t : Int} {g : Int × Int} (hc : 0 < c) (h1 : 1 ≤ g.2) (h2 : g.2 ≤ c) : LastAt (on1 c g) t (lastG c g t) := by
  have r0 := Int.emod_nonneg (t - g.1) (show c ≠ 0 by omega)
  have r1 := Int.emod_lt_of_pos (t - g.1) hc
  unfold lastG
  split
  · rename_i z
    exact ⟨Int.le_refl _, decide_eq_true z, fun k k0 k1 => by omega⟩
  · rename_i z
    have mv : ∀ k, 0 ≤ (t - g.1) % c + (k - t) → (t - g.1) % c + (k - t) < c → (k - g.1) % c = (t - g.1) % c + (k - t) := fun k a b => by
      have := emod_move (c := c) (x := t - g.1) (j := k - t) hc a b
      rwa [show t - g.1 + (k - t) = k - g.1 by omega] at this
    refine ⟨by omega, decide_eq_true ?_, fun k k0 k1 => decide_eq_false ?_⟩
    · rw [mv _ (by omega) (by omega)]; omega
    · rw [mv _ (by omega) (by omega)]; omega
theorem next_min {c t m : Int} {gs : List (Int × Int)} (hG : ∀ g ∈ gs, 1 ≤ g.2) (hc : 0 < c) (hm : m ∈ gs.map fun g => nextG c g t) (le : ∀ y ∈ gs.map (fun g => nextG c g t), m ≤ y) : NextAt (lit c gs) t m := by
  obtain ⟨g, hg, rfl⟩ := List.mem_map.mp hm
  have ok := nextG_ok (t := t) hc (hG g hg)
  refine ⟨ok.1, lit_iff.mpr ⟨g, hg, of_decide_eq_true ok.2.1⟩, fun k k0 k1 => lit_no.mpr fun h hh z => ?_⟩
  have a := nextG_ok (t := t) hc (hG h hh)
  have b := le _ (List.mem_map.mpr ⟨h, hh, rfl⟩)
  have := a.2.2 k k0 (by omega)
  exact absurd z (of_decide_eq_false this)
theorem last_max {c t m : Int} {gs : List (Int × Int)} (hG : ∀ g ∈ gs, 1 ≤ g.2 ∧ g.2 ≤ c) (hc : 0 < c) (hm : m ∈ gs.map fun g => lastG c g t) (le : ∀ y ∈ gs.map (fun g => lastG c g t), y ≤ m) : LastAt (lit c gs) t m := by
  obtain ⟨g, hg, rfl⟩ := List.mem_map.mp hm
  have ok := lastG_ok (t := t) hc (hG g hg).1 (hG g hg).2
  refine ⟨ok.1, lit_iff.mpr ⟨g, hg, of_decide_eq_true ok.2.1⟩, fun k k0 k1 => lit_no.mpr fun h hh z => ?_⟩
  have a := lastG_ok (t := t) hc (hG h hh).1 (hG h hh).2
  have b := le _ (List.mem_map.mpr ⟨h, hh, rfl⟩)
  have := a.2.2 k (by omega) k1
  exact absurd z (of_decide_eq_false this)
/-! ### counting -/
def cnt (f : Int → Bool) (lo : Int) : Nat → Int
  | 0 => 0
  | n + 1 => cnt f lo n + if f (lo + n) then 1 else 0
def beforeG (c : Int) (g : Int × Int) (m : Int) : Int := (m - g.1) / c * g.2 + (if g.2 < (m - g.1) % c then g.2 else (m - g.1) % c)
theorem before_step {c m : Int} {g : Int × Int} (hc : 0 < c) (h1 : 1 ≤ g.2) (h2 : g.2 ≤ c) : beforeG c g (m + 1) = beforeG c g m + if (m - g.1) % c < g.2 then 1 else 0 := by
  have e := Int.emod_add_mul_ediv (m - g.1) c
  have r0 := Int.emod_nonneg (m - g.1) (show c ≠ 0 by omega)
  have r1 := Int.emod_lt_of_pos (m - g.1) hc
  unfold beforeG
  by_cases z : (m - g.1) % c + 1 < c
  · have em := emod_move (c := c) (x := m - g.1) (j := 1) hc (by omega) z
    have ed : (m - g.1 + 1) / c = (m - g.1) / c := by
      have : m - g.1 + 1 = ((m - g.1) % c + 1) + c * ((m - g.1) / c) := by omega
      rw [this, Int.add_mul_ediv_left _ _ (by omega), Int.ediv_eq_zero_of_lt (by omega) z, Int.zero_add]
    rw [show m + 1 - g.1 = m - g.1 + 1 by omega, em, ed]
    split <;> split <;> split <;> omega
  · have x : m - g.1 + 1 = 0 + c * ((m - g.1) / c + 1) := by rw [Int.mul_add, Int.mul_one]; omega
    rw [show m + 1 - g.1 = m - g.1 + 1 by omega, x, Int.add_mul_emod_self_left, Int.add_mul_ediv_left _ _ (by omega), Int.zero_emod, Int.zero_ediv, Int.zero_add, Int.add_mul, Int.one_mul]
    split <;> split <;> split <;> omega
theorem arcs_one {c m : Int} {f : Int → Bool} {A : List (Int × Int)} (hc : 0 < c) (per : ∀ t, f (t % c) = f t) (H : Canon c f A) : A.Pairwise fun g h => ¬ ((m - g.1) % c < g.2 ∧ (m - h.1) % c < h.2) := by
  rcases H with ⟨_, rfl⟩ | ⟨_, a2, a3⟩
  · exact List.pairwise_singleton _ _
  · have key : ∀ g h : Int × Int, IsArc c f g → IsArc c f h → (m - g.1) % c < g.2 → (m - h.1) % c < h.2 → ¬ (m - g.1) % c < (m - h.1) % c := fun g h ag ah zg zh lt => by
      have g4 := ag.2.2.2.1
      have r0 := Int.emod_nonneg (m - g.1) (show c ≠ 0 by omega)
      have y := ah.2.2.2.2.1 ((m - h.1) % c - (m - g.1) % c - 1) (by omega) (by omega)
      have eg := Int.emod_add_mul_ediv (m - g.1) c
      have eh := Int.emod_add_mul_ediv (m - h.1) c
      rw [← per] at y g4
      have : (h.1 + ((m - h.1) % c - (m - g.1) % c - 1)) % c = (g.1 - 1) % c := by
        have : h.1 + ((m - h.1) % c - (m - g.1) % c - 1) = g.1 - 1 + c * ((m - g.1) / c - (m - h.1) / c) := by rw [Int.mul_sub]; omega
        rw [this, Int.add_mul_emod_self_left]
      rw [this, g4] at y
      cases y
    refine List.Pairwise.imp_of_mem (fun {g h} hg hh lt => ?_) a2
    rintro ⟨zg, zh⟩
    have ag := (a3 g).mp hg
    have ah := (a3 h).mp hh
    have n1 := key g h ag ah zg zh
    have n2 := key h g ah ag zh zg
    have e : (m - g.1) % c = (m - h.1) % c := by omega
    have eg := Int.emod_add_mul_ediv (m - g.1) c
    have eh := Int.emod_add_mul_ediv (m - h.1) c
    have g1 := ag.1
    have g2 := ag.2.1
    have h1 := ah.1
    have h2 := ah.2.1
    -- begins differ by less than a cycle
    have d : h.1 - g.1 = c * ((m - g.1) / c - (m - h.1) / c) := by rw [Int.mul_sub]; omega
    have dm : (h.1 - g.1) % c = 0 := by rw [d, Int.mul_emod_right]
    rw [Int.emod_eq_of_lt (by omega) (by omega)] at dm
    omega
theorem sum_none {c m : Int} : ∀ {A : List (Int × Int)}, (∀ g ∈ A, ¬ (m - g.1) % c < g.2) → (A.map fun g => if (m - g.1) % c < g.2 then (1 : Int) else 0).sum = 0
  | [], _ => rfl
  | g :: A, h => by
    rw [List.map_cons, List.sum_cons, sum_none fun x hx => h x (List.mem_cons_of_mem _ hx), if_neg (h g List.mem_cons_self)]
    rfl
theorem sum_one {c m : Int} : ∀ {A : List (Int × Int)}, (A.Pairwise fun g h => ¬ ((m - g.1) % c < g.2 ∧ (m - h.1) % c < h.2)) → (A.map fun g => if (m - g.1) % c < g.2 then (1 : Int) else 0).sum = if lit c A m then 1 else 0
  | [], _ => rfl
  | g :: A, h => by
    have h' := List.pairwise_cons.mp h
    rw [List.map_cons, List.sum_cons]
    by_cases z : (m - g.1) % c < g.2
    · rw [if_pos z, sum_none fun x hx y => h'.1 x hx ⟨z, y⟩, if_pos (lit_iff.mpr ⟨g, List.mem_cons_self, z⟩)]
      rfl
    · rw [if_neg z, sum_one h'.2, Int.zero_add]
      have : lit c (g :: A) m = lit c A m := by
        unfold lit
        rw [List.any_cons, decide_eq_false z, Bool.false_or]
      rw [this]
theorem sum_sub {α : Type} {u v : α → Int} : ∀ A : List α, (A.map fun g => u g - v g).sum = (A.map u).sum - (A.map v).sum
  | [] => rfl
  | g :: A => by
    rw [List.map_cons, List.sum_cons, List.map_cons, List.sum_cons, List.map_cons, List.sum_cons, sum_sub A]
    omega
theorem sum_add {α : Type} {u v : α → Int} : ∀ A : List α, (A.map fun g => u g + v g).sum = (A.map u).sum + (A.map v).sum
  | [] => rfl
  | g :: A => by
    rw [List.map_cons, List.sum_cons, List.map_cons, List.sum_cons, List.map_cons, List.sum_cons, sum_add A]
    omega
theorem count_ok {c lo : Int} {f : Int → Bool} {A : List (Int × Int)} (hc : 0 < c) (per : ∀ t, f (t % c) = f t) (H : Canon c f A) (same : ∀ t, lit c A t = f t) : ∀ n : Nat, (A.map fun g => beforeG c g (lo + n) - beforeG c g lo).sum = cnt f lo n
  | 0 => by
    have : (fun g => beforeG c g (lo + ((0 : Nat) : Int)) - beforeG c g lo) = fun _ : Int × Int => (0 : Int) := by
      funext g
      rw [show lo + ((0 : Nat) : Int) = lo by omega]
      omega
    rw [this]
    have z : ∀ B : List (Int × Int), (B.map fun _ => (0 : Int)).sum = 0 := fun B => by
      induction B with
      | nil => rfl
      | cons g B ih => rw [List.map_cons, List.sum_cons, ih]; rfl
    exact z A
  | n + 1 => by
    have r := H.rng (by omega) per
    have ih := count_ok (lo := lo) hc per H same n
    have e : A.map (fun g => beforeG c g (lo + ((n + 1 : Nat) : Int)) - beforeG c g lo) = A.map fun g => (beforeG c g (lo + n) - beforeG c g lo) + (if (lo + n - g.1) % c < g.2 then 1 else 0) := by
      apply List.map_congr_left
      intro g hg
      have := before_step (m := lo + n) hc (r g hg).2.2.1 (r g hg).2.2.2
      rw [show lo + ((n + 1 : Nat) : Int) = lo + n + 1 by push_cast; omega, this]
      omega
    rw [e, sum_add, ih, sum_one (arcs_one hc per H), same]
    rfl
end Gr

set_option Elab.async false
set_option linter.all false
set_option pp.deepTerms false
set_option pp.maxSteps 3000
set_option maxRecDepth 100000
set_option maxHeartbeats 4000000
set_option exponentiation.threshold 3000
namespace Gr
open PySem PySem.Spec PyProof.Rows L2
theorem fm2 {x m : Int} (h : 0 < m) : x.fmod m = x % m := Int.fmod_eq_emod_of_nonneg _ (by omega)
def spFrom : Sp := fun vs H Q _ => ∃ (c t : Int) (x : V) (g : Int × Int), vs = [.int c, x, .int t] ∧ GrAt H x g ∧ 1 ≤ c ∧ Q (.int (nextG c g t)) H
def spUpTo : Sp := fun vs H Q _ => ∃ (c t : Int) (x : V) (g : Int × Int), vs = [.int c, x, .int t] ∧ GrAt H x g ∧ 1 ≤ c ∧ Q (.int (lastG c g t)) H
def spBefore : Sp := fun vs H Q _ => ∃ (c t : Int) (x : V) (g : Int × Int), vs = [.int c, x, .int t] ∧ GrAt H x g ∧ 1 ≤ c ∧ c ≤ 10 ^ 30 ∧ t.natAbs < 2 ^ 600 ∧ 0 ≤ g.1 ∧ g.1 < c ∧ 1 ≤ g.2 ∧ g.2 ≤ c ∧ ∀ H', Same H H' → Q (.int (beforeG c g t)) H'
def spNext : Sp := fun vs H Q _ => ∃ (a : Addr) (c t : Int) (gs : List (Int × Int)), vs = [.int c, .ref a, .int t] ∧ SigT H a gs ∧ OkG c gs ∧ c ≤ 10 ^ 30 ∧ ∀ m H', Same H H' → NextAt (lit c gs) t m → Q (.int m) H'
def spLast : Sp := fun vs H Q _ => ∃ (a : Addr) (c t : Int) (gs : List (Int × Int)), vs = [.int c, .ref a, .int t] ∧ SigT H a gs ∧ OkG c gs ∧ c ≤ 10 ^ 30 ∧ ∀ m H', Same H H' → LastAt (lit c gs) t m → Q (.int m) H'
def spCount : Sp := fun vs H Q _ => ∃ (a : Addr) (c lo hi : Int) (gs : List (Int × Int)), vs = [.int c, .ref a, .int lo, .int hi] ∧ SigT H a gs ∧ OkG c gs ∧ c ≤ 10 ^ 30 ∧ lo.natAbs < 2 ^ 600 ∧ hi.natAbs < 2 ^ 600 ∧ ∀ H', Same H H' → Q (.int (cnt (lit c gs) lo (hi - lo).toNat)) H'
section
variable {P : Program} {w : World} {K : PySem.W.Frag} {mg : Str → Option Value} {base : Heap} {tC tG : Tok}
theorem ok_from {f : Addr} {fd : FuncData} (B : Blt mg tC tG) (Dgreen_from : Def K mg "green_from" s_green_from ["cycle", "green", "moment"] f fd) : FnOk P w K mg base CX0 1 f fd ["cycle", "green", "moment"] spFrom := by
  refine Dgreen_from.F.ok scgreen_from (fun vs H Q E h => ?_) (fun cdv A outer s H vs Q E hr h => ⟨_, (pss_cons (ps_asg (pv 1) (pg_tup rfl (pgs_cons (pg_name (i := 3) scgreen_from.nd rfl (Or.inl rfl)) (pgs_cons (pg_name (i := 4) scgreen_from.nd rfl (Or.inl rfl)) pgs_nil))))
  (pss_cons (ps_set (i := 5) scgreen_from.nd rfl (Or.inl rfl) (pe_op op_modN (pe_op op_sub (pv 2) (pv 3)) (pv 0)))
  (pss_one (ps_ret (pe_ifExp (pt_cmpR op_lt (pv 5) (pv 4) (nomark _)) (pv 2) (pe_op op_add (pe_op op_sub (pv 2) (pv 5)) (pv 0))))))), ?_⟩)
  · obtain ⟨c, t, x, g, rfl, _⟩ := h; rfl
  · obtain ⟨c, t, x, g, rfl, ⟨b, rfl, hb⟩, c1, q⟩ := h
    refine ⟨_, rfl, b, _, rfl, SqT.of hb, rfl, _, _, rfl, _, _, rfl, rfl, ?_⟩
    refine ⟨_, rfl, _, rfl, _, _, rfl, rfl, _, rfl, _, _, rfl, rfl, (by show c ≠ 0; omega), ?_⟩
    refine ⟨_, rfl, _, rfl, _, _, rfl, rfl, _, rfl, ?_⟩
    have e : (t - g.1).fmod c = (t - g.1) % c := fm2 (by omega)
    unfold nextG at q
    rw [← e] at q
    by_cases z : (t - g.1).fmod c < g.2
    · rw [if_pos z] at q
      exact iteY z ⟨_, rfl, q⟩
    · rw [if_neg z] at q
      exact iteN z ⟨_, rfl, _, rfl, _, _, rfl, rfl, _, rfl, _, _, rfl, rfl, q⟩
theorem ok_up_to {f : Addr} {fd : FuncData} (B : Blt mg tC tG) (Dgreen_up_to : Def K mg "green_up_to" s_green_up_to ["cycle", "green", "moment"] f fd) : FnOk P w K mg base CX0 1 f fd ["cycle", "green", "moment"] spUpTo := by
  refine Dgreen_up_to.F.ok scgreen_up_to (fun vs H Q E h => ?_) (fun cdv A outer s H vs Q E hr h => ⟨_, (pss_cons (ps_asg (pv 1) (pg_tup rfl (pgs_cons (pg_name (i := 3) scgreen_up_to.nd rfl (Or.inl rfl)) (pgs_cons (pg_name (i := 4) scgreen_up_to.nd rfl (Or.inl rfl)) pgs_nil))))
  (pss_cons (ps_set (i := 5) scgreen_up_to.nd rfl (Or.inl rfl) (pe_op op_modN (pe_op op_sub (pv 2) (pv 3)) (pv 0)))
  (pss_one (ps_ret (pe_ifExp (pt_cmpR op_lt (pv 5) (pv 4) (nomark _)) (pv 2) (pe_op op_sub (pe_op op_add (pe_op op_sub (pv 2) (pv 5)) (pv 4)) pe_int)))))), ?_⟩)
  · obtain ⟨c, t, x, g, rfl, _⟩ := h; rfl
  · obtain ⟨c, t, x, g, rfl, ⟨b, rfl, hb⟩, c1, q⟩ := h
    refine ⟨_, rfl, b, _, rfl, SqT.of hb, rfl, _, _, rfl, _, _, rfl, rfl, ?_⟩
    refine ⟨_, rfl, _, rfl, _, _, rfl, rfl, _, rfl, _, _, rfl, rfl, (by show c ≠ 0; omega), ?_⟩
    refine ⟨_, rfl, _, rfl, _, _, rfl, rfl, _, rfl, ?_⟩
    have e : (t - g.1).fmod c = (t - g.1) % c := fm2 (by omega)
    unfold lastG at q
    rw [← e] at q
    by_cases z : (t - g.1).fmod c < g.2
    · rw [if_pos z] at q
      exact iteY z ⟨_, rfl, q⟩
    · rw [if_neg z] at q
      exact iteN z ⟨_, rfl, _, rfl, _, _, rfl, rfl, _, rfl, _, _, rfl, rfl, _, _, rfl, rfl, q⟩
theorem ok_next {f f0 f1 f2 f3 f4 f5 f6 : Addr} {fd fd0 fd1 fd2 fd3 fd4 fd5 fd6 : FuncData} (B : Blt mg tC tG) (Dnext_green : Def K mg "next_green" s_next_green ["cycle", "signal", "moment"] f fd) (Dgreen_from : Def K mg "green_from" s_green_from ["cycle", "green", "moment"] f0 fd0) (Dcheck_signal : Def K mg "check_signal" s_check_signal ["cycle", "signal"] f1 fd1) (Dcheck_moment : Def K mg "check_moment" s_check_moment ["moment"] f2 fd2) (Dis_signal : Def K mg "is_signal" s_is_signal ["value", "cycle"] f3 fd3) (Dis_whole : Def K mg "is_whole" s_is_whole ["value"] f4 fd4) (Dcheck_cycle : Def K mg "check_cycle" s_check_cycle ["cycle"] f5 fd5) (Dis_green_pair : Def K mg "is_green_pair" s_is_green_pair ["value", "cycle"] f6 fd6) : FnOk P w K mg base CX0 5 f fd ["cycle", "signal", "moment"] spNext := by
  have Ggreen_from := ok_from (P := P) (w := w) (base := base) B Dgreen_from
  have Gcheck_moment := ok_check_moment (P := P) (w := w) (base := base) B Dcheck_moment Dis_whole
  have Gcheck_signal := ok_check_signal (P := P) (w := w) (base := base) B Dcheck_signal Dis_signal Dis_whole Dcheck_cycle Dis_green_pair
  refine Dnext_green.F.ok scnext_green (fun vs H Q E h => ?_) (fun cdv A outer s H vs Q E hr h => ⟨_, (pss_cons (ps_expr (pe_call Gcheck_signal (hr.mono (by decide)) (by rfl) Dcheck_signal.g Dcheck_signal.F.kp Dcheck_signal.b .nil pass0 (pa_cons (pv 0) (pa_cons (pv 1) pa_nil))))
  (pss_cons (ps_expr (pe_call Gcheck_moment (hr.mono (by decide)) (by rfl) Dcheck_moment.g Dcheck_moment.F.kp Dcheck_moment.b .nil pass0 (pa_cons (pv 2) pa_nil)))
  (pss_one (ps_ret (pe_callB (cr_min rfl) (by rfl) B.n_min (by decide +kernel) (pa_cons (pe_lc (own := [("green", 3)]) (g := (gName 3)) (tt := tYes) rfl scnext_green.nd (pi_tup (pv 1)) (blkOk_by (N := ["cycle", "signal", "moment", "green"]) (sc := defScope s_next_green) (by decide +kernel)) (fun _ _ _ _ _ => (pg_name (i := 3) scnext_green.nd rfl (Or.inl rfl))) (fun _ _ _ _ _ => pts_nil) (fun _ _ _ _ _ => (pe_call Ggreen_from (hr.mono (by decide)) (by rfl) Dgreen_from.g Dgreen_from.F.kp Dgreen_from.b .nil pass0 (pa_cons (pv 0) (pa_cons (pv 3) (pa_cons (pv 2) pa_nil)))))) pa_nil)))))), ?_⟩)
  · obtain ⟨a, c, t, gs, rfl, _⟩ := h; rfl
  · obtain ⟨a, c, t, gs, rfl, hS, hG, c2, q⟩ := h
    have c1 := hG.c1
    refine ⟨_, rfl, _, rfl, .ref a, c, rfl, c1, c2, (by have := hS.sigK (c := c) ⟨hG.1, hG.2.1⟩; rwa [hG.all] at this), fun H1 s1 => ?_⟩
    refine ⟨_, rfl, t, rfl, ?_⟩
    obtain ⟨xs, hx, hP⟩ := hS.mono s1
    have lx := paired_len hP
    refine ⟨_, rfl, a, rfl, ⟨_, SqT.of hx⟩, fun D hD => ?_⟩
    refine lc_tup (xs := xs) (fun i H' => Same H1 H' ∧ H' D = some (.lst (((gs.take i).map fun g => nextG c g t).map V.int))) ⟨Same.new hD, upd_same⟩ (fun i H' _ ⟨s1, _⟩ => SqT.of (s1 _ _ hx)) ?_ ?_
    · rintro i x H' hxi ⟨s2, e2⟩
      obtain ⟨g, hg, b, rfl, hb⟩ := paired_at hP hxi
      refine ⟨rfl, _, rfl, _, rfl, _, rfl, c, t, .ref b, g, rfl, ⟨b, rfl, s2 _ _ hb⟩, c1, _, e2, ?_, fun b' o h => ?_, ?_⟩
      · rw [List.length_map, List.length_map, List.length_take]; exact small1000 (by have := hG.2.1; omega)
      · rw [upd_ne (ne_of_none h hD)]; exact s2 _ _ h
      · rw [upd_same, List.take_add_one, hg, List.map_append, List.map_append]; rfl
    · rintro H' ⟨s2, e2⟩
      rw [List.take_of_length_le (by omega)] at e2
      refine ⟨D, _, rfl, SqL.of e2, by rw [List.length_map]; exact hG.1, fun m hm le => ?_⟩
      exact q m H' (s1.trans s2) (next_min (fun g hg => (hG.2.2 g hg).2.2.1) (by omega) hm le)
theorem ok_last {f f0 f1 f2 f3 f4 f5 f6 : Addr} {fd fd0 fd1 fd2 fd3 fd4 fd5 fd6 : FuncData} (B : Blt mg tC tG) (Dlast_green : Def K mg "last_green" s_last_green ["cycle", "signal", "moment"] f fd) (Dgreen_up_to : Def K mg "green_up_to" s_green_up_to ["cycle", "green", "moment"] f0 fd0) (Dcheck_signal : Def K mg "check_signal" s_check_signal ["cycle", "signal"] f1 fd1) (Dcheck_moment : Def K mg "check_moment" s_check_moment ["moment"] f2 fd2) (Dis_signal : Def K mg "is_signal" s_is_signal ["value", "cycle"] f3 fd3) (Dis_whole : Def K mg "is_whole" s_is_whole ["value"] f4 fd4) (Dcheck_cycle : Def K mg "check_cycle" s_check_cycle ["cycle"] f5 fd5) (Dis_green_pair : Def K mg "is_green_pair" s_is_green_pair ["value", "cycle"] f6 fd6) : FnOk P w K mg base CX0 5 f fd ["cycle", "signal", "moment"] spLast := by
  have Ggreen_up_to := ok_up_to (P := P) (w := w) (base := base) B Dgreen_up_to
  have Gcheck_moment := ok_check_moment (P := P) (w := w) (base := base) B Dcheck_moment Dis_whole
  have Gcheck_signal := ok_check_signal (P := P) (w := w) (base := base) B Dcheck_signal Dis_signal Dis_whole Dcheck_cycle Dis_green_pair
  refine Dlast_green.F.ok sclast_green (fun vs H Q E h => ?_) (fun cdv A outer s H vs Q E hr h => ⟨_, (pss_cons (ps_expr (pe_call Gcheck_signal (hr.mono (by decide)) (by rfl) Dcheck_signal.g Dcheck_signal.F.kp Dcheck_signal.b .nil pass0 (pa_cons (pv 0) (pa_cons (pv 1) pa_nil))))
  (pss_cons (ps_expr (pe_call Gcheck_moment (hr.mono (by decide)) (by rfl) Dcheck_moment.g Dcheck_moment.F.kp Dcheck_moment.b .nil pass0 (pa_cons (pv 2) pa_nil)))
  (pss_one (ps_ret (pe_callB (cr_max rfl) (by rfl) B.n_max (by decide +kernel) (pa_cons (pe_lc (own := [("green", 3)]) (g := (gName 3)) (tt := tYes) rfl sclast_green.nd (pi_tup (pv 1)) (blkOk_by (N := ["cycle", "signal", "moment", "green"]) (sc := defScope s_last_green) (by decide +kernel)) (fun _ _ _ _ _ => (pg_name (i := 3) sclast_green.nd rfl (Or.inl rfl))) (fun _ _ _ _ _ => pts_nil) (fun _ _ _ _ _ => (pe_call Ggreen_up_to (hr.mono (by decide)) (by rfl) Dgreen_up_to.g Dgreen_up_to.F.kp Dgreen_up_to.b .nil pass0 (pa_cons (pv 0) (pa_cons (pv 3) (pa_cons (pv 2) pa_nil)))))) pa_nil)))))), ?_⟩)
  · obtain ⟨a, c, t, gs, rfl, _⟩ := h; rfl
  · obtain ⟨a, c, t, gs, rfl, hS, hG, c2, q⟩ := h
    have c1 := hG.c1
    refine ⟨_, rfl, _, rfl, .ref a, c, rfl, c1, c2, (by have := hS.sigK (c := c) ⟨hG.1, hG.2.1⟩; rwa [hG.all] at this), fun H1 s1 => ?_⟩
    refine ⟨_, rfl, t, rfl, ?_⟩
    obtain ⟨xs, hx, hP⟩ := hS.mono s1
    have lx := paired_len hP
    refine ⟨_, rfl, a, rfl, ⟨_, SqT.of hx⟩, fun D hD => ?_⟩
    refine lc_tup (xs := xs) (fun i H' => Same H1 H' ∧ H' D = some (.lst (((gs.take i).map fun g => lastG c g t).map V.int))) ⟨Same.new hD, upd_same⟩ (fun i H' _ ⟨s1, _⟩ => SqT.of (s1 _ _ hx)) ?_ ?_
    · rintro i x H' hxi ⟨s2, e2⟩
      obtain ⟨g, hg, b, rfl, hb⟩ := paired_at hP hxi
      refine ⟨rfl, _, rfl, _, rfl, _, rfl, c, t, .ref b, g, rfl, ⟨b, rfl, s2 _ _ hb⟩, c1, _, e2, ?_, fun b' o h => ?_, ?_⟩
      · rw [List.length_map, List.length_map, List.length_take]; exact small1000 (by have := hG.2.1; omega)
      · rw [upd_ne (ne_of_none h hD)]; exact s2 _ _ h
      · rw [upd_same, List.take_add_one, hg, List.map_append, List.map_append]; rfl
    · rintro H' ⟨s2, e2⟩
      rw [List.take_of_length_le (by omega)] at e2
      refine ⟨D, _, rfl, SqL.of e2, by rw [List.length_map]; exact hG.1, fun m hm le => ?_⟩
      exact q m H' (s1.trans s2) (last_max (fun g hg => (hG.2.2 g hg).2.2) (by omega) hm le)
theorem ok_before {f : Addr} {fd : FuncData} (B : Blt mg tC tG) (Dgreen_before : Def K mg "green_before" s_green_before ["cycle", "green", "moment"] f fd) : FnOk P w K mg base CX0 1 f fd ["cycle", "green", "moment"] spBefore := by
  refine Dgreen_before.F.ok scgreen_before (fun vs H Q E h => ?_) (fun cdv A outer s H vs Q E hr h => ⟨_, (pss_cons (ps_asg (pv 1) (pg_tup rfl (pgs_cons (pg_name (i := 3) scgreen_before.nd rfl (Or.inl rfl)) (pgs_cons (pg_name (i := 4) scgreen_before.nd rfl (Or.inl rfl)) pgs_nil))))
  (pss_cons (ps_asg (pe_callB call_divmodW (by rfl) B.n_divmod (by decide +kernel) (pa_cons (pe_op op_sub (pv 2) (pv 3)) (pa_cons (pv 0) pa_nil))) (pg_tup rfl (pgs_cons (pg_name (i := 5) scgreen_before.nd rfl (Or.inl rfl)) (pgs_cons (pg_name (i := 6) scgreen_before.nd rfl (Or.inl rfl)) pgs_nil))))
  (pss_one (ps_ret (pe_op op_add (pe_op op_mulW (pv 5) (pv 4)) (pe_callB (call_min2 rfl) (by rfl) B.n_min (by decide +kernel) (pa_cons (pv 6) (pa_cons (pv 4) pa_nil)))))))), ?_⟩)
  · obtain ⟨c, t, x, g, rfl, _⟩ := h; rfl
  · obtain ⟨c, t, x, g, rfl, ⟨b, rfl, hb⟩, c1, c2, tb, o0, o1, l1, l2, q⟩ := h
    refine ⟨_, rfl, b, _, rfl, SqT.of hb, rfl, _, _, rfl, _, _, rfl, rfl, ?_⟩
    have cp : CDivP (t - g.1) c := by
      refine ⟨by omega, ?_⟩
      have e30 : (10 : Int) ^ 30 < ((2 ^ 100 : Nat) : Int) := by decide +kernel
      have l : c.natAbs.log2 < 100 := PySem.Flt.log2_lt_of (k := 100) (by decide) (natAbs_lt (by omega) (by omega))
      unfold Builtin.divisionGoesByPylong
      simp only
      rw [decide_eq_false, Bool.false_and]
      split <;> omega
    have r0 := Int.emod_nonneg (t - g.1) (show c ≠ 0 by omega)
    have r1 := Int.emod_lt_of_pos (t - g.1) (show 0 < c by omega)
    have qb : ((t - g.1) / c).natAbs < 2 ^ 700 := by
      have e30 : (10 : Int) ^ 30 < ((2 ^ 600 : Nat) : Int) := by decide +kernel
      have e7 : (2 : Nat) ^ 600 + 2 ^ 600 + 1 ≤ 2 ^ 700 := by decide +kernel
      have a := Int.natAbs_ediv_le_natAbs (t - g.1) c
      have b : (t - g.1).natAbs ≤ t.natAbs + g.1.natAbs := by omega
      have d : g.1.natAbs < 2 ^ 600 := natAbs_lt o0 (by omega)
      omega
    have cm : CMulW ((t - g.1) / c) g.2 := wide_mul (a := 700) (b := 100) qb (natAbs_lt (by omega) (by
      have e30 : (10 : Int) ^ 30 < ((2 ^ 100 : Nat) : Int) := by decide +kernel
      omega)) (by decide) (by decide) (by decide)
    refine ⟨_, rfl, _, rfl, _, _, rfl, rfl, _, rfl, _, _, rfl, cp, fun T hT => ?_⟩
    refine ⟨T, _, rfl, SqT.of upd_same, rfl, _, _, rfl, _, _, rfl, rfl, ?_⟩
    refine ⟨_, rfl, _, rfl, _, _, rfl, rfl, cm, _, rfl, _, rfl, _, _, rfl, _, _, rfl, rfl, ?_⟩
    exact q _ (Same.new hT)
theorem cnt_zero (f : Int → Bool) (lo hi : Int) (h : hi ≤ lo) : cnt f lo (hi - lo).toNat = 0 := by
  rw [show (hi - lo).toNat = 0 by omega]; rfl
theorem ok_count {f f0 f1 f2 f3 f4 f5 f6 f7 f8 : Addr} {fd fd0 fd1 fd2 fd3 fd4 fd5 fd6 fd7 fd8 : FuncData} (B : Blt mg tC tG) (Dcount_green : Def K mg "count_green" s_count_green ["cycle", "signal", "low", "high"] f fd) (Dgreen_before : Def K mg "green_before" s_green_before ["cycle", "green", "moment"] f0 fd0) (Dcheck_signal : Def K mg "check_signal" s_check_signal ["cycle", "signal"] f1 fd1) (Dcheck_moment : Def K mg "check_moment" s_check_moment ["moment"] f2 fd2) (Dis_signal : Def K mg "is_signal" s_is_signal ["value", "cycle"] f3 fd3) (Dis_whole : Def K mg "is_whole" s_is_whole ["value"] f4 fd4) (Dcheck_cycle : Def K mg "check_cycle" s_check_cycle ["cycle"] f5 fd5) (Dis_green_pair : Def K mg "is_green_pair" s_is_green_pair ["value", "cycle"] f6 fd6) (Dparted_greens : Def K mg "parted_greens" s_parted_greens ["cycle", "signal"] f7 fd7) (Djoined_over_end : Def K mg "joined_over_end" s_joined_over_end ["cycle", "greens"] f8 fd8) : FnOk P w K mg base CX0 5 f fd ["cycle", "signal", "low", "high"] spCount := by
  have Ggreen_before := ok_before (P := P) (w := w) (base := base) B Dgreen_before
  have Gcheck_moment := ok_check_moment (P := P) (w := w) (base := base) B Dcheck_moment Dis_whole
  have Gcheck_signal := ok_check_signal (P := P) (w := w) (base := base) B Dcheck_signal Dis_signal Dis_whole Dcheck_cycle Dis_green_pair
  have Gparted_greens := ok_parted (P := P) (w := w) (base := base) B Dparted_greens Djoined_over_end
  refine Dcount_green.F.ok sccount_green (fun vs H Q E h => ?_) (fun cdv A outer s H vs Q E hr h => ⟨_, (pss_cons (ps_expr (pe_call Gcheck_signal (hr.mono (by decide)) (by rfl) Dcheck_signal.g Dcheck_signal.F.kp Dcheck_signal.b .nil pass0 (pa_cons (pv 0) (pa_cons (pv 1) pa_nil))))
  (pss_cons (ps_expr (pe_call Gcheck_moment (hr.mono (by decide)) (by rfl) Dcheck_moment.g Dcheck_moment.F.kp Dcheck_moment.b .nil pass0 (pa_cons (pv 2) pa_nil)))
  (pss_cons (ps_expr (pe_call Gcheck_moment (hr.mono (by decide)) (by rfl) Dcheck_moment.g Dcheck_moment.F.kp Dcheck_moment.b .nil pass0 (pa_cons (pv 3) pa_nil)))
  (pss_cons (ps_if (pt_cmpR op_le (pv 3) (pv 2) (nomark _))
   (pss_one (ps_ret pe_int))
   pss_nil)
  (pss_cons (ps_set (i := 4) sccount_green.nd rfl (Or.inl rfl) (pe_call Gparted_greens (hr.mono (by decide)) (by rfl) Dparted_greens.g Dparted_greens.F.kp Dparted_greens.b .nil pass0 (pa_cons (pv 0) (pa_cons (pv 1) pa_nil))))
  (pss_one (ps_ret (pe_callB (cr_sum rfl) (by rfl) B.n_sum (by decide +kernel) (pa_cons (pe_lc (own := [("green", 5)]) (g := (gName 5)) (tt := tYes) rfl sccount_green.nd (pi_tup (pv 4)) (blkOk_by (N := ["cycle", "signal", "low", "high", "parted", "green"]) (sc := defScope s_count_green) (by decide +kernel)) (fun _ _ _ _ _ => (pg_name (i := 5) sccount_green.nd rfl (Or.inl rfl))) (fun _ _ _ _ _ => pts_nil) (fun _ _ _ _ _ => (pe_op op_sub (pe_call Ggreen_before (hr.mono (by decide)) (by rfl) Dgreen_before.g Dgreen_before.F.kp Dgreen_before.b .nil pass0 (pa_cons (pv 0) (pa_cons (pv 5) (pa_cons (pv 3) pa_nil)))) (pe_call Ggreen_before (hr.mono (by decide)) (by rfl) Dgreen_before.g Dgreen_before.F.kp Dgreen_before.b .nil pass0 (pa_cons (pv 0) (pa_cons (pv 5) (pa_cons (pv 2) pa_nil))))))) pa_nil))))))))), ?_⟩)
  · obtain ⟨a, c, lo, hi, gs, rfl, _⟩ := h; rfl
  · obtain ⟨a, c, lo, hi, gs, rfl, hS, hG, c2, lb, hb, q⟩ := h
    have c1 := hG.c1
    have per : ∀ t, lit c gs (t % c) = lit c gs t := fun t => lit_mod c gs t
    refine ⟨_, rfl, _, rfl, .ref a, c, rfl, c1, c2, (by have := hS.sigK (c := c) ⟨hG.1, hG.2.1⟩; rwa [hG.all] at this), fun H1 s1 => ?_⟩
    refine ⟨_, rfl, lo, rfl, _, rfl, hi, rfl, _, rfl, _, rfl, _, _, rfl, rfl, _, rfl, ?_⟩
    by_cases z : hi ≤ lo
    · refine iteY z ?_
      have := q H1 s1
      rw [cnt_zero _ _ _ z] at this
      exact this
    · refine iteN z ?_
      refine ⟨_, rfl, _, rfl, a, c, gs, rfl, hS.mono s1, hG, c2, fun p A H2 s2 hA can same nA lA => ?_⟩
      have rA := can.rng c1 per
      obtain ⟨xs, hx, hP⟩ := id hA
      have lx := paired_len hP
      refine ⟨_, rfl, p, rfl, ⟨_, SqT.of hx⟩, fun D hD => ?_⟩
      refine lc_tup (xs := xs) (fun i H' => Same H2 H' ∧ H' D = some (.lst (((A.take i).map fun g => beforeG c g hi - beforeG c g lo).map V.int))) ⟨Same.new hD, upd_same⟩ (fun i H' _ ⟨s1, _⟩ => SqT.of (s1 _ _ hx)) ?_ ?_
      · rintro i x H' hxi ⟨s3, e3⟩
        obtain ⟨g, hg, b, rfl, hbT⟩ := paired_at hP hxi
        have rg := rA g (List.mem_of_getElem? hg)
        refine ⟨rfl, _, rfl, _, rfl, _, rfl, c, hi, .ref b, g, rfl, ⟨b, rfl, s3 _ _ hbT⟩, c1, c2, hb, rg.1, rg.2.1, rg.2.2.1, rg.2.2.2, fun H3 s4 => ?_⟩
        refine ⟨_, rfl, _, rfl, _, rfl, c, lo, .ref b, g, rfl, ⟨b, rfl, s4 _ _ (s3 _ _ hbT)⟩, c1, c2, lb, rg.1, rg.2.1, rg.2.2.1, rg.2.2.2, fun H4 s5 => ?_⟩
        refine ⟨_, _, rfl, rfl, _, s5 _ _ (s4 _ _ e3), ?_, fun b' o h => ?_, ?_⟩
        · rw [List.length_map, List.length_map, List.length_take]; exact small1000 (by omega)
        · rw [upd_ne (ne_of_none h hD)]; exact s5 _ _ (s4 _ _ (s3 _ _ h))
        · rw [upd_same, List.take_add_one, hg, List.map_append, List.map_append]; rfl
      · rintro H' ⟨s3, e3⟩
        rw [List.take_of_length_le (by omega)] at e3
        refine ⟨D, _, rfl, SqL.of e3, ?_⟩
        have e := count_ok (lo := lo) (by omega) per can same (hi - lo).toNat
        rw [show lo + (((hi - lo).toNat : Nat) : Int) = hi by omega] at e
        rw [e]
        exact q H' ((s1.trans s2).trans s3)
end
end Gr

set_option Elab.async false
set_option linter.all false
set_option pp.deepTerms false
set_option pp.maxSteps 3000
set_option maxRecDepth 100000
set_option maxHeartbeats 4000000
set_option exponentiation.threshold 3000
namespace Gr
open PySem PySem.Spec PyProof.Rows L2
def spNxt : Sp := fun vs H Q _ => ∃ (d : Addr) (s t st : Int) (f : Int → Bool) (kvs : List (Key × V)), vs = [.int s, .ref d, .int t, .int st] ∧ H d = some (.dK kvs) ∧ LitP s f kvs ∧ (∀ t, f (t % s) = f t) ∧ 1 ≤ s ∧ (∃ t0, f t0 = true) ∧
  ((st = 1 ∧ ∀ m, NextAt f t m → Q (.int m) H) ∨ (st = -1 ∧ ∀ m, LastAt f t m → Q (.int m) H))
theorem per_mul {s : Int} {f : Int → Bool} (per : ∀ t, f (t % s) = f t) (t k : Int) : f (t + s * k) = f t := by
  rw [← per (t + s * k), Int.add_mul_emod_self_left, per]
theorem lit_ahead {s t : Int} {f : Int → Bool} (per : ∀ t, f (t % s) = f t) (hs : 1 ≤ s) (h : ∃ t0, f t0 = true) : ∃ n, t ≤ n ∧ f n = true := by
  obtain ⟨t0, h⟩ := h
  refine ⟨t + (t0 - t) % s, by have := Int.emod_nonneg (t0 - t) (show s ≠ 0 by omega); omega, ?_⟩
  have e := Int.emod_add_mul_ediv (t0 - t) s
  have : t + (t0 - t) % s = t0 + s * -((t0 - t) / s) := by rw [Int.mul_neg]; omega
  rw [this, per_mul per]; exact h
theorem lit_back {s t : Int} {f : Int → Bool} (per : ∀ t, f (t % s) = f t) (hs : 1 ≤ s) (h : ∃ t0, f t0 = true) : ∃ n, n ≤ t ∧ f n = true := by
  obtain ⟨t0, h⟩ := h
  refine ⟨t - (t - t0) % s, by have := Int.emod_nonneg (t - t0) (show s ≠ 0 by omega); omega, ?_⟩
  have e := Int.emod_add_mul_ediv (t - t0) s
  have : t - (t - t0) % s = t0 + s * ((t - t0) / s) := by omega
  rw [this, per_mul per]; exact h
section
variable {P : Program} {w : World} {K : PySem.W.Frag} {mg : Str → Option Value} {base : Heap} {tC tG : Tok}
theorem ok_nxt {f : Addr} {fd : FuncData} (B : Blt mg tC tG) (Dl_next : Def K mg "_law_next" s_l_next ["_law_span", "_law_lit", "_law_t", "_law_step"] f fd) : FnOk P w K mg base CX0 1 f fd ["_law_span", "_law_lit", "_law_t", "_law_step"] spNxt := by
  refine Dl_next.F.ok scl_next (fun vs H Q E h => ?_) (fun cdv A outer s H vs Q E hr h => ⟨_, (pss_cons (ps_while PassesOwn.never (pt_cmp (pc_dnotin (hu_of hr) (pe_op op_modN (pv 2) (pv 0)) (pv 1)))
   (pss_one (ps_set (i := 2) scl_next.nd rfl (Or.inl rfl) (pe_op op_add (pv 2) (pv 3)))))
  (pss_one (ps_ret (pv 2)))), ?_⟩)
  · obtain ⟨d, s, t, st, f, kvs, rfl, _⟩ := h; rfl
  · obtain ⟨d, s, t, st, f, kvs, rfl, hd, hL, per, s1, ex, q⟩ := h
    have nz : s ≠ 0 := by omega
    have look : ∀ x : Int, (valV kvs (.inl (x.fmod s))).isSome = f x := fun x => by
      rw [Int.fmod_eq_emod_of_nonneg _ (by omega), hL.is _ (Int.emod_nonneg _ nz) (Int.emod_lt_of_pos _ (by omega)), per]
    rcases q with ⟨rfl, q⟩ | ⟨rfl, q⟩
    · obtain ⟨n0, n1, n2⟩ := lit_ahead (t := t) per s1 ex
      refine ⟨fun m σ H' => ∃ u : Int, m = (n0 - u).toNat ∧ σ = [some (.int s), some (.ref d), some (.int u), some (.int 1)] ∧ H' = H ∧ t ≤ u ∧ u ≤ n0 ∧ ∀ k, t ≤ k → k < u → f k = false, ⟨_, t, rfl, rfl, rfl, Int.le_refl _, n1, fun k k0 k1 => by omega⟩, ?_⟩
      rintro m σ H' ⟨u, rfl, rfl, rfl, u0, u1, no⟩
      refine ⟨_, rfl, _, rfl, _, _, rfl, rfl, nz, _, rfl, d, _, rfl, DGet.k (k := .inl _) hd, ?_⟩
      cases eu : f u with
      | true =>
        refine ⟨false, congrArg (fun b => V.bl (!b)) ((look _).trans eu), ?_⟩
        exact ⟨_, rfl, q u ⟨u0, eu, no⟩⟩
      | false =>
        refine ⟨true, congrArg (fun b => V.bl (!b)) ((look _).trans eu), ?_⟩
        have lt : u < n0 := by
          have : u ≠ n0 := fun e => by rw [e, n2] at eu; cases eu
          omega
        refine ⟨fun σ' H2 => ∃ m', m' < (n0 - u).toNat ∧ ∃ u : Int, m' = (n0 - u).toNat ∧ σ' = [some (.int s), some (.ref d), some (.int u), some (.int 1)] ∧ H2 = H' ∧ t ≤ u ∧ u ≤ n0 ∧ ∀ k, t ≤ k → k < u → f k = false, fun _ _ n => n, ?_⟩
        refine ⟨_, rfl, _, rfl, _, _, rfl, rfl, (n0 - (u + 1)).toNat, by omega, u + 1, rfl, rfl, rfl, by omega, by omega, fun k k0 k1 => ?_⟩
        by_cases e : k < u
        · exact no k k0 e
        · rw [show k = u by omega]; exact eu
    · obtain ⟨n0, n1, n2⟩ := lit_back (t := t) per s1 ex
      refine ⟨fun m σ H' => ∃ u : Int, m = (u - n0).toNat ∧ σ = [some (.int s), some (.ref d), some (.int u), some (.int (-1))] ∧ H' = H ∧ u ≤ t ∧ n0 ≤ u ∧ ∀ k, u < k → k ≤ t → f k = false, ⟨_, t, rfl, rfl, rfl, Int.le_refl _, n1, fun k k0 k1 => by omega⟩, ?_⟩
      rintro m σ H' ⟨u, rfl, rfl, rfl, u0, u1, no⟩
      refine ⟨_, rfl, _, rfl, _, _, rfl, rfl, nz, _, rfl, d, _, rfl, DGet.k (k := .inl _) hd, ?_⟩
      cases eu : f u with
      | true =>
        refine ⟨false, congrArg (fun b => V.bl (!b)) ((look _).trans eu), ?_⟩
        exact ⟨_, rfl, q u ⟨u0, eu, no⟩⟩
      | false =>
        refine ⟨true, congrArg (fun b => V.bl (!b)) ((look _).trans eu), ?_⟩
        have lt : n0 < u := by
          have : u ≠ n0 := fun e => by rw [e, n2] at eu; cases eu
          omega
        refine ⟨fun σ' H2 => ∃ m', m' < (u - n0).toNat ∧ ∃ u : Int, m' = (u - n0).toNat ∧ σ' = [some (.int s), some (.ref d), some (.int u), some (.int (-1))] ∧ H2 = H' ∧ u ≤ t ∧ n0 ≤ u ∧ ∀ k, u < k → k ≤ t → f k = false, fun _ _ n => n, ?_⟩
        refine ⟨_, rfl, _, rfl, _, _, rfl, rfl, (u + -1 - n0).toNat, by omega, u + -1, rfl, rfl, rfl, by omega, by omega, fun k k0 k1 => ?_⟩
        by_cases e : u < k
        · exact no k e k1
        · rw [show k = u by omega]; exact eu
end
end Gr

set_option Elab.async false
set_option linter.all false
set_option pp.deepTerms false
set_option pp.maxSteps 3000
set_option maxRecDepth 100000
set_option maxHeartbeats 8000000
set_option exponentiation.threshold 3000
namespace Gr
open PySem PySem.Spec PyProof.Rows L2
theorem nodup_sub {α : Type} [DecidableEq α] : ∀ {A B : List α}, A.Nodup → (∀ x ∈ A, x ∈ B) → A.length ≤ B.length
  | [], _, _, _ => Nat.zero_le _
  | a :: A, B, h, s => by
    have h' := List.nodup_cons.mp h
    have ha := s a List.mem_cons_self
    have := nodup_sub (A := A) (B := B.erase a) h'.2 fun x hx => (List.mem_erase_of_ne (fun e : x = a => h'.1 (by rw [← e]; exact hx))).mpr (s x (List.mem_cons_of_mem _ hx))
    rw [List.length_erase_of_mem ha] at this
    have : 0 < B.length := List.length_pos_of_mem ha
    rw [List.length_cons]
    omega
theorem valV_mem {kvs : List (Key × V)} {k : Key} : (valV kvs k).isSome = true ↔ k ∈ kvs.map (·.1) := by
  unfold valV
  rw [Option.isSome_map, List.find?_isSome, List.mem_map]
  constructor
  · rintro ⟨x, h1, h2⟩; exact ⟨x, h1, of_decide_eq_true h2⟩
  · rintro ⟨x, h1, h2⟩; exact ⟨x, h1, decide_eq_true h2⟩
/-! ### counting on -/
theorem cnt_add {f : Int → Bool} {lo : Int} (n : Nat) : ∀ m : Nat, cnt f lo (n + m) = cnt f lo n + cnt f (lo + n) m
  | 0 => by show cnt f lo n = cnt f lo n + 0; omega
  | m + 1 => by
    show cnt f lo (n + m) + (if f (lo + ((n + m : Nat) : Int)) then 1 else 0) = cnt f lo n + (cnt f (lo + n) m + if f (lo + n + m) then 1 else 0)
    rw [cnt_add n m, show lo + ((n + m : Nat) : Int) = lo + n + m by push_cast; omega]
    omega
theorem cnt_shift {f : Int → Bool} {lo d : Int} (h : ∀ t, f (t + d) = f t) : ∀ n : Nat, cnt f (lo + d) n = cnt f lo n
  | 0 => rfl
  | n + 1 => by
    show cnt f (lo + d) n + (if f (lo + d + n) then 1 else 0) = cnt f lo n + if f (lo + n) then 1 else 0
    rw [cnt_shift h n, show lo + d + (n : Int) = lo + n + d by omega, h]
theorem cnt_step {f : Int → Bool} {s lo : Int} (per : ∀ t, f (t % s) = f t) (hs : 1 ≤ s) : cnt f (lo + 1) s.toNat = cnt f lo s.toNat := by
  have a := cnt_add (f := f) (lo := lo) 1 s.toNat
  have b := cnt_add (f := f) (lo := lo) s.toNat 1
  rw [Nat.add_comm] at b
  rw [a] at b
  have e1 : cnt f lo 1 = if f (lo + ((0 : Nat) : Int)) then 1 else 0 := by show (0 : Int) + _ = _; exact Int.zero_add _
  have e2 : cnt f (lo + (s.toNat : Int)) 1 = if f (lo + (s.toNat : Int) + ((0 : Nat) : Int)) then 1 else 0 := by show (0 : Int) + _ = _; exact Int.zero_add _
  have e3 : f (lo + (s.toNat : Int) + ((0 : Nat) : Int)) = f (lo + ((0 : Nat) : Int)) := by
    rw [show lo + (s.toNat : Int) + ((0 : Nat) : Int) = lo + ((0 : Nat) : Int) + s by omega, per_add per]
  rw [e1, e2, e3] at b
  have : lo + ((1 : Nat) : Int) = lo + 1 := by omega
  rw [this] at b
  omega
theorem cnt_cycle {f : Int → Bool} {s : Int} (per : ∀ t, f (t % s) = f t) (hs : 1 ≤ s) (lo : Int) : cnt f lo s.toNat = cnt f 0 s.toNat := by
  have up : ∀ n : Nat, cnt f (n : Int) s.toNat = cnt f 0 s.toNat := fun n => by
    induction n with
    | zero => rfl
    | succ n ih => rw [show ((n + 1 : Nat) : Int) = (n : Int) + 1 by push_cast; omega, cnt_step per hs, ih]
  have e := Int.emod_add_mul_ediv lo s
  have r0 := Int.emod_nonneg lo (show s ≠ 0 by omega)
  have : lo = lo % s + s * (lo / s) := by omega
  rw [this, cnt_shift (fun t => per_mul per t _)]
  have := up (lo % s).toNat
  rwa [Int.toNat_of_nonneg r0] at this
theorem cnt_more {f : Int → Bool} {s : Int} (per : ∀ t, f (t % s) = f t) (hs : 1 ≤ s) (lo : Int) (n : Nat) : ∀ k : Nat, cnt f lo (n + k * s.toNat) = cnt f lo n + k * cnt f 0 s.toNat
  | 0 => by simp
  | k + 1 => by
    rw [Nat.add_mul, Nat.one_mul, ← Nat.add_assoc, cnt_add, cnt_more per hs lo n k, cnt_cycle per hs (lo + ((n + k * s.toNat : Nat) : Int))]
    push_cast
    rw [Int.add_mul, Int.one_mul]
    omega
theorem cnt_len {f : Int → Bool} : ∀ n : Nat, (((List.range n).filter fun (j : Nat) => f j).length : Int) = cnt f 0 n
  | 0 => rfl
  | n + 1 => by
    rw [List.range_succ, List.filter_append, List.length_append]
    show _ = cnt f 0 n + if f (0 + (n : Int)) then 1 else 0
    rw [← cnt_len n, Int.zero_add]
    cases e : f (n : Int) <;> simp [e]
theorem LitP.count {s : Int} {f : Int → Bool} {kvs : List (Key × V)} (h : LitP s f kvs) (hs : 0 ≤ s) : (kvs.length : Int) = cnt f 0 s.toNat := by
  rw [← cnt_len]
  have nd : (((List.range s.toNat).filter fun (j : Nat) => f j).map fun (n : Nat) => (Sum.inl (n : Int) : Key)).Nodup := by
    unfold List.Nodup
    rw [List.pairwise_map]
    refine List.Pairwise.imp (fun {a b} h e => h ?_) (List.Pairwise.filter _ List.nodup_range)
    have := Sum.inl.inj e
    omega
  have mem : ∀ k, k ∈ (((List.range s.toNat).filter fun (j : Nat) => f j).map fun (n : Nat) => (Sum.inl (n : Int) : Key)) ↔ k ∈ kvs.map (·.1) := fun k => by
    constructor
    · intro hk
      obtain ⟨n, hn, rfl⟩ := List.mem_map.mp hk
      obtain ⟨h1, h2⟩ := List.mem_filter.mp hn
      have := List.mem_range.mp h1
      exact valV_mem.mp (by rw [h.is _ (by omega) (by omega)]; exact h2)
    · intro hk
      obtain ⟨t, rfl, t0, t1⟩ := h.rng k hk
      have := valV_mem.mpr hk
      rw [h.is t t0 t1] at this
      refine List.mem_map.mpr ⟨t.toNat, List.mem_filter.mpr ⟨List.mem_range.mpr (by omega), ?_⟩, congrArg Sum.inl (Int.toNat_of_nonneg t0)⟩
      rw [Int.toNat_of_nonneg t0]; exact this
  have a := nodup_sub nd fun k hk => (mem k).mp hk
  have b := nodup_sub h.once fun k hk => (mem k).mpr hk
  rw [List.length_map, List.length_map] at a b
  omega
theorem cnt_le (f : Int → Bool) (lo : Int) : ∀ n : Nat, 0 ≤ cnt f lo n ∧ cnt f lo n ≤ n
  | 0 => ⟨Int.le_refl _, Int.le_refl _⟩
  | n + 1 => by
    have := cnt_le f lo n
    show 0 ≤ cnt f lo n + (if f (lo + n) then 1 else 0) ∧ cnt f lo n + (if f (lo + n) then 1 else 0) ≤ ((n + 1 : Nat) : Int)
    push_cast
    split <;> omega
/-! ### lists of ints compared -/
theorem lay_ints : ∀ ns : List Int, PyData.canLayAll0 (ns.map PyData.int) = true
  | [] => by simp [PyData.canLayAll0]
  | n :: ns => by simp [PyData.canLayAll0, PyData.canLay0, lay_ints ns]
theorem depth_ints : ∀ ns : List Int, PyData.depthAll (ns.map PyData.int) ≤ 5
  | [] => by simp [PyData.depthAll]
  | n :: ns => by
    have := depth_ints ns
    simp only [List.map_cons, PyData.depthAll, PyData.depth]
    omega
theorem shaped_ints (ns : List Int) : SeqAt.shaped (.list (ns.map PyData.int)) = true := by
  have h := depth_ints ns
  unfold SeqAt.shaped
  rw [Bool.and_eq_true]
  refine ⟨by simpa only [PyData.canLay0] using lay_ints ns, decide_eq_true ?_⟩
  simp only [PyData.depth]
  omega
theorem eqv_intsA : ∀ ns : List Int, PyData.eqvAll (ns.map PyData.int) (ns.map PyData.int) = true
  | [] => by simp [PyData.eqvAll]
  | n :: ns => by simp [PyData.eqvAll, PyData.eqv, eqv_intsA ns]
theorem eqv_ints (ns : List Int) : PyData.eqv (.list (ns.map PyData.int)) (.list (ns.map PyData.int)) = true := by
  have := eqv_intsA ns
  simpa only [PyData.eqv] using this
theorem dp_ints {K : PySem.W.Frag} {H : Hp} : ∀ ns : List Int, DpAll K H (ns.map V.int) (ns.map PyData.int)
  | [] => .nil
  | n :: ns => .cons (.int n) (dp_ints ns)
theorem neInts {K : PySem.W.Frag} {H : Hp} {a b : Addr} {Q : VK} (ns : List Int) (ha : H a = some (.lst (ns.map V.int))) (hb : H b = some (.lst (ns.map V.int))) (q : Q (.bl false) H) : rNeD K (.ref a) (.ref b) H Q := by
  refine ⟨_, _, .lst (SqL.of ha) (dp_ints ns), .lst (SqL.of hb) (dp_ints ns), shaped_ints ns, shaped_ints ns, ?_⟩
  rw [eqv_ints]
  exact q
theorem eqInts {K : PySem.W.Frag} {H : Hp} {a b : Addr} {Q : VK} (ns : List Int) (ha : H a = some (.lst (ns.map V.int))) (hb : H b = some (.lst (ns.map V.int))) (q : Q (.bl true) H) : rEqD K (.ref a) (.ref b) H Q := by
  refine ⟨_, _, .lst (SqL.of ha) (dp_ints ns), .lst (SqL.of hb) (dp_ints ns), shaped_ints ns, shaped_ints ns, ?_⟩
  rw [eqv_ints]
  exact q
theorem OkG.lit {s : Int} {gs : List (Int × Int)} (h : OkG s gs) : ∃ t0, Gr.lit s gs t0 = true := by
  have g1 := h.1
  match gs, g1, h with
  | g :: r, _, h =>
    have := h.2.2 g List.mem_cons_self
    exact ⟨g.1, lit_iff.mpr ⟨g, List.mem_cons_self, by rw [Int.sub_self, Int.zero_emod]; omega⟩⟩
def spFar : Sp := fun vs H Q _ => ∃ (p g d : Addr) (s n : Int) (gs : List (Int × Int)) (kvs : List (Key × V)), vs = [.ref p, .int s, .ref g, .ref d] ∧ Pond n p H ∧ n ≤ 10 ^ 8 ∧ SigT H g gs ∧ OkG s gs ∧ s ≤ 40 ∧ H d = some (.dK kvs) ∧ LitP s (lit s gs) kvs ∧ ∀ H', But p H H' → Pond (n + 1000) p H' → Q (.bl true) H'
def spRight : Sp := fun vs H Q _ => ∃ (p g : Addr) (s n : Int) (gs : List (Int × Int)), vs = [.ref p, .int s, .ref g] ∧ Pond n p H ∧ n ≤ 10 ^ 8 - 10000 ∧ SigT H g gs ∧ OkG s gs ∧ s ≤ 40 ∧ ∀ H', But p H H' → Pond (n + 3000) p H' → Q (.bl true) H'
section
variable {P : Program} {w : World} {K : PySem.W.Frag} {mg : Str → Option Value} {base : Heap} {tC tG : Tok}
theorem ok_right {f f1 f2 f3 f4 f5 f6 f7 : Addr} {fd fd1 fd2 fd3 fd4 fd5 fd6 fd7 : FuncData} (B : Blt mg tC tG) (Dl_right : Def K mg "_law_right" s_l_right ["_law_pond_here", "_law_span", "_law_greens_here"] f fd) (Dl_fish : Def K mg "_law_fish" s_l_fish ["_law_pond_here", "_law_bound"] f1 fd1) (Dl_rests : Def K mg "_law_rests" s_l_rests ["_law_span", "_law_greens_here"] f2 fd2) (Dnext_green : Def K mg "next_green" s_next_green ["cycle", "signal", "moment"] f3 fd3) (Dlast_green : Def K mg "last_green" s_last_green ["cycle", "signal", "moment"] f4 fd4) (Dcount_green : Def K mg "count_green" s_count_green ["cycle", "signal", "low", "high"] f5 fd5) (Dl_next : Def K mg "_law_next" s_l_next ["_law_span", "_law_lit", "_law_t", "_law_step"] f6 fd6) (Dl_far_right : Def K mg "_law_far_right" s_l_far_right ["_law_pond_here", "_law_span", "_law_greens_here", "_law_lit"] f7 fd7)
    (Gnext_green : FnOk P w K mg base CX0 5 f3 fd3 ["cycle", "signal", "moment"] spNext) (Glast_green : FnOk P w K mg base CX0 5 f4 fd4 ["cycle", "signal", "moment"] spLast) (Gcount_green : FnOk P w K mg base CX0 5 f5 fd5 ["cycle", "signal", "low", "high"] spCount) (Gl_far_right : FnOk P w K mg base CX0 6 f7 fd7 ["_law_pond_here", "_law_span", "_law_greens_here", "_law_lit"] spFar) : FnOk P w K mg base CX0 7 f fd ["_law_pond_here", "_law_span", "_law_greens_here"] spRight := by
  have Gl_fish := ok_fish (P := P) (w := w) (base := base) B Dl_fish
  have Gl_rests := ok_rests (P := P) (w := w) (base := base) B Dl_rests
  have Gl_next := ok_nxt (P := P) (w := w) (base := base) B Dl_next
  refine Dl_right.F.ok scl_right (fun vs H Q E h => ?_) (fun cdv A outer s H vs Q E hr h => ⟨_, (pss_cons (ps_set (i := 3) scl_right.nd rfl (Or.inr rfl) (pe_call Gl_rests (hr.mono (by decide)) (by rfl) Dl_rests.g Dl_rests.F.kp Dl_rests.b .nil pass0 (pa_cons (pv 1) (pa_cons (pv 2) pa_nil))))
  (pss_cons (ps_for PassesOwn.never rfl (pi_range2 (by rfl) B.range (pa_cons (pe_op op_sub (pe_op op_sub pe_int (pv 1)) pe_int) (pa_cons (pe_op op_add (pe_op op_mulW pe_int (pv 1)) pe_int) pa_nil))) (pg_name (i := 4) scl_right.nd rfl (Or.inr rfl))
   (pss_one (ps_if (pt_cmpR (op_neD hr.units) (pe_lst (pa_cons (pe_call Gnext_green (hr.mono (by decide)) (by rfl) Dnext_green.g Dnext_green.F.kp Dnext_green.b .nil pass0 (pa_cons (pv 1) (pa_cons (pv 2) (pa_cons (pv 4) pa_nil)))) (pa_cons (pe_call Glast_green (hr.mono (by decide)) (by rfl) Dlast_green.g Dlast_green.F.kp Dlast_green.b .nil pass0 (pa_cons (pv 1) (pa_cons (pv 2) (pa_cons (pv 4) pa_nil)))) pa_nil))) (pe_lc (own := [("_law_s", 5)]) (g := (gName 5)) (tt := tYes) rfl scl_right.nd (pi_tup (pe_tup (pa_cons pe_int (pa_cons (pe_un un_neg pe_int) pa_nil)))) (blkOk_by (N := ["_law_pond_here", "_law_span", "_law_greens_here", "_law_lit", "_law_t", "_law_s", "_law_turn", "_law_low", "_law_size", "_law_due", "_law_far", "_law_more", "_law_begin", "_law_found"]) (sc := defScope s_l_right) (by decide +kernel)) (fun _ _ _ _ _ => (pg_name (i := 5) scl_right.nd rfl (Or.inl rfl))) (fun _ _ _ _ _ => pts_nil) (fun _ _ _ _ _ => (pe_call Gl_next (hr.mono (by decide)) (by rfl) Dl_next.g Dl_next.F.kp Dl_next.b .nil pass0 (pa_cons (pv 1) (pa_cons (pv 3) (pa_cons (pv 4) (pa_cons (pv 5) pa_nil))))))) (nomark _))
   (pss_one (ps_ret pe_bl))
   pss_nil)))
  (pss_cons (ps_for PassesOwn.never rfl (pi_range1 (by rfl) B.range (pa_cons pe_int pa_nil)) (pg_name (i := 6) scl_right.nd rfl (Or.inl rfl))
   (pss_cons (ps_par (i := 7) (j := 8) rfl scl_right.nd rfl rfl (by decide) rfl rfl (pa_cons (pe_op op_sub (pe_call Gl_fish (hr.mono (by decide)) (by rfl) Dl_fish.g Dl_fish.F.kp Dl_fish.b .nil pass0 (pa_cons (pv 0) (pa_cons (pe_op op_mulW pe_int (pv 1)) pa_nil))) (pe_op op_mulW pe_int (pv 1))) (pa_cons (pe_call Gl_fish (hr.mono (by decide)) (by rfl) Dl_fish.g Dl_fish.F.kp Dl_fish.b .nil pass0 (pa_cons (pv 0) (pa_cons (pe_op op_add (pe_op op_mulW pe_int (pv 1)) pe_int) pa_nil))) pa_nil)) (by rfl))
  (pss_cons (ps_set (i := 9) scl_right.nd rfl (Or.inl rfl) (pe_callB call_len_seq (by rfl) B.len PySem.boot_len (pa_cons (pe_lc (own := [("_law_t", 4)]) (g := (gName 4))  rfl scl_right.nd (pi_range2 (by rfl) B.range (pa_cons (pv 7) (pa_cons (pe_op op_add (pv 7) (pv 8)) pa_nil))) (blkOk_by (N := ["_law_pond_here", "_law_span", "_law_greens_here", "_law_lit", "_law_t", "_law_s", "_law_turn", "_law_low", "_law_size", "_law_due", "_law_far", "_law_more", "_law_begin", "_law_found"]) (sc := defScope s_l_right) (by decide +kernel)) (fun _ _ _ _ _ => (pg_name (i := 4) scl_right.nd rfl (Or.inl rfl))) (fun _ _ _ _ _ => pts_one (pt_cmp (pc_din (hu_of hr) (pe_op op_modN (pv 4) (pv 1)) (pv 3)))) (fun _ _ _ _ _ => (pv 4))) pa_nil)))
  (pss_cons (ps_par (i := 10) (j := 11) rfl scl_right.nd rfl rfl (by decide) rfl rfl (pa_cons (pe_op op_sub (pe_call Gl_fish (hr.mono (by decide)) (by rfl) Dl_fish.g Dl_fish.F.kp Dl_fish.b .nil pass0 (pa_cons (pv 0) (pa_cons (pe_op op_powW pe_int pe_int) pa_nil))) (pe_op op_powW pe_int pe_int)) (pa_cons (pe_call Gl_fish (hr.mono (by decide)) (by rfl) Dl_fish.g Dl_fish.F.kp Dl_fish.b .nil pass0 (pa_cons (pv 0) (pa_cons (pe_op op_powW pe_int pe_int) pa_nil))) pa_nil)) (by rfl))
  (pss_cons (ps_set (i := 12) scl_right.nd rfl (Or.inl rfl) (pe_op op_add (pv 7) (pe_op op_mulW (pv 10) (pv 1))))
  (pss_cons (ps_set (i := 13) scl_right.nd rfl (Or.inl rfl) (pe_lst (pa_cons (pe_call Gcount_green (hr.mono (by decide)) (by rfl) Dcount_green.g Dcount_green.F.kp Dcount_green.b .nil pass0 (pa_cons (pv 1) (pa_cons (pv 2) (pa_cons (pv 7) (pa_cons (pe_op op_add (pv 7) (pv 8)) pa_nil))))) (pa_cons (pe_call Gcount_green (hr.mono (by decide)) (by rfl) Dcount_green.g Dcount_green.F.kp Dcount_green.b .nil pass0 (pa_cons (pv 1) (pa_cons (pv 2) (pa_cons (pv 12) (pa_cons (pv 12) pa_nil))))) pa_nil))))
  (pss_cons (ps_expr (pe_bm PySem.F.plainAttrs_list PySem.F.slot_list_append PySem.F.type_list_append mt_append (pv 13) (pa_cons (pe_call Gcount_green (hr.mono (by decide)) (by rfl) Dcount_green.g Dcount_green.F.kp Dcount_green.b .nil pass0 (pa_cons (pv 1) (pa_cons (pv 2) (pa_cons (pv 12) (pa_cons (pe_op op_add (pe_op op_add (pv 12) (pv 8)) (pe_op op_mulW (pv 11) (pv 1))) pa_nil))))) pa_nil)))
  (pss_one (ps_if (PW.pt (pw_or (pt_cmpR (op_neD hr.units) (pv 13) (pe_lst (pa_cons (pv 9) (pa_cons pe_int (pa_cons (pe_op op_add (pv 9) (pe_op op_mulW (pv 11) (pe_callB call_lenD (by rfl) B.len PySem.boot_len (pa_cons (pv 3) pa_nil)))) pa_nil)))) (nomark _)) (pw_or1 (pt_cmpR op_ne (pe_call Gcount_green (hr.mono (by decide)) (by rfl) Dcount_green.g Dcount_green.F.kp Dcount_green.b .nil pass0 (pa_cons (pv 1) (pa_cons (pv 2) (pa_cons (pe_op op_add (pv 7) pe_int) (pa_cons (pe_op op_sub (pv 7) (pv 8)) pa_nil))))) pe_int (nomark _)))))
   (pss_one (ps_ret pe_bl))
   pss_nil)))))))))
  (pss_one (ps_ret (pe_call Gl_far_right (hr.mono (by decide)) (by rfl) Dl_far_right.g Dl_far_right.F.kp Dl_far_right.b .nil pass0 (pa_cons (pv 0) (pa_cons (pv 1) (pa_cons (pv 2) (pa_cons (pv 3) pa_nil)))))))))), ?_⟩)
  · obtain ⟨p, g, s, n, gs, rfl, _⟩ := h; rfl
  · obtain ⟨p, g, s, n, gs, rfl, hP, hn, hS, hG, hs, q⟩ := h
    have s1 := hG.c1
    have nz : s ≠ 0 := by omega
    have per : ∀ t, lit s gs (t % s) = lit s gs t := fun t => lit_mod s gs t
    have le30 : s ≤ 10 ^ 30 := by omega
    refine ⟨_, rfl, _, rfl, g, s, gs, rfl, hS, hG, by omega, fun d kvs H1 sm1 _ e1 hL => ?_⟩
    have hP1 := hP.same sm1
    have hS1 := hS.mono sm1
    have look : ∀ x : Int, (valV kvs (.inl (x.fmod s))).isSome = lit s gs x := fun x => by
      rw [Int.fmod_eq_emod_of_nonneg _ (by omega), hL.is _ (Int.emod_nonneg _ nz) (Int.emod_lt_of_pos _ (by omega)), per]
    refine ⟨_, rfl, _, _, rfl, rfl, _, _, rfl, rfl, _, rfl, _, _, rfl, rfl, mul30 (by decide) (by decide +kernel) (by omega) (by omega), _, _, rfl, rfl, _, _, rfl, ⟨by omega, by omega, by omega, by omega⟩, ?_⟩
    refine for_range (lo := 0 - s - 1) (fun i σ H' => ∃ y4, σ = [some (.ref p), some (.int s), some (.ref g), some (.ref d), y4, none, none, none, none, none, none, none, none, none] ∧ Same H1 H') ⟨none, rfl, Same.refl _⟩ ?_ ?_
    · rintro i σ H2 hi ⟨y4, rfl, sm2⟩
      refine ⟨_, rfl, _, rfl, _, rfl, g, s, 0 - s - 1 + i, gs, rfl, hS1.mono sm2, hG, le30, fun m1 H3 sm3 nx => ?_⟩
      refine ⟨_, rfl, _, rfl, _, rfl, g, s, 0 - s - 1 + i, gs, rfl, hS1.mono (sm2.trans sm3), hG, le30, fun m2 H4 sm4 la => ⟨(by show 2 ≤ sizeLine; decide), fun L hL' => ?_⟩⟩
      refine ⟨_, rfl, (by show 2 ≤ sizeLine; decide), fun U hU => ⟨U, rfl, ⟨_, SqT.of upd_same⟩, fun D hD => ?_⟩⟩
      have smU := (((sm2.trans sm3).trans sm4).trans (Same.new hL' (o := .lst [.int m1, .int m2]))).trans (Same.new hU (o := .tup [.int 1, .int (-1)]))
      refine lc_tup (xs := [.int 1, .int (-1)]) (fun j H' => Same (upd (upd H4 L (.lst [.int m1, .int m2])) U (.tup [.int 1, .int (-1)])) H' ∧ H' D = some (.lst (([m1, m2].take j).map V.int))) ⟨Same.new hD, upd_same⟩ (fun j H' _ ⟨s1, _⟩ => SqT.of (s1 _ _ upd_same)) ?_ ?_
      · rintro j x H' hx ⟨sm5, e5⟩
        have put : ∀ m : Int, [m1, m2][j]? = some m → ∃ acc, H' D = some (.lst acc) ∧ acc.length < sizeLine ∧ Same (upd (upd H4 L (.lst [.int m1, .int m2])) U (.tup [.int 1, .int (-1)])) (upd H' D (.lst (acc ++ [.int m]))) ∧ (upd H' D (.lst (acc ++ [.int m]))) D = some (.lst (([m1, m2].take (j + 1)).map V.int)) := fun m hm => by
          refine ⟨_, e5, ?_, fun b' o h => ?_, ?_⟩
          · rw [List.length_map, List.length_take]; exact small1000 (by simp; omega)
          · rw [upd_ne (ne_of_none h hD)]; exact sm5 _ _ h
          · rw [upd_same, List.take_add_one, hm, List.map_append]; rfl
        have hd := sm5 _ _ (smU _ _ e1)
        match j, hx, put with
        | 0, hx, put =>
          cases hx
          refine ⟨rfl, _, rfl, _, rfl, _, rfl, _, rfl, d, s, 0 - s - 1 + i, 1, lit s gs, kvs, rfl, hd, hL, per, s1, hG.lit, .inl ⟨rfl, fun m hm => ?_⟩⟩
          rw [hm.uniq nx]
          exact put m1 rfl
        | 1, hx, put =>
          cases hx
          refine ⟨rfl, _, rfl, _, rfl, _, rfl, _, rfl, d, s, 0 - s - 1 + i, -1, lit s gs, kvs, rfl, hd, hL, per, s1, hG.lit, .inr ⟨rfl, fun m hm => ?_⟩⟩
          rw [hm.uniq la]
          exact put m2 rfl
        | j + 2, hx, _ => simp at hx
      · rintro H' ⟨sm5, e5⟩
        refine neInts [m1, m2] (sm5 _ _ (Same.new hU _ _ upd_same)) e5 ⟨false, rfl, iteF ?_⟩
        exact ⟨_, rfl, smU.trans sm5⟩
    · rintro σ H2 ⟨y4, rfl, sm2⟩
      refine ⟨6, rfl, by decide, by decide, ?_⟩
      have hd2 := sm2 _ _ e1
      have cS : ∀ {i j : Int}, 0 ≤ i → i ≤ 10 ^ 30 → 0 ≤ j → j ≤ 10 ^ 30 → CMulW i j := mul30
      refine for_range (lo := 0) (fun i σ H' => ∃ y4 y6 y7 y8 y9 y10 y11 y12 y13, σ = [some (.ref p), some (.int s), some (.ref g), some (.ref d), y4, none, y6, y7, y8, y9, y10, y11, y12, y13] ∧ But p H2 H' ∧ Pond (n + 100 * i) p H') ⟨_, _, _, _, _, _, _, _, _, rfl, But.refl _ _, (hP1.same sm2).mono (by omega)⟩ ?_ ?_
      · rintro i σ H3 hi ⟨z4, y6, y7, y8, y9, y10, y11, y12, y13, rfl, b3, pd3⟩
        refine ⟨_, rfl, _, rfl, _, _, rfl, rfl, cS (by decide) (by decide +kernel) (by omega) (by omega), p, 4 * s, _, rfl, pd3, by omega, by omega, by omega, fun r4 H4 b4 pd4 r40 r41 => ?_⟩
        have two : 2 ≤ sizeLine := by decide
        refine ⟨_, rfl, _, _, rfl, rfl, cS (by decide) (by decide +kernel) (by omega) (by omega), _, _, rfl, rfl, _, rfl, _, rfl, _, _, rfl, rfl, cS (by decide) (by decide +kernel) (by omega) (by omega), _, _, rfl, rfl, p, 3 * s + 2, _, rfl, pd4, by omega, by omega, by omega, fun r5 H5 b5 pd5 r50 r51 => ⟨_, _, rfl, ?_⟩⟩
        have hlow : -(2 * s) ≤ r4 - 2 * s ∧ r4 - 2 * s < 2 * s := by omega
        -- due
        obtain ⟨pu3, hpu3⟩ := pd3.some
        obtain ⟨pu4, hpu4⟩ := pd4.some
        obtain ⟨pu2, hpu2⟩ := (hP1.same sm2).some
        have hd3 := b3 d _ (ne_of hd2 hpu2 (fun z => nomatch z)) hd2
        have hd4 := b4 d _ (ne_of hd3 hpu3 (fun z => nomatch z)) hd3
        have hd5 := b5 d _ (ne_of hd4 hpu4 (fun z => nomatch z)) hd4
        have hS5 := (((hS1.mono sm2).but b3 hpu2).but b4 hpu3).but b5 hpu4
        refine ⟨_, rfl, _, rfl, _, rfl, _, _, rfl, rfl, _, _, rfl, ⟨by omega, by omega, by omega, by omega⟩, fun D hD => ?_⟩
        refine lc_range (lo := r4 - 2 * s) (n := (r4 - 2 * s + r5 - (r4 - 2 * s)).toNat) (fun j H' => ∃ ts, Same H5 H' ∧ H' D = some (.lst (ts.map V.int)) ∧ (ts.length : Int) = cnt (lit s gs) (r4 - 2 * s) j ∧ ts.length ≤ j) ⟨[], Same.new hD, upd_same, rfl, Nat.le_refl _⟩ ?_ ?_
        · rintro j H' hj ⟨ts, sm6, e6, c6, l6⟩
          refine ⟨rfl, _, rfl, _, rfl, _, _, rfl, rfl, nz, _, rfl, d, _, rfl, DGet.k (k := .inl _) (sm6 _ _ hd5), ?_⟩
          have step : cnt (lit s gs) (r4 - 2 * s) (j + 1) = cnt (lit s gs) (r4 - 2 * s) j + if lit s gs (r4 - 2 * s + j) then 1 else 0 := rfl
          cases el : lit s gs (r4 - 2 * s + j) with
          | true =>
            refine ⟨true, congrArg V.bl ((look _).trans el), ?_⟩
            refine ⟨_, rfl, _, e6, small1000 (by rw [List.length_map]; omega), ts ++ [r4 - 2 * s + j], fun b' o h => ?_, ?_, ?_, by simp; omega⟩
            · rw [upd_ne (ne_of_none h hD)]; exact sm6 _ _ h
            · rw [upd_same, List.map_append]; rfl
            · rw [step, el, List.length_append, ← c6]; simp
          | false =>
            refine ⟨false, congrArg V.bl ((look _).trans el), ?_⟩
            exact ⟨ts, sm6, e6, by rw [step, el, c6]; simp, by omega⟩
        · rintro H6 ⟨ts, sm6, e6, c6, l6⟩
          have en : (r4 - 2 * s + r5 - (r4 - 2 * s)).toNat = r5.toNat := by congr 1; omega
          rw [en] at c6 l6
          refine ⟨D, _, rfl, .inl (SqL.of e6), ?_⟩
          have cp60 : CPowW 10 60 := ⟨by decide, by decide +kernel⟩
          have cp59 : CPowW 10 59 := ⟨by decide, by decide +kernel⟩
          have cp40 : CPowW 10 40 := ⟨by decide, by decide +kernel⟩
          have e60 : (10 : Int) ^ (60 : Int).toNat = 10 ^ 60 := rfl
          have e59 : (10 : Int) ^ (59 : Int).toNat = 10 ^ 59 := rfl
          have e40 : (10 : Int) ^ (40 : Int).toNat = 10 ^ 40 := rfl
          have pd6 := pd5.same sm6
          refine ⟨_, rfl, _, _, rfl, rfl, cp60, p, _, _, rfl, pd6, by omega, by rw [e60]; omega, by rw [e60]; omega, fun r6 H7 b7 pd7 r60 r61 => ⟨_, _, rfl, rfl, cp59, _, _, rfl, rfl, ?_⟩⟩
          refine ⟨_, rfl, _, _, rfl, rfl, cp40, p, _, _, rfl, pd7, by omega, by rw [e40]; omega, by rw [e40]; omega, fun r7 H8 b8 pd8 r70 r71 => ⟨_, _, rfl, ?_⟩⟩
          rw [e60] at r61
          rw [e40] at r71
          have big : (10 : Int) ^ 60 * 1000 < ((2 ^ 600 : Nat) : Int) := by decide +kernel
          have f1 : (r6 - 10 ^ (59 : Int).toNat).natAbs < 2 ^ 600 := by
            rw [e59]
            have := natAbs_lt (i := r6) (k := 600) r60 (by omega)
            omega
          have F1 := Int.mul_le_mul_of_nonneg_right (show r6 - 10 ^ (59 : Int).toNat ≤ 10 ^ 60 by rw [e59]; omega) (show 0 ≤ s by omega)
          have F2 := Int.mul_le_mul_of_nonneg_right (show -(10 ^ 60) ≤ r6 - 10 ^ (59 : Int).toNat by rw [e59]; omega) (show 0 ≤ s by omega)
          have M1 := Int.mul_le_mul_of_nonneg_right (show r7 ≤ 10 ^ 40 by omega) (show 0 ≤ s by omega)
          have M0 := Int.mul_nonneg r70 (show 0 ≤ s by omega)
          have sN : s.natAbs < 2 ^ 300 := natAbs_lt (by omega) (by
            have : (40 : Int) < ((2 ^ 300 : Nat) : Int) := by decide +kernel
            omega)
          have mF : CMulW (r6 - 10 ^ (59 : Int).toNat) s := wide_mul (a := 600) (b := 300) f1 sN (by decide) (by decide) (by decide)
          have mM : CMulW r7 s := wide_mul (a := 600) (b := 300) (natAbs_lt r70 (by omega)) sN (by decide) (by decide) (by decide)
          refine ⟨_, rfl, _, rfl, _, rfl, _, _, rfl, rfl, mF, _, _, rfl, rfl, ?_⟩
          have fit : ∀ x : Int, -(10 ^ 60 * 900) ≤ x → x ≤ 10 ^ 60 * 900 → x.natAbs < 2 ^ 600 := fun x x0 x1 => by omega
          obtain ⟨pu6, hpu6⟩ := pd6.some
          obtain ⟨pu7, hpu7⟩ := pd7.some
          have hS8 := ((hS5.mono sm6).but b7 hpu6).but b8 hpu7
          have hd6 := sm6 _ _ hd5
          have hd7 := b7 d _ (ne_of hd6 hpu6 (fun z => nomatch z)) hd6
          have hd8 := b8 d _ (ne_of hd7 hpu7 (fun z => nomatch z)) hd7
          generalize hFs : (r6 - 10 ^ (59 : Int).toNat) = far at F1 F2 mF f1 ⊢
          refine ⟨_, rfl, _, rfl, _, rfl, _, rfl, _, rfl, _, _, rfl, rfl, g, s, r4 - 2 * s, r4 - 2 * s + r5, gs, rfl, hS8, hG, le30, fit _ (by omega) (by omega), fit _ (by omega) (by omega), fun H9 sm9 => ?_⟩
          refine ⟨_, rfl, _, rfl, _, rfl, _, rfl, g, s, r4 - 2 * s + far * s, r4 - 2 * s + far * s, gs, rfl, hS8.mono sm9, hG, le30, fit _ (by omega) (by omega), fit _ (by omega) (by omega), fun H10 sm10 => ⟨two, fun F hF => ?_⟩⟩
          have smF := (sm9.trans sm10).trans (Same.new hF (o := .lst [.int (cnt (lit s gs) (r4 - 2 * s) (r4 - 2 * s + r5 - (r4 - 2 * s)).toNat), .int (cnt (lit s gs) (r4 - 2 * s + far * s) (r4 - 2 * s + far * s - (r4 - 2 * s + far * s)).toNat)]))
          refine ⟨_, rfl, .inl ⟨rfl, _, SqL.of upd_same⟩, ?_⟩
          refine ⟨_, rfl, _, rfl, _, rfl, _, rfl, _, rfl, _, _, rfl, rfl, _, rfl, _, rfl, _, _, rfl, rfl, mM, _, _, rfl, rfl, g, s, r4 - 2 * s + far * s, r4 - 2 * s + far * s + r5 + r7 * s, gs, rfl, hS8.mono smF, hG, le30, fit _ (by omega) (by omega), fit _ (by omega) (by omega), fun H11 sm11 => ?_⟩
          have eF := sm11 _ _ (upd_same (H := H10) (a := F) (o := .lst [.int (cnt (lit s gs) (r4 - 2 * s) (r4 - 2 * s + r5 - (r4 - 2 * s)).toNat), .int (cnt (lit s gs) (r4 - 2 * s + far * s) (r4 - 2 * s + far * s - (r4 - 2 * s + far * s)).toNat)]))
          refine ⟨F, _, _, rfl, rfl, eF, small1000 (by simp), ?_⟩
          have sm8 := smF.trans sm11
          have hd11 := sm8 _ _ hd8
          -- what was found
          have shift : ∀ t, lit s gs (t + far * s) = lit s gs t := fun t => by rw [Int.mul_comm]; exact per_mul per t far
          have v1 : cnt (lit s gs) (r4 - 2 * s) (r4 - 2 * s + r5 - (r4 - 2 * s)).toNat = (ts.length : Int) := by rw [en, c6]
          have v2 : cnt (lit s gs) (r4 - 2 * s + far * s) (r4 - 2 * s + far * s - (r4 - 2 * s + far * s)).toNat = 0 := cnt_zero _ _ _ (Int.le_refl _)
          have v3 : cnt (lit s gs) (r4 - 2 * s + far * s) (r4 - 2 * s + far * s + r5 + r7 * s - (r4 - 2 * s + far * s)).toNat = (ts.length : Int) + r7 * (kvs.length : Int) := by
            have eN : (r4 - 2 * s + far * s + r5 + r7 * s - (r4 - 2 * s + far * s)).toNat = r5.toNat + r7.toNat * s.toNat := by
              have : (((r5.toNat + r7.toNat * s.toNat : Nat)) : Int) = r5 + r7 * s := by
                push_cast
                rw [Int.toNat_of_nonneg r50, Int.toNat_of_nonneg r70, Int.toNat_of_nonneg (by omega)]
              omega
            rw [eN, cnt_more per s1, cnt_shift shift, ← c6, ← hL.count (by omega), Int.toNat_of_nonneg r70]
          have kl := cnt_le (lit s gs) 0 s.toNat
          rw [← hL.count (by omega)] at kl
          have mK : CMulW r7 (kvs.length : Int) := wide_mul (a := 600) (b := 300) (natAbs_lt r70 (by omega)) (natAbs_lt (by omega) (by
            have : (40 : Int) < ((2 ^ 300 : Nat) : Int) := by decide +kernel
            omega)) (by decide) (by decide) (by decide)
          have eE : (upd H11 F (.lst ([.int (cnt (lit s gs) (r4 - 2 * s) (r4 - 2 * s + r5 - (r4 - 2 * s)).toNat), .int (cnt (lit s gs) (r4 - 2 * s + far * s) (r4 - 2 * s + far * s - (r4 - 2 * s + far * s)).toNat)] ++ [.int (cnt (lit s gs) (r4 - 2 * s + far * s) (r4 - 2 * s + far * s + r5 + r7 * s - (r4 - 2 * s + far * s)).toNat)]))) F = some (.lst ([(ts.length : Int), 0, (ts.length : Int) + r7 * (kvs.length : Int)].map V.int)) := by
            rw [upd_same, v1, v2, v3]; rfl
          have nFn : H8 F = none := by
            cases e : H8 F with
            | none => rfl
            | some o => rw [(sm9.trans sm10) _ _ e] at hF; cases hF
          have smE : Same H8 (upd H11 F (.lst ([.int (cnt (lit s gs) (r4 - 2 * s) (r4 - 2 * s + r5 - (r4 - 2 * s)).toNat), .int (cnt (lit s gs) (r4 - 2 * s + far * s) (r4 - 2 * s + far * s - (r4 - 2 * s + far * s)).toNat)] ++ [.int (cnt (lit s gs) (r4 - 2 * s + far * s) (r4 - 2 * s + far * s + r5 + r7 * s - (r4 - 2 * s + far * s)).toNat)]))) := fun b' o h => by
            rw [upd_ne (ne_of_none h nFn)]; exact sm8 _ _ h
          generalize (upd H11 F (.lst ([.int (cnt (lit s gs) (r4 - 2 * s) (r4 - 2 * s + r5 - (r4 - 2 * s)).toNat), .int (cnt (lit s gs) (r4 - 2 * s + far * s) (r4 - 2 * s + far * s - (r4 - 2 * s + far * s)).toNat)] ++ [.int (cnt (lit s gs) (r4 - 2 * s + far * s) (r4 - 2 * s + far * s + r5 + r7 * s - (r4 - 2 * s + far * s)).toNat)]))) = HE at eE smE ⊢
          refine ⟨_, rfl, _, rfl, _, rfl, _, rfl, _, rfl, d, kvs, rfl, smE _ _ hd8, _, _, rfl, rfl, mK, _, _, rfl, rfl, (by show 3 ≤ sizeLine; decide), fun M hM => ?_⟩
          refine neInts [(ts.length : Int), 0, (ts.length : Int) + r7 * (kvs.length : Int)] (Same.new hM _ _ eE) (by rw [upd_same, List.length_map]; rfl) ⟨false, rfl, ?_⟩
          refine ⟨_, rfl, _, rfl, _, rfl, _, _, rfl, rfl, _, rfl, _, rfl, _, _, rfl, rfl, g, s, r4 - 2 * s + 1, r4 - 2 * s - r5, gs, rfl, (hS8.mono smE).mono (Same.new hM), hG, le30, fit _ (by omega) (by omega), fit _ (by omega) (by omega), fun H12 sm12 => ?_⟩
          rw [cnt_zero _ _ _ (by omega)]
          refine ⟨rfl, false, rfl, iteF ?_⟩
          refine ⟨_, _, _, _, _, _, _, _, _, rfl, (b3.trans (b4.trans b5)).trans ((Same.but sm6).trans ((b7.trans b8).trans (Same.but ((smE.trans (Same.new hM)).trans sm12)))), (pd8.same ((smE.trans (Same.new hM)).trans sm12)).mono (by push_cast; omega)⟩
      · rintro σ H3 ⟨z4, y6, y7, y8, y9, y10, y11, y12, y13, rfl, b3, pd3⟩
        obtain ⟨pu2, hpu2⟩ := (hP1.same sm2).some
        refine ⟨_, rfl, _, rfl, _, rfl, _, rfl, p, g, d, s, _, gs, kvs, rfl, pd3, by omega, (hS1.mono sm2).but b3 hpu2, hG, hs, b3 d _ (ne_of hd2 hpu2 (fun z => nomatch z)) hd2, hL, fun H' b' pd' => ?_⟩
        exact q _ ((Same.but (sm1.trans sm2)).trans (b3.trans b')) (pd'.mono (by push_cast; omega))
end
end Gr

set_option Elab.async false
set_option linter.all false
set_option pp.deepTerms false
set_option pp.maxSteps 3000
set_option maxRecDepth 100000
set_option maxHeartbeats 4000000
namespace Gr
open PySem PySem.Spec PyProof.Rows L2
theorem call_min_twoH {prog : Program} {w : World} {A : Around} {E : Value → Shared → Prop} {s : Shared} {a b : Value} {Q : Value → Shared → Prop}
    (h : wpAny (model prog w) A.in1 (pyIter (Value.ref s.heap.objs.size)) (fun it s₂ => ∃ I fp wr G n P St H bt, it = .ref I ∧ WalksS prog w A.in1 I fp wr G n P St ∧ St 0 s₂ ∧ (∀ b ∈ fp, b < s₂.heap.objs.size) ∧ 0 < n ∧ (∀ (b : Addr) (o : Obj), H.get? b = some o → ¬ b ∈ wr) ∧ (∀ (b : Addr) (o : Obj), H.get? b = some o → s₂.heap.get? b = some o) ∧ CmpIn prog w A.in1 CmpOp.Lt H P bt ∧ ∀ (v : Value) (s' : Shared), P (argBest bt (n - 1)) v → Moved wr G s₂ s' → Q v s') E
      { s with heap := s.heap.push { cls := Value.type "tuple", data := Data.seq #[a, b] } }) : wpAny (model prog w) A (call (.builtin "min") [a, b]) Q E s := by
  refine call_function_tree F.kind_min F.plain_min F.entry_min (F.args_min2 a b) ?_
  refine id (wpAny_bind ?_)
  refine wpAny_of_eq (show Builtin.Builtins.bindParams "min" ["key", "default"] 0 {} = pure [none, none] from rfl) ?_
  refine id (wpAny_bind (wpAny_newObj_type (wpAny_bind (wpAny_mono h ?_ fun x x_1 e => e)) ?_))
  · rintro it s₂ ⟨I, fp, wr, G, n, P, St, H, bt, rfl, W, hst, hfp, hn, hw, hkeep, hcmp, hQ⟩
    refine wpAny_bind (wpAny_newObj_type ?_ ?_)
    · have hSf : ¬ s₂.heap.objs.size ∈ fp := fun hm => Nat.lt_irrefl s₂.heap.objs.size (hfp s₂.heap.objs.size hm)
      have hname : (toString "min" ++ toString ".loop") = "min.loop" := by decide
      rw [hname]
      refine wpAny_pure ⟨plainId_quiet F.plain_min_loop _, ?_⟩
      refine codeAny_min_loop_firstH W H hw bt hcmp s₂.heap.objs.size hSf (fresh_in hkeep) _ hn (fun b o e => Heap.get?_push_of_some _ (hkeep b o e)) (W.frame 0 s₂ (s₂.heap.push { cls := Value.type "list", data := Data.seq #[] }) s₂.toks hst (Nat.le_refl s₂.toks) fun b x o e => Heap.get?_push_of_some _ e) (Heap.get?_push_size s₂.1 rfl) fun v s' hP hm => ?_
      exact hQ v s' hP (Moved.drop_new hm (Nat.le_refl s₂.toks))
    · show 0 ≤ sizeLine; exact Nat.zero_le _
  · show 2 ≤ sizeLine; decide
theorem call_max_twoH {prog : Program} {w : World} {A : Around} {E : Value → Shared → Prop} {s : Shared} {a b : Value} {Q : Value → Shared → Prop}
    (h : wpAny (model prog w) A.in1 (pyIter (Value.ref s.heap.objs.size)) (fun it s₂ => ∃ I fp wr G n P St H bt, it = .ref I ∧ WalksS prog w A.in1 I fp wr G n P St ∧ St 0 s₂ ∧ (∀ b ∈ fp, b < s₂.heap.objs.size) ∧ 0 < n ∧ (∀ (b : Addr) (o : Obj), H.get? b = some o → ¬ b ∈ wr) ∧ (∀ (b : Addr) (o : Obj), H.get? b = some o → s₂.heap.get? b = some o) ∧ CmpIn prog w A.in1 CmpOp.Gt H P bt ∧ ∀ (v : Value) (s' : Shared), P (argBest bt (n - 1)) v → Moved wr G s₂ s' → Q v s') E
      { s with heap := s.heap.push { cls := Value.type "tuple", data := Data.seq #[a, b] } }) : wpAny (model prog w) A (call (.builtin "max") [a, b]) Q E s := by
  refine call_function_tree F.kind_max F.plain_max F.entry_max (F.args_max2 a b) ?_
  refine id (wpAny_bind ?_)
  refine wpAny_of_eq (show Builtin.Builtins.bindParams "max" ["key", "default"] 0 {} = pure [none, none] from rfl) ?_
  refine id (wpAny_bind (wpAny_newObj_type (wpAny_bind (wpAny_mono h ?_ fun x x_1 e => e)) ?_))
  · rintro it s₂ ⟨I, fp, wr, G, n, P, St, H, bt, rfl, W, hst, hfp, hn, hw, hkeep, hcmp, hQ⟩
    refine wpAny_bind (wpAny_newObj_type ?_ ?_)
    · have hSf : ¬ s₂.heap.objs.size ∈ fp := fun hm => Nat.lt_irrefl s₂.heap.objs.size (hfp s₂.heap.objs.size hm)
      have hname : (toString "max" ++ toString ".loop") = "max.loop" := by decide
      rw [hname]
      refine wpAny_pure ⟨plainId_quiet F.plain_max_loop _, ?_⟩
      refine codeAny_max_loop_firstH W H hw bt hcmp s₂.heap.objs.size hSf (fresh_in hkeep) _ hn (fun b o e => Heap.get?_push_of_some _ (hkeep b o e)) (W.frame 0 s₂ (s₂.heap.push { cls := Value.type "list", data := Data.seq #[] }) s₂.toks hst (Nat.le_refl s₂.toks) fun b x o e => Heap.get?_push_of_some _ e) (Heap.get?_push_size s₂.1 rfl) fun v s' hP hm => ?_
      exact hQ v s' hP (Moved.drop_new hm (Nat.le_refl s₂.toks))
    · show 0 ≤ sizeLine; exact Nat.zero_le _
  · show 2 ≤ sizeLine; decide
theorem reads_ints {h : Heap} : ∀ {ns : List Int} {us : List Value}, Vals (ns.map V.int) us → ReadsAll h us (ns.map PyData.int) []
  | [], [], _ => .nil
  | n :: ns, u :: us, r => by
    cases r with
    | cons r t =>
      obtain ⟨k, rfl⟩ := r
      exact ReadsAll.cons (as := []) (bs := []) (.int n k) (reads_ints t)
theorem tup_reads {X : Cx} {pins : List (Addr × Obj)} {σ : L2.St} {H : Hp} {s : Shared} {a : Addr} {ns : List Int} (I : L2.Inv X pins σ H s) (h : SqT X.K H a (ns.map V.int)) : Reads s.heap (.ref a) (.tuple (ns.map PyData.int)) [] := by
  obtain ⟨its, r, ⟨o, h1, h2, n, h3⟩, _⟩ := Inv.tuple I h
  exact .tuple h1 h2 h3 (reads_ints r)
def t3 (n : Int × Int × Int) : List Int := [n.1, n.2.1, n.2.2]
def d3 (n : Int × Int × Int) : PyData := .tuple ((t3 n).map PyData.int)
def rMinT (K : PySem.W.Frag) : List V → Hp → VK → Prop := fun vs H Q => ∃ (a b : Addr) (n m : Int × Int × Int), vs = [.ref a, .ref b] ∧ SqT K H a ((t3 n).map V.int) ∧ SqT K H b ((t3 m).map V.int) ∧ Q (.ref (if PySem.W.dataLt (d3 m) (d3 n) = true then b else a)) H
def rMaxT (K : PySem.W.Frag) : List V → Hp → VK → Prop := fun vs H Q => ∃ (a b : Addr) (n m : Int × Int × Int), vs = [.ref a, .ref b] ∧ SqT K H a ((t3 n).map V.int) ∧ SqT K H b ((t3 m).map V.int) ∧ Q (.ref (if PySem.W.dataLt (d3 n) (d3 m) = true then b else a)) H
theorem alike3 (n m : Int × Int × Int) : PySem.W.AlikeAll [d3 n, d3 m] := by
  refine ⟨fun x hx y hy => ?_, fun x hx => ?_⟩
  · simp only [List.mem_cons, List.not_mem_nil, or_false] at hx hy
    rcases hx with rfl | rfl <;> rcases hy with rfl | rfl <;> simp [d3, t3, PySem.W.alike, PySem.W.alikeAll]
  · simp only [List.mem_cons, List.not_mem_nil, or_false] at hx
    rcases hx with rfl | rfl <;> simp [d3]
theorem depth_ints0 : ∀ ns : List Int, PyData.depthAll (ns.map PyData.int) ≤ 5
  | [] => by simp [PyData.depthAll]
  | n :: ns => by
    have := depth_ints0 ns
    simp only [List.map_cons, PyData.depthAll, PyData.depth]
    omega
theorem depth3 (n m : Int × Int × Int) : PyData.depthAll [d3 n, d3 m] ≤ 20 := by
  have a := depth_ints0 (t3 n)
  have b := depth_ints0 (t3 m)
  simp only [PyData.depthAll, PyData.depth, d3]
  omega
theorem call_minT {X : Cx} (hc : X.calm = true) (hu : X.A.units + 64 < cLine) : CallR X (.builtin "min") (rMinT X.K) := by
  rintro pins s σ H xs us Q I r ⟨a, b, n, m, rfl, ha, hb, q⟩
  obtain ⟨u, v, rfl, ru, rv⟩ := vals2 r
  cases ru
  cases rv
  refine call_min_twoH ?_
  have hT : Heap.IsTuple (s.heap.push { cls := Value.type "tuple", data := Data.seq #[Value.ref a, Value.ref b] }) s.heap.objs.size #[Value.ref a, Value.ref b] := ⟨_, Heap.get?_push_size s.heap rfl, rfl, 0, rfl⟩
  have rd : ReadsAll s.heap [Value.ref a, Value.ref b] [d3 n, d3 m] [] := ReadsAll.cons (as := []) (bs := []) (tup_reads I ha) (ReadsAll.cons (as := []) (bs := []) (tup_reads I hb) .nil)
  have dp := depth3 n m
  refine PySem.W.iter_tupleW (I.ok.hd hc) hT fun s₂ e2 W st fp old keep => ?_
  refine ⟨_, _, _, _, 2, _, _, s.heap, fun i j => PySem.W.dataLt ([d3 n, d3 m].getD i .none) ([d3 n, d3 m].getD j .none), rfl, W, st, fp, by decide, fun c o e => old c o (Heap.get?_push_of_some _ e), fun c o e => keep c o (Heap.get?_push_of_some _ e), PySem.W.cmpIn_lt (vs := #[Value.ref a, Value.ref b]) rd (alike3 n m) (by show X.A.units + 1 + _ < cLine; omega), fun v s' hP hm => ?_⟩
  have es : s' = { heap := s'.heap, gens := s.gens, drawn := s.drawn, toks := s'.toks, os := s.os } := by
    have g1 := hm.gens
    have g2 := hm.drawn
    have g3 := hm.os
    subst e2
    cases s'
    simp only at g1 g2 g3
    subst g1 g2 g3
    rfl
  have inv : L2.Inv X pins σ H s' := by
    rw [es]
    exact I.kept fun c o e => hm.heap c o (old c o (Heap.get?_push_of_some _ e)) (keep c o (Heap.get?_push_of_some _ e))
  by_cases z : PySem.W.dataLt (d3 m) (d3 n) = true
  · rw [if_pos z] at q
    have e : argBest (fun i j => PySem.W.dataLt ([d3 n, d3 m].getD i .none) ([d3 n, d3 m].getD j .none)) (2 - 1) = 1 := by
      show (if PySem.W.dataLt (d3 m) (d3 n) = true then 1 else 0) = 1
      rw [if_pos z]
    rw [e] at hP
    cases hP
    exact ⟨.ref b, H, inv, rfl, q⟩
  · rw [if_neg z] at q
    have e : argBest (fun i j => PySem.W.dataLt ([d3 n, d3 m].getD i .none) ([d3 n, d3 m].getD j .none)) (2 - 1) = 0 := by
      show (if PySem.W.dataLt (d3 m) (d3 n) = true then 1 else 0) = 0
      rw [if_neg z]
    rw [e] at hP
    cases hP
    exact ⟨.ref a, H, inv, rfl, q⟩
theorem call_maxT {X : Cx} (hc : X.calm = true) (hu : X.A.units + 64 < cLine) : CallR X (.builtin "max") (rMaxT X.K) := by
  rintro pins s σ H xs us Q I r ⟨a, b, n, m, rfl, ha, hb, q⟩
  obtain ⟨u, v, rfl, ru, rv⟩ := vals2 r
  cases ru
  cases rv
  refine call_max_twoH ?_
  have hT : Heap.IsTuple (s.heap.push { cls := Value.type "tuple", data := Data.seq #[Value.ref a, Value.ref b] }) s.heap.objs.size #[Value.ref a, Value.ref b] := ⟨_, Heap.get?_push_size s.heap rfl, rfl, 0, rfl⟩
  have rd : ReadsAll s.heap [Value.ref a, Value.ref b] [d3 n, d3 m] [] := ReadsAll.cons (as := []) (bs := []) (tup_reads I ha) (ReadsAll.cons (as := []) (bs := []) (tup_reads I hb) .nil)
  have dp := depth3 n m
  refine PySem.W.iter_tupleW (I.ok.hd hc) hT fun s₂ e2 W st fp old keep => ?_
  refine ⟨_, _, _, _, 2, _, _, s.heap, fun i j => PySem.W.dataLt ([d3 n, d3 m].getD j .none) ([d3 n, d3 m].getD i .none), rfl, W, st, fp, by decide, fun c o e => old c o (Heap.get?_push_of_some _ e), fun c o e => keep c o (Heap.get?_push_of_some _ e), PySem.W.cmpIn_gt (vs := #[Value.ref a, Value.ref b]) rd (alike3 n m) (by show X.A.units + 1 + _ < cLine; omega), fun v s' hP hm => ?_⟩
  have es : s' = { heap := s'.heap, gens := s.gens, drawn := s.drawn, toks := s'.toks, os := s.os } := by
    have g1 := hm.gens
    have g2 := hm.drawn
    have g3 := hm.os
    subst e2
    cases s'
    simp only at g1 g2 g3
    subst g1 g2 g3
    rfl
  have inv : L2.Inv X pins σ H s' := by
    rw [es]
    exact I.kept fun c o e => hm.heap c o (old c o (Heap.get?_push_of_some _ e)) (keep c o (Heap.get?_push_of_some _ e))
  by_cases z : PySem.W.dataLt (d3 n) (d3 m) = true
  · rw [if_pos z] at q
    have e : argBest (fun i j => PySem.W.dataLt ([d3 n, d3 m].getD j .none) ([d3 n, d3 m].getD i .none)) (2 - 1) = 1 := by
      show (if PySem.W.dataLt (d3 n) (d3 m) = true then 1 else 0) = 1
      rw [if_pos z]
    rw [e] at hP
    cases hP
    exact ⟨.ref b, H, inv, rfl, q⟩
  · rw [if_neg z] at q
    have e : argBest (fun i j => PySem.W.dataLt ([d3 n, d3 m].getD j .none) ([d3 n, d3 m].getD i .none)) (2 - 1) = 0 := by
      show (if PySem.W.dataLt (d3 n) (d3 m) = true then 1 else 0) = 0
      rw [if_neg z]
    rw [e] at hP
    cases hP
    exact ⟨.ref a, H, inv, rfl, q⟩
theorem lt3 {n m : Int × Int × Int} : PySem.W.dataLt (d3 n) (d3 m) = decide (n.1 < m.1 ∨ (n.1 = m.1 ∧ (n.2.1 < m.2.1 ∨ (n.2.1 = m.2.1 ∧ n.2.2 < m.2.2)))) := by
  simp [PySem.W.dataLt, d3, t3, PySem.W.keyToks, PySem.W.keyToksAll, PyProof.Rows.lexLt, PyProof.Rows.itemLt]
  rw [Bool.eq_iff_iff]
  simp only [Bool.or_eq_true, Bool.and_eq_true, Bool.not_eq_true', decide_eq_true_eq, decide_eq_false_iff_not]
  omega
end Gr

set_option Elab.async false
set_option linter.all false
set_option pp.deepTerms false
set_option pp.maxSteps 3000
set_option maxRecDepth 100000
set_option maxHeartbeats 8000000
set_option exponentiation.threshold 3000
namespace Gr
open PySem PySem.Spec PyProof.Rows L2
theorem for_zipN {K : PySem.W.Frag} {a b : Addr} {xs ys : List V} {g : TG} {tb : TS} {D : Ends} {σ : L2.St} {H : Hp} (Pv : Nat → L2.St → Hp → Prop) (hl : ys.length ≤ xs.length) (h0 : Pv 0 σ H) (hq : ∀ i σ H, Pv i σ H → SqL K H a xs ∧ SqL K H b ys)
    (hs : ∀ (i : Nat) (x y : V) (T : Addr) (σ : L2.St) (H : Hp), xs[i]? = some x → ys[i]? = some y → Pv i σ H → H T = none → g (.ref T) σ (upd H T (.tup [x, y])) fun σ2 H2 => tb { nx := Pv (i + 1), rt := D.rt, bk := D.nx, ct := Pv (i + 1) } σ2 H2)
    (hd : ∀ i σ H, Pv i σ H → D.nx σ H) :
    ∃ W : Nat → Nat → L2.St → Hp → Prop, (∃ m, W 0 m σ H) ∧ ∀ i m σ H, W i m σ H → ((Itz K a b).stop i H ∧ D.nx σ H) ∨ ((Itz K a b).go i H ∧ ∃ N, (∀ σ' H', N σ' H' → ∃ m', m' < m ∧ W (i + 1) m' σ' H') ∧ ∀ x H', (Itz K a b).yld i H x H' → g x σ H' fun σ2 H2 => tb { nx := N, rt := D.rt, bk := D.nx, ct := N } σ2 H2) := by
  refine ⟨fun i m σ H => Pv i σ H ∧ m = ys.length - i, ⟨_, h0, rfl⟩, ?_⟩
  rintro i m σ H ⟨p, rfl⟩
  obtain ⟨qa, qb⟩ := hq i σ H p
  by_cases hi : i < ys.length
  · refine .inr ⟨⟨xs, ys, xs[i], ys[i], qa, qb, List.getElem?_eq_getElem _, List.getElem?_eq_getElem hi⟩, Pv (i + 1), fun σ' H' n => ⟨_, by omega, n, rfl⟩, ?_⟩
    rintro x H' ⟨T, u, v, rfl, hT, rfl, hu, hv⟩
    exact hs i u v T σ H (hu xs qa) (hv ys qb) p hT
  · exact .inl ⟨⟨xs, ys, qa, qb, .inr (by omega)⟩, hd i σ H p⟩
/-! ### blocks of moments -/
theorem div_lo {t r f : Int} (hf : 0 < f) (r0 : 0 ≤ r) (r1 : r < f) : (t * f + r) / f = t := by
  rw [Int.add_comm, Int.add_mul_ediv_right _ _ (by omega), Int.ediv_eq_zero_of_lt r0 r1, Int.zero_add]
theorem next_far {f t r u : Int} {h : Int → Bool} (hf : 0 < f) (r0 : 0 ≤ r) (r1 : r < f) (n : NextAt h t u) (z : h t = false) : NextAt (fun x => h (x / f)) (t * f + r) (u * f) := by
  have tu : t < u := by
    have : t ≠ u := fun e => by rw [e, n.2.1] at z; cases z
    have := n.1
    omega
  have m := Int.mul_le_mul_of_nonneg_right (show t + 1 ≤ u by omega) (show 0 ≤ f by omega)
  rw [Int.add_mul, Int.one_mul] at m
  refine ⟨by omega, ?_, fun k k0 k1 => ?_⟩
  · show h (u * f / f) = true
    rw [Int.mul_ediv_cancel _ (by omega)]; exact n.2.1
  · refine n.2.2 (k / f) ?_ (Int.ediv_lt_of_lt_mul hf k1)
    have := Int.ediv_le_ediv hf k0
    rwa [div_lo hf r0 r1] at this
theorem last_far {f t r u : Int} {h : Int → Bool} (hf : 0 < f) (r0 : 0 ≤ r) (r1 : r < f) (n : LastAt h t u) (z : h t = false) : LastAt (fun x => h (x / f)) (t * f + r) ((u + 1) * f - 1) := by
  have tu : u < t := by
    have : t ≠ u := fun e => by rw [e, n.2.1] at z; cases z
    have := n.1
    omega
  have m := Int.mul_le_mul_of_nonneg_right (show u + 1 ≤ t by omega) (show 0 ≤ f by omega)
  refine ⟨by omega, ?_, fun k k0 k1 => ?_⟩
  · show h (((u + 1) * f - 1) / f) = true
    rw [show (u + 1) * f - 1 = u * f + (f - 1) by rw [Int.add_mul, Int.one_mul]; omega, div_lo hf (by omega) (by omega)]; exact n.2.1
  · refine n.2.2 (k / f) ?_ ?_
    · have : (u + 1) * f ≤ k := by omega
      have := Int.le_ediv_of_mul_le hf this
      omega
    · have := Int.ediv_le_ediv hf k1
      rwa [div_lo hf r0 r1] at this
theorem cnt_const {f : Int → Bool} {lo : Int} {b : Bool} : ∀ n : Nat, (∀ j : Int, 0 ≤ j → j < n → f (lo + j) = b) → cnt f lo n = if b then (n : Int) else 0
  | 0, _ => by cases b <;> rfl
  | n + 1, h => by
    show cnt f lo n + (if f (lo + n) then 1 else 0) = _
    rw [cnt_const n fun j j0 j1 => h j j0 (by push_cast; omega), h n (by omega) (by push_cast; omega)]
    cases b <;> simp
theorem cnt_block {h : Int → Bool} {f t : Int} (hf : 0 < f) (r : Nat) (hr : (r : Int) ≤ f) : cnt (fun x => h (x / f)) (t * f) r = if h t then (r : Int) else 0 :=
  cnt_const r fun j j0 j1 => by rw [div_lo hf j0 (by omega)]
theorem cnt_blocks {h : Int → Bool} {f t : Int} (hf : 0 < f) : ∀ k : Nat, cnt (fun x => h (x / f)) (t * f) (k * f.toNat) = cnt h t k * f
  | 0 => by show cnt _ _ (0 * f.toNat) = _; rw [Nat.zero_mul]; show (0 : Int) = 0 * f; rw [Int.zero_mul]
  | k + 1 => by
    have e : t * f + ((k * f.toNat : Nat) : Int) = (t + k) * f := by push_cast; rw [Int.toNat_of_nonneg (by omega), Int.add_mul]
    rw [Nat.add_mul, Nat.one_mul, cnt_add, cnt_blocks hf k, e, cnt_block hf _ (by omega), Int.toNat_of_nonneg (by omega)]
    show _ = (cnt h t k + if h (t + k) then 1 else 0) * f
    rw [Int.add_mul]
    split <;> simp
theorem cnt_far {h : Int → Bool} {f t1 r1 t2 r2 : Int} (hf : 0 < f) (a0 : 0 ≤ r1) (a1 : r1 < f) (b0 : 0 ≤ r2) (b1 : r2 < f) (le : t1 * f + r1 ≤ t2 * f + r2) :
    cnt (fun x => h (x / f)) (t1 * f + r1) (t2 * f + r2 - (t1 * f + r1)).toNat = cnt h t1 (t2 - t1).toNat * f - (if h t1 then r1 else 0) + (if h t2 then r2 else 0) := by
  have tt : t1 ≤ t2 := by
    have := Int.ediv_le_ediv hf le
    rwa [div_lo hf a0 a1, div_lo hf b0 b1] at this
  have e1 := cnt_add (f := fun x => h (x / f)) (lo := t1 * f) r1.toNat (t2 * f + r2 - (t1 * f + r1)).toNat
  have e2 := cnt_add (f := fun x => h (x / f)) (lo := t1 * f) ((t2 - t1).toNat * f.toNat) r2.toNat
  have eN : r1.toNat + (t2 * f + r2 - (t1 * f + r1)).toNat = (t2 - t1).toNat * f.toNat + r2.toNat := by
    have : ((((t2 - t1).toNat * f.toNat + r2.toNat : Nat)) : Int) = (t2 - t1) * f + r2 := by
      push_cast
      rw [Int.toNat_of_nonneg (show 0 ≤ t2 - t1 by omega), Int.toNat_of_nonneg (show 0 ≤ f by omega), Int.toNat_of_nonneg b0]
    rw [Int.sub_mul] at this
    omega
  have e3 : t1 * f + (((t2 - t1).toNat * f.toNat : Nat) : Int) = t2 * f := by
    push_cast
    rw [Int.toNat_of_nonneg (show 0 ≤ t2 - t1 by omega), Int.toNat_of_nonneg (show 0 ≤ f by omega), Int.sub_mul]
    omega
  rw [eN, e2, cnt_blocks hf, e3, cnt_block hf _ (by omega), cnt_block hf _ (by omega), Int.toNat_of_nonneg a0, Int.toNat_of_nonneg b0] at e1
  omega
def E3 (H : Hp) (x : V) (z : Int × Int × Int) : Prop := ∃ b, x = .ref b ∧ H b = some (.tup ((t3 z).map V.int))
/-- an end: its moment, its block, its share -/
def EndOk (h : Int → Bool) (f : Int) (z : Int × Int × Int) : Prop := ∃ r, 0 ≤ r ∧ r < f ∧ z.1 = z.2.1 * f + r ∧ z.2.2 = (if h z.2.1 then r else 0) ∧ -(10 ^ 60) ≤ z.2.1 ∧ z.2.1 ≤ 10 ^ 60
end Gr

set_option Elab.async false
set_option linter.all false
set_option pp.deepTerms false
set_option pp.maxSteps 3000
set_option maxRecDepth 100000
set_option maxHeartbeats 8000000
set_option exponentiation.threshold 3000
namespace Gr
open PySem PySem.Spec PyProof.Rows L2
theorem scal2_ok {s f c : Int} {gs : List (Int × Int)} (h : OkG s gs) (hf : 1 ≤ f) (hc : s * f ≤ c) : OkG c (scal2 f gs) := by
  refine ⟨by rw [scal2, List.length_map]; exact h.1, by rw [scal2, List.length_map]; exact h.2.1, fun x hx => ?_⟩
  obtain ⟨g, hg, rfl⟩ := List.mem_map.mp hx
  have k := h.2.2 g hg
  have a : 0 ≤ g.1 * f := Int.mul_nonneg k.1 (by omega)
  have b : (g.1 + 1) * f ≤ s * f := Int.mul_le_mul_of_nonneg_right (by omega) (by omega)
  have d : 1 * f ≤ g.2 * f := Int.mul_le_mul_of_nonneg_right (by omega) (by omega)
  have e : g.2 * f ≤ s * f := Int.mul_le_mul_of_nonneg_right (by omega) (by omega)
  rw [Int.add_mul] at b
  show 0 ≤ g.1 * f ∧ g.1 * f < c ∧ 1 ≤ g.2 * f ∧ g.2 * f ≤ c
  omega
section
variable {P : Program} {w : World} {K : PySem.W.Frag} {mg : Str → Option Value} {base : Heap} {tC tG : Tok}
theorem ok_far {f f1 f2 f3 f4 f5 f6 : Addr} {fd fd1 fd2 fd3 fd4 fd5 fd6 : FuncData} (B : Blt mg tC tG) (Dl_far_right : Def K mg "_law_far_right" s_l_far_right ["_law_pond_here", "_law_span", "_law_greens_here", "_law_lit"] f fd) (Dl_fish : Def K mg "_law_fish" s_l_fish ["_law_pond_here", "_law_bound"] f1 fd1) (Dl_scaled : Def K mg "_law_scaled" s_l_scaled ["_law_greens_here", "_law_factor"] f2 fd2) (Dnext_green : Def K mg "next_green" s_next_green ["cycle", "signal", "moment"] f3 fd3) (Dlast_green : Def K mg "last_green" s_last_green ["cycle", "signal", "moment"] f4 fd4) (Dcount_green : Def K mg "count_green" s_count_green ["cycle", "signal", "low", "high"] f5 fd5) (Dl_next : Def K mg "_law_next" s_l_next ["_law_span", "_law_lit", "_law_t", "_law_step"] f6 fd6)
    (Gnext_green : FnOk P w K mg base CX0 5 f3 fd3 ["cycle", "signal", "moment"] spNext) (Glast_green : FnOk P w K mg base CX0 5 f4 fd4 ["cycle", "signal", "moment"] spLast) (Gcount_green : FnOk P w K mg base CX0 5 f5 fd5 ["cycle", "signal", "low", "high"] spCount) : FnOk P w K mg base CX0 6 f fd ["_law_pond_here", "_law_span", "_law_greens_here", "_law_lit"] spFar := by
  have Gl_fish := ok_fish (P := P) (w := w) (base := base) B Dl_fish
  have Gl_scaled := ok_scaled (P := P) (w := w) (base := base) B Dl_scaled
  have Gl_next := ok_nxt (P := P) (w := w) (base := base) B Dl_next
  refine Dl_far_right.F.ok scl_far_right (fun vs H Q E h => ?_) (fun cdv A outer s H vs Q E hr h => ⟨_, (pss_cons (ps_set (i := 4) scl_far_right.nd rfl (Or.inl rfl) (pe_op op_add pe_int (pe_call Gl_fish (hr.mono (by decide)) (by rfl) Dl_fish.g Dl_fish.F.kp Dl_fish.b .nil pass0 (pa_cons (pv 0) (pa_cons (pe_op op_powW pe_int pe_int) pa_nil)))))
  (pss_cons (ps_par (i := 5) (j := 6) rfl scl_far_right.nd rfl rfl (by decide) rfl rfl (pa_cons (pe_call Gl_scaled (hr.mono (by decide)) (by rfl) Dl_scaled.g Dl_scaled.F.kp Dl_scaled.b .nil pass0 (pa_cons (pv 2) (pa_cons (pv 4) pa_nil))) (pa_cons (pe_op op_mulW (pv 1) (pv 4)) pa_nil)) (by rfl))
  (pss_cons (ps_set (i := 7) scl_far_right.nd rfl (Or.inl rfl) (pe_lst pa_nil))
  (pss_cons (ps_for PassesOwn.never rfl (pi_range1 (by rfl) B.range (pa_cons pe_int pa_nil)) (pg_name (i := 8) scl_far_right.nd rfl (Or.inl rfl))
   (pss_cons (ps_set (i := 9) scl_far_right.nd rfl (Or.inl rfl) (pe_op op_add (pe_op op_sub (pe_call Gl_fish (hr.mono (by decide)) (by rfl) Dl_fish.g Dl_fish.F.kp Dl_fish.b .nil pass0 (pa_cons (pv 0) (pa_cons (pe_op op_mulW pe_int (pv 1)) pa_nil))) (pv 1)) (pe_op op_mulW (pv 1) (pe_ix ix_list (pe_lst (pa_cons pe_int (pa_cons (pe_call Gl_fish (hr.mono (by decide)) (by rfl) Dl_fish.g Dl_fish.F.kp Dl_fish.b .nil pass0 (pa_cons (pv 0) (pa_cons (pe_op op_powW pe_int pe_int) pa_nil))) pa_nil))) (pe_op op_modN (pv 8) pe_int) (fun _ _ => rfl)))))
  (pss_cons (ps_set (i := 10) scl_far_right.nd rfl (Or.inl rfl) (pe_ix ix_list (pe_lst (pa_cons pe_int (pa_cons (pe_op op_sub (pv 4) pe_int) (pa_cons (pe_call Gl_fish (hr.mono (by decide)) (by rfl) Dl_fish.g Dl_fish.F.kp Dl_fish.b .nil pass0 (pa_cons (pv 0) (pa_cons (pv 4) pa_nil))) pa_nil)))) (pe_call Gl_fish (hr.mono (by decide)) (by rfl) Dl_fish.g Dl_fish.F.kp Dl_fish.b .nil pass0 (pa_cons (pv 0) (pa_cons pe_int pa_nil))) (fun _ _ => rfl)))
  (pss_cons (ps_par (i := 11) (j := 12) rfl scl_far_right.nd rfl rfl (by decide) rfl rfl (pa_cons (pe_op op_add (pe_op op_mulW (pv 9) (pv 4)) (pv 10)) (pa_cons (pe_cmp (pc_din (hu_of hr) (pe_op op_modN (pv 9) (pv 1)) (pv 3)) rfl) pa_nil)) (by rfl))
  (pss_cons (ps_set (i := 13) scl_far_right.nd rfl (Or.inl rfl) (pe_lst (pa_cons (pv 11) (pa_cons (pv 11) pa_nil))))
  (Evl.pss_cut (ps_if (pt_not (pt_val (pv 12)))
   (pss_one (ps_set (i := 13) scl_far_right.nd rfl (Or.inl rfl) (pe_lst (pa_cons (pe_op op_mulW (pe_call Gl_next (hr.mono (by decide)) (by rfl) Dl_next.g Dl_next.F.kp Dl_next.b .nil pass0 (pa_cons (pv 1) (pa_cons (pv 3) (pa_cons (pv 9) (pa_cons pe_int pa_nil))))) (pv 4)) (pa_cons (pe_op op_sub (pe_op op_mulW (pe_op op_add (pe_call Gl_next (hr.mono (by decide)) (by rfl) Dl_next.g Dl_next.F.kp Dl_next.b .nil pass0 (pa_cons (pv 1) (pa_cons (pv 3) (pa_cons (pv 9) (pa_cons (pe_un un_neg pe_int) pa_nil))))) pe_int) (pv 4)) pe_int) pa_nil)))))
   pss_nil)
  (pss_cons (ps_if (pt_cmpR (op_neD hr.units) (pe_lst (pa_cons (pe_call Gnext_green (hr.mono (by decide)) (by rfl) Dnext_green.g Dnext_green.F.kp Dnext_green.b .nil pass0 (pa_cons (pv 6) (pa_cons (pv 5) (pa_cons (pv 11) pa_nil)))) (pa_cons (pe_call Glast_green (hr.mono (by decide)) (by rfl) Dlast_green.g Dlast_green.F.kp Dlast_green.b .nil pass0 (pa_cons (pv 6) (pa_cons (pv 5) (pa_cons (pv 11) pa_nil)))) pa_nil))) (pv 13) (nomark _))
   (pss_one (ps_ret pe_bl))
   pss_nil)
  (pss_one (ps_expr (pe_bm PySem.F.plainAttrs_list PySem.F.slot_list_append PySem.F.type_list_append mt_append (pv 7) (pa_cons (pe_tup (pa_cons (pv 11) (pa_cons (pv 9) (pa_cons (pe_op op_mulW (pv 10) (pe_callTy call_int1 (by rfl) B.n_int (by decide +kernel) (pa_cons (pv 12) pa_nil))) pa_nil)))) pa_nil)))))))))))
  (pss_cons (ps_for PassesOwn.never rfl (pi_zip (by rfl) B.n_zip (pa_cons (pv 7) (pa_cons (pe_slice sl_list (pv 7) (po_some pe_int) po_none) pa_nil))) (pg_tup rfl (pgs_cons (pg_name (i := 14) scl_far_right.nd rfl (Or.inl rfl)) (pgs_cons (pg_name (i := 15) scl_far_right.nd rfl (Or.inl rfl)) pgs_nil)))
   (pss_cons (ps_set (i := 16) scl_far_right.nd rfl (Or.inl rfl) (pe_call Gcount_green (hr.mono (by decide)) (by rfl) Dcount_green.g Dcount_green.F.kp Dcount_green.b .nil pass0 (pa_cons (pv 1) (pa_cons (pv 2) (pa_cons (pe_callB (call_min2 rfl) (by rfl) B.n_min (by decide +kernel) (pa_cons (pe_ix ix_tup (pv 14) pe_int (fun _ _ => rfl)) (pa_cons (pe_ix ix_tup (pv 15) pe_int (fun _ _ => rfl)) pa_nil))) (pa_cons (pe_callB (call_max2 rfl) (by rfl) B.n_max (by decide +kernel) (pa_cons (pe_ix ix_tup (pv 14) pe_int (fun _ _ => rfl)) (pa_cons (pe_ix ix_tup (pv 15) pe_int (fun _ _ => rfl)) pa_nil))) pa_nil))))))
  (pss_cons (ps_par (i := 17) (j := 18) rfl scl_far_right.nd rfl rfl (by decide) rfl rfl (pa_cons (pe_callB (call_minT rfl hr.units) (by rfl) B.n_min (by decide +kernel) (pa_cons (pv 14) (pa_cons (pv 15) pa_nil))) (pa_cons (pe_callB (call_maxT rfl hr.units) (by rfl) B.n_max (by decide +kernel) (pa_cons (pv 14) (pa_cons (pv 15) pa_nil))) pa_nil)) (by rfl))
  (pss_cons (ps_if (pt_cmpR op_ne (pe_call Gcount_green (hr.mono (by decide)) (by rfl) Dcount_green.g Dcount_green.F.kp Dcount_green.b .nil pass0 (pa_cons (pv 6) (pa_cons (pv 5) (pa_cons (pe_ix ix_tup (pv 17) pe_int (fun _ _ => rfl)) (pa_cons (pe_ix ix_tup (pv 18) pe_int (fun _ _ => rfl)) pa_nil))))) (pe_op op_add (pe_op op_sub (pe_op op_mulW (pv 16) (pv 4)) (pe_ix ix_tup (pv 17) pe_int (fun _ _ => rfl))) (pe_ix ix_tup (pv 18) pe_int (fun _ _ => rfl))) (nomark _))
   (pss_one (ps_ret pe_bl))
   pss_nil)
  (pss_one (ps_if (pt_cmpR op_ne (pe_call Gcount_green (hr.mono (by decide)) (by rfl) Dcount_green.g Dcount_green.F.kp Dcount_green.b .nil pass0 (pa_cons (pv 6) (pa_cons (pv 5) (pa_cons (pe_ix ix_tup (pv 18) pe_int (fun _ _ => rfl)) (pa_cons (pe_ix ix_tup (pv 17) pe_int (fun _ _ => rfl)) pa_nil))))) pe_int (nomark _))
   (pss_one (ps_ret pe_bl))
   pss_nil))))))
  (pss_one (ps_ret pe_bl))))))), ?_⟩)
  · obtain ⟨p, g, d, s, n, gs, kvs, rfl, _⟩ := h; rfl
  · obtain ⟨p, g, d, s, n, gs, kvs, rfl, hP, hn, hS, hG, hs, hd, hL, q⟩ := h
    have s1 := hG.c1
    have nz : s ≠ 0 := by omega
    have per : ∀ t, lit s gs (t % s) = lit s gs t := fun t => lit_mod s gs t
    have le30 : s ≤ 10 ^ 30 := by omega
    have e28 : (10 : Int) ^ (28 : Int).toNat = 10 ^ 28 := rfl
    have cp28 : CPowW 10 28 := ⟨by decide, by decide +kernel⟩
    refine ⟨_, rfl, _, _, rfl, rfl, cp28, p, _, n, rfl, hP, by omega, by rw [e28]; omega, by rw [e28]; omega, fun r1 H1 b1 pd1 r10 r11 => ⟨_, _, rfl, rfl, ?_⟩⟩
    rw [e28] at r11
    obtain ⟨pu0, hpu0⟩ := hP.some
    have hS1 := hS.but b1 hpu0
    have hd1 := b1 d _ (ne_of hd hpu0 (fun z => nomatch z)) hd
    have f1 : 1 ≤ 1 + r1 := by omega
    have sf : s * (1 + r1) ≤ 40 * (1 + r1) := Int.mul_le_mul_of_nonneg_right hs (by omega)
    have okS := scal2_ok (c := s * (1 + r1)) hG f1 (Int.le_refl _)
    refine ⟨_, rfl, _, rfl, g, 1 + r1, gs, rfl, hS1, by have := hG.2.1; omega, fun x hx => ?_, by omega, by omega, fun a2 H2 sm2 hS2 => ?_⟩
    · have := hG.2.2 x hx; omega
    refine ⟨_, rfl, _, rfl, _, _, rfl, rfl, mul30 (by omega) (by omega) (by omega) (by omega), _, _, rfl, ?_⟩
    have pd2 := pd1.same sm2
    have hd2 := sm2 _ _ hd1
    have hg2 := hS1.mono sm2
    refine ⟨Nat.zero_le _, fun E0 hE0 => ?_⟩
    have nE0 : E0 ≠ p := fun e => pd2.ne (e ▸ hE0)
    refine ⟨4, rfl, by decide, by decide, ?_⟩
    refine for_range (lo := 0) (fun i σ H' => ∃ us zs y8 y9 y10 y11 y12 y13, σ = [some (.ref p), some (.int s), some (.ref g), some (.ref d), some (.int (1 + r1)), some (.ref a2), some (.int (s * (1 + r1))), some (.ref E0), y8, y9, y10, y11, y12, y13, none, none, none, none, none] ∧ But p H2 H' ∧ Pond (n + 12 + 100 * i) p H' ∧ H' E0 = some (.lst us) ∧ Paired (E3 H') us zs ∧ zs.length = i ∧ ∀ z ∈ zs, EndOk (lit s gs) (1 + r1) z)
      ⟨[], [], none, none, none, none, none, none, rfl, Same.but (Same.new hE0), (pd2.new hE0).mono (by omega), upd_same, .nil, rfl, fun _ h => (List.not_mem_nil h).elim⟩ ?_ ?_
    · rintro i σ H3 hi ⟨us, zs, y8, y9, y10, y11, y12, y13, rfl, b3, pd3, eE, hZ, lz, okz⟩
      refine ⟨_, rfl, _, rfl, _, _, rfl, rfl, mul30 (by decide) (by decide +kernel) (by omega) (by omega), p, 3 * s, _, rfl, pd3, by omega, by omega, by omega, fun r4 H4 b4 pd4 r40 r41 => ?_⟩
      have cp50 : CPowW 10 50 := ⟨by decide, by decide +kernel⟩
      have e50 : (10 : Int) ^ (50 : Int).toNat = 10 ^ 50 := rfl
      refine ⟨_, rfl, _, _, rfl, rfl, _, rfl, _, rfl, _, _, rfl, rfl, cp50, p, _, _, rfl, pd4, by omega, by rw [e50]; omega, by rw [e50]; omega, fun r5 H5 b5 pd5 r50 r51 => ⟨(by show 2 ≤ sizeLine; decide), fun L hLn => ?_⟩⟩
      rw [e50] at r51
      have im : 0 ≤ (0 + (i : Int)).fmod 2 ∧ (0 + (i : Int)).fmod 2 < 2 := fmod_rng (by decide)
      obtain ⟨v5, hv5, hva5⟩ := pick (xs := [0, r5]) im.1 im.2
      have v5b : 0 ≤ v5 ∧ v5 ≤ 10 ^ 50 := by
        simp only [List.mem_cons, List.not_mem_nil, or_false] at hv5
        rcases hv5 with rfl | rfl <;> omega
      have hLp : L ≠ p := fun e => pd5.ne (e ▸ hLn)
      refine ⟨_, rfl, _, _, rfl, rfl, (by show (2 : Int) ≠ 0; decide), L, _, _, _, rfl, rfl, SqL.of upd_same, hva5, _, _, rfl, rfl, ?_⟩
      have n100 : ∀ x : Int, 0 ≤ x → x ≤ 10 ^ 60 → x.natAbs < 2 ^ 300 := fun x x0 x1 => natAbs_lt x0 (by
        have : (10 : Int) ^ 60 < ((2 ^ 300 : Nat) : Int) := by decide +kernel
        omega)
      have mS5 : CMulW s v5 := wide_mul (a := 300) (b := 300) (n100 s (by omega) (by omega)) (n100 v5 v5b.1 (by omega)) (by decide) (by decide) (by decide)
      have t1 := Int.mul_nonneg (show 0 ≤ s by omega) v5b.1
      have t2 := Int.mul_le_mul_of_nonneg_right hs v5b.1
      refine ⟨mS5, _, _, rfl, rfl, ?_⟩
      -- rest
      refine ⟨_, rfl, _, _, rfl, rfl, _, rfl, _, rfl, p, 1 + r1, _, rfl, pd5.new hLn, by omega, by omega, by omega, fun r6 H6 b6 pd6 r60 r61 => ⟨(by show 3 ≤ sizeLine; decide), fun LL hLL => ?_⟩⟩
      refine ⟨_, rfl, p, 3, _, rfl, pd6.new hLL, by omega, by decide, by decide +kernel, fun r7 H7 b7 pd7 r70 r71 => ?_⟩
      obtain ⟨v7, hv7, hva7⟩ := pick (xs := [0, 1 + r1 - 1, r6]) r70 r71
      have v7b : 0 ≤ v7 ∧ v7 < 1 + r1 := by
        simp only [List.mem_cons, List.not_mem_nil, or_false] at hv7
        rcases hv7 with rfl | rfl | rfl <;> omega
      have hLLp : LL ≠ p := fun e => pd6.ne (e ▸ hLL)
      refine ⟨LL, _, _, _, rfl, rfl, SqL.of (b7 LL _ hLLp upd_same), hva7, ?_⟩
      have bt : But p H3 H7 := ((b4.trans b5).trans ((Same.but (Same.new hLn)).trans b6)).trans ((Same.but (Same.new hLL)).trans b7)
      obtain ⟨pu2, hpu2⟩ := pd2.some
      have bt2 := b3.trans bt
      have hd7 := bt2 d _ (ne_of hd2 hpu2 (fun z => nomatch z)) hd2
      have eE7 := bt E0 _ nE0 eE
      have hS7 := hS2.but bt2 hpu2
      have mT : CMulW (r4 - s + s * v5) (1 + r1) := wide_mul (a := 300) (b := 300) (by
        have := n100 (r4 + s + s * v5) (by omega) (by omega)
        omega) (n100 _ (by omega) (by omega)) (by decide) (by decide) (by decide)
      refine ⟨_, rfl, _, rfl, _, _, rfl, rfl, mT, _, rfl, _, _, rfl, rfl, _, rfl, _, rfl, _, _, rfl, rfl, nz, _, rfl, d, _, rfl, DGet.k (k := .inl _) hd7, _, _, rfl, ?_⟩
      have look : (valV kvs (.inl ((r4 - s + s * v5).fmod s))).isSome = lit s gs (r4 - s + s * v5) := by
        rw [Int.fmod_eq_emod_of_nonneg _ (by omega), hL.is _ (Int.emod_nonneg _ nz) (Int.emod_lt_of_pos _ (by omega)), per]
      refine ⟨_, rfl, _, rfl, (by show 2 ≤ sizeLine; decide), fun Du hDu => ?_⟩
      have hC : ∀ x, lit (s * (1 + r1)) (scal2 (1 + r1) gs) x = lit s gs (x / (1 + r1)) := fun x => lit_div gs x (by omega) (by omega)
      have hfC : lit (s * (1 + r1)) (scal2 (1 + r1) gs) = fun x => lit s gs (x / (1 + r1)) := funext hC
      have dv : ((r4 - s + s * v5) * (1 + r1) + v7) / (1 + r1) = r4 - s + s * v5 := div_lo (by omega) v7b.1 v7b.2
      refine ⟨fun σ' H' => ∃ Dv m1 m2, σ' = [some (.ref p), some (.int s), some (.ref g), some (.ref d), some (.int (1 + r1)), some (.ref a2), some (.int (s * (1 + r1))), some (.ref E0), some (.int (0 + (i : Int))), some (.int (r4 - s + s * v5)), some (.int v7), some (.int ((r4 - s + s * v5) * (1 + r1) + v7)), some (.bl (valV kvs (.inl ((r4 - s + s * v5).fmod s))).isSome), some (.ref Dv), none, none, none, none, none] ∧ Same H7 H' ∧ H' Dv = some (.lst ([m1, m2].map V.int)) ∧ NextAt (lit (s * (1 + r1)) (scal2 (1 + r1) gs)) ((r4 - s + s * v5) * (1 + r1) + v7) m1 ∧ LastAt (lit (s * (1 + r1)) (scal2 (1 + r1) gs)) ((r4 - s + s * v5) * (1 + r1) + v7) m2, ?_, ?_⟩
      · cases el : lit s gs (r4 - s + s * v5) with
        | true =>
          refine ⟨_, rfl, true, congrArg V.bl (look.trans el), iteF ?_⟩
          have on : lit (s * (1 + r1)) (scal2 (1 + r1) gs) ((r4 - s + s * v5) * (1 + r1) + v7) = true := by rw [hC, dv]; exact el
          exact ⟨Du, _, _, rfl, Same.new hDu, upd_same, ⟨Int.le_refl _, on, fun k k0 k1 => by omega⟩, ⟨Int.le_refl _, on, fun k k0 k1 => by omega⟩⟩
        | false =>
          refine ⟨_, rfl, false, congrArg V.bl (look.trans el), ?_⟩
          have hdu := Same.new hDu (o := .lst [.int ((r4 - s + s * v5) * (1 + r1) + v7), .int ((r4 - s + s * v5) * (1 + r1) + v7)]) _ _ hd7
          refine ⟨_, rfl, _, rfl, _, rfl, d, s, r4 - s + s * v5, 1, lit s gs, kvs, rfl, hdu, hL, per, s1, hG.lit, .inl ⟨rfl, fun u nu => ?_⟩⟩
          have ub : u < r4 - s + s * v5 + s := by
            refine Decidable.byContradiction fun y => ?_
            have := nu.2.2 (u - s) (by omega) (by omega)
            rw [← per_add per, show u - s + s = u by omega, nu.2.1] at this
            cases this
          have ul := nu.1
          have mU : CMulW u (1 + r1) := wide_mul (a := 300) (b := 300) (by
            have := n100 (r4 + s + s * v5 + s) (by omega) (by omega)
            omega) (n100 _ (by omega) (by omega)) (by decide) (by decide) (by decide)
          refine ⟨_, rfl, _, _, rfl, rfl, mU, ?_⟩
          refine ⟨_, rfl, _, rfl, _, rfl, _, rfl, d, s, r4 - s + s * v5, -1, lit s gs, kvs, rfl, hdu, hL, per, s1, hG.lit, .inr ⟨rfl, fun v nv => ?_⟩⟩
          have vb : r4 - s + s * v5 - s < v := by
            refine Decidable.byContradiction fun y => ?_
            have := nv.2.2 (v + s) (by omega) (by omega)
            rw [per_add per, nv.2.1] at this
            cases this
          have vl := nv.1
          have mV : CMulW (v + 1) (1 + r1) := wide_mul (a := 300) (b := 300) (by
            have := n100 (r4 + s + s * v5 + s + 1) (by omega) (by omega)
            omega) (n100 _ (by omega) (by omega)) (by decide) (by decide) (by decide)
          refine ⟨_, _, rfl, rfl, _, rfl, _, _, rfl, rfl, mV, _, _, rfl, rfl, (by show 2 ≤ sizeLine; decide), fun Dv hDv => ?_⟩
          refine ⟨Dv, u * (1 + r1), (v + 1) * (1 + r1) - 1, rfl, (Same.new hDu).trans (Same.new hDv), upd_same, ?_, ?_⟩
          · rw [hfC]; exact next_far (by omega) v7b.1 v7b.2 nu el
          · rw [hfC]; exact last_far (by omega) v7b.1 v7b.2 nv el
      · rintro σ' H8 ⟨Dv, m1, m2, rfl, sm8, eD, n1, n2⟩
        have leC : s * (1 + r1) ≤ 10 ^ 30 := by omega
        refine ⟨_, rfl, _, rfl, _, rfl, a2, s * (1 + r1), (r4 - s + s * v5) * (1 + r1) + v7, scal2 (1 + r1) gs, rfl, hS7.mono sm8, okS, leC, fun x1 H9 sm9 nx1 => ?_⟩
        refine ⟨_, rfl, _, rfl, _, rfl, a2, s * (1 + r1), (r4 - s + s * v5) * (1 + r1) + v7, scal2 (1 + r1) gs, rfl, hS7.mono (sm8.trans sm9), okS, leC, fun x2 H10 sm10 la2 => ⟨(by show 2 ≤ sizeLine; decide), fun M hM => ?_⟩⟩
        obtain rfl := nx1.uniq n1
        obtain rfl := la2.uniq n2
        refine ⟨_, rfl, neInts [x1, x2] upd_same (Same.new hM _ _ (sm10 _ _ (sm9 _ _ eD))) ⟨false, rfl, iteF ?_⟩⟩
        have smM := ((sm8.trans sm9).trans sm10).trans (Same.new hM (o := .lst [.int x1, .int x2]))
        have eM := smM _ _ eE7
        have tiny : ∀ b : Bool, (if b = true then (1 : Int) else 0).natAbs < 2 ^ 300 := fun b => by cases b <;> decide
        have m01 : CMulW v7 (if (valV kvs (.inl ((r4 - s + s * v5).fmod s))).isSome = true then 1 else 0) := wide_mul (a := 300) (b := 300) (n100 _ v7b.1 (by omega)) (tiny _) (by decide) (by decide) (by decide)
        refine ⟨_, rfl, .inl ⟨rfl, _, SqL.of eM⟩, _, rfl, _, rfl, _, rfl, _, rfl, .inr ⟨_, rfl, _, _, rfl, rfl, m01, (by show 3 ≤ sizeLine; decide), fun T hT => ?_⟩⟩
        have nET : E0 ≠ T := fun e => by rw [← e, eM] at hT; cases hT
        have l3 : us.length = i := (paired_len hZ).trans lz
        refine ⟨E0, us, _, rfl, rfl, (by rw [upd_ne nET]; exact eM), small1000 (by omega), ?_⟩
        have bE : But p H2 (upd (upd (upd H10 M (.lst [.int x1, .int x2])) T (.tup [.int ((r4 - s + s * v5) * (1 + r1) + v7), .int (r4 - s + s * v5), .int (v7 * (if (valV kvs (.inl ((r4 - s + s * v5).fmod s))).isSome = true then 1 else 0))])) E0 (.lst (us ++ [.ref T]))) := fun q o hq e => by
          rw [upd_ne (ne_of_none e hE0)]
          exact Same.new hT _ _ (smM _ _ (bt2 q o hq e))
        refine ⟨us ++ [.ref T], zs ++ [((r4 - s + s * v5) * (1 + r1) + v7, r4 - s + s * v5, v7 * (if (valV kvs (.inl ((r4 - s + s * v5).fmod s))).isSome = true then 1 else 0))], _, _, _, _, _, _, rfl, bE, ?_, upd_same, paired_snoc (L2.Paired.mapP hZ fun _ z ⟨b, e, h⟩ => ⟨b, e, ?_⟩) ⟨T, rfl, ?_⟩, by simp [lz], fun z hz => ?_⟩
        · obtain ⟨x, y, zz, y1, y2, y3, y4, y5⟩ := pd7.same smM
          exact ⟨x, y, zz, by rw [upd_ne nE0.symm]; exact Same.new hT _ _ y1, y2, y3, y4, by push_cast; omega⟩
        · rw [upd_ne (ne_of (smM _ _ (bt b _ (ne_of h (show H3 p = some (.lst _) from (pd3.some).choose_spec) (fun z => nomatch z)) h)) eM (fun z => nomatch z))]
          exact Same.new hT _ _ (smM _ _ (bt b _ (ne_of h (show H3 p = some (.lst _) from (pd3.some).choose_spec) (fun z => nomatch z)) h))
        · rw [upd_ne nET.symm]; exact upd_same
        · rcases List.mem_append.mp hz with y | y
          · exact okz z y
          · rw [List.mem_singleton.mp y]
            refine ⟨v7, v7b.1, v7b.2, rfl, ?_, by simp only; omega, by simp only; omega⟩
            simp only
            rw [look]
            split <;> omega
    · rintro σ H3 ⟨us, zs, y8, y9, y10, y11, y12, y13, rfl, b3, pd3, eE, hZ, lz, okz⟩
      have l4 : us.length = 4 := (paired_len hZ).trans lz
      refine ⟨_, rfl, _, rfl, _, rfl, ?_⟩
      unfold tNoPart
      refine ⟨E0, us, rfl, SqL.of eE, fun S hS => ?_⟩
      have ec : cutV us (some 1) none = us.drop 1 := by
        have e1 := HT.sIx_nat us.length 0 1
        have e2 := HT.sIx_none us.length us.length
        unfold cutV
        rw [show (1 : Int) = ((1 : Nat) : Int) from rfl, e1, e2, l4, List.take_of_length_le (by rw [List.length_drop]; omega)]
        rfl
      rw [ec]
      have hS3 := hS2.but b3 (pd2.some).choose_spec
      have hg3 := hg2.but b3 (pd2.some).choose_spec
      have smS := Same.new hS (o := .lst (us.drop 1))
      refine ⟨E0, S, us, us.drop 1, rfl, SqL.of (smS _ _ eE), SqL.of upd_same, ?_⟩
      refine for_zipN (xs := us) (ys := us.drop 1) (fun i σ H' => ∃ y14 y15 y16 y17 y18, σ = [some (.ref p), some (.int s), some (.ref g), some (.ref d), some (.int (1 + r1)), some (.ref a2), some (.int (s * (1 + r1))), some (.ref E0), y8, y9, y10, y11, y12, y13, y14, y15, y16, y17, y18] ∧ Same (upd H3 S (.lst (us.drop 1))) H') (by rw [List.length_drop]; omega) ⟨none, none, none, none, none, rfl, Same.refl _⟩ (fun i σ H' ⟨_, _, _, _, _, _, sm⟩ => ⟨SqL.of (sm _ _ (smS _ _ eE)), SqL.of (sm _ _ upd_same)⟩) ?_ ?_
      · rintro i x y T σ H4 hx hy ⟨y14, y15, y16, y17, y18, rfl, sm4⟩ hT
        rw [List.getElem?_drop] at hy
        obtain ⟨z1, hz1, c1, rfl, hb1⟩ := paired_at hZ hx
        obtain ⟨z2, hz2, c2, rfl, hb2⟩ := paired_at hZ hy
        have sm4' := (smS.trans sm4).trans (Same.new hT (o := .tup [.ref c1, .ref c2]))
        have ok1 := okz z1 (List.mem_of_getElem? hz1)
        have ok2 := okz z2 (List.mem_of_getElem? hz2)
        have hb1' := sm4' _ _ hb1
        have hb2' := sm4' _ _ hb2
        refine ⟨T, _, rfl, SqT.of upd_same, rfl, _, _, rfl, _, _, rfl, rfl, ?_⟩
        refine ⟨_, rfl, _, rfl, _, rfl, c1, _, 1, .int z1.2.1, rfl, rfl, SqT.of hb1', atI_nat (j := 1) rfl, _, rfl, c2, _, 1, .int z2.2.1, rfl, rfl, SqT.of hb2', atI_nat (j := 1) rfl, _, _, rfl, ?_⟩
        refine ⟨_, rfl, c1, _, 1, .int z1.2.1, rfl, rfl, SqT.of hb1', atI_nat (j := 1) rfl, _, rfl, c2, _, 1, .int z2.2.1, rfl, rfl, SqT.of hb2', atI_nat (j := 1) rfl, _, _, rfl, ?_⟩
        obtain ⟨q1, q10, q11, q12, q13, q14, q15⟩ := ok1
        obtain ⟨q2, q20, q21, q22, q23, q24, q25⟩ := ok2
        have dv1 : z1.1 / (1 + r1) = z1.2.1 := by rw [q12]; exact div_lo (by omega) q10 q11
        have dv2 : z2.1 / (1 + r1) = z2.2.1 := by rw [q22]; exact div_lo (by omega) q20 q21
        obtain ⟨bl, bh, zl, zh, el, eh, hbl, hbh, okl, okh, emin, emax, le⟩ : ∃ bl bh zl zh, (if PySem.W.dataLt (d3 z2) (d3 z1) = true then c2 else c1) = bl ∧ (if PySem.W.dataLt (d3 z1) (d3 z2) = true then c2 else c1) = bh ∧ (∀ {H' : Hp}, Same (upd H4 T (.tup [.ref c1, .ref c2])) H' → H' bl = some (.tup ((t3 zl).map V.int))) ∧ (∀ {H' : Hp}, Same (upd H4 T (.tup [.ref c1, .ref c2])) H' → H' bh = some (.tup ((t3 zh).map V.int))) ∧ EndOk (lit s gs) (1 + r1) zl ∧ EndOk (lit s gs) (1 + r1) zh ∧
            (if z2.2.1 < z1.2.1 then z2.2.1 else z1.2.1) = zl.2.1 ∧ (if z2.2.1 > z1.2.1 then z2.2.1 else z1.2.1) = zh.2.1 ∧ zl.1 ≤ zh.1 := by
          have o1 := okz z1 (List.mem_of_getElem? hz1)
          have o2 := okz z2 (List.mem_of_getElem? hz2)
          rcases Int.lt_trichotomy z1.1 z2.1 with a | a | a
          · have tt := Int.ediv_le_ediv (show 0 < 1 + r1 by omega) (Int.le_of_lt a)
            rw [dv1, dv2] at tt
            refine ⟨c1, c2, z1, z2, ?_, ?_, fun sm => sm _ _ hb1', fun sm => sm _ _ hb2', o1, o2, ?_, ?_, by omega⟩
            · rw [if_neg]; rw [lt3]; simp; omega
            · rw [if_pos]; rw [lt3]; simp; omega
            · rw [if_neg (by omega)]
            · split <;> omega
          · have tt : z1.2.1 = z2.2.1 := by rw [← dv1, ← dv2, a]
            have rr : q1 = q2 := by rw [q12, q22, tt] at a; omega
            have xx : z1.2.2 = z2.2.2 := by rw [q13, q23, tt, rr]
            refine ⟨c1, c1, z1, z1, ?_, ?_, fun sm => sm _ _ hb1', fun sm => sm _ _ hb1', o1, o1, ?_, ?_, by omega⟩
            · rw [if_neg]; rw [lt3]; simp; omega
            · rw [if_neg]; rw [lt3]; simp; omega
            · rw [if_neg (by omega)]
            · rw [if_neg (by omega)]
          · have tt := Int.ediv_le_ediv (show 0 < 1 + r1 by omega) (Int.le_of_lt a)
            rw [dv1, dv2] at tt
            refine ⟨c2, c1, z2, z1, ?_, ?_, fun sm => sm _ _ hb2', fun sm => sm _ _ hb1', o2, o1, ?_, ?_, by omega⟩
            · rw [if_pos]; rw [lt3]; simp; omega
            · rw [if_neg]; rw [lt3]; simp; omega
            · split <;> omega
            · rw [if_neg (by omega)]
        have fit : ∀ x : Int, -(10 ^ 100) ≤ x → x ≤ 10 ^ 100 → x.natAbs < 2 ^ 600 := fun x x0 x1 => by
          have big : (10 : Int) ^ 100 < ((2 ^ 600 : Nat) : Int) := by decide +kernel
          omega
        rw [emin, emax]
        refine ⟨g, s, zl.2.1, zh.2.1, gs, rfl, (hg3.mono sm4'), hG, le30, ?_, ?_, fun H5 sm5 => ?_⟩
        · obtain ⟨_, _, _, _, _, a, b⟩ := okl; exact fit _ (by omega) (by omega)
        · obtain ⟨_, _, _, _, _, a, b⟩ := okh; exact fit _ (by omega) (by omega)
        refine ⟨_, rfl, _, rfl, c1, c2, z1, z2, rfl, SqT.of (sm5 _ _ hb1'), SqT.of (sm5 _ _ hb2'), _, rfl, _, rfl, c1, c2, z1, z2, rfl, SqT.of (sm5 _ _ hb1'), SqT.of (sm5 _ _ hb2'), _, _, rfl, ?_⟩
        rw [el, eh]
        obtain ⟨u1, u10, u11, u12, u13, u14, u15⟩ := okl
        obtain ⟨u2, u20, u21, u22, u23, u24, u25⟩ := okh
        have leC : s * (1 + r1) ≤ 10 ^ 30 := by omega
        have p1 := Int.mul_le_mul_of_nonneg_right u14 (show 0 ≤ 1 + r1 by omega)
        have p2 := Int.mul_le_mul_of_nonneg_right u15 (show 0 ≤ 1 + r1 by omega)
        have p3 := Int.mul_le_mul_of_nonneg_right u24 (show 0 ≤ 1 + r1 by omega)
        have p4 := Int.mul_le_mul_of_nonneg_right u25 (show 0 ≤ 1 + r1 by omega)
        have fl := fit zl.1 (by omega) (by omega)
        have fh := fit zh.1 (by omega) (by omega)
        have hfC : lit (s * (1 + r1)) (scal2 (1 + r1) gs) = fun x => lit s gs (x / (1 + r1)) := funext fun x => lit_div gs x (by omega) (by omega)
        have cl := cnt_le (lit s gs) zl.2.1 (zh.2.1 - zl.2.1).toNat
        have mB : CMulW (cnt (lit s gs) zl.2.1 (zh.2.1 - zl.2.1).toNat) (1 + r1) := wide_mul (a := 600) (b := 600) (fit _ (by omega) (by omega)) (fit _ (by omega) (by omega)) (by decide) (by decide) (by decide)
        have eqC : cnt (lit (s * (1 + r1)) (scal2 (1 + r1) gs)) zl.1 (zh.1 - zl.1).toNat = cnt (lit s gs) zl.2.1 (zh.2.1 - zl.2.1).toNat * (1 + r1) - zl.2.2 + zh.2.2 := by
          have := cnt_far (h := lit s gs) (f := 1 + r1) (t1 := zl.2.1) (r1 := u1) (t2 := zh.2.1) (r2 := u2) (by omega) u10 u11 u20 u21 (by omega)
          rw [← u12, ← u22] at this
          rw [hfC, this, u13, u23]
        have hS5 := (hS3.mono sm4').mono sm5
        refine ⟨_, rfl, _, rfl, _, rfl, bl, _, 0, .int zl.1, rfl, rfl, SqT.of (hbl sm5), atI_nat (j := 0) rfl, _, rfl, bh, _, 0, .int zh.1, rfl, rfl, SqT.of (hbh sm5), atI_nat (j := 0) rfl, a2, s * (1 + r1), zl.1, zh.1, scal2 (1 + r1) gs, rfl, hS5, okS, leC, fl, fh, fun H6 sm6 => ?_⟩
        have sm56 := sm5.trans sm6
        refine ⟨_, rfl, _, rfl, _, _, rfl, rfl, mB, _, rfl, bl, _, 2, .int zl.2.2, rfl, rfl, SqT.of (hbl sm56), atI_nat (j := 2) rfl, _, _, rfl, rfl, _, rfl, bh, _, 2, .int zh.2.2, rfl, rfl, SqT.of (hbh sm56), atI_nat (j := 2) rfl, _, _, rfl, rfl, rfl, false, congrArg (fun b => V.bl (!b)) (decide_eq_true (congrArg V.int eqC)), iteF ?_⟩
        refine ⟨_, rfl, _, rfl, _, rfl, bh, _, 0, .int zh.1, rfl, rfl, SqT.of (hbh sm56), atI_nat (j := 0) rfl, _, rfl, bl, _, 0, .int zl.1, rfl, rfl, SqT.of (hbl sm56), atI_nat (j := 0) rfl, a2, s * (1 + r1), zh.1, zl.1, scal2 (1 + r1) gs, rfl, hS5.mono sm6, okS, leC, fh, fl, fun H7 sm7 => ⟨rfl, false, congrArg (fun b => V.bl (!b)) (decide_eq_true (congrArg V.int (cnt_zero _ _ _ le))), iteF ?_⟩⟩
        exact ⟨_, _, _, _, _, rfl, (sm4.trans (Same.new hT)).trans (sm56.trans sm7)⟩
      · rintro i σ H4 ⟨y14, y15, y16, y17, y18, rfl, sm4⟩
        exact q _ (b1.trans ((Same.but sm2).trans (b3.trans (Same.but (smS.trans sm4))))) ((pd3.same (smS.trans sm4)).mono (by omega))
end
end Gr

/-! range(a, b) of integers of any size, walked by a for -/
namespace L2
open PySem PySem.Spec PyProof.Rows
theorem turn_long {P : Program} {w : World} {K : PySem.W.Frag} {tg : Expr} (it : Addr) (lo : Int) (n : Nat) : Turn P w K tg (Itr lo n) [it] it (fun i h => IsLongIter h it (lo + (i : Nat) * 1) ((n : Int) - (i : Nat)) 1) where
  mem := by simp
  obj := fun i h st b hb => by
    have e : b = it := by simpa using hb
    subst e
    exact ⟨_, st, fun v z => by
      have z' : Data.fields _ = Data.cell v := z
      cases z'⟩
  keep := fun i h h' st k => k it (by simp) _ st
  item := by
    intro X hP hw hK hc i pins s σ H E I hf st hg
    subst hP hw hK
    obtain ⟨f0, f1, f2, f3, f4, f5⟩ := hf it (by simp)
    have W := Walks.longrange (prog := X.prog) (w := X.w) (I.ok.hd hc) it lo 1 n
    refine W.item i s _ _ hg st fun v h' tk hv st' kk => ?_
    obtain ⟨t, rfl⟩ := hv
    have I1 : Inv X pins σ H { s with heap := h', toks := tk } := I.turned (fun b o hb e => kk b o (by simpa using hb) e) f0 f1 f3 f4 f5
    refine ⟨_, rfl, go_of (s := { s with heap := h', toks := tk }) (n := "longrange_iterator") st' rfl rfl (by decide) ⟨.int (lo + i), H, I1, ⟨t, ?_⟩, ⟨rfl, rfl⟩, st', fun b hb => (hf b hb).1⟩⟩
    rw [Int.mul_one]
  done := by
    intro X hP hw hK hc i pins s σ H E I hf st hg
    subst hP hw hK
    obtain ⟨f0, f1, f2, f3, f4, f5⟩ := hf it (by simp)
    exact wpAny_pyNext_long_end (I.ok.hd hc) st (by have : n ≤ i := hg; omega) fun h' eb => ⟨rfl, I.turned (t' := s.toks) (fun b o hb e => eb b o hb e) f0 f1 f3 f4 f5⟩
  self := fun _ _ _ _ _ st h => wpAny_pyIter_longiter st h
section
variable {X : Cx} {tg : Expr}
theorem range_itW {pins : List (Addr × Obj)} {σ : St} {H : Hp} {s : Shared} {R : It → Hp → Prop} {E : Value → Shared → Prop} {lo hi : Int} {t u v : Tok} {tk : Nat} (I : Inv X pins σ H s)
    (q : R (Itr lo (hi - lo).toNat) H) : wpAny (model X.prog X.w) X.A (pyIter (.ref s.heap.objs.size)) (PIE X pins σ tg R) E { s with heap := s.heap.push { cls := .type "range", data := .fields #[.int lo t, .int hi u, .int 1 v] }, toks := tk } := by
  have I1 : Inv X pins σ H { s with heap := s.heap.push { cls := .type "range", data := .fields #[.int lo t, .int hi u, .int 1 v] }, toks := tk } := I.kept fun b o e => Heap.get?_push_of_some _ e
  have e1 : lo + ((0 : Nat) : Int) * 1 = lo := by simp
  have e2 : (((hi - lo).toNat : Nat) : Int) - ((0 : Nat) : Int) = Builtin.Range.rangeSize lo hi 1 := by rw [rangeSize_one]; split <;> omega
  have fp : ∀ (b : Addr), b ∈ [(s.heap.push { cls := .type "range", data := .fields #[.int lo t, .int hi u, .int 1 v] }).objs.size] → FpOk X pins H b := fun b hb => by
    have e : b = (s.heap.push { cls := .type "range", data := .fields #[.int lo t, .int hi u, .int 1 v] }).objs.size := by simpa using hb
    subst e
    exact I1.fpOk (Nat.le_refl _) (I1.hok.fresh (Nat.le_refl _))
  cases sm : Builtin.Range.small lo hi 1 with
  | true =>
    refine wpAny_pyIter_range (IsRange.new ..) sm ?_
    refine ⟨(s.heap.push { cls := .type "range", data := .fields #[.int lo t, .int hi u, .int 1 v] }).objs.size, [(s.heap.push { cls := .type "range", data := .fields #[.int lo t, .int hi u, .int 1 v] }).objs.size], _, _, H, rfl,
      I1.kept (t' := tk) fun b o e => Heap.get?_push_of_some _ e, turn_range _ lo (hi - lo).toNat, ?_, fp, q⟩
    show IsRangeIter _ _ (lo + ((0 : Nat) : Int) * 1) ((((hi - lo).toNat : Nat) : Int) - ((0 : Nat) : Int)) 1
    rw [e1, e2]
    exact Heap.get?_push_size _ rfl
  | false =>
    refine wpAny_pyIter_longrange (IsRange.new ..) sm ?_
    refine ⟨(s.heap.push { cls := .type "range", data := .fields #[.int lo t, .int hi u, .int 1 v] }).objs.size, [(s.heap.push { cls := .type "range", data := .fields #[.int lo t, .int hi u, .int 1 v] }).objs.size], _, _, H, rfl,
      I1.kept (t' := tk) fun b o e => Heap.get?_push_of_some _ e, turn_long _ lo (hi - lo).toNat, ?_, fp, q⟩
    show IsLongIter _ _ (lo + ((0 : Nat) : Int) * 1) ((((hi - lo).toNat : Nat) : Int) - ((0 : Nat) : Int)) 1
    rw [e1, e2]
    exact Heap.get?_push_size _ rfl
def iRng2W (ta : TA) : TI := fun σ H R => ta σ H fun vs H1 => ∃ i j : Int, vs = [.int i, .int j] ∧ R (Itr i (j - i).toNat) H1
theorem pi_range2W {a b : Expr} {ta : TA} {p pos : Pos} (hg : Gl X "range") (hm : X.mg "range" = none) (ha : PA X [a, b] ta) (hs : starEach [a, b] X.env = [(false, eval a X.env), (false, eval b X.env)] := by rfl) (hs2 : starEach [b] X.env = [(false, eval b X.env)] := by rfl) :
    PI X tg (.Call (.Name "range" p) [a, b] [] pos) (iRng2W ta) := by
  refine ⟨fun pins s σ H R I h => ?_⟩
  refine Call_ (ld_blt I hg hm boot_range (PyProof.Rows.callWith_type1 (thn (ha.run pos pins s σ H _ I h) fun us s1 ⟨vs, H1, I1, r1, q1⟩ => ?_) (by rw [hs, hs2]) (by rw [hs2]; rfl)))
  obtain ⟨i, j, e, q⟩ := q1
  subst e
  cases r1 with
  | cons r rr =>
    cases rr with
    | cons r' rr =>
      cases rr
      obtain ⟨t, rfl⟩ := r
      obtain ⟨t', rfl⟩ := r'
      exact call_range_2 (range_itW I1 q)
end
end L2

set_option Elab.async false
set_option linter.all false
set_option pp.deepTerms false
set_option pp.maxSteps 3000
set_option maxRecDepth 100000
set_option maxHeartbeats 8000000
set_option exponentiation.threshold 3000
namespace Gr
open PySem PySem.Spec PyProof.Rows L2
theorem next_out {c t m : Int} {gs : List (Int × Int)} (hG : OkG c gs) (off : lit c gs t = false) (hm : m ∈ gs.map fun g => (g.1 - t).fmod c) (le : ∀ y ∈ gs.map (fun g => (g.1 - t).fmod c), m ≤ y) : NextAt (lit c gs) t (t + m) := by
  have c1 := hG.c1
  have key : ∀ g ∈ gs, t + (g.1 - t).fmod c = nextG c g t := fun g hg => by
    have z := lit_no.mp off g hg
    have g1 := (hG.2.2 g hg).2.2.1
    have r0 := Int.emod_nonneg (t - g.1) (show c ≠ 0 by omega)
    have r1 := Int.emod_lt_of_pos (t - g.1) (show 0 < c by omega)
    have e := Int.emod_add_mul_ediv (t - g.1) c
    unfold nextG
    rw [if_neg z, Int.fmod_eq_emod_of_nonneg _ (by omega)]
    have : (g.1 - t) % c = c - (t - g.1) % c := by
      have : g.1 - t = (c - (t - g.1) % c) + c * (-((t - g.1) / c) - 1) := by rw [Int.mul_sub, Int.mul_neg]; omega
      rw [this, Int.add_mul_emod_self_left, Int.emod_eq_of_lt (by omega) (by omega)]
    rw [this]; omega
  refine next_min (fun g hg => (hG.2.2 g hg).2.2.1) (by omega) ?_ fun y hy => ?_
  · obtain ⟨g, hg, rfl⟩ := List.mem_map.mp hm
    exact List.mem_map.mpr ⟨g, hg, (key g hg).symm⟩
  · obtain ⟨g, hg, rfl⟩ := List.mem_map.mp hy
    have := le _ (List.mem_map.mpr ⟨g, hg, rfl⟩)
    have := key g hg
    omega
theorem last_out {c t m : Int} {gs : List (Int × Int)} (hG : OkG c gs) (off : lit c gs t = false) (hm : m ∈ gs.map fun g => (t - g.1 - g.2 + 1).fmod c) (le : ∀ y ∈ gs.map (fun g => (t - g.1 - g.2 + 1).fmod c), m ≤ y) : LastAt (lit c gs) t (t - m) := by
  have c1 := hG.c1
  have key : ∀ g ∈ gs, t - (t - g.1 - g.2 + 1).fmod c = lastG c g t := fun g hg => by
    have z := lit_no.mp off g hg
    have g1 := (hG.2.2 g hg).2.2.1
    have r0 := Int.emod_nonneg (t - g.1) (show c ≠ 0 by omega)
    have r1 := Int.emod_lt_of_pos (t - g.1) (show 0 < c by omega)
    unfold lastG
    rw [if_neg z, Int.fmod_eq_emod_of_nonneg _ (by omega)]
    have := emod_move (c := c) (x := t - g.1) (j := 1 - g.2) (by omega) (by omega) (by omega)
    rw [show t - g.1 - g.2 + 1 = t - g.1 + (1 - g.2) by omega, this]
    omega
  refine last_max (fun g hg => (hG.2.2 g hg).2.2) (by omega) ?_ fun y hy => ?_
  · obtain ⟨g, hg, rfl⟩ := List.mem_map.mp hm
    exact List.mem_map.mpr ⟨g, hg, (key g hg).symm⟩
  · obtain ⟨g, hg, rfl⟩ := List.mem_map.mp hy
    have := le _ (List.mem_map.mpr ⟨g, hg, rfl⟩)
    have := key g hg
    omega
theorem eqNil {K : PySem.W.Frag} {H : Hp} {a b : Addr} {Q : VK} (ns : List Int) (ha : H a = some (.lst (ns.map V.int))) (hb : H b = some (.lst [])) (q : Q (.bl ns.isEmpty) H) : rEqD K (.ref a) (.ref b) H Q := by
  refine ⟨_, _, .lst (SqL.of ha) (dp_ints ns), .lst (SqL.of hb) .nil, shaped_ints ns, shaped_nil, ?_⟩
  have : PyData.eqv (.list (ns.map PyData.int)) (.list []) = ns.isEmpty := by cases ns <;> simp [PyData.eqv, PyData.eqvAll]
  rw [this]
  exact q
theorem neNil {K : PySem.W.Frag} {H : Hp} {a b : Addr} {Q : VK} (ns : List Int) (ha : H a = some (.lst (ns.map V.int))) (hb : H b = some (.lst [])) (q : Q (.bl !ns.isEmpty) H) : rNeD K (.ref a) (.ref b) H Q := by
  refine ⟨_, _, .lst (SqL.of ha) (dp_ints ns), .lst (SqL.of hb) .nil, shaped_ints ns, shaped_nil, ?_⟩
  have : PyData.eqv (.list (ns.map PyData.int)) (.list []) = ns.isEmpty := by cases ns <;> simp [PyData.eqv, PyData.eqvAll]
  rw [this]
  exact q
theorem lit_snoc {c t : Int} {gs : List (Int × Int)} {i : Nat} {g : Int × Int} (h : gs[i]? = some g) : lit c (gs.take (i + 1)) t = (lit c (gs.take i) t || decide ((t - g.1) % c < g.2)) := by
  unfold lit
  rw [List.take_add_one, h, List.any_append]
  simp
theorem ones_yes {c t : Int} {gs : List (Int × Int)} {i : Nat} {g : Int × Int} (hc : 0 < c) (h : gs[i]? = some g) (ns : List Int) (z : (t - g.1).fmod c < g.2) : (ns ++ [1]).isEmpty = !(lit c (gs.take (i + 1)) t) := by
  rw [fm2 hc] at z
  rw [lit_snoc h, decide_eq_true z, Bool.or_true]
  simp
theorem ones_no {c t : Int} {gs : List (Int × Int)} {i : Nat} {g : Int × Int} (hc : 0 < c) (h : gs[i]? = some g) {ns : List Int} (e : ns.isEmpty = !(lit c (gs.take i) t)) (z : ¬ (t - g.1).fmod c < g.2) : ns.isEmpty = !(lit c (gs.take (i + 1)) t) := by
  rw [fm2 hc] at z
  rw [lit_snoc h, decide_eq_false z, Bool.or_false, e]
theorem cnt_whole {c lo : Int} {f : Int → Bool} {A : List (Int × Int)} (hc : 0 < c) (per : ∀ t, f (t % c) = f t) (H : Canon c f A) (same : ∀ t, lit c A t = f t) : cnt f lo (40 + c).toNat = cnt f lo 40 + (A.map fun g => g.2).sum := by
  have e := count_ok (lo := 0) hc per H same c.toNat
  have d : (fun g : Int × Int => beforeG c g (0 + ((c.toNat : Nat) : Int)) - beforeG c g 0) = fun g => g.2 := by
    funext g
    have h1 : (0 + ((c.toNat : Nat) : Int) - g.1) = (0 - g.1) + c * 1 := by omega
    unfold beforeG
    rw [h1, Int.add_mul_emod_self_left, Int.add_mul_ediv_left _ _ (by omega), Int.add_mul, Int.one_mul]
    omega
  rw [d] at e
  have m := cnt_more per (show 1 ≤ c by omega) lo 40 1
  rw [show 40 + 1 * c.toNat = (40 + c).toNat by omega] at m
  rw [m, e]
  omega
end Gr

set_option Elab.async false
set_option linter.all false
set_option pp.deepTerms false
set_option pp.maxSteps 3000
set_option maxRecDepth 100000
set_option maxHeartbeats 8000000
set_option exponentiation.threshold 3000
namespace Gr
open PySem PySem.Spec PyProof.Rows L2
theorem pickV {zs : List V} {r : Int} (h0 : 0 ≤ r) (h1 : r < (zs.length : Int)) : ∃ (j : Nat) (v : V), zs[j]? = some v ∧ atI zs r = some v := by
  obtain ⟨j, rfl⟩ : ∃ j : Nat, r = (j : Int) := ⟨r.toNat, (Int.toNat_of_nonneg h0).symm⟩
  have hl : j < zs.length := by omega
  exact ⟨j, zs[j], List.getElem?_eq_getElem hl, atI_nat (List.getElem?_eq_getElem hl)⟩
def spFree : Sp := fun vs H Q _ => ∃ (p : Addr) (n : Int), vs = [.ref p] ∧ Pond n p H ∧ n ≤ 10 ^ 8 - 10000 ∧ ∀ H', But p H H' → Pond (n + 3000) p H' → Q (.bl true) H'
section
variable {P : Program} {w : World} {K : PySem.W.Frag} {mg : Str → Option Value} {base : Heap} {tC tG : Tok}
theorem ok_free {f f1 f2 f3 f4 f5 : Addr} {fd fd1 fd2 fd3 fd4 fd5 : FuncData} (B : Blt mg tC tG) (Dl_free_right : Def K mg "_law_free_right" s_l_free_right ["_law_pond_here"] f fd) (Dl_fish : Def K mg "_law_fish" s_l_fish ["_law_pond_here", "_law_bound"] f1 fd1) (Dnext_green : Def K mg "next_green" s_next_green ["cycle", "signal", "moment"] f2 fd2) (Dlast_green : Def K mg "last_green" s_last_green ["cycle", "signal", "moment"] f3 fd3) (Dcount_green : Def K mg "count_green" s_count_green ["cycle", "signal", "low", "high"] f4 fd4) (Dshortest_greens : Def K mg "shortest_greens" s_shortest_greens ["cycle", "signal"] f5 fd5)
    (Gnext_green : FnOk P w K mg base CX0 5 f2 fd2 ["cycle", "signal", "moment"] spNext) (Glast_green : FnOk P w K mg base CX0 5 f3 fd3 ["cycle", "signal", "moment"] spLast) (Gcount_green : FnOk P w K mg base CX0 5 f4 fd4 ["cycle", "signal", "low", "high"] spCount) (Gshortest_greens : FnOk P w K mg base CX0 5 f5 fd5 ["cycle", "signal"] spShort) : FnOk P w K mg base CX0 6 f fd ["_law_pond_here"] spFree := by
  have Gl_fish := ok_fish (P := P) (w := w) (base := base) B Dl_fish
  refine Dl_free_right.F.ok scl_free_right (fun vs H Q E h => ?_) (fun cdv A outer s H vs Q E hr h => ⟨_, (pss_cons (ps_asg (pe_tup (pa_cons (pe_op op_add pe_int (pe_call Gl_fish (hr.mono (by decide)) (by rfl) Dl_fish.g Dl_fish.F.kp Dl_fish.b .nil pass0 (pa_cons (pv 0) (pa_cons (pe_ix ix_list (pe_lst (pa_cons pe_int (pa_cons (pe_op op_sub (pe_op op_powW pe_int pe_int) pe_int) pa_nil))) (pe_call Gl_fish (hr.mono (by decide)) (by rfl) Dl_fish.g Dl_fish.F.kp Dl_fish.b .nil pass0 (pa_cons (pv 0) (pa_cons pe_int pa_nil))) (fun _ _ => rfl)) pa_nil)))) (pa_cons (pe_lst pa_nil) pa_nil))) (pg_tup rfl (pgs_cons (pg_name (i := 1) scl_free_right.nd rfl (Or.inr rfl)) (pgs_cons (pg_name (i := 2) scl_free_right.nd rfl (Or.inl rfl)) pgs_nil))))
  (pss_cons (ps_for PassesOwn.never rfl (pi_range1 (by rfl) B.range (pa_cons (pe_op op_add pe_int (pe_call Gl_fish (hr.mono (by decide)) (by rfl) Dl_fish.g Dl_fish.F.kp Dl_fish.b .nil pass0 (pa_cons (pv 0) (pa_cons pe_int pa_nil)))) pa_nil)) (pg_name (i := 3) scl_free_right.nd rfl (Or.inl rfl))
   (pss_cons (ps_set (i := 4) scl_free_right.nd rfl (Or.inl rfl) (pe_call Gl_fish (hr.mono (by decide)) (by rfl) Dl_fish.g Dl_fish.F.kp Dl_fish.b .nil pass0 (pa_cons (pv 0) (pa_cons (pv 1) pa_nil))))
  (Evl.pss_cut (ps_if (PW.pt (pw_and (pt_cmpR (op_neD hr.units) (pv 2) (pe_lst pa_nil) (nomark _)) (pw_and1 (pt_cmpR op_eq (pe_call Gl_fish (hr.mono (by decide)) (by rfl) Dl_fish.g Dl_fish.F.kp Dl_fish.b .nil pass0 (pa_cons (pv 0) (pa_cons pe_int pa_nil))) pe_int (nomark _)))))
   (pss_one (ps_set (i := 4) scl_free_right.nd rfl (Or.inl rfl) (pe_op op_modN (pe_op op_add (pe_op op_add (pe_op op_add (pe_ix ix_tup (pe_ix ix_list (pv 2) (pe_un un_neg pe_int) (fun _ _ => rfl)) pe_int (fun _ _ => rfl)) (pe_ix ix_tup (pe_ix ix_list (pv 2) (pe_un un_neg pe_int) (fun _ _ => rfl)) pe_int (fun _ _ => rfl))) pe_int) (pe_call Gl_fish (hr.mono (by decide)) (by rfl) Dl_fish.g Dl_fish.F.kp Dl_fish.b .nil pass0 (pa_cons (pv 0) (pa_cons pe_int pa_nil)))) (pv 1))))
   pss_nil)
  (pss_one (ps_expr (pe_bm PySem.F.plainAttrs_list PySem.F.slot_list_append PySem.F.type_list_append mt_append (pv 2) (pa_cons (pe_tup (pa_cons (pv 4) (pa_cons (pe_op op_add pe_int (pe_call Gl_fish (hr.mono (by decide)) (by rfl) Dl_fish.g Dl_fish.F.kp Dl_fish.b .nil pass0 (pa_cons (pv 0) (pa_cons (pe_ix ix_list (pe_lst (pa_cons pe_int (pa_cons (pe_op op_fdivW (pv 1) pe_int) pa_nil))) (pe_call Gl_fish (hr.mono (by decide)) (by rfl) Dl_fish.g Dl_fish.F.kp Dl_fish.b .nil pass0 (pa_cons (pv 0) (pa_cons pe_int pa_nil))) (fun _ _ => rfl)) pa_nil)))) pa_nil))) pa_nil)))))))
  (pss_cons (ps_set (i := 2) scl_free_right.nd rfl (Or.inl rfl) (pe_callTy call_tuple_of (by rfl) B.n_tuple (by decide +kernel) (pa_cons (pv 2) pa_nil)))
  (pss_cons (ps_for PassesOwn.never rfl (pi_range1 (by rfl) B.range (pa_cons pe_int pa_nil)) (pg_name (i := 3) scl_free_right.nd rfl (Or.inl rfl))
   (pss_cons (ps_asg (pe_ix ix_tup (pv 2) (pe_call Gl_fish (hr.mono (by decide)) (by rfl) Dl_fish.g Dl_fish.F.kp Dl_fish.b .nil pass0 (pa_cons (pv 0) (pa_cons (pe_callB call_len_seq (by rfl) B.len PySem.boot_len (pa_cons (pv 2) pa_nil)) pa_nil))) (fun _ _ => rfl)) (pg_tup rfl (pgs_cons (pg_name (i := 4) scl_free_right.nd rfl (Or.inl rfl)) (pgs_cons (pg_name (i := 5) scl_free_right.nd rfl (Or.inl rfl)) pgs_nil))))
  (pss_cons (ps_set (i := 6) scl_free_right.nd rfl (Or.inr rfl) (pe_op op_add (pe_op op_sub (pe_op op_add (pe_ix ix_list (pe_lst (pa_cons (pv 4) (pa_cons (pe_op op_add (pv 4) (pv 5)) pa_nil))) (pe_call Gl_fish (hr.mono (by decide)) (by rfl) Dl_fish.g Dl_fish.F.kp Dl_fish.b .nil pass0 (pa_cons (pv 0) (pa_cons pe_int pa_nil))) (fun _ _ => rfl)) (pe_call Gl_fish (hr.mono (by decide)) (by rfl) Dl_fish.g Dl_fish.F.kp Dl_fish.b .nil pass0 (pa_cons (pv 0) (pa_cons pe_int pa_nil)))) pe_int) (pe_op op_mulW (pv 1) (pe_op op_sub (pe_call Gl_fish (hr.mono (by decide)) (by rfl) Dl_fish.g Dl_fish.F.kp Dl_fish.b .nil pass0 (pa_cons (pv 0) (pa_cons pe_int pa_nil))) pe_int))))
  (pss_cons (ps_set (i := 7) scl_free_right.nd rfl (Or.inl rfl) (pe_lst (pa_cons (pv 6) (pa_cons (pv 6) pa_nil))))
  (Evl.pss_cut (ps_if (pt_cmpR (op_eqD hr.units) (pe_lc (own := [("_law_one", 8), ("_law_other", 9)]) (g := (gTup K 2 (gCons (gName 8) (gCons (gName 9) gNil))))  rfl scl_free_right.nd (pi_tup (pv 2)) (blkOk_by (N := ["_law_pond_here", "_law_span", "_law_greens_here", "_law_turn", "_law_place", "_law_size", "_law_t", "_law_due", "_law_one", "_law_other", "_law_moment_here", "_law_whole"]) (sc := defScope s_l_free_right) (by decide +kernel)) (fun _ _ _ _ _ => (pg_tup rfl (pgs_cons (pg_name (i := 8) scl_free_right.nd rfl (Or.inl rfl)) (pgs_cons (pg_name (i := 9) scl_free_right.nd rfl (Or.inl rfl)) pgs_nil)))) (fun _ _ _ _ _ => pts_one (pt_cmpR op_lt (pe_op op_modN (pe_op op_sub (pv 6) (pv 8)) (pv 1)) (pv 9) (nomark _))) (fun _ _ _ _ _ => pe_int)) (pe_lst pa_nil) (nomark _))
   (pss_cons (ps_asg (pe_op op_add (pv 6) (pe_callB (cr_min rfl) (by rfl) B.n_min (by decide +kernel) (pa_cons (pe_lc (own := [("_law_one", 8), ("_law_other", 9)]) (g := (gTup K 2 (gCons (gName 8) (gCons (gName 9) gNil)))) (tt := tYes) rfl scl_free_right.nd (pi_tup (pv 2)) (blkOk_by (N := ["_law_pond_here", "_law_span", "_law_greens_here", "_law_turn", "_law_place", "_law_size", "_law_t", "_law_due", "_law_one", "_law_other", "_law_moment_here", "_law_whole"]) (sc := defScope s_l_free_right) (by decide +kernel)) (fun _ _ _ _ _ => (pg_tup rfl (pgs_cons (pg_name (i := 8) scl_free_right.nd rfl (Or.inl rfl)) (pgs_cons (pg_name (i := 9) scl_free_right.nd rfl (Or.inl rfl)) pgs_nil)))) (fun _ _ _ _ _ => pts_nil) (fun _ _ _ _ _ => (pe_op op_modN (pe_op op_sub (pv 8) (pv 6)) (pv 1)))) pa_nil))) (pg_sub (pv 7) pe_int set_list))
  (pss_one (ps_asg (pe_op op_sub (pv 6) (pe_callB (cr_min rfl) (by rfl) B.n_min (by decide +kernel) (pa_cons (pe_lc (own := [("_law_one", 8), ("_law_other", 9)]) (g := (gTup K 2 (gCons (gName 8) (gCons (gName 9) gNil)))) (tt := tYes) rfl scl_free_right.nd (pi_tup (pv 2)) (blkOk_by (N := ["_law_pond_here", "_law_span", "_law_greens_here", "_law_turn", "_law_place", "_law_size", "_law_t", "_law_due", "_law_one", "_law_other", "_law_moment_here", "_law_whole"]) (sc := defScope s_l_free_right) (by decide +kernel)) (fun _ _ _ _ _ => (pg_tup rfl (pgs_cons (pg_name (i := 8) scl_free_right.nd rfl (Or.inl rfl)) (pgs_cons (pg_name (i := 9) scl_free_right.nd rfl (Or.inl rfl)) pgs_nil)))) (fun _ _ _ _ _ => pts_nil) (fun _ _ _ _ _ => (pe_op op_modN (pe_op op_add (pe_op op_sub (pe_op op_sub (pv 6) (pv 8)) (pv 9)) pe_int) (pv 1)))) pa_nil))) (pg_sub (pv 7) pe_int set_list))))
   pss_nil)
  (pss_cons (ps_if (pt_cmpR (op_neD hr.units) (pe_lst (pa_cons (pe_call Gnext_green (hr.mono (by decide)) (by rfl) Dnext_green.g Dnext_green.F.kp Dnext_green.b .nil pass0 (pa_cons (pv 1) (pa_cons (pv 2) (pa_cons (pv 6) pa_nil)))) (pa_cons (pe_call Glast_green (hr.mono (by decide)) (by rfl) Dlast_green.g Dlast_green.F.kp Dlast_green.b .nil pass0 (pa_cons (pv 1) (pa_cons (pv 2) (pa_cons (pv 6) pa_nil)))) pa_nil))) (pv 7) (nomark _))
   (pss_one (ps_ret pe_bl))
   pss_nil)
  (pss_cons (ps_set (i := 7) scl_free_right.nd rfl (Or.inl rfl) pe_int)
  (pss_cons (ps_for PassesOwn.never rfl (pi_range2W (by rfl) B.range (pa_cons (pv 6) (pa_cons (pe_op op_add (pv 6) pe_int) pa_nil))) (pg_name (i := 10) scl_free_right.nd rfl (Or.inr rfl))
   (pss_one (ps_set (i := 7) scl_free_right.nd rfl (Or.inl rfl) (pe_op op_add (pv 7) (pe_callTy call_int1 (by rfl) B.n_int (by decide +kernel) (pa_cons (pe_cmpR (op_neD hr.units) (pe_lc (own := [("_law_one", 8), ("_law_other", 9)]) (g := (gTup K 2 (gCons (gName 8) (gCons (gName 9) gNil))))  rfl scl_free_right.nd (pi_tup (pv 2)) (blkOk_by (N := ["_law_pond_here", "_law_span", "_law_greens_here", "_law_turn", "_law_place", "_law_size", "_law_t", "_law_due", "_law_one", "_law_other", "_law_moment_here", "_law_whole"]) (sc := defScope s_l_free_right) (by decide +kernel)) (fun _ _ _ _ _ => (pg_tup rfl (pgs_cons (pg_name (i := 8) scl_free_right.nd rfl (Or.inl rfl)) (pgs_cons (pg_name (i := 9) scl_free_right.nd rfl (Or.inl rfl)) pgs_nil)))) (fun _ _ _ _ _ => pts_one (pt_cmpR op_lt (pe_op op_modN (pe_op op_sub (pv 10) (pv 8)) (pv 1)) (pv 9) (nomark _))) (fun _ _ _ _ _ => pe_int)) (pe_lst pa_nil) (nomark _)) pa_nil))))))
  (pss_cons (ps_set (i := 11) scl_free_right.nd rfl (Or.inl rfl) (pe_callB (cr_sum rfl) (by rfl) B.n_sum (by decide +kernel) (pa_cons (pe_lc (own := [("_law_one", 8), ("_law_other", 9)]) (g := (gTup K 2 (gCons (gName 8) (gCons (gName 9) gNil)))) (tt := tYes) rfl scl_free_right.nd (pi_tup (pe_call Gshortest_greens (hr.mono (by decide)) (by rfl) Dshortest_greens.g Dshortest_greens.F.kp Dshortest_greens.b .nil pass0 (pa_cons (pv 1) (pa_cons (pv 2) pa_nil)))) (blkOk_by (N := ["_law_pond_here", "_law_span", "_law_greens_here", "_law_turn", "_law_place", "_law_size", "_law_t", "_law_due", "_law_one", "_law_other", "_law_moment_here", "_law_whole"]) (sc := defScope s_l_free_right) (by decide +kernel)) (fun _ _ _ _ _ => (pg_tup rfl (pgs_cons (pg_name (i := 8) scl_free_right.nd rfl (Or.inl rfl)) (pgs_cons (pg_name (i := 9) scl_free_right.nd rfl (Or.inl rfl)) pgs_nil)))) (fun _ _ _ _ _ => pts_nil) (fun _ _ _ _ _ => (pv 9))) pa_nil)))
  (pss_one (ps_if (pt_cmpR (op_neD hr.units) (pe_lst (pa_cons (pe_call Gcount_green (hr.mono (by decide)) (by rfl) Dcount_green.g Dcount_green.F.kp Dcount_green.b .nil pass0 (pa_cons (pv 1) (pa_cons (pv 2) (pa_cons (pv 6) (pa_cons (pe_op op_add (pv 6) pe_int) pa_nil))))) (pa_cons (pe_call Gcount_green (hr.mono (by decide)) (by rfl) Dcount_green.g Dcount_green.F.kp Dcount_green.b .nil pass0 (pa_cons (pv 1) (pa_cons (pv 2) (pa_cons (pv 6) (pa_cons (pe_op op_add (pe_op op_add (pv 6) pe_int) (pv 1)) pa_nil))))) pa_nil))) (pe_lst (pa_cons (pv 7) (pa_cons (pe_op op_add (pv 7) (pv 11)) pa_nil))) (nomark _))
   (pss_one (ps_ret pe_bl))
   pss_nil)))))))))))
  (pss_one (ps_ret pe_bl)))))), ?_⟩)
  · obtain ⟨p, n, rfl, _⟩ := h; rfl
  · obtain ⟨p, n, rfl, hP, hn, q⟩ := h
    have cp30 : CPowW 10 30 := ⟨by decide, by decide +kernel⟩
    have e30' : (10 : Int) ^ (30 : Int).toNat = 10 ^ 30 := rfl
    refine ⟨_, rfl, _, _, rfl, rfl, cp30, _, _, rfl, rfl, ?_⟩
    refine ⟨(by show 2 ≤ sizeLine; decide), fun L0 hL0 => ⟨_, rfl, p, 2, n, rfl, hP.new hL0, by omega, by decide, by decide +kernel, fun r1 H1 b1 pd1 r10 r11 => ?_⟩⟩
    have hL0p : L0 ≠ p := fun e => hP.ne (e ▸ hL0)
    obtain ⟨v1, hv1, hva1⟩ := pick (xs := [200, 10 ^ (30 : Int).toNat - 41]) r10 r11
    have v1b : 200 ≤ v1 ∧ v1 ≤ 10 ^ 30 - 41 := by
      simp only [List.mem_cons, List.not_mem_nil, or_false, e30'] at hv1
      rcases hv1 with rfl | rfl <;> omega
    refine ⟨L0, _, _, _, rfl, rfl, SqL.of (b1 L0 _ hL0p upd_same), hva1, p, v1, _, rfl, pd1, by omega, by omega, by omega, fun r2 H2 b2 pd2 r20 r21 => ?_⟩
    refine ⟨_, _, rfl, rfl, Nat.zero_le _, fun F hF => ⟨(by show 2 ≤ sizeLine; decide), fun U hU => ?_⟩⟩
    have sp : 41 ≤ 41 + r2 ∧ 41 + r2 ≤ 10 ^ 30 := by omega
    have s100 : 41 + r2 ≤ 10 ^ 100 := by
      have : (10 : Int) ^ 30 ≤ 10 ^ 100 := by decide +kernel
      omega
    have hpF : p ≠ F := fun e => pd2.ne (e ▸ hF)
    have eF2 := Same.new hU (o := .tup [.int (41 + r2), .ref F]) _ _ (upd_same (H := H2) (a := F) (o := .lst []))
    refine ⟨U, _, rfl, SqT.of upd_same, rfl, _, _, rfl, _, _, rfl, rfl, ?_⟩
    have pdU := (pd2.new hF (o := .lst [])).new hU (o := .tup [.int (41 + r2), .ref F])
    have bU : But p H2 (upd (upd H2 F (.lst [])) U (.tup [.int (41 + r2), .ref F])) := Same.but ((Same.new hF).trans (Same.new hU))
    refine ⟨_, rfl, p, 6, _, rfl, pdU, by omega, by decide, by decide +kernel, fun r3 H3 b3 pd3 r30 r31 => ⟨_, _, rfl, rfl, 1 + r3, rfl, by omega, by omega, ?_⟩⟩
    refine for_range (lo := 0) (fun i σ H' => ∃ gs us y3 y4, σ = [some (.ref p), some (.int (41 + r2)), some (.ref F), y3, y4, none, none, none, none, none, none, none] ∧ But p H2 H' ∧ Pond (n + 48 + 100 * i) p H' ∧ H' F = some (.lst us) ∧ Paired (GrAt H') us gs ∧
      gs.length = i ∧ ∀ g ∈ gs, 0 ≤ g.1 ∧ g.1 < 41 + r2 ∧ 1 ≤ g.2 ∧ g.2 ≤ 41 + r2)
      ⟨[], [], none, none, rfl, bU.trans b3, pd3.mono (by omega), b3 F _ hpF.symm eF2, .nil, rfl, fun _ h => (List.not_mem_nil h).elim⟩ ?_ ?_
    · rintro i σ H' hi ⟨gs, us, y3, y4, rfl, bt, pd, hf, hG, hlen, hok⟩
      have i6 : i ≤ 6 := by omega
      refine ⟨_, rfl, _, rfl, p, 41 + r2, _, rfl, pd, by omega, by omega, s100, fun r4 H4 bt4 pd4 r40 r41 => ?_⟩
      obtain ⟨pu, hpu⟩ := pd.some
      have hf4 := bt4 F _ hpF.symm hf
      have hG4 := grs_but bt4 hpu hG
      refine ⟨fun σ' H' => ∃ pl, σ' = [some (.ref p), some (.int (41 + r2)), some (.ref F), some (.int (0 + (i : Int))), some (.int pl), none, none, none, none, none, none, none] ∧ But p H2 H' ∧ Pond (n + 48 + 100 * i + 48) p H' ∧ H' F = some (.lst us) ∧ Paired (GrAt H') us gs ∧ 0 ≤ pl ∧ pl < 41 + r2, ?_, ?_⟩
      · refine ⟨_, rfl, Nat.zero_le _, fun Z hZ => ⟨_, _, .lst (SqL.of (Same.new hZ _ _ hf4)) (dp_pairs (grs_same (Same.new hZ) hG4)), .lst (SqL.of upd_same) .nil, shaped_pairs gs, shaped_nil, _, rfl, ?_⟩⟩
        have hfZ := Same.new hZ (o := .lst []) _ _ hf4
        have hGZ := grs_same (Same.new hZ (o := .lst [])) hG4
        rw [eqv_nil]
        rcases List.eq_nil_or_concat gs with rfl | ⟨gs', g, rfl⟩
        · exact ⟨r4, rfl, (bt.trans bt4).new hZ, (pd4.new hZ).mono (by omega), hfZ, hGZ, r40, r41⟩
        · rw [show (gs'.concat g).isEmpty = false by simp]
          refine ⟨_, rfl, p, 2, _, rfl, pd4.new hZ, by omega, by decide, by decide +kernel, fun r5 H5 bt5 pd5 r50 r51 => ⟨rfl, _, rfl, ?_⟩⟩
          obtain ⟨pu5, hpu5⟩ := (pd4.new hZ (o := .lst [])).some
          have hf5 := bt5 F _ hpF.symm hfZ
          have hG5 := grs_but bt5 hpu5 hGZ
          have b5 : But p H2 H5 := ((bt.trans bt4).new hZ).trans bt5
          by_cases h5 : r5 = 0
          · refine iteY (congrArg V.int h5) ?_
            rcases List.eq_nil_or_concat us with rfl | ⟨us', x, rfl⟩
            · have := paired_len hG5
              simp at this
            · have hx : (us'.concat x)[us'.length]? = some x := by simp
              obtain ⟨g', hg', b, rfl, hb⟩ := paired_at hG5 hx
              have hat : atI (us'.concat (V.ref b)) (-1) = some (V.ref b) := by rw [List.concat_eq_append]; exact atI_last _ _
              refine ⟨_, rfl, _, rfl, F, _, _, _, rfl, rfl, SqL.of hf5, hat, b, _, _, _, rfl, rfl, SqT.of hb, rfl, _, rfl, _, rfl, F, _, _, _, rfl, rfl, SqL.of hf5, hat, b, _, _, _, rfl, rfl, SqT.of hb, rfl, _, _, rfl, rfl, _, _, rfl, rfl, ?_⟩
              refine ⟨_, rfl, p, 9, _, rfl, pd5, by omega, by decide, by decide +kernel, fun r6 H6 b6 pd6 r60 r61 => ⟨_, _, rfl, rfl, _, rfl, _, _, rfl, rfl, (by show 41 + r2 ≠ 0; omega), ?_⟩⟩
              obtain ⟨pu6, hpu6⟩ := pd5.some
              have := fmod_rng (x := g'.1 + g'.2 + 1 + r6) (show 1 ≤ 41 + r2 by omega)
              exact ⟨_, rfl, b5.trans b6, pd6.mono (by omega), b6 F _ hpF.symm hf5, grs_but b6 hpu6 hG5, this.1, this.2⟩
          · exact iteN (fun e => h5 (V.int.inj e)) ⟨r4, rfl, b5, pd5.mono (by omega), hf5, hG5, r40, r41⟩
      · rintro σ' H5 ⟨pl, rfl, bt5, pd5, hf5, hG5, p0, p1⟩
        have cd3 : CDivW (41 + r2) 3 := ⟨by decide, by decide +kernel⟩
        refine ⟨_, rfl, .inl ⟨rfl, _, SqL.of hf5⟩, _, rfl, _, rfl, _, rfl, _, _, rfl, rfl, cd3, (by show 2 ≤ sizeLine; decide), fun L hL => ⟨_, rfl, p, 2, _, rfl, pd5.new hL, by omega, by decide, by decide +kernel, fun r7 H7 b7 pd7 r70 r71 => ?_⟩⟩
        have hLp : L ≠ p := fun e => pd5.ne (e ▸ hL)
        obtain ⟨v7, hv7, hva7⟩ := pick (xs := [20, (41 + r2) / 3]) r70 r71
        have v7b : 1 ≤ v7 ∧ v7 ≤ 41 + r2 := by
          simp only [List.mem_cons, List.not_mem_nil, or_false] at hv7
          rcases hv7 with rfl | rfl <;> omega
        refine ⟨L, _, _, _, rfl, rfl, SqL.of (b7 L _ hLp upd_same), hva7, p, v7, _, rfl, pd7, by omega, by omega, by omega, fun r8 H8 b8 pd8 r80 r81 => ⟨_, _, rfl, rfl, (by show 2 ≤ sizeLine; decide), fun T hT => ?_⟩⟩
        obtain ⟨pu5, hpu5⟩ := (pd5.new hL (o := .lst [.int 20, .int ((41 + r2) / 3)])).some
        obtain ⟨pu7, hpu7⟩ := pd7.some
        have hf8 := b8 F _ hpF.symm (b7 F _ hpF.symm (Same.new hL _ _ hf5))
        have hG8 := grs_but b8 hpu7 (grs_but b7 hpu5 (grs_same (Same.new hL) hG5))
        have b58 : But p H2 H8 := ((bt5.new hL).trans b7).trans b8
        have nTF : F ≠ T := fun e => by rw [← e, hf8] at hT; cases hT
        have lu := paired_len hG8
        refine ⟨F, us, _, rfl, rfl, (by rw [upd_ne nTF]; exact hf8), small1000 (by omega), gs ++ [(pl, 1 + r8)], us ++ [.ref T], _, _, rfl, (b58.new hT).mut hF, ?_, upd_same, paired_snoc (L2.Paired.mapP hG8 fun _ _ ⟨b, e, h⟩ => ⟨b, e, ?_⟩) ⟨T, rfl, ?_⟩, by simp [hlen], fun g hg => ?_⟩
        · obtain ⟨a, b, c, e1, e2, e3, e4, e5⟩ := pd8.new hT (o := .tup [.int pl, .int (1 + r8)])
          exact ⟨a, b, c, by rw [upd_ne hpF]; exact e1, e2, e3, e4, by push_cast; omega⟩
        · rw [upd_ne (ne_of h hf8 (fun z => nomatch z))]; exact Same.new hT _ _ h
        · rw [upd_ne nTF.symm]; exact upd_same
        · rcases List.mem_append.mp hg with h | h
          · exact hok g h
          · rw [List.mem_singleton.mp h]
            simp only; omega
    · rintro σ H' ⟨gs, us, y3, y4, rfl, bt, pd, hf, hG, hlen, hok⟩
      have okG : OkG (41 + r2) gs := ⟨by omega, by omega, hok⟩
      have lu := paired_len hG
      refine ⟨_, rfl, F, us, rfl, .inl ⟨SqL.of hf, fun A hA => ?_⟩⟩
      have hS : SigT (upd H' A (.tup us)) A gs := ⟨us, upd_same, grs_same (Same.new hA) hG⟩
      refine ⟨8, rfl, by decide, by decide, ?_⟩
      refine for_range (lo := 0) (fun i σ H2' => ∃ y3 y4 y5 y6 y7 y10 y11, σ = [some (.ref p), some (.int (41 + r2)), some (.ref A), y3, y4, y5, y6, y7, none, none, y10, y11] ∧ But p (upd H' A (.tup us)) H2' ∧ Pond (n + 1000 + 100 * i) p H2') ⟨_, _, _, _, _, _, _, rfl, But.refl _ _, (pd.new hA).mono (by omega)⟩ ?_ ?_
      · rintro i σ H3' hi ⟨z3, z4, y5, y6, y7, y10, y11, rfl, b3', pd3'⟩
        have pd0 := (pd.new hA (o := .tup us))
        obtain ⟨puA, hpuA⟩ := pd0.some
        obtain ⟨puB, hpuB⟩ := pd3'.some
        have hS3 := hS.but b3' hpuA
        obtain ⟨xs, hx, hX⟩ := id hS3
        have lx := paired_len hX
        have g1 := okG.1
        have g2 := okG.2.1
        refine ⟨_, rfl, _, rfl, _, rfl, A, xs, rfl, .inr (SqT.of hx), p, (xs.length : Int), _, rfl, pd3', by omega, by omega, by omega, fun k1 H4 c4 pe4 k10 k11 => ?_⟩
        obtain ⟨j, x, hj, hat⟩ := pickV k10 k11
        obtain ⟨gr, hgr, bq, rfl, hbq⟩ := paired_at hX hj
        have rg := hok gr (List.mem_of_getElem? hgr)
        have hS4 := hS3.but c4 hpuB
        have hx4 := c4 A _ (ne_of hx hpuB (fun z => nomatch z)) hx
        have hbq4 := c4 bq _ (ne_of hbq hpuB (fun z => nomatch z)) hbq
        refine ⟨A, _, _, _, rfl, rfl, SqT.of hx4, hat, bq, _, rfl, SqT.of hbq4, rfl, _, _, rfl, _, _, rfl, rfl, ?_⟩
        refine ⟨_, rfl, _, rfl, _, rfl, _, _, rfl, rfl, (by show 2 ≤ sizeLine; decide), fun L hL => ⟨_, rfl, p, 2, _, rfl, pe4.new hL, by omega, by decide, by decide +kernel, fun k2 H5 c5 pe5 k20 k21 => ?_⟩⟩
        have hLp : L ≠ p := fun e => pe4.ne (e ▸ hL)
        obtain ⟨v2, hv2, hva2⟩ := pick (xs := [gr.1, gr.1 + gr.2]) k20 k21
        have v2b : 0 ≤ v2 ∧ v2 ≤ 2 * (41 + r2) := by
          simp only [List.mem_cons, List.not_mem_nil, or_false] at hv2
          rcases hv2 with rfl | rfl <;> omega
        refine ⟨L, _, _, _, rfl, rfl, SqL.of (c5 L _ hLp upd_same), hva2, ?_⟩
        refine ⟨_, rfl, p, 40, _, rfl, pe5, by omega, by decide, by decide +kernel, fun k3 H6 c6 pe6 k30 k31 => ⟨_, _, rfl, rfl, _, _, rfl, rfl, ?_⟩⟩
        refine ⟨_, rfl, _, rfl, p, 9, _, rfl, pe6, by omega, by decide, by decide +kernel, fun k4 H7 c7 pe7 k40 k41 => ⟨_, _, rfl, rfl, ?_⟩⟩
        have n300 : ∀ x : Int, -(10 ^ 60) ≤ x → x ≤ 10 ^ 60 → x.natAbs < 2 ^ 300 := fun x x0 x1 => by
          have : (10 : Int) ^ 60 < ((2 ^ 300 : Nat) : Int) := by decide +kernel
          omega
        have m1 := Int.mul_le_mul_of_nonneg_left (show k4 - 4 ≤ 4 by omega) (show 0 ≤ 41 + r2 by omega)
        have m2 := Int.mul_le_mul_of_nonneg_left (show -4 ≤ k4 - 4 by omega) (show 0 ≤ 41 + r2 by omega)
        have mS : CMulW (41 + r2) (k4 - 4) := wide_mul (a := 300) (b := 300) (n300 _ (by omega) (by omega)) (n300 _ (by omega) (by omega)) (by decide) (by decide) (by decide)
        refine ⟨_, _, rfl, rfl, mS, _, _, rfl, rfl, ?_⟩
        obtain ⟨pu4, hpu4⟩ := (pe4.new hL (o := .lst [.int gr.1, .int (gr.1 + gr.2)])).some
        obtain ⟨pu5, hpu5⟩ := pe5.some
        obtain ⟨pu6, hpu6⟩ := pe6.some
        have hS7 := (((hS4.mono (Same.new hL)).but c5 hpu4).but c6 hpu5).but c7 hpu6
        have bt7 : But p H3' H7 := (((c4.new hL).trans c5).trans c6).trans c7
        refine ⟨_, rfl, _, rfl, (by show 2 ≤ sizeLine; decide), fun D hD => ?_⟩
        obtain ⟨xs7, hx7, hX7⟩ := id hS7
        have lx7 := paired_len hX7
        obtain ⟨T, hT⟩ : ∃ T, T = v2 + k3 - 20 + (41 + r2) * (k4 - 4) := ⟨_, rfl⟩
        have tb : -(10 ^ 32) ≤ T ∧ T ≤ 10 ^ 32 := by omega
        have nz : 41 + r2 ≠ 0 := by omega
        refine ⟨fun σ' H' => ∃ Dv m1 m2, σ' = [some (.ref p), some (.int (41 + r2)), some (.ref A), some (.int (0 + (i : Int))), some (.int gr.1), some (.int gr.2), some (.int T), some (.ref Dv), none, none, y10, y11] ∧ Same H7 H' ∧ H' Dv = some (.lst ([m1, m2].map V.int)) ∧ NextAt (lit (41 + r2) gs) T m1 ∧ LastAt (lit (41 + r2) gs) T m2, ?_, ?_⟩
        · subst hT
          have hxD := Same.new hD (o := .lst [.int (v2 + k3 - 20 + (41 + r2) * (k4 - 4)), .int (v2 + k3 - 20 + (41 + r2) * (k4 - 4))]) _ _ hx7
          refine ⟨_, rfl, A, rfl, ⟨_, SqT.of hxD⟩, fun D1 hD1 => ?_⟩
          refine lc_tup (xs := xs7) (fun i H' => ∃ ns : List Int, Same (upd H7 D (.lst [.int (v2 + k3 - 20 + (41 + r2) * (k4 - 4)), .int (v2 + k3 - 20 + (41 + r2) * (k4 - 4))])) H' ∧ H' D1 = some (.lst (ns.map V.int)) ∧ ns.length ≤ i ∧ ns.isEmpty = !(lit (41 + r2) (gs.take i) (v2 + k3 - 20 + (41 + r2) * (k4 - 4)))) ⟨[], Same.new hD1, upd_same, Nat.zero_le _, rfl⟩ (fun i H' _ ⟨_, s1, _⟩ => SqT.of (s1 _ _ hxD)) ?_ ?_
          · rintro i2 x H' hxi ⟨ns, s1, e1, l1, q1⟩
            obtain ⟨g, hg, b, rfl, hb⟩ := paired_at hX7 hxi
            have i6 : i2 ≤ 6 := by have := (List.getElem?_eq_some_iff.mp hg).1; omega
            refine ⟨b, _, rfl, SqT.of (s1 _ _ (Same.new hD _ _ hb)), rfl, _, _, rfl, _, _, rfl, rfl, rfl, ?_⟩
            refine ⟨_, rfl, _, rfl, _, _, rfl, rfl, _, rfl, _, _, rfl, rfl, nz, _, rfl, _, _, rfl, rfl, _, rfl, ?_⟩
            by_cases z : (v2 + k3 - 20 + (41 + r2) * (k4 - 4) - g.1).fmod (41 + r2) < g.2
            · refine iteY z ⟨_, e1, by rw [List.length_map]; exact small1000 (by omega), ns ++ [1], fun b' o h => ?_, by rw [upd_same, List.map_append]; rfl, by rw [List.length_append]; simp only [List.length_singleton]; omega, ones_yes (by omega) hg ns z⟩
              rw [upd_ne (ne_of_none h hD1)]; exact s1 _ _ h
            · exact iteN z ⟨ns, s1, e1, by omega, ones_no (by omega) hg q1 z⟩
          · rintro H' ⟨ns, s1, e1, l1, q1⟩
            rw [List.take_of_length_le (by omega)] at q1
            refine ⟨Nat.zero_le _, fun Z hZ => eqNil ns (Same.new hZ _ _ e1) upd_same ⟨_, rfl, ?_⟩⟩
            have sm' : Same H7 (upd H' Z (.lst [])) := ((Same.new hD).trans s1).trans (Same.new hZ)
            have eD' := Same.new hZ (o := .lst []) _ _ (s1 _ _ upd_same)
            rw [q1]
            cases el : lit (41 + r2) gs (v2 + k3 - 20 + (41 + r2) * (k4 - 4)) with
            | true =>
              refine iteF ?_
              exact ⟨D, _, _, rfl, sm', eD', ⟨Int.le_refl _, el, fun k k0 k1 => by omega⟩, ⟨Int.le_refl _, el, fun k k0 k1 => by omega⟩⟩
            | false =>
              have hx' := sm' _ _ hx7
              refine ⟨_, rfl, _, rfl, A, rfl, ⟨_, SqT.of hx'⟩, fun D2 hD2 => ?_⟩
              refine lc_tup (xs := xs7) (fun i H3 => Same (upd H' Z (.lst [])) H3 ∧ H3 D2 = some (.lst (((gs.take i).map fun g => (g.1 - (v2 + k3 - 20 + (41 + r2) * (k4 - 4))).fmod (41 + r2)).map V.int))) ⟨Same.new hD2, upd_same⟩ (fun i H' _ ⟨s1, _⟩ => SqT.of (s1 _ _ hx')) ?_ ?_
              · rintro i2 x H3 hxi ⟨s3, e3⟩
                obtain ⟨g, hg, b, rfl, hb⟩ := paired_at hX7 hxi
                refine ⟨b, _, rfl, SqT.of (s3 _ _ (sm' _ _ hb)), rfl, _, _, rfl, _, _, rfl, rfl, rfl, ?_⟩
                refine ⟨_, rfl, _, rfl, _, _, rfl, rfl, _, rfl, _, _, rfl, rfl, nz, _, e3, ?_, fun b' o h => ?_, ?_⟩
                · rw [List.length_map, List.length_map, List.length_take]; exact small1000 (by omega)
                · rw [upd_ne (ne_of_none h hD2)]; exact s3 _ _ h
                · rw [upd_same, List.take_add_one, hg, List.map_append, List.map_append]; rfl
              · rintro H3 ⟨s3, e3⟩
                rw [List.take_of_length_le (by omega)] at e3
                refine ⟨D2, _, rfl, SqL.of e3, by rw [List.length_map]; exact okG.1, fun m hm le => ?_⟩
                have eD3 := s3 _ _ eD'
                refine ⟨_, _, rfl, rfl, _, rfl, D, _, 0, 0, rfl, rfl, eD3, rfl, ?_⟩
                -- the second one
                have sm3 : Same H7 (upd H3 D (.lst [.int ((v2 + k3 - 20 + (41 + r2) * (k4 - 4)) + m), .int (v2 + k3 - 20 + (41 + r2) * (k4 - 4))])) := fun q o h => by
                  rw [upd_ne (ne_of_none h hD)]
                  exact s3 _ _ (sm' _ _ h)
                have hx3 := sm3 _ _ hx7
                refine ⟨_, rfl, _, rfl, A, rfl, ⟨_, SqT.of hx3⟩, fun D4 hD4 => ?_⟩
                have nD4 : D ≠ D4 := fun e => by rw [← e, upd_same] at hD4; cases hD4
                refine lc_tup (xs := xs7) (fun i H4 => Same (upd H3 D (.lst [.int ((v2 + k3 - 20 + (41 + r2) * (k4 - 4)) + m), .int (v2 + k3 - 20 + (41 + r2) * (k4 - 4))])) H4 ∧ H4 D4 = some (.lst (((gs.take i).map fun g => ((v2 + k3 - 20 + (41 + r2) * (k4 - 4)) - g.1 - g.2 + 1).fmod (41 + r2)).map V.int))) ⟨Same.new hD4, upd_same⟩ (fun i H' _ ⟨s1, _⟩ => SqT.of (s1 _ _ hx3)) ?_ ?_
                · rintro i2 x H4 hxi ⟨s4, e4⟩
                  obtain ⟨g, hg, b, rfl, hb⟩ := paired_at hX7 hxi
                  refine ⟨b, _, rfl, SqT.of (s4 _ _ (sm3 _ _ hb)), rfl, _, _, rfl, _, _, rfl, rfl, rfl, ?_⟩
                  refine ⟨_, rfl, _, rfl, _, _, rfl, rfl, _, rfl, _, _, rfl, rfl, _, _, rfl, rfl, _, rfl, _, _, rfl, rfl, nz, _, e4, ?_, fun b' o h => ?_, ?_⟩
                  · rw [List.length_map, List.length_map, List.length_take]; exact small1000 (by omega)
                  · rw [upd_ne (ne_of_none h hD4)]; exact s4 _ _ h
                  · rw [upd_same, List.take_add_one, hg, List.map_append, List.map_append]; rfl
                · rintro H4 ⟨s4, e4⟩
                  rw [List.take_of_length_le (by omega)] at e4
                  refine ⟨D4, _, rfl, SqL.of e4, by rw [List.length_map]; exact okG.1, fun m2 hm2 le2 => ?_⟩
                  refine ⟨_, _, rfl, rfl, _, rfl, D, _, 1, 1, rfl, rfl, s4 _ _ upd_same, rfl, ?_⟩
                  refine ⟨D, (v2 + k3 - 20 + (41 + r2) * (k4 - 4)) + m, (v2 + k3 - 20 + (41 + r2) * (k4 - 4)) - m2, rfl, fun q o h => ?_, upd_same, next_out okG el hm le, last_out okG el hm2 le2⟩
                  rw [upd_ne (ne_of_none h hD)]
                  exact s4 _ _ (sm3 _ _ h)
        · rintro σ' H8 ⟨Dv, m1, m2, rfl, sm8, eD, n1, n2⟩
          have leC : 41 + r2 ≤ 10 ^ 30 := by omega
          have hS8 := hS7.mono sm8
          refine ⟨_, rfl, _, rfl, _, rfl, A, 41 + r2, T, gs, rfl, hS8, okG, leC, fun x1 H9 sm9 nx1 => ?_⟩
          refine ⟨_, rfl, _, rfl, _, rfl, A, 41 + r2, T, gs, rfl, hS8.mono sm9, okG, leC, fun x2 H10 sm10 la2 => ⟨(by show 2 ≤ sizeLine; decide), fun M hM => ?_⟩⟩
          obtain rfl := nx1.uniq n1
          obtain rfl := la2.uniq n2
          refine ⟨_, rfl, neInts [x1, x2] upd_same (Same.new hM _ _ (sm10 _ _ (sm9 _ _ eD))) ⟨false, rfl, iteF ?_⟩⟩
          have smM : Same H7 (upd H10 M (.lst [.int x1, .int x2])) := ((sm8.trans sm9).trans sm10).trans (Same.new hM)
          obtain ⟨HM, hHM⟩ : ∃ HM, HM = upd H10 M (.lst [.int x1, .int x2]) := ⟨_, rfl⟩
          rw [← hHM] at smM
          have hxM := smM _ _ hx7
          refine ⟨_, rfl, _, rfl, _, _, rfl, rfl, T, T + 40, rfl, ?_⟩
          refine for_range (lo := T) (n := (T + 40 - T).toNat) (fun k σ H' => ∃ y10', σ = [some (.ref p), some (.int (41 + r2)), some (.ref A), some (.int (0 + (i : Int))), some (.int gr.1), some (.int gr.2), some (.int T), some (.int (cnt (lit (41 + r2) gs) T k)), none, none, y10', y11] ∧ Same HM H') ⟨_, rfl, by rw [hHM]; exact Same.refl _⟩ ?_ ?_
          · rintro k σ H' hk ⟨y10', rfl, smk⟩
            have hxk := smk _ _ hxM
            refine ⟨_, rfl, _, rfl, A, rfl, ⟨_, SqT.of hxk⟩, fun D1 hD1 => ?_⟩
            refine lc_tup (xs := xs7) (fun i H2 => ∃ ns : List Int, Same H' H2 ∧ H2 D1 = some (.lst (ns.map V.int)) ∧ ns.length ≤ i ∧ ns.isEmpty = !(lit (41 + r2) (gs.take i) (T + (k : Int)))) ⟨[], Same.new hD1, upd_same, Nat.zero_le _, rfl⟩ (fun i H' _ ⟨_, s1, _⟩ => SqT.of (s1 _ _ hxk)) ?_ ?_
            · rintro i2 x H2 hxi ⟨ns, s1, e1, l1, q1⟩
              obtain ⟨g, hg, b, rfl, hb⟩ := paired_at hX7 hxi
              have i6 : i2 ≤ 6 := by have := (List.getElem?_eq_some_iff.mp hg).1; omega
              refine ⟨b, _, rfl, SqT.of (s1 _ _ (smk _ _ (smM _ _ hb))), rfl, _, _, rfl, _, _, rfl, rfl, rfl, ?_⟩
              refine ⟨_, rfl, _, rfl, _, _, rfl, rfl, _, rfl, _, _, rfl, rfl, nz, _, rfl, _, _, rfl, rfl, _, rfl, ?_⟩
              by_cases z : (T + (k : Int) - g.1).fmod (41 + r2) < g.2
              · refine iteY z ⟨_, e1, by rw [List.length_map]; exact small1000 (by omega), ns ++ [1], fun b' o h => ?_, by rw [upd_same, List.map_append]; rfl, by rw [List.length_append]; simp only [List.length_singleton]; omega, ones_yes (by omega) hg ns z⟩
                rw [upd_ne (ne_of_none h hD1)]; exact s1 _ _ h
              · exact iteN z ⟨ns, s1, e1, by omega, ones_no (by omega) hg q1 z⟩
            · rintro H2 ⟨ns, s1, e1, l1, q1⟩
              rw [List.take_of_length_le (by omega)] at q1
              refine ⟨Nat.zero_le _, fun Z hZ => neNil ns (Same.new hZ _ _ e1) upd_same (.inr ⟨_, rfl, _, _, rfl, rfl, ?_⟩)⟩
              rw [q1, Bool.not_not]
              exact ⟨_, rfl, (smk.trans s1).trans (Same.new hZ)⟩
          · rintro σ Hr ⟨y10', rfl, smr⟩
            have smr' := smM.trans smr
            have per : ∀ t, lit (41 + r2) gs (t % (41 + r2)) = lit (41 + r2) gs t := fun t => lit_mod _ gs t
            refine ⟨_, rfl, _, rfl, A, 41 + r2, gs, rfl, hS7.mono smr', okG, leC, fun a Ac H11 sm11 hA can same nA lA => ?_⟩
            obtain ⟨xa, hxa, hPa⟩ := id hA
            have lxa := paired_len hPa
            refine ⟨a, rfl, ⟨_, SqT.of hxa⟩, fun D5 hD5 => ?_⟩
            refine lc_tup (xs := xa) (fun i H5 => Same H11 H5 ∧ H5 D5 = some (.lst (((Ac.take i).map fun g => g.2).map V.int))) ⟨Same.new hD5, upd_same⟩ (fun i H' _ ⟨s1, _⟩ => SqT.of (s1 _ _ hxa)) ?_ ?_
            · rintro i2 x H5 hxi ⟨s5, e5⟩
              obtain ⟨g, hg, b, rfl, hb⟩ := paired_at hPa hxi
              refine ⟨b, _, rfl, SqT.of (s5 _ _ hb), rfl, _, _, rfl, _, _, rfl, rfl, rfl, ?_⟩
              refine ⟨_, rfl, _, e5, ?_, fun b' o h => ?_, ?_⟩
              · rw [List.length_map, List.length_map, List.length_take]; exact small1000 (by omega)
              · rw [upd_ne (ne_of_none h hD5)]; exact s5 _ _ h
              · rw [upd_same, List.take_add_one, hg, List.map_append, List.map_append]; rfl
            · rintro H5 ⟨s5, e5⟩
              rw [List.take_of_length_le (by omega)] at e5
              refine ⟨D5, _, rfl, SqL.of e5, ?_⟩
              have sm5 := (smr'.trans sm11).trans s5
              have fit : ∀ x : Int, -(10 ^ 60) ≤ x → x ≤ 10 ^ 60 → x.natAbs < 2 ^ 600 := fun x x0 x1 => by
                have : (10 : Int) ^ 60 < ((2 ^ 600 : Nat) : Int) := by decide +kernel
                omega
              refine ⟨_, rfl, _, rfl, _, rfl, _, rfl, _, _, rfl, rfl, A, 41 + r2, T, T + 40, gs, rfl, hS7.mono sm5, okG, leC, fit _ (by omega) (by omega), fit _ (by omega) (by omega), fun H12 sm12 => ?_⟩
              refine ⟨_, rfl, _, rfl, _, rfl, _, rfl, _, _, rfl, rfl, _, rfl, _, _, rfl, rfl, A, 41 + r2, T, T + 40 + (41 + r2), gs, rfl, hS7.mono (sm5.trans sm12), okG, leC, fit _ (by omega) (by omega), fit _ (by omega) (by omega), fun H13 sm13 => ?_⟩
              have e40 : cnt (lit (41 + r2) gs) T (T + 40 + (41 + r2) - T).toNat = cnt (lit (41 + r2) gs) T (T + 40 - T).toNat + (Ac.map fun g => g.2).sum := by
                have := cnt_whole (lo := T) (show 0 < 41 + r2 by omega) per can same
                rw [show (T + 40 + (41 + r2) - T).toNat = (40 + (41 + r2)).toNat by omega, show (T + 40 - T).toNat = 40 by omega]
                exact this
              rw [e40]
              refine ⟨(by show 2 ≤ sizeLine; decide), fun N hN => ⟨_, rfl, _, rfl, _, rfl, _, _, rfl, rfl, (by show 2 ≤ sizeLine; decide), fun O hO => ?_⟩⟩
              refine neInts [cnt (lit (41 + r2) gs) T (T + 40 - T).toNat, cnt (lit (41 + r2) gs) T (T + 40 - T).toNat + (Ac.map fun g => g.2).sum] (Same.new hO _ _ upd_same) upd_same ⟨false, rfl, iteF ?_⟩
              have sf := (((sm5.trans sm12).trans sm13).trans (Same.new hN (o := .lst [.int (cnt (lit (41 + r2) gs) T (T + 40 - T).toNat), .int (cnt (lit (41 + r2) gs) T (T + 40 - T).toNat + (Ac.map fun g => g.2).sum)]))).trans (Same.new hO (o := .lst [.int (cnt (lit (41 + r2) gs) T (T + 40 - T).toNat), .int (cnt (lit (41 + r2) gs) T (T + 40 - T).toNat + (Ac.map fun g => g.2).sum)]))
              exact ⟨_, _, _, _, _, _, _, rfl, b3'.trans (bt7.trans (Same.but sf)), (pe7.same sf).mono (by push_cast; omega)⟩
      · rintro σ H3' ⟨z3, z4, y5, y6, y7, y10, y11, rfl, b3', pd3'⟩
        exact q _ (((((Same.but (Same.new hL0)).trans b1).trans b2).trans bt).trans ((Same.but (Same.new hA)).trans b3')) (pd3'.mono (by push_cast; omega))
end
end Gr

set_option Elab.async false
set_option linter.all false
set_option pp.deepTerms false
set_option pp.maxSteps 3000
set_option maxRecDepth 100000
set_option maxHeartbeats 8000000
set_option exponentiation.threshold 3000
namespace Gr
open PySem PySem.Spec PyProof.Rows L2
def spLaw (K : PySem.W.Frag) : Sp := fun vs H Q _ => ∃ (a : Addr) (ns : List Int), vs = [.ref a] ∧ SqL K H a (ns.map V.int) ∧ ns.length ≤ 63 ∧ ∀ H', Q (.bl true) H'
theorem But.same {p : Addr} {H H1 H2 : Hp} (b : But p H1 H2) (s : Same H H1) (hp : H p = none) : Same H H2 := fun q o e => b q o (ne_of_none e hp) (s q o e)
theorem ex_next : NextAt (lit 10 [(0, 4)]) 5 10 := ⟨by decide, by decide, fun k k0 k1 => by
  have : k = 5 ∨ k = 6 ∨ k = 7 ∨ k = 8 ∨ k = 9 := by omega
  rcases this with rfl | rfl | rfl | rfl | rfl <;> decide⟩
theorem ex_last : LastAt (lit 10 [(0, 4)]) 5 3 := ⟨by decide, by decide, fun k k0 k1 => by
  have : k = 4 ∨ k = 5 := by omega
  rcases this with rfl | rfl <;> decide⟩
theorem ex_cnt : cnt (lit 10 [(0, 4)]) 0 (25 - 0 : Int).toNat = 12 := by decide +kernel
section
variable {P : Program} {w : World} {K : PySem.W.Frag} {mg : Str → Option Value} {base : Heap} {tC tG : Tok}
theorem ok_law {f f1 f2 f3 f4 f5 f6 f7 f8 : Addr} {fd fd1 fd2 fd3 fd4 fd5 fd6 fd7 fd8 : FuncData} (B : Blt mg tC tG) (Dlaw : Def K mg "law" s_law ["_law_script"] f fd) (Dl_fish : Def K mg "_law_fish" s_l_fish ["_law_pond_here", "_law_bound"] f1 fd1) (Dl_pond : Def K mg "_law_pond" s_l_pond ["_law_script", "_law_k"] f2 fd2) (Dl_greens : Def K mg "_law_greens" s_l_greens ["_law_pond_here", "_law_span"] f3 fd3) (Dl_right : Def K mg "_law_right" s_l_right ["_law_pond_here", "_law_span", "_law_greens_here"] f4 fd4) (Dl_free_right : Def K mg "_law_free_right" s_l_free_right ["_law_pond_here"] f5 fd5) (Dnext_green : Def K mg "next_green" s_next_green ["cycle", "signal", "moment"] f6 fd6) (Dlast_green : Def K mg "last_green" s_last_green ["cycle", "signal", "moment"] f7 fd7) (Dcount_green : Def K mg "count_green" s_count_green ["cycle", "signal", "low", "high"] f8 fd8)
    (Gnext_green : FnOk P w K mg base CX0 5 f6 fd6 ["cycle", "signal", "moment"] spNext) (Glast_green : FnOk P w K mg base CX0 5 f7 fd7 ["cycle", "signal", "moment"] spLast) (Gcount_green : FnOk P w K mg base CX0 5 f8 fd8 ["cycle", "signal", "low", "high"] spCount)
    (Gl_right : FnOk P w K mg base CX0 7 f4 fd4 ["_law_pond_here", "_law_span", "_law_greens_here"] spRight) (Gl_free_right : FnOk P w K mg base CX0 6 f5 fd5 ["_law_pond_here"] spFree) : FnOk P w K mg base CX0 8 f fd ["_law_script"] (spLaw K) := by
  have Gl_fish := ok_fish (P := P) (w := w) (base := base) B Dl_fish
  have Gl_pond := ok_pond (P := P) (w := w) (base := base) B Dl_pond
  have Gl_greens := ok_greens (P := P) (w := w) (base := base) B Dl_greens Dl_fish
  refine Dlaw.F.ok sclaw (fun vs H Q E h => ?_) (fun cdv A outer s H vs Q E hr h => ⟨_, (pss_cons (ps_for PassesOwn.never rfl (pi_range1 (by rfl) B.range (pa_cons (pe_callB (call_max2 rfl) (by rfl) B.n_max (by decide +kernel) (pa_cons pe_int (pa_cons (pe_callB (call_min2 rfl) (by rfl) B.n_min (by decide +kernel) (pa_cons pe_int (pa_cons (pe_callB call_len_seq (by rfl) B.len PySem.boot_len (pa_cons (pv 0) pa_nil)) pa_nil))) pa_nil))) pa_nil)) (pg_name (i := 1) sclaw.nd rfl (Or.inl rfl))
   (pss_cons (ps_set (i := 2) sclaw.nd rfl (Or.inl rfl) (pe_call Gl_pond (hr.mono (by decide)) (by rfl) Dl_pond.g Dl_pond.F.kp Dl_pond.b .nil pass0 (pa_cons (pv 0) (pa_cons (pv 1) pa_nil))))
  (pss_one (ps_for PassesOwn.never rfl (pi_range1 (by rfl) B.range (pa_cons pe_int pa_nil)) (pg_name (i := 3) sclaw.nd rfl (Or.inl rfl))
   (pss_cons (ps_set (i := 4) sclaw.nd rfl (Or.inl rfl) (pe_ix ix_list (pe_lst (pa_cons (pe_op op_add pe_int (pe_call Gl_fish (hr.mono (by decide)) (by rfl) Dl_fish.g Dl_fish.F.kp Dl_fish.b .nil pass0 (pa_cons (pv 2) (pa_cons pe_int pa_nil)))) (pa_cons pe_int (pa_cons pe_int (pa_cons pe_int pa_nil))))) (pe_call Gl_fish (hr.mono (by decide)) (by rfl) Dl_fish.g Dl_fish.F.kp Dl_fish.b .nil pass0 (pa_cons (pv 2) (pa_cons pe_int pa_nil))) (fun _ _ => rfl)))
  (pss_one (ps_if (PW.pt (pw_or (pt_not (pt_val (pe_call Gl_right (hr.mono (by decide)) (by rfl) Dl_right.g Dl_right.F.kp Dl_right.b .nil pass0 (pa_cons (pv 2) (pa_cons (pv 4) (pa_cons (pe_call Gl_greens (hr.mono (by decide)) (by rfl) Dl_greens.g Dl_greens.F.kp Dl_greens.b .nil pass0 (pa_cons (pv 2) (pa_cons (pv 4) pa_nil))) pa_nil)))))) (pw_or1 (pt_not (pt_val (pe_call Gl_free_right (hr.mono (by decide)) (by rfl) Dl_free_right.g Dl_free_right.F.kp Dl_free_right.b .nil pass0 (pa_cons (pv 2) pa_nil)))))))
   (pss_one (ps_ret pe_bl))
   pss_nil)))))))
  (pss_cons (ps_set (i := 5) sclaw.nd rfl (Or.inl rfl) (pe_lst (pa_cons (pe_call Gnext_green (hr.mono (by decide)) (by rfl) Dnext_green.g Dnext_green.F.kp Dnext_green.b .nil pass0 (pa_cons pe_int (pa_cons (pe_tup (pa_cons (pe_tup (pa_cons pe_int (pa_cons pe_int pa_nil))) pa_nil)) (pa_cons pe_int pa_nil)))) (pa_cons (pe_call Glast_green (hr.mono (by decide)) (by rfl) Dlast_green.g Dlast_green.F.kp Dlast_green.b .nil pass0 (pa_cons pe_int (pa_cons (pe_tup (pa_cons (pe_tup (pa_cons pe_int (pa_cons pe_int pa_nil))) pa_nil)) (pa_cons pe_int pa_nil)))) (pa_cons (pe_call Gcount_green (hr.mono (by decide)) (by rfl) Dcount_green.g Dcount_green.F.kp Dcount_green.b .nil pass0 (pa_cons pe_int (pa_cons (pe_tup (pa_cons (pe_tup (pa_cons pe_int (pa_cons pe_int pa_nil))) pa_nil)) (pa_cons pe_int (pa_cons pe_int pa_nil))))) pa_nil)))))
  (pss_one (ps_ret (pe_cmpR (op_eqD hr.units) (pv 5) (pe_lst (pa_cons pe_int (pa_cons pe_int (pa_cons pe_int pa_nil)))) (nomark _)))))), ?_⟩)
  · obtain ⟨a, ns, rfl, _⟩ := h; rfl
  · obtain ⟨a, ns, rfl, hS, hl, q⟩ := h
    refine ⟨_, rfl, a, _, rfl, .inl hS, _, _, rfl, _, _, rfl, _, rfl, ?_, ?_, ?_⟩
    · rw [List.length_map]; split <;> split <;> omega
    · rw [List.length_map]; split <;> split <;> omega
    refine for_range (lo := 0) (fun i σ H' => ∃ y1 y2 y3 y4, σ = [some (.ref a), y1, y2, y3, y4, none] ∧ Same H H') ⟨_, _, _, _, rfl, Same.refl H⟩ ?_ ?_
    · rintro k σ H0 hk ⟨y1, y2, y3, y4, rfl, s0⟩
      have k8 : k ≤ 8 := by
        rw [List.length_map] at hk
        split at hk <;> split at hk <;> omega
      refine ⟨_, rfl, _, rfl, a, _, ns, rfl, s0.seq hS, by omega, by omega, fun p H1 hp0 s1 pd1 => ?_⟩
      refine ⟨3, rfl, by decide, by decide, ?_⟩
      refine for_range (lo := 0) (fun i σ H' => ∃ y3 y4, σ = [some (.ref a), some (.int (0 + (k : Int))), some (.ref p), y3, y4, none] ∧ But p H1 H' ∧ Pond (9000 * i) p H') ⟨_, _, rfl, But.refl p H1, pd1.mono (by omega)⟩ ?_ ?_
      · rintro i σ H2 hi ⟨y3, y4, rfl, b2, pd2⟩
        refine ⟨_, rfl, p, 30, _, rfl, pd2, by omega, by decide, by decide +kernel, fun r3 H3 b3 pd3 r30 r31 => ⟨_, _, rfl, rfl, (by show 4 ≤ sizeLine; decide), fun L hL => ?_⟩⟩
        have hLp : L ≠ p := fun e => pd3.ne (e ▸ hL)
        refine ⟨_, rfl, p, 4, _, rfl, pd3.new hL, by omega, by decide, by decide +kernel, fun r4 H4 b4 pd4 r40 r41 => ?_⟩
        obtain ⟨v, hv, hva⟩ := pick (xs := [1 + r3, 10, 2, 1]) r40 r41
        have v40 : 1 ≤ v ∧ v ≤ 40 := by
          simp only [List.mem_cons, List.not_mem_nil, or_false] at hv
          omega
        refine ⟨L, _, _, _, rfl, rfl, SqL.of (b4 L _ hLp upd_same), hva, ?_⟩
        refine ⟨_, rfl, _, rfl, _, rfl, _, rfl, p, v, _, rfl, pd4, by omega, v40.1, by omega, fun g gs H5 b5 pd5 hSg hG => ?_⟩
        refine ⟨p, g, v, _, gs, rfl, pd5, by omega, hSg, hG, v40.2, fun H6 b6 pd6 => ⟨true, rfl, iteF ?_⟩⟩
        refine ⟨_, rfl, p, _, rfl, pd6, by omega, fun H7 b7 pd7 => ⟨true, rfl, iteF ?_⟩⟩
        exact ⟨_, _, rfl, (((((b2.trans b3).trans (Same.but (Same.new hL))).trans b4).trans b5).trans b6).trans b7, pd7.mono (by push_cast; omega)⟩
      · rintro σ H2 ⟨y3, y4, rfl, b2, pd2⟩
        exact ⟨_, _, _, _, rfl, s0.trans (b2.same s1 hp0)⟩
    · rintro σ H0 ⟨y1, y2, y3, y4, rfl, s0⟩
      have two : 2 ≤ sizeLine := by decide
      have one : 1 ≤ sizeLine := by decide
      have okE : OkG 10 [(0, 4)] := ⟨by decide, by decide, fun g hg => by rw [List.mem_singleton.mp hg]; decide⟩
      have le30 : (10 : Int) ≤ 10 ^ 30 := by decide +kernel
      refine ⟨two, fun T1 hT1 => ⟨one, fun U1 hU1 => ⟨U1, 10, 5, [(0, 4)], rfl, ⟨_, upd_same, .cons ⟨T1, rfl, Same.new hU1 _ _ upd_same⟩ .nil⟩, okE, le30, fun m1 H1 s1 n1 => ?_⟩⟩⟩
      obtain rfl := n1.uniq ex_next
      refine ⟨two, fun T2 hT2 => ⟨one, fun U2 hU2 => ⟨U2, 10, 5, [(0, 4)], rfl, ⟨_, upd_same, .cons ⟨T2, rfl, Same.new hU2 _ _ upd_same⟩ .nil⟩, okE, le30, fun m2 H2 s2 n2 => ?_⟩⟩⟩
      obtain rfl := n2.uniq ex_last
      refine ⟨two, fun T3 hT3 => ⟨one, fun U3 hU3 => ⟨U3, 10, 0, 25, [(0, 4)], rfl, ⟨_, upd_same, .cons ⟨T3, rfl, Same.new hU3 _ _ upd_same⟩ .nil⟩, okE, le30, by decide, by decide, fun H3 s3 => ?_⟩⟩⟩
      rw [ex_cnt]
      refine ⟨(by show 3 ≤ sizeLine; decide), fun L hL => ⟨_, rfl, (by show 3 ≤ sizeLine; decide), fun M hM => eqInts [10, 3, 12] (Same.new hM _ _ upd_same) upd_same (q _)⟩⟩
end
end Gr

set_option Elab.async false
set_option linter.all false
set_option maxRecDepth 100000
set_option maxHeartbeats 8000000
namespace Gr
open PySem PySem.Spec PyProof.Rows L2
theorem all_mk {l : PySem.W.OpenLaw} {w : World} {K : PySem.W.Frag} {h : Heap} {mg : Str → Option Value} {fa : Addr} (X : K.In h) (G : h.Ns mainGlobals mg) (hfa : mg "law" = some (.ref fa))
    {f0 : Addr} {od0 an0 : Option Addr} {sl0 : Array (Option Value)} {oc0 kV0 dc0 pm0 cd0 ct0 : Value}
    (a0 : PySem.W.nsIn K mainGlobals "is_whole" = some (some (.ref f0))) (l0 : K.lookup f0 = some ⟨oc0, od0, .func (PySem.W.fnOf "is_whole" "is_whole" (defArgs s_is_whole) (defBody s_is_whole) (defScope s_is_whole) .none kV0 dc0 pm0 an0 cd0 ct0), sl0⟩) (c0 : PySem.W.codeIn K cd0 "is_whole" = true) (k0 : PySem.W.keepIn K (.ref f0) = true)
    {f1 : Addr} {od1 an1 : Option Addr} {sl1 : Array (Option Value)} {oc1 kV1 dc1 pm1 cd1 ct1 : Value}
    (a1 : PySem.W.nsIn K mainGlobals "check_cycle" = some (some (.ref f1))) (l1 : K.lookup f1 = some ⟨oc1, od1, .func (PySem.W.fnOf "check_cycle" "check_cycle" (defArgs s_check_cycle) (defBody s_check_cycle) (defScope s_check_cycle) .none kV1 dc1 pm1 an1 cd1 ct1), sl1⟩) (c1 : PySem.W.codeIn K cd1 "check_cycle" = true) (k1 : PySem.W.keepIn K (.ref f1) = true)
    {f2 : Addr} {od2 an2 : Option Addr} {sl2 : Array (Option Value)} {oc2 kV2 dc2 pm2 cd2 ct2 : Value}
    (a2 : PySem.W.nsIn K mainGlobals "check_moment" = some (some (.ref f2))) (l2 : K.lookup f2 = some ⟨oc2, od2, .func (PySem.W.fnOf "check_moment" "check_moment" (defArgs s_check_moment) (defBody s_check_moment) (defScope s_check_moment) .none kV2 dc2 pm2 an2 cd2 ct2), sl2⟩) (c2 : PySem.W.codeIn K cd2 "check_moment" = true) (k2 : PySem.W.keepIn K (.ref f2) = true)
    {f3 : Addr} {od3 an3 : Option Addr} {sl3 : Array (Option Value)} {oc3 kV3 dc3 pm3 cd3 ct3 : Value}
    (a3 : PySem.W.nsIn K mainGlobals "is_green_pair" = some (some (.ref f3))) (l3 : K.lookup f3 = some ⟨oc3, od3, .func (PySem.W.fnOf "is_green_pair" "is_green_pair" (defArgs s_is_green_pair) (defBody s_is_green_pair) (defScope s_is_green_pair) .none kV3 dc3 pm3 an3 cd3 ct3), sl3⟩) (c3 : PySem.W.codeIn K cd3 "is_green_pair" = true) (k3 : PySem.W.keepIn K (.ref f3) = true)
    {f4 : Addr} {od4 an4 : Option Addr} {sl4 : Array (Option Value)} {oc4 kV4 dc4 pm4 cd4 ct4 : Value}
    (a4 : PySem.W.nsIn K mainGlobals "is_signal" = some (some (.ref f4))) (l4 : K.lookup f4 = some ⟨oc4, od4, .func (PySem.W.fnOf "is_signal" "is_signal" (defArgs s_is_signal) (defBody s_is_signal) (defScope s_is_signal) .none kV4 dc4 pm4 an4 cd4 ct4), sl4⟩) (c4 : PySem.W.codeIn K cd4 "is_signal" = true) (k4 : PySem.W.keepIn K (.ref f4) = true)
    {f5 : Addr} {od5 an5 : Option Addr} {sl5 : Array (Option Value)} {oc5 kV5 dc5 pm5 cd5 ct5 : Value}
    (a5 : PySem.W.nsIn K mainGlobals "check_signal" = some (some (.ref f5))) (l5 : K.lookup f5 = some ⟨oc5, od5, .func (PySem.W.fnOf "check_signal" "check_signal" (defArgs s_check_signal) (defBody s_check_signal) (defScope s_check_signal) .none kV5 dc5 pm5 an5 cd5 ct5), sl5⟩) (c5 : PySem.W.codeIn K cd5 "check_signal" = true) (k5 : PySem.W.keepIn K (.ref f5) = true)
    {f6 : Addr} {od6 an6 : Option Addr} {sl6 : Array (Option Value)} {oc6 kV6 dc6 pm6 cd6 ct6 : Value}
    (a6 : PySem.W.nsIn K mainGlobals "next_green" = some (some (.ref f6))) (l6 : K.lookup f6 = some ⟨oc6, od6, .func (PySem.W.fnOf "next_green" "next_green" (defArgs s_next_green) (defBody s_next_green) (defScope s_next_green) .none kV6 dc6 pm6 an6 cd6 ct6), sl6⟩) (c6 : PySem.W.codeIn K cd6 "next_green" = true) (k6 : PySem.W.keepIn K (.ref f6) = true)
    {f7 : Addr} {od7 an7 : Option Addr} {sl7 : Array (Option Value)} {oc7 kV7 dc7 pm7 cd7 ct7 : Value}
    (a7 : PySem.W.nsIn K mainGlobals "last_green" = some (some (.ref f7))) (l7 : K.lookup f7 = some ⟨oc7, od7, .func (PySem.W.fnOf "last_green" "last_green" (defArgs s_last_green) (defBody s_last_green) (defScope s_last_green) .none kV7 dc7 pm7 an7 cd7 ct7), sl7⟩) (c7 : PySem.W.codeIn K cd7 "last_green" = true) (k7 : PySem.W.keepIn K (.ref f7) = true)
    {f8 : Addr} {od8 an8 : Option Addr} {sl8 : Array (Option Value)} {oc8 kV8 dc8 pm8 cd8 ct8 : Value}
    (a8 : PySem.W.nsIn K mainGlobals "green_from" = some (some (.ref f8))) (l8 : K.lookup f8 = some ⟨oc8, od8, .func (PySem.W.fnOf "green_from" "green_from" (defArgs s_green_from) (defBody s_green_from) (defScope s_green_from) .none kV8 dc8 pm8 an8 cd8 ct8), sl8⟩) (c8 : PySem.W.codeIn K cd8 "green_from" = true) (k8 : PySem.W.keepIn K (.ref f8) = true)
    {f9 : Addr} {od9 an9 : Option Addr} {sl9 : Array (Option Value)} {oc9 kV9 dc9 pm9 cd9 ct9 : Value}
    (a9 : PySem.W.nsIn K mainGlobals "green_up_to" = some (some (.ref f9))) (l9 : K.lookup f9 = some ⟨oc9, od9, .func (PySem.W.fnOf "green_up_to" "green_up_to" (defArgs s_green_up_to) (defBody s_green_up_to) (defScope s_green_up_to) .none kV9 dc9 pm9 an9 cd9 ct9), sl9⟩) (c9 : PySem.W.codeIn K cd9 "green_up_to" = true) (k9 : PySem.W.keepIn K (.ref f9) = true)
    {f10 : Addr} {od10 an10 : Option Addr} {sl10 : Array (Option Value)} {oc10 kV10 dc10 pm10 cd10 ct10 : Value}
    (a10 : PySem.W.nsIn K mainGlobals "count_green" = some (some (.ref f10))) (l10 : K.lookup f10 = some ⟨oc10, od10, .func (PySem.W.fnOf "count_green" "count_green" (defArgs s_count_green) (defBody s_count_green) (defScope s_count_green) .none kV10 dc10 pm10 an10 cd10 ct10), sl10⟩) (c10 : PySem.W.codeIn K cd10 "count_green" = true) (k10 : PySem.W.keepIn K (.ref f10) = true)
    {f11 : Addr} {od11 an11 : Option Addr} {sl11 : Array (Option Value)} {oc11 kV11 dc11 pm11 cd11 ct11 : Value}
    (a11 : PySem.W.nsIn K mainGlobals "green_before" = some (some (.ref f11))) (l11 : K.lookup f11 = some ⟨oc11, od11, .func (PySem.W.fnOf "green_before" "green_before" (defArgs s_green_before) (defBody s_green_before) (defScope s_green_before) .none kV11 dc11 pm11 an11 cd11 ct11), sl11⟩) (c11 : PySem.W.codeIn K cd11 "green_before" = true) (k11 : PySem.W.keepIn K (.ref f11) = true)
    {f12 : Addr} {od12 an12 : Option Addr} {sl12 : Array (Option Value)} {oc12 kV12 dc12 pm12 cd12 ct12 : Value}
    (a12 : PySem.W.nsIn K mainGlobals "shortest_greens" = some (some (.ref f12))) (l12 : K.lookup f12 = some ⟨oc12, od12, .func (PySem.W.fnOf "shortest_greens" "shortest_greens" (defArgs s_shortest_greens) (defBody s_shortest_greens) (defScope s_shortest_greens) .none kV12 dc12 pm12 an12 cd12 ct12), sl12⟩) (c12 : PySem.W.codeIn K cd12 "shortest_greens" = true) (k12 : PySem.W.keepIn K (.ref f12) = true)
    {f13 : Addr} {od13 an13 : Option Addr} {sl13 : Array (Option Value)} {oc13 kV13 dc13 pm13 cd13 ct13 : Value}
    (a13 : PySem.W.nsIn K mainGlobals "parted_greens" = some (some (.ref f13))) (l13 : K.lookup f13 = some ⟨oc13, od13, .func (PySem.W.fnOf "parted_greens" "parted_greens" (defArgs s_parted_greens) (defBody s_parted_greens) (defScope s_parted_greens) .none kV13 dc13 pm13 an13 cd13 ct13), sl13⟩) (c13 : PySem.W.codeIn K cd13 "parted_greens" = true) (k13 : PySem.W.keepIn K (.ref f13) = true)
    {f14 : Addr} {od14 an14 : Option Addr} {sl14 : Array (Option Value)} {oc14 kV14 dc14 pm14 cd14 ct14 : Value}
    (a14 : PySem.W.nsIn K mainGlobals "joined_over_end" = some (some (.ref f14))) (l14 : K.lookup f14 = some ⟨oc14, od14, .func (PySem.W.fnOf "joined_over_end" "joined_over_end" (defArgs s_joined_over_end) (defBody s_joined_over_end) (defScope s_joined_over_end) .none kV14 dc14 pm14 an14 cd14 ct14), sl14⟩) (c14 : PySem.W.codeIn K cd14 "joined_over_end" = true) (k14 : PySem.W.keepIn K (.ref f14) = true)
    {f15 : Addr} {od15 an15 : Option Addr} {sl15 : Array (Option Value)} {oc15 kV15 dc15 pm15 cd15 ct15 : Value}
    (a15 : PySem.W.nsIn K mainGlobals "_law_pond" = some (some (.ref f15))) (l15 : K.lookup f15 = some ⟨oc15, od15, .func (PySem.W.fnOf "_law_pond" "_law_pond" (defArgs s_l_pond) (defBody s_l_pond) (defScope s_l_pond) .none kV15 dc15 pm15 an15 cd15 ct15), sl15⟩) (c15 : PySem.W.codeIn K cd15 "_law_pond" = true) (k15 : PySem.W.keepIn K (.ref f15) = true)
    {f16 : Addr} {od16 an16 : Option Addr} {sl16 : Array (Option Value)} {oc16 kV16 dc16 pm16 cd16 ct16 : Value}
    (a16 : PySem.W.nsIn K mainGlobals "_law_fish" = some (some (.ref f16))) (l16 : K.lookup f16 = some ⟨oc16, od16, .func (PySem.W.fnOf "_law_fish" "_law_fish" (defArgs s_l_fish) (defBody s_l_fish) (defScope s_l_fish) .none kV16 dc16 pm16 an16 cd16 ct16), sl16⟩) (c16 : PySem.W.codeIn K cd16 "_law_fish" = true) (k16 : PySem.W.keepIn K (.ref f16) = true)
    {f17 : Addr} {od17 an17 : Option Addr} {sl17 : Array (Option Value)} {oc17 kV17 dc17 pm17 cd17 ct17 : Value}
    (a17 : PySem.W.nsIn K mainGlobals "_law_greens" = some (some (.ref f17))) (l17 : K.lookup f17 = some ⟨oc17, od17, .func (PySem.W.fnOf "_law_greens" "_law_greens" (defArgs s_l_greens) (defBody s_l_greens) (defScope s_l_greens) .none kV17 dc17 pm17 an17 cd17 ct17), sl17⟩) (c17 : PySem.W.codeIn K cd17 "_law_greens" = true) (k17 : PySem.W.keepIn K (.ref f17) = true)
    {f18 : Addr} {od18 an18 : Option Addr} {sl18 : Array (Option Value)} {oc18 kV18 dc18 pm18 cd18 ct18 : Value}
    (a18 : PySem.W.nsIn K mainGlobals "_law_rests" = some (some (.ref f18))) (l18 : K.lookup f18 = some ⟨oc18, od18, .func (PySem.W.fnOf "_law_rests" "_law_rests" (defArgs s_l_rests) (defBody s_l_rests) (defScope s_l_rests) .none kV18 dc18 pm18 an18 cd18 ct18), sl18⟩) (c18 : PySem.W.codeIn K cd18 "_law_rests" = true) (k18 : PySem.W.keepIn K (.ref f18) = true)
    {f19 : Addr} {od19 an19 : Option Addr} {sl19 : Array (Option Value)} {oc19 kV19 dc19 pm19 cd19 ct19 : Value}
    (a19 : PySem.W.nsIn K mainGlobals "_law_scaled" = some (some (.ref f19))) (l19 : K.lookup f19 = some ⟨oc19, od19, .func (PySem.W.fnOf "_law_scaled" "_law_scaled" (defArgs s_l_scaled) (defBody s_l_scaled) (defScope s_l_scaled) .none kV19 dc19 pm19 an19 cd19 ct19), sl19⟩) (c19 : PySem.W.codeIn K cd19 "_law_scaled" = true) (k19 : PySem.W.keepIn K (.ref f19) = true)
    {f20 : Addr} {od20 an20 : Option Addr} {sl20 : Array (Option Value)} {oc20 kV20 dc20 pm20 cd20 ct20 : Value}
    (a20 : PySem.W.nsIn K mainGlobals "_law_next" = some (some (.ref f20))) (l20 : K.lookup f20 = some ⟨oc20, od20, .func (PySem.W.fnOf "_law_next" "_law_next" (defArgs s_l_next) (defBody s_l_next) (defScope s_l_next) .none kV20 dc20 pm20 an20 cd20 ct20), sl20⟩) (c20 : PySem.W.codeIn K cd20 "_law_next" = true) (k20 : PySem.W.keepIn K (.ref f20) = true)
    {f21 : Addr} {od21 an21 : Option Addr} {sl21 : Array (Option Value)} {oc21 kV21 dc21 pm21 cd21 ct21 : Value}
    (a21 : PySem.W.nsIn K mainGlobals "_law_far_right" = some (some (.ref f21))) (l21 : K.lookup f21 = some ⟨oc21, od21, .func (PySem.W.fnOf "_law_far_right" "_law_far_right" (defArgs s_l_far_right) (defBody s_l_far_right) (defScope s_l_far_right) .none kV21 dc21 pm21 an21 cd21 ct21), sl21⟩) (c21 : PySem.W.codeIn K cd21 "_law_far_right" = true) (k21 : PySem.W.keepIn K (.ref f21) = true)
    {f22 : Addr} {od22 an22 : Option Addr} {sl22 : Array (Option Value)} {oc22 kV22 dc22 pm22 cd22 ct22 : Value}
    (a22 : PySem.W.nsIn K mainGlobals "_law_right" = some (some (.ref f22))) (l22 : K.lookup f22 = some ⟨oc22, od22, .func (PySem.W.fnOf "_law_right" "_law_right" (defArgs s_l_right) (defBody s_l_right) (defScope s_l_right) .none kV22 dc22 pm22 an22 cd22 ct22), sl22⟩) (c22 : PySem.W.codeIn K cd22 "_law_right" = true) (k22 : PySem.W.keepIn K (.ref f22) = true)
    {f23 : Addr} {od23 an23 : Option Addr} {sl23 : Array (Option Value)} {oc23 kV23 dc23 pm23 cd23 ct23 : Value}
    (a23 : PySem.W.nsIn K mainGlobals "_law_free_right" = some (some (.ref f23))) (l23 : K.lookup f23 = some ⟨oc23, od23, .func (PySem.W.fnOf "_law_free_right" "_law_free_right" (defArgs s_l_free_right) (defBody s_l_free_right) (defScope s_l_free_right) .none kV23 dc23 pm23 an23 cd23 ct23), sl23⟩) (c23 : PySem.W.codeIn K cd23 "_law_free_right" = true) (k23 : PySem.W.keepIn K (.ref f23) = true)
    {f24 : Addr} {od24 an24 : Option Addr} {sl24 : Array (Option Value)} {oc24 kV24 dc24 pm24 cd24 ct24 : Value}
    (a24 : PySem.W.nsIn K mainGlobals "law" = some (some (.ref f24))) (l24 : K.lookup f24 = some ⟨oc24, od24, .func (PySem.W.fnOf "law" "law" (defArgs s_law) (defBody s_law) (defScope s_law) .none kV24 dc24 pm24 an24 cd24 ct24), sl24⟩) (c24 : PySem.W.codeIn K cd24 "law" = true) (k24 : PySem.W.keepIn K (.ref f24) = true)
    (z0 : PySem.W.nsIn K mainGlobals "all" = some none)
    (z1 : PySem.W.nsIn K mainGlobals "bool" = some none)
    (z2 : PySem.W.nsIn K mainGlobals "divmod" = some none)
    (z3 : PySem.W.nsIn K mainGlobals "int" = some none)
    (z4 : PySem.W.nsIn K mainGlobals "isinstance" = some none)
    (z5 : PySem.W.nsIn K mainGlobals "len" = some none)
    (z6 : PySem.W.nsIn K mainGlobals "list" = some none)
    (z7 : PySem.W.nsIn K mainGlobals "max" = some none)
    (z8 : PySem.W.nsIn K mainGlobals "min" = some none)
    (z9 : PySem.W.nsIn K mainGlobals "range" = some none)
    (z10 : PySem.W.nsIn K mainGlobals "sorted" = some none)
    (z11 : PySem.W.nsIn K mainGlobals "sum" = some none)
    (z12 : PySem.W.nsIn K mainGlobals "tuple" = some none)
    (z13 : PySem.W.nsIn K mainGlobals "zip" = some none)
    {tMOST_CYCLE : Tok} (mMOST_CYCLE : PySem.W.nsIn K mainGlobals "MOST_CYCLE" = some (some (.int 1000000000000000000000000000000 tMOST_CYCLE)))
    {tMOST_GREENS : Tok} (mMOST_GREENS : PySem.W.nsIn K mainGlobals "MOST_GREENS" = some (some (.int 6 tMOST_GREENS)))
    : ∃ fd : FuncData, (∀ (s : Shared) (v : Value), BindsTo s fd ⟨[v], []⟩ [("_law_script", v)]) ∧ ∀ base : Heap, K.In base → base.Ns mainGlobals mg → FnG l.prog w K mg base CX0 8 fa fd ["_law_script"] (spLaw K) := by
  have e := hfa.symm.trans (PySem.W.mg_of X G a24)
  cases e
  have B : Blt mg tMOST_CYCLE tMOST_GREENS := ⟨PySem.W.mg_none_of X G z0, PySem.W.mg_none_of X G z1, PySem.W.mg_none_of X G z2, PySem.W.mg_none_of X G z3, PySem.W.mg_none_of X G z4, PySem.W.mg_none_of X G z5, PySem.W.mg_none_of X G z6, PySem.W.mg_none_of X G z7, PySem.W.mg_none_of X G z8, PySem.W.mg_none_of X G z9, PySem.W.mg_none_of X G z10, PySem.W.mg_none_of X G z11, PySem.W.mg_none_of X G z12, PySem.W.mg_none_of X G z13, (PySem.W.mg_of X G mMOST_CYCLE).trans (congrArg (fun z => some (Value.int z tMOST_CYCLE)) (show (1000000000000000000000000000000 : Int) = (10 ^ 30) by decide +kernel)), (PySem.W.mg_of X G mMOST_GREENS).trans (congrArg (fun z => some (Value.int z tMOST_GREENS)) (show (6 : Int) = 6 by decide +kernel))⟩
  have F0 := fun_mk (st := s_is_whole) l0 c0 k0
  have Dis_whole : Def K mg "is_whole" s_is_whole ["value"] f0 _ := ⟨F0, PySem.W.mg_of X G a0, F0.binds (ps := ["value"]) fun _ _ _ _ _ _ us hl => match us, hl with | [_], _ => rfl⟩
  have F1 := fun_mk (st := s_check_cycle) l1 c1 k1
  have Dcheck_cycle : Def K mg "check_cycle" s_check_cycle ["cycle"] f1 _ := ⟨F1, PySem.W.mg_of X G a1, F1.binds (ps := ["cycle"]) fun _ _ _ _ _ _ us hl => match us, hl with | [_], _ => rfl⟩
  have F2 := fun_mk (st := s_check_moment) l2 c2 k2
  have Dcheck_moment : Def K mg "check_moment" s_check_moment ["moment"] f2 _ := ⟨F2, PySem.W.mg_of X G a2, F2.binds (ps := ["moment"]) fun _ _ _ _ _ _ us hl => match us, hl with | [_], _ => rfl⟩
  have F3 := fun_mk (st := s_is_green_pair) l3 c3 k3
  have Dis_green_pair : Def K mg "is_green_pair" s_is_green_pair ["value", "cycle"] f3 _ := ⟨F3, PySem.W.mg_of X G a3, F3.binds (ps := ["value", "cycle"]) fun _ _ _ _ _ _ us hl => match us, hl with | [_, _], _ => rfl⟩
  have F4 := fun_mk (st := s_is_signal) l4 c4 k4
  have Dis_signal : Def K mg "is_signal" s_is_signal ["value", "cycle"] f4 _ := ⟨F4, PySem.W.mg_of X G a4, F4.binds (ps := ["value", "cycle"]) fun _ _ _ _ _ _ us hl => match us, hl with | [_, _], _ => rfl⟩
  have F5 := fun_mk (st := s_check_signal) l5 c5 k5
  have Dcheck_signal : Def K mg "check_signal" s_check_signal ["cycle", "signal"] f5 _ := ⟨F5, PySem.W.mg_of X G a5, F5.binds (ps := ["cycle", "signal"]) fun _ _ _ _ _ _ us hl => match us, hl with | [_, _], _ => rfl⟩
  have F6 := fun_mk (st := s_next_green) l6 c6 k6
  have Dnext_green : Def K mg "next_green" s_next_green ["cycle", "signal", "moment"] f6 _ := ⟨F6, PySem.W.mg_of X G a6, F6.binds (ps := ["cycle", "signal", "moment"]) fun _ _ _ _ _ _ us hl => match us, hl with | [_, _, _], _ => rfl⟩
  have F7 := fun_mk (st := s_last_green) l7 c7 k7
  have Dlast_green : Def K mg "last_green" s_last_green ["cycle", "signal", "moment"] f7 _ := ⟨F7, PySem.W.mg_of X G a7, F7.binds (ps := ["cycle", "signal", "moment"]) fun _ _ _ _ _ _ us hl => match us, hl with | [_, _, _], _ => rfl⟩
  have F8 := fun_mk (st := s_green_from) l8 c8 k8
  have Dgreen_from : Def K mg "green_from" s_green_from ["cycle", "green", "moment"] f8 _ := ⟨F8, PySem.W.mg_of X G a8, F8.binds (ps := ["cycle", "green", "moment"]) fun _ _ _ _ _ _ us hl => match us, hl with | [_, _, _], _ => rfl⟩
  have F9 := fun_mk (st := s_green_up_to) l9 c9 k9
  have Dgreen_up_to : Def K mg "green_up_to" s_green_up_to ["cycle", "green", "moment"] f9 _ := ⟨F9, PySem.W.mg_of X G a9, F9.binds (ps := ["cycle", "green", "moment"]) fun _ _ _ _ _ _ us hl => match us, hl with | [_, _, _], _ => rfl⟩
  have F10 := fun_mk (st := s_count_green) l10 c10 k10
  have Dcount_green : Def K mg "count_green" s_count_green ["cycle", "signal", "low", "high"] f10 _ := ⟨F10, PySem.W.mg_of X G a10, F10.binds (ps := ["cycle", "signal", "low", "high"]) fun _ _ _ _ _ _ us hl => match us, hl with | [_, _, _, _], _ => rfl⟩
  have F11 := fun_mk (st := s_green_before) l11 c11 k11
  have Dgreen_before : Def K mg "green_before" s_green_before ["cycle", "green", "moment"] f11 _ := ⟨F11, PySem.W.mg_of X G a11, F11.binds (ps := ["cycle", "green", "moment"]) fun _ _ _ _ _ _ us hl => match us, hl with | [_, _, _], _ => rfl⟩
  have F12 := fun_mk (st := s_shortest_greens) l12 c12 k12
  have Dshortest_greens : Def K mg "shortest_greens" s_shortest_greens ["cycle", "signal"] f12 _ := ⟨F12, PySem.W.mg_of X G a12, F12.binds (ps := ["cycle", "signal"]) fun _ _ _ _ _ _ us hl => match us, hl with | [_, _], _ => rfl⟩
  have F13 := fun_mk (st := s_parted_greens) l13 c13 k13
  have Dparted_greens : Def K mg "parted_greens" s_parted_greens ["cycle", "signal"] f13 _ := ⟨F13, PySem.W.mg_of X G a13, F13.binds (ps := ["cycle", "signal"]) fun _ _ _ _ _ _ us hl => match us, hl with | [_, _], _ => rfl⟩
  have F14 := fun_mk (st := s_joined_over_end) l14 c14 k14
  have Djoined_over_end : Def K mg "joined_over_end" s_joined_over_end ["cycle", "greens"] f14 _ := ⟨F14, PySem.W.mg_of X G a14, F14.binds (ps := ["cycle", "greens"]) fun _ _ _ _ _ _ us hl => match us, hl with | [_, _], _ => rfl⟩
  have F15 := fun_mk (st := s_l_pond) l15 c15 k15
  have Dl_pond : Def K mg "_law_pond" s_l_pond ["_law_script", "_law_k"] f15 _ := ⟨F15, PySem.W.mg_of X G a15, F15.binds (ps := ["_law_script", "_law_k"]) fun _ _ _ _ _ _ us hl => match us, hl with | [_, _], _ => rfl⟩
  have F16 := fun_mk (st := s_l_fish) l16 c16 k16
  have Dl_fish : Def K mg "_law_fish" s_l_fish ["_law_pond_here", "_law_bound"] f16 _ := ⟨F16, PySem.W.mg_of X G a16, F16.binds (ps := ["_law_pond_here", "_law_bound"]) fun _ _ _ _ _ _ us hl => match us, hl with | [_, _], _ => rfl⟩
  have F17 := fun_mk (st := s_l_greens) l17 c17 k17
  have Dl_greens : Def K mg "_law_greens" s_l_greens ["_law_pond_here", "_law_span"] f17 _ := ⟨F17, PySem.W.mg_of X G a17, F17.binds (ps := ["_law_pond_here", "_law_span"]) fun _ _ _ _ _ _ us hl => match us, hl with | [_, _], _ => rfl⟩
  have F18 := fun_mk (st := s_l_rests) l18 c18 k18
  have Dl_rests : Def K mg "_law_rests" s_l_rests ["_law_span", "_law_greens_here"] f18 _ := ⟨F18, PySem.W.mg_of X G a18, F18.binds (ps := ["_law_span", "_law_greens_here"]) fun _ _ _ _ _ _ us hl => match us, hl with | [_, _], _ => rfl⟩
  have F19 := fun_mk (st := s_l_scaled) l19 c19 k19
  have Dl_scaled : Def K mg "_law_scaled" s_l_scaled ["_law_greens_here", "_law_factor"] f19 _ := ⟨F19, PySem.W.mg_of X G a19, F19.binds (ps := ["_law_greens_here", "_law_factor"]) fun _ _ _ _ _ _ us hl => match us, hl with | [_, _], _ => rfl⟩
  have F20 := fun_mk (st := s_l_next) l20 c20 k20
  have Dl_next : Def K mg "_law_next" s_l_next ["_law_span", "_law_lit", "_law_t", "_law_step"] f20 _ := ⟨F20, PySem.W.mg_of X G a20, F20.binds (ps := ["_law_span", "_law_lit", "_law_t", "_law_step"]) fun _ _ _ _ _ _ us hl => match us, hl with | [_, _, _, _], _ => rfl⟩
  have F21 := fun_mk (st := s_l_far_right) l21 c21 k21
  have Dl_far_right : Def K mg "_law_far_right" s_l_far_right ["_law_pond_here", "_law_span", "_law_greens_here", "_law_lit"] f21 _ := ⟨F21, PySem.W.mg_of X G a21, F21.binds (ps := ["_law_pond_here", "_law_span", "_law_greens_here", "_law_lit"]) fun _ _ _ _ _ _ us hl => match us, hl with | [_, _, _, _], _ => rfl⟩
  have F22 := fun_mk (st := s_l_right) l22 c22 k22
  have Dl_right : Def K mg "_law_right" s_l_right ["_law_pond_here", "_law_span", "_law_greens_here"] f22 _ := ⟨F22, PySem.W.mg_of X G a22, F22.binds (ps := ["_law_pond_here", "_law_span", "_law_greens_here"]) fun _ _ _ _ _ _ us hl => match us, hl with | [_, _, _], _ => rfl⟩
  have F23 := fun_mk (st := s_l_free_right) l23 c23 k23
  have Dl_free_right : Def K mg "_law_free_right" s_l_free_right ["_law_pond_here"] f23 _ := ⟨F23, PySem.W.mg_of X G a23, F23.binds (ps := ["_law_pond_here"]) fun _ _ _ _ _ _ us hl => match us, hl with | [_], _ => rfl⟩
  have F24 := fun_mk (st := s_law) l24 c24 k24
  have Dlaw : Def K mg "law" s_law ["_law_script"] fa _ := ⟨F24, PySem.W.mg_of X G a24, F24.binds (ps := ["_law_script"]) fun _ _ _ _ _ _ us hl => match us, hl with | [_], _ => rfl⟩
  refine ⟨PySem.W.fnOf "law" "law" (defArgs s_law) (defBody s_law) (defScope s_law) .none kV24 dc24 pm24 an24 cd24 ct24, fun s v => .of_eq rfl, fun base _ _ => ?_⟩
  have Gshortest_greens := ok_short (P := l.prog) (w := w) (base := base) B Dshortest_greens Dparted_greens Djoined_over_end Dcheck_signal Dis_signal Dis_whole Dcheck_cycle Dis_green_pair
  have Gnext_green := ok_next (P := l.prog) (w := w) (base := base) B Dnext_green Dgreen_from Dcheck_signal Dcheck_moment Dis_signal Dis_whole Dcheck_cycle Dis_green_pair
  have Glast_green := ok_last (P := l.prog) (w := w) (base := base) B Dlast_green Dgreen_up_to Dcheck_signal Dcheck_moment Dis_signal Dis_whole Dcheck_cycle Dis_green_pair
  have Gcount_green := ok_count (P := l.prog) (w := w) (base := base) B Dcount_green Dgreen_before Dcheck_signal Dcheck_moment Dis_signal Dis_whole Dcheck_cycle Dis_green_pair Dparted_greens Djoined_over_end
  have Gl_far_right := ok_far (P := l.prog) (w := w) (base := base) B Dl_far_right Dl_fish Dl_scaled Dnext_green Dlast_green Dcount_green Dl_next Gnext_green Glast_green Gcount_green
  have Gl_right := ok_right (P := l.prog) (w := w) (base := base) B Dl_right Dl_fish Dl_rests Dnext_green Dlast_green Dcount_green Dl_next Dl_far_right Gnext_green Glast_green Gcount_green Gl_far_right
  have Gl_free_right := ok_free (P := l.prog) (w := w) (base := base) B Dl_free_right Dl_fish Dnext_green Dlast_green Dcount_green Dshortest_greens Gnext_green Glast_green Gcount_green Gshortest_greens
  exact FnG.ofOk (ok_law B Dlaw Dl_fish Dl_pond Dl_greens Dl_right Dl_free_right Dnext_green Dlast_green Dcount_green Gnext_green Glast_green Gcount_green Gl_right Gl_free_right)
end Gr
open PySem PySem.W PyProof.Rows
set_option maxHeartbeats 0 in
theorem PySem.Challenge.cw_greenroads_k02_next_and_last_greens_holds : PySem.Challenge.rw_greenroads_k02_next_and_last_greens.Holds := by
  w_on; o_law; k_head; (case hw => w_witness2)
  k_fill
  refine Gr.walkG (l := PySem.Challenge.rw_greenroads_k02_next_and_last_greens) (n := 63) (k := 8) (x := "_law_script") (sp := Gr.spLaw) rfl (by decide) rfl ⟨rfl, by decide, by decide⟩ (fun w h Y => PySem.W.kIn_of Y) ?F (fun K G a ns hl _ hS => ⟨a, ns, rfl, hS, hl, fun _ => rfl⟩)
  case F =>
    intro w mg fa h KX G hmg
    refine' Gr.all_mk KX G hmg ?a0 ?l0 ?c0 ?k0 ?a1 ?l1 ?c1 ?k1 ?a2 ?l2 ?c2 ?k2 ?a3 ?l3 ?c3 ?k3 ?a4 ?l4 ?c4 ?k4 ?a5 ?l5 ?c5 ?k5 ?a6 ?l6 ?c6 ?k6 ?a7 ?l7 ?c7 ?k7 ?a8 ?l8 ?c8 ?k8 ?a9 ?l9 ?c9 ?k9 ?a10 ?l10 ?c10 ?k10 ?a11 ?l11 ?c11 ?k11 ?a12 ?l12 ?c12 ?k12 ?a13 ?l13 ?c13 ?k13 ?a14 ?l14 ?c14 ?k14 ?a15 ?l15 ?c15 ?k15 ?a16 ?l16 ?c16 ?k16 ?a17 ?l17 ?c17 ?k17 ?a18 ?l18 ?c18 ?k18 ?a19 ?l19 ?c19 ?k19 ?a20 ?l20 ?c20 ?k20 ?a21 ?l21 ?c21 ?k21 ?a22 ?l22 ?c22 ?k22 ?a23 ?l23 ?c23 ?k23 ?a24 ?l24 ?c24 ?k24 ?z0 ?z1 ?z2 ?z3 ?z4 ?z5 ?z6 ?z7 ?z8 ?z9 ?z10 ?z11 ?z12 ?z13 ?mMOST_CYCLE ?mMOST_GREENS
    (case a0 => k_is)
    (case l0 => k_is)
    (case c0 => k_is)
    (case k0 => k_is)
    (case a1 => k_is)
    (case l1 => k_is)
    (case c1 => k_is)
    (case k1 => k_is)
    (case a2 => k_is)
    (case l2 => k_is)
    (case c2 => k_is)
    (case k2 => k_is)
    (case a3 => k_is)
    (case l3 => k_is)
    (case c3 => k_is)
    (case k3 => k_is)
    (case a4 => k_is)
    (case l4 => k_is)
    (case c4 => k_is)
    (case k4 => k_is)
    (case a5 => k_is)
    (case l5 => k_is)
    (case c5 => k_is)
    (case k5 => k_is)
    (case a6 => k_is)
    (case l6 => k_is)
    (case c6 => k_is)
    (case k6 => k_is)
    (case a7 => k_is)
    (case l7 => k_is)
    (case c7 => k_is)
    (case k7 => k_is)
    (case a8 => k_is)
    (case l8 => k_is)
    (case c8 => k_is)
    (case k8 => k_is)
    (case a9 => k_is)
    (case l9 => k_is)
    (case c9 => k_is)
    (case k9 => k_is)
    (case a10 => k_is)
    (case l10 => k_is)
    (case c10 => k_is)
    (case k10 => k_is)
    (case a11 => k_is)
    (case l11 => k_is)
    (case c11 => k_is)
    (case k11 => k_is)
    (case a12 => k_is)
    (case l12 => k_is)
    (case c12 => k_is)
    (case k12 => k_is)
    (case a13 => k_is)
    (case l13 => k_is)
    (case c13 => k_is)
    (case k13 => k_is)
    (case a14 => k_is)
    (case l14 => k_is)
    (case c14 => k_is)
    (case k14 => k_is)
    (case a15 => k_is)
    (case l15 => k_is)
    (case c15 => k_is)
    (case k15 => k_is)
    (case a16 => k_is)
    (case l16 => k_is)
    (case c16 => k_is)
    (case k16 => k_is)
    (case a17 => k_is)
    (case l17 => k_is)
    (case c17 => k_is)
    (case k17 => k_is)
    (case a18 => k_is)
    (case l18 => k_is)
    (case c18 => k_is)
    (case k18 => k_is)
    (case a19 => k_is)
    (case l19 => k_is)
    (case c19 => k_is)
    (case k19 => k_is)
    (case a20 => k_is)
    (case l20 => k_is)
    (case c20 => k_is)
    (case k20 => k_is)
    (case a21 => k_is)
    (case l21 => k_is)
    (case c21 => k_is)
    (case k21 => k_is)
    (case a22 => k_is)
    (case l22 => k_is)
    (case c22 => k_is)
    (case k22 => k_is)
    (case a23 => k_is)
    (case l23 => k_is)
    (case c23 => k_is)
    (case k23 => k_is)
    (case a24 => k_is)
    (case l24 => k_is)
    (case c24 => k_is)
    (case k24 => k_is)
    (case z0 => k_is)
    (case z1 => k_is)
    (case z2 => k_is)
    (case z3 => k_is)
    (case z4 => k_is)
    (case z5 => k_is)
    (case z6 => k_is)
    (case z7 => k_is)
    (case z8 => k_is)
    (case z9 => k_is)
    (case z10 => k_is)
    (case z11 => k_is)
    (case z12 => k_is)
    (case z13 => k_is)
    (case mMOST_CYCLE => k_is)
    (case mMOST_GREENS => k_is)
