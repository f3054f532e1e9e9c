import PyProof.Rows.All
import Wide.All
import OpenK.AllK
import Wide.FinOn
import PyProof.EqAt
import PyProof.EqKinds
import PyProof.TupleCall
import HandS.ForMost
import HandS.Wide
import HandS.WideBits
import HandS.IsInst
import HandS.TupMul
import HandS.TupAny
import HandS.Style
import HandS.Conv
import HandS.Evl
import HandS.Rev
import HandS.Walk
import PySem.Challenge.RW_greenroads_k51_records_that_fit
set_option Elab.async false
set_option linter.all false
set_option maxRecDepth 100000
set_option maxHeartbeats 2000000
/-! Defs under which no guard stands (so that repr of lists may be asked), and rules that the layer lacks. -/
namespace Gr
open PySem PySem.Spec PyProof.Rows L2

/-- no repr is under way around the call -/
abbrev Free (A : Around) : Prop := A.guards = some []
theorem Free.deep {A : Around} (h : Free A) (env : Env) : Free (A.deeper env) := h

structure FnG (P : Program) (w : World) (K : PySem.W.Frag) (mg : Str → Option Value) (base : Heap) (C : CXT) (k : Nat) (f : Addr) (fd : FuncData) (ps : List Str) (sp : Sp) : Prop where
  sized : ∀ xs G Z E, sp xs G Z E → xs.length = ps.length
  go : ∀ (A : Around) (envs : List Env) (st : Shared) (G : Hp) (ar : Args) (vals : List Value) (xs : List V) (Z : VK) (E : XK), Free A → Room k A → Env0 P w K mg base A envs st G →
    BindsTo st fd ar (ps.zip vals) → Vals xs vals → sp xs G Z E → codeAny (model P w) A (.call (.ref f) ar) (CR C envs P w G st Z E) st

section
variable {P : Program} {w : World} {K : PySem.W.Frag} {mg : Str → Option Value} {base : Heap} {C : CXT} {k : Nat} {f : Addr} {fd : FuncData} {ps : List Str} {sp : Sp}
theorem FnG.ofOk (F : FnOk P w K mg base C k f fd ps sp) : FnG P w K mg base C k f fd ps sp := ⟨F.len, fun A o st G ar vals xs Z E _ => F.run A o st G ar vals xs Z E⟩

theorem fnG_body {name qual : Str} {params : Arguments} {body : List Stmt} {sc : Scope} {dV kV doc pm cdv ct oc : Value} {an od : Option Addr} {osl : Array (Option Value)} {N : List Str}
    (lk : K.lookup f = some ⟨oc, od, .func (PySem.W.fnOf name qual params body sc dV kV doc pm an cdv ct), osl⟩) (hc : PySem.W.codeIn K cdv qual = true) (S : FnScope N ps sc) (sized : ∀ xs G Z E, sp xs G Z E → xs.length = ps.length)
    (hb : ∀ (A : Around) (envs : List Env) (st : Shared) (G : Hp) (xs : List V) (Z : VK) (E : XK), Free A → Room k (A.deeper (envOfC qual sc st.heap.objs.size f cdv)) → sp xs G Z E →
      ∃ t, PSs (cxOf C P w K mg base N qual sc f cdv A envs st G E) body t ∧ t { nx := fun _ G' => Z .non G', rt := Z } (start N xs) G) :
    FnG P w K mg base C (k + 1) f (PySem.W.fnOf name qual params body sc dV kV doc pm an cdv ct) ps sp where
  sized := sized
  go := by
    intro A envs st G ar vals xs Z E hf room e0 bt rv want
    have kin : K.In st.heap := e0.mod.kin.keeps (fun b o q => (e0.bs b o q).1)
    have nl : st.heap.NoLimit := e0.mod.nolimit.keeps (fun b o q => (e0.bs b o q).1)
    have kinds : ∀ q ∈ ps.zip vals, sc.names.lookup q.1 = some .local ∨ (sc.names.lookup q.1 = some .cell ∧ ((cellsFrom (st.heap.objs.size + 1) sc.names []).lookup q.1).isSome = true) := by
      rintro ⟨n, v⟩ hq
      cases S.par n (List.of_mem_zip hq).1 with
      | inl h => exact Or.inl h
      | inr h => exact Or.inr ⟨h, PySem.W.cellsFrom_some _ _ _ (Or.inl h)⟩
    apply codeAny_call_function room.depth (kin _ _ lk) rfl S.co S.gen rfl (PySem.W.codeRec_of kin hc)
    apply bt
    apply wpAny_newFunctionEnv_cells S.kind kinds
    intro env he s1 x
    cases he
    refine ⟨nl.keeps x.toInCall.keep, codeAny_func ?_⟩
    obtain ⟨t, ht, hq⟩ := hb A envs st G xs Z E hf (room.deeper _) want
    have J0 : Inv (cxOf C P w K mg base N qual sc f cdv A envs st G E) [] (start N xs) G s1 := inv_start S room.hd e0 (sized _ _ _ _ want) rv x
    apply wpAny_mono (ht.run [] s1 (start N xs) G _ J0 hq) _ (fun _ _ h => h)
    intro fl s2 hs
    cases fl with
    | ret u =>
      obtain ⟨v, τ, G2, J, r2, q2⟩ := hs
      exact ⟨v, G2, J.os, J.bare, J.base, J.hok, r2, q2⟩
    | next =>
      obtain ⟨τ, G2, J, q2⟩ := hs
      exact ⟨.non, G2, J.os, J.bare, J.base, J.hok, rfl, q2⟩
    | brk => exact (hs.elim fun _ h => h.elim fun _ h => h.2).elim
    | cont => exact (hs.elim fun _ h => h.elim fun _ h => h.2).elim

/-- a def by its body, guards known -/
theorem okG {x qual : Str} {st : Stmt} {N : List Str} (F : Fun K x qual st f fd) (S : FnScope N ps (defScope st)) (sized : ∀ xs G Z E, sp xs G Z E → xs.length = ps.length)
    (hb : ∀ (cdv : Value) (A : Around) (envs : List Env) (s : Shared) (G : Hp) (xs : List V) (Z : VK) (E : XK), Free A → Room k (A.deeper (envOfC qual (defScope st) s.heap.objs.size f cdv)) → sp xs G Z E →
      ∃ t, PSs (cxOf CX0 P w K mg base N qual (defScope st) f cdv A envs s G E).nox (defBody st) t ∧ t { nx := fun _ G' => Z .non G', rt := Z } (start N xs) G) : FnG P w K mg base CX0 (k + 1) f fd ps sp := by
  obtain ⟨oc, od, kV, doc, pm, an, cdv, ct, osl, rfl, lk, hcd⟩ := F.ex
  apply fnG_body lk hcd S sized
  intro A envs s G xs Z E hf hr hs
  obtain ⟨t, h, q⟩ := hb cdv A envs s G xs Z E hf hr hs
  exact ⟨t, h.nox, q⟩
end

section
variable {X : Cx} {C : CXT} {k : Nat} {f : Addr} {fd : FuncData} {ps : List Str} {sp : Sp} {dvs : List V} {ds : List Value} {E : XK} {x : Str} {p pos : Pos} {e : Expr} {es : List Expr} {t : TA}
theorem pe_callG (F : FnG X.prog X.w X.K X.mg X.base C k f fd ps sp) (hf : Free X.A) (hr : Room k X.A) (hg : Gl X x) (hm : X.mg x = some (.ref f)) (hk : PySem.W.keepIn X.K (.ref f) = true) (hb : Binds X.K fd ps ds) (hd : Vals dvs ds)
    (hx : Passes C X E) (ha : PA X (e :: es) t) (hdb : (x == ("__debug__" : Str)) = false := by decide) (he : starEach (e :: es) X.env = (false, eval e X.env) :: starEach es X.env := by rfl)
    (hpl : (backTo pos (starEach es X.env)).any (·.1) = false := by rfl) : PE X (.Call (.Name x p) (e :: es) [] pos) (tCall sp dvs E t) where
  run := by
    intro pins s σ H Q I h
    apply wpAny_Call_Name_kw
    apply ld_glob I hg hm _ hdb
    apply PySem.W.callWith_K (h₀ := X.base) I.ok.mod.kin hk _ he hpl
    apply thn (ha.run pos pins s σ H _ I h)
    rintro us s1 ⟨vs, H1, I1, r, q⟩
    have both : Vals (vs ++ dvs) (us ++ ds) := r.append hd
    have many : (us ++ ds).length = ps.length := both.length.symm.trans (F.sized _ _ _ _ q)
    refine ⟨I1.kIn, wpAny_call (codeAny_mono (F.go X.A X.stack s1 H1 ⟨us, []⟩ (us ++ ds) (vs ++ dvs) Q E hf hr I1.env0 (hb s1 us I1.kIn many) both q) ?_)⟩
    intro res s2 hq
    match res, hq with
    | .ok (.ret u), hq => exact I1.after hq
    | .error err, hq => exact hx pins σ H1 s1 err s2 I1 hq
end

/-! ### rules -/
section
variable {X : Cx}
def CPowW (i j : Int) : Prop := 0 ≤ j ∧ (Builtin.Int.intBits i : Int) * j ≤ 2 ^ 27
theorem op_powW : OpR X (binaryOp .Pow) (rI CPowW fun i j => .int (i ^ j.toNat)) := opI fun _ _ _ _ _ _ _ hc q => pow_int hc.1 hc.2 q
theorem bits_le {i : Int} {n : Nat} (h : i.natAbs < 2 ^ n) (h0 : 0 < n) : Builtin.Int.intBits i ≤ n := by
  have a := PySem.Flt.log2_lt_of h0 h
  unfold Builtin.Int.intBits
  split <;> omega
theorem cube_ok {i : Int} (h : i.natAbs < 2 ^ 1000) : CPowW i 3 := by
  have a := bits_le h (by decide)
  exact ⟨by decide, by omega⟩

/-- repr of a list, a tuple, what lies in them -/
def rRepr (K : PySem.W.Frag) : List V → Hp → VK → Prop := fun xs H Q => ∃ (a : Addr) (d : PyData), xs = [.ref a] ∧ Dp K H (.ref a) d ∧ d.showable = true ∧ d.hasDict = false ∧ d.depth ≤ 40 ∧ d.shown.length ≤ sizeLine ∧ Q (.str d.shown) H
theorem call_reprD (hf : Free X.A) (hu : X.A.units + 64 < cLine) : CallR X (.builtin "repr") (rRepr X.K) := by
  rintro pins s σ H xs us Q I r ⟨a, d, rfl, hD, hs, hd, h20, hz, q⟩
  obtain ⟨u, rfl, hr⟩ := vals1 r
  cases (show u = Value.ref a from hr)
  obtain ⟨as, rd⟩ := Dp.reads I d (.ref a) (.ref a) hD rfl
  exact repr_of_reads' rd hs (fun e => by rw [hd] at e; cases e) hf (by omega) (fun _ _ e => e) (fun h' u tk hk => ⟨.str d.shown, H, I.kept hk, ⟨u, rfl⟩, q⟩) hz
end

/-! ### the law's own call -/
section
variable {P : Program} {w : World} {K : PySem.W.Frag} {mg mb : Str → Option Value} {k : Nat} {fa a : Addr} {fd : FuncData} {x : Str} {sp : Sp} {st : Shared} {vs : List Value} {ns : List Int}
/-- behind the top: the heap with what G tracks hidden is a module's base -/
theorem base_mod {G : Hp} (kin : K.In st.heap) (hg : st.heap.Ns mainGlobals mg) (hb : st.heap.Ns builtinsNs mb) (hbb : ∀ y : Str, y ≠ "__name__" → mb y = bootBuiltins y) (nl : st.heap.NoLimit)
    (notD : ∀ b o es ep, st.heap.get? b = some o → o.data = .dict es ep → G b = none) (notK : ∀ b o, K.lookup b = some o → G b = none) :
    K.In (hidT st.heap G) ∧ (hidT st.heap G).Ns mainGlobals mg ∧ Mod K mg (hidT st.heap G) := by
  have nsH : ∀ {b : Addr} {m : Str → Option Value}, st.heap.Ns b m → (hidT st.heap G).Ns b m := by
    rintro b m ⟨o, es, ep, e, d, rest⟩
    exact ⟨o, es, ep, hidT_get e (notD b o es ep e d), d, rest⟩
  have kH : K.In (hidT st.heap G) := fun b o e => hidT_get (kin b o e) (notK b o e)
  obtain ⟨mc, c1, c2⟩ := nl
  exact ⟨kH, nsH hg, kH, nsH hg, ⟨mb, nsH hb, hbb⟩, mc, nsH c1, c2⟩

theorem law_run {G : Hp} (bm : K.In (hidT st.heap G) ∧ (hidT st.heap G).Ns mainGlobals mg ∧ Mod K mg (hidT st.heap G)) (no : st.gens = #[]) (only : Only G) (sq : SqL K G a (ns.map V.int)) (ok : HOk P w G st.heap) (room : Room k callerA)
    (F : ∀ base : Heap, K.In base → base.Ns mainGlobals mg → FnG P w K mg base CX0 k fa fd [x] sp) (bt : ∀ (s : Shared) (u : Value), BindsTo s fd ⟨[u], []⟩ [(x, u)])
    (want : sp [.ref a] G (fun v _ => v = .bl true) fun _ _ _ => False) :
    codeAny (model P w) callerA (.call (.ref fa) ⟨[.ref a], []⟩) (fun r s2 => r = .ok (.ret (.bool true)) ∧ OldK st.heap s2.heap ∧ s2.os = st.os ∧ AllBare s2.gens) st := by
  obtain ⟨b1, b2, b3⟩ := bm
  have e0 : Env0 P w K mg (hidT st.heap G) callerA [] st G :=
    { frames := rfl, mod := b3, bs := fun b o e => of_hidT e, bsz := Nat.le_of_eq (hidT_size _ _), funs := trivial, frf := fun b h => (List.not_mem_nil (show b ∈ ([] : List Addr) from h)).elim, hok := ok, bare := .of_eq no }
  apply codeAny_mono ((F _ b1 b2).go callerA [] st G ⟨[.ref a], []⟩ [.ref a] [.ref a] _ _ rfl room e0 (bt st (.ref a)) (.cons rfl .nil) want)
  intro r s2 h
  match r, h with
  | .ok (.ret u), h =>
    obtain ⟨v, G2, os, bare, un, ok2, rv, q⟩ := h
    cases (show v = .bl true from q)
    cases (show u = Value.bool true from rv)
    refine ⟨rfl, OldK.of_keep (fun b o e => ?_), os, bare⟩
    rcases only b with z | ⟨ob, xs, z⟩
    · exact un.keep b o e z (fun h => (List.not_mem_nil (show b ∈ ([] : List Addr) from h)).elim) (by simp)
    · have e1 := (ok b _ z).1
      have e2 := (ok2 b _ (un.frzs b ob _ z)).1
      rw [e] at e1
      cases e1
      exact e2

theorem law_callG (kin : K.In st.heap) (hg : st.heap.Ns mainGlobals mg) (hb : st.heap.Ns builtinsNs mb) (hbb : ∀ y : Str, y ≠ "__name__" → mb y = bootBuiltins y) (nl : st.heap.NoLimit) (no : st.gens = #[])
    (ha : st.heap.get? a = some { cls := .type "list", data := .seq vs.toArray }) (hi : IntsAre vs ns) (hl : ns.length ≤ sizeLine) (room : Room k callerA)
    (F : ∀ base : Heap, K.In base → base.Ns mainGlobals mg → FnG P w K mg base CX0 k fa fd [x] sp) (bt : ∀ (s : Shared) (u : Value), BindsTo s fd ⟨[u], []⟩ [(x, u)])
    (want : ∀ G : Hp, Only G → SqL K G a (ns.map V.int) → sp [.ref a] G (fun v _ => v = .bl true) fun _ _ _ => False) :
    codeAny (model P w) callerA (.call (.ref fa) ⟨[.ref a], []⟩) (fun r s2 => r = .ok (.ret (.bool true)) ∧ OldK st.heap s2.heap ∧ s2.os = st.os ∧ AllBare s2.gens) st := by
  have rv := vals_ints hi
  cases hk : K.lookup a with
  | some o =>
    have e := kin a o hk
    rw [ha] at e
    cases e
    have sq : SqL K (fun _ => none) a (ns.map V.int) := Or.inr ⟨_, vs.toArray, _, hk, rfl, rfl, rfl, by rw [List.size_toArray, hi.length]; exact hl, by simpa using rv⟩
    exact law_run (G := fun _ => none) (base_mod kin hg hb hbb nl (fun _ _ _ _ _ _ => rfl) fun _ _ _ => rfl) no (fun _ => Or.inl rfl) sq (fun b u z => nomatch (show (none : Option HO) = some u from z)) room F bt (want _ (fun _ => Or.inl rfl) sq)
  | none =>
    have at1 : (fun b => if b = a then some (HO.frz { cls := .type "list", data := .seq vs.toArray } (.lst (ns.map V.int))) else none : Hp) a = some (HO.frz { cls := .type "list", data := .seq vs.toArray } (.lst (ns.map V.int))) := if_pos rfl
    generalize hG : (fun b => if b = a then some (HO.frz { cls := .type "list", data := .seq vs.toArray } (.lst (ns.map V.int))) else none : Hp) = G at at1
    have at0 : ∀ b, b ≠ a → G b = none := fun b hb => by rw [← hG]; exact if_neg hb
    have sq : SqL K G a (ns.map V.int) := Or.inl (Or.inr ⟨_, at1⟩)
    have only : Only G := fun b => by
      by_cases hb : b = a
      · exact Or.inr ⟨_, _, hb ▸ at1⟩
      · exact Or.inl (at0 b hb)
    refine law_run (base_mod kin hg hb hbb nl (fun b o es ep e d => ?_) fun b o e => ?_) no only sq (fun b u z => ?_) room F bt (want _ only sq)
    · by_cases hb : b = a
      · rw [hb, ha] at e
        cases e
        cases (show Data.seq vs.toArray _ = Data.dict es ep from d)
      · exact at0 b hb
    · exact at0 b (fun hb => by rw [hb, hk] at e; cases e)
    · by_cases hb : b = a
      · subst hb
        rw [at1] at z
        cases z
        exact ⟨ha, by rw [List.length_map]; exact hl, vs, _, rv, ha⟩
      · rw [at0 b hb] at z
        cases z
end

theorem walkG {l : PySem.W.OpenLaw} {n k : Nat} {q : Program} {loose : List Str} {XP : (Str → Option Value) → Heap → Prop} {YP : World → Heap → Prop} {d : DefRec} {K : Params → PySem.W.Frag} {sp : PySem.W.Frag → Sp} {x : Str}
    (hn : l.most = some n) (hn2 : n ≤ sizeLine) (hdf : d.params.defaults = []) (hr : Room k callerA) (hY : ∀ (w : World) (h : Heap), YP w h → (K w.params).In h)
    (F : ∀ (w : World) (mg : Str → Option Value) (fa : Addr) (h : Heap), (K w.params).In h → h.Ns mainGlobals mg → mg d.name = some (.ref fa) →
      ∃ fd : FuncData, (∀ (s : Shared) (u : Value), BindsTo s fd ⟨[u], []⟩ [(x, u)]) ∧ ∀ base : Heap, (K w.params).In base → base.Ns mainGlobals mg → FnG l.prog w (K w.params) mg base CX0 k fa fd [x] (sp (K w.params)))
    (hsp : ∀ (K : PySem.W.Frag) (G : Hp) (a : Addr) (ns : List Int), ns.length ≤ n → Only G → SqL K G a (ns.map V.int) → sp K [.ref a] G (fun v _ => v = .bl true) fun _ _ _ => False) :
    PySem.W.WalkO q loose XP YP l.row.toRowW d [] (fun f vs => PySem.call f vs) := by
  apply Att.attach_call hn hdf
  intro w s₀ s₁ mg mb fa o pm cd doc a vs ns G Y ho hd hcd hmg hobj hints hlen hg
  have kin := hY w _ Y
  obtain ⟨fd, hb, hF⟩ := F w mg fa _ kin G.T.g hmg
  exact law_callG kin G.T.g G.T.b G.T.builtins G.T.nolimit hg hobj hints (Nat.le_trans hlen hn2) hr hF hb (fun H hO hS => hsp (K w.params) H a ns hlen hO hS)
end Gr

set_option Elab.async false
set_option linter.all false
set_option maxRecDepth 100000
set_option maxHeartbeats 4000000
/-! t[::-1] of a tuple, repr of what is no object. -/
namespace Gr
open PySem PySem.Spec PyProof.Rows L2 HT
section
variable {prog : Program} {w : World} {A : Around} {E : Value → Shared → Prop} {s : Shared}
theorem back_places (n : Nat) : Builtin.Slice.slicePlaces ((n : Int) - 1) (-1) (-1) = n := by
  unfold Builtin.Slice.slicePlaces
  rw [if_neg (by decide)]
  by_cases h : (n : Int) - 1 > -1
  · rw [if_pos h]
    simp only [Int.neg_neg, Int.ediv_one]
    omega
  · rw [if_neg h]; omega
theorem back_applied {sl : Addr} {n : Nat} {t : Tok} {Q : Int × Int × Nat → Shared → Prop} (hs : s.heap.IsSliceOf sl .none .none (.int (-1) t)) (h : Q ((n : Int) - 1, -1, n) s) :
    wpAny (model prog w) A (Builtin.Slice.sliceApplied (.ref sl) (pure (n : Int))) Q E s := by
  obtain ⟨os, e1, e2, e3⟩ := id hs
  unfold Builtin.Slice.sliceApplied Builtin.Slice.sliceFields
  apply wpAny_bind
  apply wpAny_bind
  refine wpAny_field e1 e3 (x := .none) rfl ?_
  apply wpAny_bind
  refine wpAny_field e1 e3 (x := .none) rfl ?_
  apply wpAny_bind
  refine wpAny_field e1 e3 (x := .int (-1) t) rfl (wpAny_pure ?_)
  refine wpAny_bind (slicePart_int ?_)
  show wpAny _ _ (if ((-1 : Int) == 0) = true then _ else _) _ _ s
  rw [if_neg (by decide)]
  apply wpAny_bind
  apply slicePart_none
  apply wpAny_bind
  apply slicePart_none
  refine wpAny_bind (wpAny_pure ?_)
  show wpAny _ _ (pure ((n : Int) - 1, (-1 : Int), Builtin.Slice.slicePlaces ((n : Int) - 1) (-1) (-1))) _ _ s
  rw [back_places]
  exact wpAny_pure h
theorem fm_congr {α β : Type} {f g : α → Option β} : ∀ {l : List α}, (∀ x ∈ l, f x = g x) → l.filterMap f = l.filterMap g
  | [], _ => rfl
  | a :: r, h => by
    rw [List.filterMap_cons, List.filterMap_cons, h a List.mem_cons_self, fm_congr fun x hx => h x (List.mem_cons_of_mem _ hx)]
theorem back_pick (xs : Array Value) : ((List.range xs.size).filterMap fun (m : Nat) => xs[(((xs.size : Int) - 1) + (m : Int) * (-1)).toNat]?).toArray = xs.toList.reverse.toArray := by
  congr 1
  have key : ∀ m ∈ List.range xs.size, xs[(((xs.size : Int) - 1) + (m : Int) * (-1)).toNat]? = xs.toList.reverse[m]? := by
    intro m hm
    have hm' : m < xs.size := List.mem_range.mp hm
    rw [List.getElem?_reverse (by simpa using hm')]
    have e : (((xs.size : Int) - 1) + (m : Int) * (-1)).toNat = xs.toList.length - 1 - m := by
      rw [Array.length_toList]; omega
    rw [e, Array.getElem?_toList]
  rw [fm_congr key]
  have : ∀ l : List Value, (List.range l.length).filterMap (fun m => l[m]?) = l := by
    intro l
    induction l with
    | nil => rfl
    | cons a r ih =>
      rw [List.length_cons, List.range_succ_eq_map, List.filterMap_cons]
      show a :: _ = _
      rw [List.filterMap_map]
      exact congrArg (a :: ·) ih
  have z := this xs.toList.reverse
  rw [List.length_reverse, Array.length_toList] at z
  exact z
theorem getItem_tuple_back {t sl : Addr} {items : Array Value} {u : Tok} {Q : Value → Shared → Prop} (ht : IsTup s.heap t items) (hs : s.heap.IsSliceOf sl .none .none (.int (-1) u))
    (h : Q (.ref s.heap.objs.size) { s with heap := s.heap.push { cls := .type "tuple", data := .seq items.toList.reverse.toArray } }) (hsz : items.size ≤ sizeLine) : wpAny (model prog w) A (getItem (.ref t) (.ref sl)) Q E s := by
  have ok : sizeOk (.seq items.toList.reverse.toArray) := by
    show items.toList.reverse.toArray.size ≤ sizeLine
    rw [List.size_toArray, List.length_reverse, Array.length_toList]
    exact hsz
  obtain ⟨os, e1, e2, e3⟩ := id hs
  have tS : s.TypeIs (.ref sl) "slice" := ⟨os, e1, e2⟩
  unfold getItem
  try with_reducible refine wpAny_holding ?_
  first | refine wpAny_bind (wpAny_pure ?_) | skip
  apply wpAny_bind
  apply wpAny_sequenceKey ht.typeIs (by decide)
  apply wpAny_bind
  refine wpAny_callSpecial?_slot (name := Str.ofString "__getitem__") ht.typeIs PyProof.Rows.slot_tuple_getitem ?_
  refine wpAny_call_entry PyProof.Rows.slot_tuple_getitem ht.typeIs entry_tuple_getitem ?_ (args_tuple_getitem _ _)
  show wpAny _ _ (Builtin.Tuple.tupleItemsOf (.ref t) >>= _) _ _ s
  apply wpAny_bind
  apply tupleItemsOf_ ht
  apply wpAny_bind
  apply wpAny_typeOf tS
  rw [if_pos (by decide)]
  apply wpAny_bind
  apply back_applied hs
  have no : ¬ ((((items.size : Int) - 1) == 0 && (-1 : Int) == 1 && items.size == items.size) = true) := by
    rw [show ((-1 : Int) == 1) = false from rfl, Bool.and_false, Bool.false_and]
    exact Bool.false_ne_true
  show wpAny _ _ (if (((items.size : Int) - 1) == 0 && (-1 : Int) == 1 && items.size == items.size) = true then _ else _) _ _ s
  rw [if_neg no, back_pick]
  first
    | exact wpAny_bind (m := Builtin.Tuple.tupleExact _) (wpAny_newObj_type (wpAny_pure ⟨_, rfl, wpAny_pure h⟩) ok)
    | exact wpAny_bind (m := Builtin.Tuple.tupleExact _) (wpAny_newObj_type (wpAny_bind (wpAny_pure (wpAny_pure ⟨_, rfl, wpAny_pure h⟩))) ok)
    | exact wpAny_bind (wpAny_bind (m := Builtin.Tuple.tupleExact _) (wpAny_newObj_type (wpAny_pure (wpAny_pure ⟨_, rfl, wpAny_pure h⟩)) ok))
    | exact wpAny_bind (wpAny_bind (m := Builtin.Tuple.tupleExact _) (wpAny_newObj_type (wpAny_pure ⟨_, rfl, wpAny_pure h⟩) ok))
end
section
variable {X : Cx}
/-- t[::-1] -/
def tRevT (K : PySem.W.Frag) (te : TE) : TE := fun σ H Q => te σ H fun x H1 => ∃ a xs, x = .ref a ∧ SqT K H1 a xs ∧ ∀ p, H1 p = none → Q (.ref p) (upd H1 p (.tup xs.reverse))
theorem pe_revT {e : Expr} {te : TE} {k : Nat} {p1 p2 p3 pos : Pos} (he : PE X e te) : PE X (.Subscript e (.Slice none none (some (.UnaryOp .USub (.Constant (.int 1) k p1) p2)) p3) pos) (tRevT X.K te) where
  run := by
    intro pins s σ H Q I h
    apply Subscript_
    refine thn (he.run pins s σ H _ I h) ?_
    rintro v s1 ⟨x, H1, I1, r1, a, xs, rfl, hx, q⟩
    cases r1
    have step : PO X (some (.UnaryOp .USub (.Constant (.int 1) k p1) p2)) (tPart (tUn (rU fun i => .int (-i)) (tC (.int 1)))) := po_some (pe_un un_neg pe_int)
    apply wpAny_Slice
    refine thn (po_none.run pins s1 σ H1 (fun o G => o = none ∧ G = H1) I1 ⟨rfl, rfl⟩) ?_
    rintro vl s2 ⟨_, G2, I2, pl, rfl, g2⟩
    rw [g2] at I2
    refine thn (po_none.run pins s2 σ H1 (fun o G => o = none ∧ G = H1) I2 ⟨rfl, rfl⟩) ?_
    rintro vu s3 ⟨_, G3, I3, pu, rfl, g3⟩
    rw [g3] at I3
    refine thn (step.run pins s3 σ H1 (fun o G => o = some (-1) ∧ G = H1) I3 ⟨1, rfl, -1, rfl, rfl, rfl⟩) ?_
    rintro vs s4 ⟨_, G4, I4, ps, rfl, g4⟩
    rw [g4] at I4
    cases pl
    cases pu
    cases ps with
    | int i t =>
      have I5 : Inv X pins σ H1 { s4 with heap := s4.heap.push { cls := .type "slice", data := .fields #[.none, .none, .int (-1) t] } } := I4.kept (t' := s4.toks) fun b ob q => Heap.get?_push_of_some _ q
      obtain ⟨its, r, ht, hz⟩ := I5.tuple hx
      have hlen : its.toArray.size = xs.length := by rw [List.size_toArray]; exact r.length.symm
      show wpAny (model X.prog X.w) X.A (subscriptTail e (.Slice none none (some (.UnaryOp .USub (.Constant (.int 1) k p1) p2)) p3) (.ref a) (.ref s4.heap.objs.size)) (EP X pins σ Q) X.xe { s4 with heap := s4.heap.push { cls := .type "slice", data := .fields #[.none, .none, .int (-1) t] } }
      refine tail_any (ops := [.ref a, .ref s4.heap.objs.size]) ht.typeIs (PyProof.Rows.slot_tuple_getitem.lookup) ?_ (by with_unfolding_all rfl)
      refine getItem_tuple_back ht (Heap.IsSliceOf.new _ .none .none (.int (-1) t)) ?_ (by rw [hlen]; exact hz)
      refine ⟨.ref _, _, I5.laid (t' := s4.toks) (o := .tup xs.reverse) (fun b ob q => Heap.get?_push_of_some _ q) (Nat.le_refl _) ?_, rfl, q _ (I5.hok.fresh (Nat.le_refl _))⟩
      exact ⟨by rw [List.length_reverse]; exact hz, its.toArray.toList.reverse, by simpa using r.reverse, IsTup.new _ _⟩

/-- repr of an object, a truth, None, an int -/
def rReprA (K : PySem.W.Frag) : List V → Hp → VK → Prop := fun xs H Q => ∃ (x : V) (d : PyData), xs = [x] ∧ Dp K H x d ∧ d.showable = true ∧ d.hasDict = false ∧ d.depth ≤ 40 ∧ d.shown.length ≤ sizeLine ∧ (∀ y, x ≠ .str y) ∧ Q (.str d.shown) H
theorem call_reprA (hf : Free X.A) (hu : X.A.units + 64 < cLine) : CallR X (.builtin "repr") (rReprA X.K) := by
  rintro pins s σ H xs us Q I r ⟨x, d, rfl, hD, hs, hd, h20, hz, hy, q⟩
  obtain ⟨u, rfl, hr⟩ := vals1 r
  cases hD with
  | non =>
    cases (show u = Value.none from hr)
    exact PySem.P.repr_of_none ⟨.str _, H, I.tok _, ⟨_, rfl⟩, by simpa [PyData.shown] using q⟩
  | bl b =>
    cases (show u = Value.bool b from hr)
    exact PySem.P.repr_of_bool ⟨.str _, H, I.tok _, ⟨_, rfl⟩, by simpa [PyData.shown] using q⟩
  | int i =>
    obtain ⟨t, rfl⟩ := (show ∃ t, u = Value.int i t from hr)
    exact PySem.P.repr_of_int (by simpa [PyData.showable] using hs) ⟨.str _, H, I.tok _, ⟨_, rfl⟩, by simpa [PyData.shown] using q⟩
  | str y => exact absurd rfl (hy y)
  | @lst a ys ds h1 h2 => exact call_reprD hf hu pins s σ H [.ref a] [u] Q I r ⟨a, _, rfl, .lst h1 h2, hs, hd, h20, hz, q⟩
  | @tup a ys ds h1 h2 => exact call_reprD hf hu pins s σ H [.ref a] [u] Q I r ⟨a, _, rfl, .tup h1 h2, hs, hd, h20, hz, q⟩
end
end Gr

set_option Elab.async false
set_option linter.all false
set_option pp.deepTerms false
set_option pp.maxSteps 3000
set_option maxRecDepth 100000
set_option maxHeartbeats 4000000
set_option exponentiation.threshold 30000
namespace Gr
open PySem PySem.Spec PyProof.Rows L2
def topS (i : Nat) : Stmt := PySem.Challenge.pw_greenroads_k51_records_that_fit.main.body.getD i (.Pass ⟨0, 0, 0, 0⟩)
abbrev s_is_whole : Stmt := topS 7
theorem scis_whole : FnScope ["value"] ["value"] (defScope s_is_whole) := ⟨rfl, rfl, rfl, by decide +kernel, rfl, by decide +kernel, by decide +kernel⟩
abbrev s_check_cycle : Stmt := topS 8
theorem sccheck_cycle : FnScope ["cycle"] ["cycle"] (defScope s_check_cycle) := ⟨rfl, rfl, rfl, by decide +kernel, rfl, by decide +kernel, by decide +kernel⟩
abbrev s_check_number_in : Stmt := topS 9
theorem sccheck_number_in : FnScope ["number", "least", "most"] ["number", "least", "most"] (defScope s_check_number_in) := ⟨rfl, rfl, rfl, by decide +kernel, rfl, by decide +kernel, by decide +kernel⟩
abbrev s_is_record : Stmt := topS 13
theorem scis_record : FnScope ["value", "part"] ["value"] (defScope s_is_record) := ⟨rfl, rfl, rfl, by decide +kernel, rfl, by decide +kernel, by decide +kernel⟩
abbrev s_check_records : Stmt := topS 14
theorem sccheck_records : FnScope ["cycle", "travel", "records", "row", "record"] ["cycle", "travel", "records"] (defScope s_check_records) := ⟨rfl, rfl, rfl, by decide +kernel, rfl, by decide +kernel, by decide +kernel⟩
abbrev s_overtakes : Stmt := topS 15
theorem scovertakes : FnScope ["cycle", "record", "other", "start", "arrival", "ticks"] ["cycle", "record", "other"] (defScope s_overtakes) := ⟨rfl, rfl, rfl, by decide +kernel, rfl, by decide +kernel, by decide +kernel⟩
abbrev s_contradiction_in : Stmt := topS 16
theorem sccontradiction_in : FnScope ["cycle", "travel", "records", "first", "record", "second"] ["cycle", "travel", "records"] (defScope s_contradiction_in) := ⟨rfl, rfl, rfl, by decide +kernel, rfl, by decide +kernel, by decide +kernel⟩
abbrev s_fits : Stmt := topS 17
theorem scfits : FnScope ["cycle", "travel", "records"] ["cycle", "travel", "records"] (defScope s_fits) := ⟨rfl, rfl, rfl, by decide +kernel, rfl, by decide +kernel, by decide +kernel⟩
abbrev s_l_pond : Stmt := topS 19
theorem scl_pond : FnScope ["_law_script", "_law_k", "_law_cell"] ["_law_script", "_law_k"] (defScope s_l_pond) := ⟨rfl, rfl, rfl, by decide +kernel, rfl, by decide +kernel, by decide +kernel⟩
abbrev s_l_fish : Stmt := topS 20
theorem scl_fish : FnScope ["_law_pond_here", "_law_bound", "_law_found", "_law_turn", "_law_mixed"] ["_law_pond_here", "_law_bound"] (defScope s_l_fish) := ⟨rfl, rfl, rfl, by decide +kernel, rfl, by decide +kernel, by decide +kernel⟩
abbrev s_l_shape : Stmt := topS 21
theorem scl_shape : FnScope ["_law_pond_here", "_law_span", "_law_wide", "_law_steps", "_law_turn", "_law_one", "_law_to", "_law_more", "_law_end_here", "_law_found", "_law_step"] ["_law_pond_here", "_law_span", "_law_wide"] (defScope s_l_shape) := ⟨rfl, rfl, rfl, by decide +kernel, rfl, by decide +kernel, by decide +kernel⟩
abbrev s_l_end : Stmt := topS 22
theorem scl_end : FnScope ["_law_span", "_law_blocks", "_law_t"] ["_law_span", "_law_blocks", "_law_t"] (defScope s_l_end) := ⟨rfl, rfl, rfl, by decide +kernel, rfl, by decide +kernel, by decide +kernel⟩
abbrev s_l_against : Stmt := topS 23
theorem scl_against : FnScope ["_law_span", "_law_one", "_law_other", "_law_moved"] ["_law_span", "_law_one", "_law_other"] (defScope s_l_against) := ⟨rfl, rfl, rfl, by decide +kernel, rfl, by decide +kernel, by decide +kernel⟩
abbrev s_l_fit : Stmt := topS 24
theorem scl_fit : FnScope ["_law_span", "_law_ticks", "_law_pairs_here", "_law_one", "_law_other"] ["_law_span", "_law_ticks", "_law_pairs_here"] (defScope s_l_fit) := ⟨rfl, rfl, rfl, by decide +kernel, rfl, by decide +kernel, by decide +kernel⟩
abbrev s_l_pairs : Stmt := topS 25
theorem scl_pairs : FnScope ["_law_pond_here", "_law_span", "_law_blocks", "_law_many", "_law_found", "_law_turn", "_law_t"] ["_law_pond_here", "_law_span", "_law_blocks", "_law_many"] (defScope s_l_pairs) := ⟨rfl, rfl, rfl, by decide +kernel, rfl, by decide +kernel, by decide +kernel⟩
abbrev s_l_right : Stmt := topS 26
theorem scl_right : FnScope ["_law_pond_here", "_law_span", "_law_ticks", "_law_pairs_here", "_law_due", "_law_factor", "_law_far", "_law_great", "_law_start", "_law_end_here", "_law_moved", "_law_told"] ["_law_pond_here", "_law_span", "_law_ticks", "_law_pairs_here"] (defScope s_l_right) := ⟨rfl, rfl, rfl, by decide +kernel, rfl, by decide +kernel, by decide +kernel⟩
abbrev s_law : Stmt := topS 27
theorem sclaw : FnScope ["_law_script", "_law_k", "_law_pond_here", "_law_turn", "_law_span", "_law_blocks", "_law_end_here", "_law_rises", "_law_low", "_law_t", "_law_many", "_law_pairs_here", "_law_ticks", "_law_spot", "_law_other"] ["_law_script"] (defScope s_law) := ⟨rfl, rfl, rfl, by decide +kernel, rfl, by decide +kernel, by decide +kernel⟩
/-- what the text has at the top beside its defs -/
structure Blt (mg : Str → Option Value) (tMOST_CYCLE : Tok) (tMOST_RECORDS : Tok) (tMOST_TRAVEL : Tok) : Prop where
  n_all : mg "all" = none
  n_bool : mg "bool" = none
  n_enumerate : mg "enumerate" = none
  n_int : mg "int" = none
  n_isinstance : mg "isinstance" = none
  len : mg "len" = none
  n_list : mg "list" = none
  n_max : mg "max" = none
  n_min : mg "min" = none
  range : mg "range" = none
  n_repr : mg "repr" = none
  n_tuple : mg "tuple" = none
  MOST_CYCLE : mg "MOST_CYCLE" = some (.int (10 ^ 30) tMOST_CYCLE)
  MOST_RECORDS : mg "MOST_RECORDS" = some (.int 40 tMOST_RECORDS)
  MOST_TRAVEL : mg "MOST_TRAVEL" = some (.int (10 ^ 30) tMOST_TRAVEL)
/-- a def that stands under its name -/
structure Def (K : PySem.W.Frag) (mg : Str → Option Value) (x : Str) (st : Stmt) (ps : List Str) (f : Addr) (fd : FuncData) : Prop where
  F : Fun K x x st f fd
  g : mg x = some (.ref f)
  b : Binds K fd ps []
theorem Same.new {H : Hp} {p : Addr} {o : HO} (h : H p = none) : Same H (upd H p o) := fun b u e => by
  rw [upd_ne (ne_of_none e h)]; exact e
theorem iteY {c A B : Prop} [Decidable c] (hc : c) (h : A) : if (decide c) = true then A else B := by
  rw [decide_eq_true hc]; exact iteT h
theorem iteN {c A B : Prop} [Decidable c] (hc : ¬ c) (h : B) : if (decide c) = true then A else B := by
  rw [decide_eq_false hc]; exact iteF h
theorem natAbs_lt {i : Int} {k : Nat} (h0 : 0 ≤ i) (h : i < ((2 ^ k : Nat) : Int)) : i.natAbs < 2 ^ k := by omega
theorem paired_at {α β : Type} {R : α → β → Prop} : ∀ {xs : List α} {ys : List β} {i : Nat} {x : α}, Paired R xs ys → xs[i]? = some x → ∃ y, ys[i]? = some y ∧ R x y
  | _, _, _, _, .nil, e => by simp at e
  | _, _, 0, _, .cons r _, e => by simp at e; subst e; exact ⟨_, rfl, r⟩
  | _, _, i + 1, x, .cons _ t, e => by
    obtain ⟨u, h1, h2⟩ := paired_at (i := i) (x := x) t (by simpa using e)
    exact ⟨u, by simpa using h1, h2⟩
theorem paired_len {α β : Type} {R : α → β → Prop} : ∀ {xs : List α} {ys : List β}, Paired R xs ys → xs.length = ys.length
  | _, _, .nil => rfl
  | _, _, .cons _ t => congrArg (· + 1) (paired_len t)
theorem paired_snoc {α β : Type} {R : α → β → Prop} : ∀ {xs : List α} {ys : List β} {x : α} {y : β}, Paired R xs ys → R x y → Paired R (xs ++ [x]) (ys ++ [y])
  | _, _, _, _, .nil, r => .cons r .nil
  | _, _, _, _, .cons q t, r => .cons q (paired_snoc t r)
def spWhole : Sp := fun vs H Q _ => ∃ i : Int, vs = [.int i] ∧ Q (.bl true) H
def spCycle : Sp := fun vs H Q _ => ∃ c : Int, vs = [.int c] ∧ 1 ≤ c ∧ c ≤ 10 ^ 30 ∧ Q .non H
def spNumberIn : Sp := fun vs H Q _ => ∃ c lo hi : Int, vs = [.int c, .int lo, .int hi] ∧ lo ≤ c ∧ c ≤ hi ∧ Q .non H
section
variable {P : Program} {w : World} {K : PySem.W.Frag} {mg : Str → Option Value} {base : Heap} {tC tR tT : Tok}
theorem ok_is_whole {f : Addr} {fd : FuncData} (B : Blt mg tC tR tT) (Dis_whole : Def K mg "is_whole" s_is_whole ["value"] f fd) : FnOk P w K mg base CX0 1 f fd ["value"] spWhole := by
  refine Dis_whole.F.ok scis_whole (fun vs H Q E h => ?_) (fun cdv A outer s H vs Q E hr h => ⟨_, (pss_one (ps_ret (pe_and (pe_callB call_isi (by rfl) B.n_isinstance (by decide +kernel) (pa_cons (pv 0) (pa_cons (pe_bltn (v := .ty "int") (u := .type "int") (by rfl) B.n_int (by decide +kernel) rfl) pa_nil))) (pe_one (pe_not (pe_callB call_isi (by rfl) B.n_isinstance (by decide +kernel) (pa_cons (pv 0) (pa_cons (pe_bltn (v := .ty "bool") (u := .type "bool") (by rfl) B.n_bool (by decide +kernel) rfl) pa_nil)))))))), ?_⟩)
  · obtain ⟨i, rfl, _⟩ := h; rfl
  · obtain ⟨i, rfl, q⟩ := h
    refine ⟨_, rfl, .int i, .ty "int", .type "int", .type "int", true, rfl, .ty _, .base (.int i), kit_ty (by decide +kernel), _, rfl, ?_⟩
    refine ⟨_, rfl, .int i, .ty "bool", .type "int", .type "bool", false, rfl, .ty _, .base (.int i), kit_ty (by decide +kernel), _, rfl, q⟩
theorem ok_check_cycle {f f1 : Addr} {fd fd1 : FuncData} (B : Blt mg tC tR tT) (Dcheck_cycle : Def K mg "check_cycle" s_check_cycle ["cycle"] f fd) (Dis_whole : Def K mg "is_whole" s_is_whole ["value"] f1 fd1) : FnOk P w K mg base CX0 2 f fd ["cycle"] spCycle := by
  have Gis_whole := ok_is_whole (P := P) (w := w) (base := base) B Dis_whole
  refine Dcheck_cycle.F.ok sccheck_cycle (fun vs H Q E h => ?_) (fun cdv A outer s H vs Q E hr h => ⟨_, (pss_one (ps_if (PW.pt (pw_or (pt_not (pt_val (pe_call Gis_whole (hr.mono (by decide)) (by rfl) Dis_whole.g Dis_whole.F.kp Dis_whole.b .nil pass0 (pa_cons (pv 0) pa_nil)))) (pw_or1 (pt_not (pt_chain op_le op_le pe_int (pv 0) (pe_glob (v := .int (10 ^ 30)) (by rfl) B.MOST_CYCLE ⟨_, rfl⟩))))))
   (pss_one ps_never)
   pss_nil)), ?_⟩)
  · obtain ⟨i, rfl, _⟩ := h; rfl
  · obtain ⟨i, rfl, h1, h2, q⟩ := h
    refine ⟨_, rfl, _, rfl, _, rfl, ?_⟩
    refine ⟨_, rfl, _, _, rfl, rfl, _, rfl, ?_⟩
    rw [decide_eq_true h1]
    refine ⟨_, _, rfl, rfl, _, rfl, ?_⟩
    rw [decide_eq_true h2]
    exact q
theorem ok_check_number_in {f f1 : Addr} {fd fd1 : FuncData} (B : Blt mg tC tR tT) (Dcheck_number_in : Def K mg "check_number_in" s_check_number_in ["number", "least", "most"] f fd) (Dis_whole : Def K mg "is_whole" s_is_whole ["value"] f1 fd1) : FnOk P w K mg base CX0 2 f fd ["number", "least", "most"] spNumberIn := by
  have Gis_whole := ok_is_whole (P := P) (w := w) (base := base) B Dis_whole
  refine Dcheck_number_in.F.ok sccheck_number_in (fun vs H Q E h => ?_) (fun cdv A outer s H vs Q E hr h => ⟨_, (pss_one (ps_if (PW.pt (pw_or (pt_not (pt_val (pe_call Gis_whole (hr.mono (by decide)) (by rfl) Dis_whole.g Dis_whole.F.kp Dis_whole.b .nil pass0 (pa_cons (pv 0) pa_nil)))) (pw_or1 (pt_not (pt_chain op_le op_le (pv 1) (pv 0) (pv 2))))))
   (pss_one ps_never)
   pss_nil)), ?_⟩)
  · obtain ⟨i, lo, hi, rfl, _⟩ := h; rfl
  · obtain ⟨i, lo, hi, rfl, h1, h2, q⟩ := h
    refine ⟨_, rfl, _, rfl, _, rfl, ?_⟩
    refine ⟨_, rfl, _, rfl, _, _, rfl, rfl, _, rfl, ?_⟩
    rw [decide_eq_true h1]
    refine ⟨_, rfl, _, _, rfl, rfl, _, rfl, ?_⟩
    rw [decide_eq_true h2]
    exact q
end
end Gr

set_option Elab.async false
set_option linter.all false
set_option pp.deepTerms false
set_option pp.maxSteps 3000
set_option maxRecDepth 100000
set_option maxHeartbeats 4000000
namespace Gr
open PySem PySem.Spec PyProof.Rows L2
/-! ### the draws -/
/-- all but p stands -/
def But (p : Addr) (H H' : Hp) : Prop := ∀ q o, q ≠ p → H q = some o → H' q = some o
theorem But.refl (p : Addr) (H : Hp) : But p H H := fun _ _ _ h => h
theorem But.trans {p : Addr} {H H1 H2 : Hp} (a : But p H H1) (b : But p H1 H2) : But p H H2 := fun q o n h => b q o n (a q o n h)
theorem Same.but {p : Addr} {H H' : Hp} (s : Same H H') : But p H H' := fun q o _ h => s q o h
theorem But.new {p q : Addr} {H H' : Hp} {o : HO} (s : But p H H') (h : H' q = none) : But p H (upd H' q o) := fun r u n e => by
  have := s r u n e
  rw [upd_ne (ne_of_none this h)]; exact this
/-- an object that H does not know may change -/
theorem But.mut {p q : Addr} {H H' : Hp} {o : HO} (s : But p H H') (h : H q = none) : But p H (upd H' q o) := fun r u n e => by
  rw [upd_ne (ne_of_none e h)]; exact s r u n e
theorem But.at {p : Addr} {H H' : Hp} {o : HO} (s : But p H H') : But p H (upd H' p o) := fun r u n e => by
  rw [upd_ne n]; exact s r u n e
theorem But.fresh {p q : Addr} {H H' : Hp} {u : HO} (s : But p H H') (hp : H p = some u) (hp' : H' p ≠ none) (h : H' q = none) : H q = none := by
  cases e : H q with
  | none => rfl
  | some o =>
    by_cases hq : q = p
    · exact absurd (hq ▸ h) hp'
    · rw [s q o hq e] at h; cases h
/-- a pond at p of which n draws at most were taken -/
def Pond (n : Int) (p : Addr) (H : Hp) : Prop := ∃ a b c : Int, H p = some (.lst [.int a, .int b, .int c]) ∧ 0 ≤ b ∧ b < 10 ^ 60 ∧ 0 ≤ c ∧ c ≤ n
theorem Pond.mono {n m : Int} {p : Addr} {H : Hp} (h : Pond n p H) (l : n ≤ m) : Pond m p H := by
  obtain ⟨a, b, c, h1, h2, h3, h4, h5⟩ := h
  exact ⟨a, b, c, h1, h2, h3, h4, by omega⟩
theorem Pond.same {n : Int} {p : Addr} {H H' : Hp} (s : Same H H') (h : Pond n p H) : Pond n p H' := by
  obtain ⟨a, b, c, h1, h2⟩ := h
  exact ⟨a, b, c, s _ _ h1, h2⟩
theorem Pond.some {n : Int} {p : Addr} {H : Hp} (h : Pond n p H) : ∃ xs, H p = some (.lst xs) := by
  obtain ⟨a, b, c, h1, h2⟩ := h
  exact ⟨_, h1⟩
theorem Pond.ne {n : Int} {p : Addr} {H : Hp} (h : Pond n p H) : H p ≠ none := by
  obtain ⟨xs, h⟩ := h.some
  rw [h]; exact fun z => nomatch z
theorem Pond.new {n : Int} {p q : Addr} {H : Hp} {o : HO} (h : Pond n p H) (hq : H q = none) : Pond n p (upd H q o) := h.same (Same.new hq)
theorem e60 : ((10 : Int) ^ 60) < ((2 ^ 200 : Nat) : Int) := by decide +kernel
theorem e100 : ((10 : Int) ^ 100) < ((2 ^ 1000 : Nat) : Int) := by decide +kernel
theorem draw_ok {m : Int} (h1 : 1 ≤ m) (h2 : m ≤ 10 ^ 100) : m.natAbs < 2 ^ 1000 := natAbs_lt (by omega) (Int.lt_of_le_of_lt h2 e100)
theorem fmod_rng {x m : Int} (h : 1 ≤ m) : 0 ≤ x.fmod m ∧ x.fmod m < m := by
  rw [Int.fmod_eq_emod_of_nonneg x (by omega)]
  exact ⟨Int.emod_nonneg x (by omega), Int.emod_lt_of_pos x (by omega)⟩
def spFish : Sp := fun vs H Q _ => ∃ (p : Addr) (m n : Int), vs = [.ref p, .int m] ∧ Pond n p H ∧ n ≤ 10 ^ 9 ∧ 1 ≤ m ∧ m ≤ 10 ^ 100 ∧ ∀ r H', But p H H' → Pond (n + 12) p H' → 0 ≤ r → r < m → Q (.int r) H'
def spFish1 : Sp := fun vs H Q _ => ∃ (p : Addr) (m n : Int), vs = [.ref p, .int m] ∧ Pond n p H ∧ n ≤ 10 ^ 9 + 100 ∧ 1 ≤ m ∧ m ≤ 10 ^ 30 ∧ ∀ r H', But p H H' → Pond (n + 1) p H' → 0 ≤ r → r < m → Q (.int r) H'
theorem cp30 : CPowW 10 30 := ⟨by decide, by decide +kernel⟩
theorem cp42 : CPowW 10 42 := ⟨by decide, by decide +kernel⟩
theorem cp44 : CPowW 10 44 := ⟨by decide, by decide +kernel⟩
theorem cube_of {i : Int} (h0 : 0 ≤ i) (h : i < ((2 ^ 1000 : Nat) : Int)) : CPowW i 3 := cube_ok (natAbs_lt h0 h)
theorem mulc {k c : Int} (h0 : 0 ≤ k) (h1 : k < ((2 ^ 40 : Nat) : Int)) (c0 : 0 ≤ c) (c1 : c ≤ 10 ^ 10) : CMulW k c := by
  have e : ((10 : Int) ^ 10) < ((2 ^ 40 : Nat) : Int) := by decide +kernel
  exact wide_mul (a := 40) (b := 40) (natAbs_lt h0 h1) (natAbs_lt c0 (by omega)) (by decide) (by decide) (by decide)
theorem p200 : ((2 ^ 200 : Nat) : Int) + 10 ^ 20 < ((2 ^ 1000 : Nat) : Int) := by decide +kernel
theorem p42 : (10 : Int) ^ (42 : Int).toNat + 63 < 10 ^ 60 := by decide +kernel
theorem q42 : (10 : Int) ^ (42 : Int).toNat + 63 ≠ 0 := by decide +kernel
theorem q44 : (10 : Int) ^ (44 : Int).toNat + 57 ≠ 0 := by decide +kernel
set_option exponentiation.threshold 2000
section
variable {P : Program} {w : World} {K : PySem.W.Frag} {mg : Str → Option Value} {base : Heap} {tC tR tT : Tok}
theorem ok_fish1 {f : Addr} {fd : FuncData} (B : Blt mg tC tR tT) (Dl_fish : Def K mg "_law_fish" s_l_fish ["_law_pond_here", "_law_bound"] f fd) : FnOk P w K mg base CX0 1 f fd ["_law_pond_here", "_law_bound"] spFish1 := by
  refine Dl_fish.F.ok scl_fish (fun vs H Q E h => ?_) (fun cdv A outer s H vs Q E hr h => ⟨_, (pss_cons (ps_if (pt_cmpR op_gt (pv 1) (pe_op op_powW pe_int pe_int) (nomark _))
   (pss_cons (ps_set (i := 2) scl_fish.nd rfl (Or.inl rfl) pe_int)
  (pss_cons (ps_for PassesOwn.never rfl (pi_range1 (by rfl) B.range (pa_cons (pe_op op_add pe_int (pe_op op_fdivW (pe_bits (pv 1)) pe_int)) pa_nil)) (pg_name (i := 3) scl_fish.nd rfl (Or.inl rfl))
   (pss_one ps_never))
  (pss_one (ps_ret (pe_op op_modN (pv 2) (pv 1))))))
   pss_nil)
  (pss_cons (ps_if (pt_cmpR op_gt (pe_ix ix_list (pv 0) pe_int (fun _ _ => rfl)) pe_int (nomark _))
   (pss_cons (ps_set (i := 2) scl_fish.nd rfl (Or.inl rfl) (pe_op op_modN (pe_ix ix_list (pv 0) pe_int (fun _ _ => rfl)) (pv 1)))
  (pss_cons (ps_asg (pe_op op_fdivW (pe_ix ix_list (pv 0) pe_int (fun _ _ => rfl)) (pv 1)) (pg_sub (pv 0) pe_int set_list))
  (pss_one (ps_ret (pv 2)))))
   pss_nil)
  (pss_cons (ps_asg (pe_op op_add (pe_ix ix_list (pv 0) pe_int (fun _ _ => rfl)) pe_int) (pg_sub (pv 0) pe_int set_list))
  (pss_cons (ps_set (i := 4) scl_fish.nd rfl (Or.inl rfl) (pe_op op_modN (pe_op op_powW (pe_op op_add (pe_ix ix_list (pv 0) pe_int (fun _ _ => rfl)) (pe_op op_mulW pe_int (pe_ix ix_list (pv 0) pe_int (fun _ _ => rfl)))) pe_int) (pe_op op_add (pe_op op_powW pe_int pe_int) pe_int)))
  (pss_cons (ps_set (i := 4) scl_fish.nd rfl (Or.inl rfl) (pe_op op_modN (pe_op op_powW (pe_op op_add (pv 4) (pe_op op_mulW pe_int (pe_ix ix_list (pv 0) pe_int (fun _ _ => rfl)))) pe_int) (pe_op op_add (pe_op op_powW pe_int pe_int) pe_int)))
  (pss_one (ps_ret (pe_op op_modN (pe_op op_fdivW (pv 4) pe_int) (pv 1))))))))), ?_⟩)
  · obtain ⟨p, m, n, rfl, _⟩ := h; rfl
  · obtain ⟨p, m, n, rfl, ⟨a, b, c, hp, b0, b1, c0, c1⟩, hn, m1, m2, q⟩ := h
    refine ⟨_, rfl, _, _, rfl, rfl, cp30, _, _, rfl, rfl, _, rfl, iteN (show ¬ (10 : Int) ^ 30 < m by omega) ?_⟩
    refine ⟨_, rfl, p, _, _, _, rfl, rfl, SqL.of hp, rfl, _, _, rfl, rfl, _, rfl, ?_⟩
    have dm : CDivW a m := wide_div (b := 1000) (by omega) (draw_ok m1 (by omega)) (by decide) (by decide)
    by_cases ha : 0 < a
    · refine iteY ha ?_
      refine ⟨_, rfl, p, _, _, _, rfl, rfl, SqL.of hp, rfl, _, rfl, _, _, rfl, rfl, (by show m ≠ 0; omega), ?_⟩
      refine ⟨_, rfl, p, _, _, _, rfl, rfl, SqL.of hp, rfl, _, rfl, _, _, rfl, rfl, dm, _, rfl, p, _, _, _, rfl, rfl, hp, rfl, ?_⟩
      refine ⟨_, rfl, q _ _ (But.refl p H).at ⟨a / m, b, c, upd_same, b0, b1, c0, by omega⟩ (fmod_rng m1).1 (fmod_rng m1).2⟩
    · refine iteN ha ?_
      refine ⟨_, rfl, p, _, _, _, rfl, rfl, SqL.of hp, rfl, _, _, rfl, rfl, _, rfl, p, _, _, _, rfl, rfl, hp, rfl, ?_⟩
      have hp2 : (upd H p (.lst ([V.int a, .int b, .int c].set 2 (.int (c + 1))))) p = some (.lst [.int a, .int b, .int (c + 1)]) := upd_same
      refine ⟨_, rfl, p, _, _, _, rfl, rfl, SqL.of hp2, rfl, _, rfl, p, _, _, _, rfl, rfl, SqL.of hp2, rfl, _, _, rfl, rfl, mulc (by decide) (by decide) (by omega) (by omega), _, _, rfl, rfl, ?_⟩
      refine ⟨_, _, rfl, rfl, cube_of (by omega) (by have := e60; have := p200; omega), _, _, rfl, rfl, cp42, _, _, rfl, rfl, _, _, rfl, rfl, q42, ?_⟩
      have r1 := fmod_rng (x := (b + 49979687 * (c + 1)) ^ (3 : Int).toNat) (m := 10 ^ (42 : Int).toNat + 63) (by decide +kernel)
      refine ⟨_, rfl, _, rfl, p, _, _, _, rfl, rfl, SqL.of hp2, rfl, _, _, rfl, rfl, mulc (by decide) (by decide) (by omega) (by omega), _, _, rfl, rfl, ?_⟩
      refine ⟨_, _, rfl, rfl, cube_of (by omega) (by have := e60; have := p200; have := p42; omega), _, _, rfl, rfl, cp44, _, _, rfl, rfl, _, _, rfl, rfl, q44, ?_⟩
      refine ⟨_, rfl, _, _, rfl, rfl, ⟨by decide, by decide +kernel⟩, _, rfl, _, _, rfl, rfl, (by show m ≠ 0; omega), ?_⟩
      exact q _ _ (But.refl p H).at ⟨a, b, c + 1, upd_same, b0, b1, by omega, by omega⟩ (fmod_rng m1).1 (fmod_rng m1).2
end
end Gr

set_option Elab.async false
set_option linter.all false
set_option pp.deepTerms false
set_option pp.maxSteps 3000
set_option maxRecDepth 100000
set_option maxHeartbeats 4000000
set_option exponentiation.threshold 3000
namespace Gr
open PySem PySem.Spec PyProof.Rows L2
theorem fnok_or {P : Program} {w : World} {K : PySem.W.Frag} {mg : Str → Option Value} {base : Heap} {C : CXT} {k : Nat} {f : Addr} {fd : FuncData} {ps : List Str} {s1 s2 : Sp} (a : FnOk P w K mg base C k f fd ps s1) (b : FnOk P w K mg base C k f fd ps s2) :
    FnOk P w K mg base C k f fd ps (fun vs H Q E => s1 vs H Q E ∨ s2 vs H Q E) :=
  ⟨fun vs H Q E h => h.elim (a.len vs H Q E) (b.len vs H Q E), fun A o s H ar us vs Q E hr he hb hv h => h.elim (a.run A o s H ar us vs Q E hr he hb hv) (b.run A o s H ar us vs Q E hr he hb hv)⟩
def spFish2 : Sp := fun vs H Q _ => ∃ (p : Addr) (m n : Int), vs = [.ref p, .int m] ∧ Pond n p H ∧ n ≤ 10 ^ 9 ∧ 10 ^ 30 < m ∧ m ≤ 10 ^ 100 ∧ ∀ r H', But p H H' → Pond (n + 12) p H' → 0 ≤ r → r < m → Q (.int r) H'
theorem pick {xs : List Int} {r : Int} (h0 : 0 ≤ r) (h1 : r < (xs.length : Int)) : ∃ v ∈ xs, atI (xs.map V.int) r = some (.int v) := by
  obtain ⟨j, rfl⟩ : ∃ j : Nat, r = (j : Int) := ⟨r.toNat, (Int.toNat_of_nonneg h0).symm⟩
  have hl : j < xs.length := by omega
  refine ⟨xs[j], List.getElem_mem hl, atI_nat ?_⟩
  rw [List.getElem?_map, List.getElem?_eq_getElem hl]
  rfl
def spPondNew (K : PySem.W.Frag) : Sp := fun vs H Q _ => ∃ (a : Addr) (k : Int) (ns : List Int), vs = [.ref a, .int k] ∧ SqL K H a (ns.map V.int) ∧ 0 ≤ k ∧ k ≤ 100 ∧ ∀ p H', H p = none → Same H H' → Pond 0 p H' → Q (.ref p) H'
section
variable {P : Program} {w : World} {K : PySem.W.Frag} {mg : Str → Option Value} {base : Heap} {tC tR tT : Tok}
theorem ok_fish2 {f : Addr} {fd : FuncData} (B : Blt mg tC tR tT) (Dl_fish : Def K mg "_law_fish" s_l_fish ["_law_pond_here", "_law_bound"] f fd) : FnOk P w K mg base CX0 2 f fd ["_law_pond_here", "_law_bound"] spFish2 := by
  have Gl_fish := ok_fish1 (P := P) (w := w) (base := base) B Dl_fish
  refine Dl_fish.F.ok scl_fish (fun vs H Q E h => ?_) (fun cdv A outer s H vs Q E hr h => ⟨_, (pss_cons (ps_if (pt_cmpR op_gt (pv 1) (pe_op op_powW pe_int pe_int) (nomark _))
   (pss_cons (ps_set (i := 2) scl_fish.nd rfl (Or.inl rfl) pe_int)
  (pss_cons (ps_for PassesOwn.never rfl (pi_range1 (by rfl) B.range (pa_cons (pe_op op_add pe_int (pe_op op_fdivW (pe_bits (pv 1)) pe_int)) pa_nil)) (pg_name (i := 3) scl_fish.nd rfl (Or.inl rfl))
   (pss_one (ps_set (i := 2) scl_fish.nd rfl (Or.inl rfl) (pe_op op_add (pe_op op_mulW (pv 2) (pe_op op_powW pe_int pe_int)) (pe_call Gl_fish (hr.mono (by decide)) (by rfl) Dl_fish.g Dl_fish.F.kp Dl_fish.b .nil pass0 (pa_cons (pv 0) (pa_cons (pe_op op_powW pe_int pe_int) pa_nil)))))))
  (pss_one (ps_ret (pe_op op_modN (pv 2) (pv 1))))))
   pss_nil)
  (pss_cons (ps_if (pt_cmpR op_gt (pe_ix ix_list (pv 0) pe_int (fun _ _ => rfl)) pe_int (nomark _))
   (pss_cons (ps_set (i := 2) scl_fish.nd rfl (Or.inl rfl) (pe_op op_modN (pe_ix ix_list (pv 0) pe_int (fun _ _ => rfl)) (pv 1)))
  (pss_cons (ps_asg (pe_op op_fdivW (pe_ix ix_list (pv 0) pe_int (fun _ _ => rfl)) (pv 1)) (pg_sub (pv 0) pe_int set_list))
  (pss_one (ps_ret (pv 2)))))
   pss_nil)
  (pss_cons (ps_asg (pe_op op_add (pe_ix ix_list (pv 0) pe_int (fun _ _ => rfl)) pe_int) (pg_sub (pv 0) pe_int set_list))
  (pss_cons (ps_set (i := 4) scl_fish.nd rfl (Or.inl rfl) (pe_op op_modN (pe_op op_powW (pe_op op_add (pe_ix ix_list (pv 0) pe_int (fun _ _ => rfl)) (pe_op op_mulW pe_int (pe_ix ix_list (pv 0) pe_int (fun _ _ => rfl)))) pe_int) (pe_op op_add (pe_op op_powW pe_int pe_int) pe_int)))
  (pss_cons (ps_set (i := 4) scl_fish.nd rfl (Or.inl rfl) (pe_op op_modN (pe_op op_powW (pe_op op_add (pv 4) (pe_op op_mulW pe_int (pe_ix ix_list (pv 0) pe_int (fun _ _ => rfl)))) pe_int) (pe_op op_add (pe_op op_powW pe_int pe_int) pe_int)))
  (pss_one (ps_ret (pe_op op_modN (pe_op op_fdivW (pv 4) pe_int) (pv 1))))))))), ?_⟩)
  · obtain ⟨p, m, n, rfl, _⟩ := h; rfl
  · obtain ⟨p, m, n, rfl, hP, hn, m1, m2, q⟩ := h
    refine ⟨_, rfl, _, _, rfl, rfl, cp30, _, _, rfl, rfl, _, rfl, iteY (show (10 : Int) ^ 30 < m from m1) ?_⟩
    have hb := bits_le (draw_ok (m := m) (by omega) m2) (by decide)
    refine ⟨_, rfl, _, rfl, _, _, rfl, rfl, ⟨by decide, by decide +kernel⟩, _, _, rfl, rfl, _, rfl, by omega, by omega, ?_⟩
    refine for_range (lo := 0) (fun i σ H' => ∃ f y, σ = [some (.ref p), some (.int m), some (.int f), y, none] ∧ 0 ≤ f ∧ f < 10 ^ (30 * i) ∧ But p H H' ∧ Pond (n + i) p H') ⟨0, none, rfl, by decide, by decide, But.refl p H, hP.mono (by omega)⟩ ?_ ?_
    · rintro i σ H' hi ⟨f, y, rfl, f0, f1, bt, pd⟩
      have i12 : i ≤ 12 := by omega
      have fs : f.natAbs < 2 ^ 1200 := natAbs_lt f0 (by
        have a : (10 : Int) ^ (30 * i) ≤ 10 ^ 360 := by
          have : (10 : Nat) ^ (30 * i) ≤ 10 ^ 360 := Nat.pow_le_pow_right (by decide) (by omega)
          exact_mod_cast this
        have b : (10 : Int) ^ 360 < ((2 ^ 1200 : Nat) : Int) := by decide +kernel
        exact Int.lt_trans (Int.lt_of_lt_of_le f1 a) b)
      refine ⟨_, rfl, _, _, rfl, rfl, cp30, _, _, rfl, rfl, wide_mul (a := 1200) (b := 100) fs (by decide +kernel) (by decide) (by decide) (by decide), _, rfl, _, _, rfl, rfl, cp30, ?_⟩
      refine ⟨p, _, n + i, rfl, pd, by omega, by decide +kernel, by decide +kernel, fun r H2 bt2 pd2 r0 r1 => ?_⟩
      refine ⟨_, _, rfl, rfl, f * 10 ^ (30 : Int).toNat + r, some (.int (0 + (i : Int))), rfl, ?_, ?_, bt.trans bt2, pd2.mono (by omega)⟩
      · have : 0 ≤ f * 10 ^ (30 : Int).toNat := Int.mul_nonneg f0 (by decide +kernel)
        omega
      · have e : (10 : Int) ^ (30 * (i + 1)) = 10 ^ (30 * i) * 10 ^ (30 : Int).toNat := by
          rw [show 30 * (i + 1) = 30 * i + 30 by omega, Int.pow_add]; rfl
        have a : (f + 1) * 10 ^ (30 : Int).toNat ≤ 10 ^ (30 * i) * 10 ^ (30 : Int).toNat := Int.mul_le_mul_of_nonneg_right (by omega) (by decide +kernel)
        rw [e]
        rw [Int.add_mul, Int.one_mul] at a
        omega
    · rintro σ H' ⟨f, y, rfl, f0, f1, bt, pd⟩
      exact ⟨_, rfl, _, rfl, _, _, rfl, rfl, (by show m ≠ 0; omega), q _ _ bt (pd.mono (by omega)) (fmod_rng (by omega)).1 (fmod_rng (by omega)).2⟩
theorem ok_fish {f : Addr} {fd : FuncData} (B : Blt mg tC tR tT) (Dl_fish : Def K mg "_law_fish" s_l_fish ["_law_pond_here", "_law_bound"] f fd) : FnOk P w K mg base CX0 2 f fd ["_law_pond_here", "_law_bound"] spFish :=
  (fnok_or (FnOk.mono (k := 2) (ok_fish1 B Dl_fish) (by decide)) (ok_fish2 B Dl_fish)).imp fun vs H Q E ⟨p, m, n, e, hP, hn, m1, m2, q⟩ => by
    by_cases h : m ≤ 10 ^ 30
    · exact .inl ⟨p, m, n, e, hP, by omega, m1, h, fun r H' bt pd => q r H' bt (pd.mono (by omega))⟩
    · exact .inr ⟨p, m, n, e, hP, hn, by omega, m2, q⟩
theorem ok_pond {f : Addr} {fd : FuncData} (B : Blt mg tC tR tT) (Dl_pond : Def K mg "_law_pond" s_l_pond ["_law_script", "_law_k"] f fd) : FnOk P w K mg base CX0 1 f fd ["_law_script", "_law_k"] (spPondNew K) := by
  refine Dl_pond.F.ok scl_pond (fun vs H Q E h => ?_) (fun cdv A outer s H vs Q E hr h => ⟨_, (pss_cons (ps_set (i := 2) scl_pond.nd rfl (Or.inl rfl) pe_int)
  (pss_cons (ps_if (pt_cmpR op_lt (pv 1) (pe_callB call_len_seq (by rfl) B.len PySem.boot_len (pa_cons (pv 0) pa_nil)) (nomark _))
   (pss_one (ps_set (i := 2) scl_pond.nd rfl (Or.inl rfl) (pe_ix ix_list (pv 0) (pv 1) (fun _ _ => rfl))))
   pss_nil)
  (pss_one (ps_ret (pe_lst (pa_cons (pe_callB (call_max2 rfl) (by rfl) B.n_max (by decide +kernel) (pa_cons pe_int (pa_cons (pe_op op_sub (pv 2) (pe_op op_powW pe_int pe_int)) pa_nil))) (pa_cons (pe_op op_add (pe_op op_modN (pv 2) (pe_op op_add (pe_op op_powW pe_int pe_int) pe_int)) (pe_op op_mulW pe_int (pv 1))) (pa_cons pe_int pa_nil)))))))), ?_⟩)
  · obtain ⟨a, k, ns, rfl, _⟩ := h; rfl
  · obtain ⟨a, k, ns, rfl, hS, k0, k1, q⟩ := h
    have cp18 : CPowW 10 18 := ⟨by decide, by decide +kernel⟩
    have cp38 : CPowW 10 38 := ⟨by decide, by decide +kernel⟩
    have e38 : (10 : Int) ^ (38 : Int).toNat + 133 + 15487469 * 100 < 10 ^ 60 := by decide +kernel
    have e1 : 1 ≤ (10 : Int) ^ (38 : Int).toNat + 133 := by decide +kernel
    have fin : ∀ z : Int, 0 ≤ z.fmod ((10 : Int) ^ (38 : Int).toNat + 133) + 15487469 * k ∧ z.fmod ((10 : Int) ^ (38 : Int).toNat + 133) + 15487469 * k < 10 ^ 60 := fun z => by
      have := fmod_rng (x := z) e1
      omega
    refine ⟨_, rfl, _, rfl, a, _, rfl, .inl hS, _, _, rfl, rfl, _, rfl, ?_⟩
    rw [List.length_map]
    by_cases hk : k < (ns.length : Int)
    · refine iteY hk ?_
      obtain ⟨v, _, hv⟩ := pick k0 hk
      refine ⟨_, rfl, _, rfl, a, _, _, _, rfl, rfl, hS, hv, ?_⟩
      refine ⟨_, rfl, _, _, rfl, rfl, cp18, _, _, rfl, rfl, _, _, rfl, _, rfl, _, _, rfl, rfl, cp38, _, _, rfl, rfl, _, _, rfl, rfl, (by show (10 : Int) ^ (38 : Int).toNat + 133 ≠ 0; omega), _, rfl, _, _, rfl, rfl, mulc (by decide) (by decide) k0 (by omega), _, _, rfl, rfl, (by show 3 ≤ sizeLine; decide), fun p hp => ?_⟩
      exact q p _ hp (Same.new hp) ⟨_, _, _, upd_same, (fin v).1, (fin v).2, by decide, by decide⟩
    · refine iteN hk ?_
      refine ⟨_, rfl, _, _, rfl, rfl, cp18, _, _, rfl, rfl, _, _, rfl, _, rfl, _, _, rfl, rfl, cp38, _, _, rfl, rfl, _, _, rfl, rfl, (by show (10 : Int) ^ (38 : Int).toNat + 133 ≠ 0; omega), _, rfl, _, _, rfl, rfl, mulc (by decide) (by decide) k0 (by omega), _, _, rfl, rfl, (by show 3 ≤ sizeLine; decide), fun p hp => ?_⟩
      exact q p _ hp (Same.new hp) ⟨_, _, _, upd_same, (fin 0).1, (fin 0).2, by decide, by decide⟩
end
end Gr

set_option Elab.async false
set_option linter.all false
set_option maxRecDepth 100000
set_option maxHeartbeats 4000000
/-! Records: pairs (start, arrival), which fit if none overtakes another one. -/
namespace Gr
open PySem PySem.Spec PyProof.Rows L2
abbrev Rc := Int × Int
def over (c : Int) (r s : Rc) : Bool := decide (r.2 + (s.1 - r.1) / c * c > s.2)
def fitB (c t : Int) (rs : List Rc) : Bool := rs.all fun r => decide (t ≤ r.2 - r.1) && rs.all fun s => !over c r s
def mvR (c k : Int) (r : Rc) : Rc := (r.1 + k * c, r.2 + k * c)
theorem over_mv {c : Int} (c1 : 1 ≤ c) (k j : Int) (r s : Rc) : over c (mvR c k r) (mvR c j s) = over c r s := by
  unfold over mvR
  have e : (s.1 + j * c - (r.1 + k * c)) / c = (s.1 - r.1) / c + (j - k) := by
    rw [show s.1 + j * c - (r.1 + k * c) = s.1 - r.1 + (j - k) * c by rw [Int.sub_mul]; omega, Int.add_mul_ediv_right _ _ (by omega)]
  simp only [e]
  rw [Int.add_mul, Int.sub_mul]
  congr 1
  apply propext
  constructor <;> intro h <;> omega
theorem over_self (c : Int) (r : Rc) : over c r r = false := by
  unfold over
  rw [Int.sub_self, Int.zero_ediv, Int.zero_mul, Int.add_zero]
  exact decide_eq_false (Int.lt_irrefl _)
def scR (f : Int) (r : Rc) : Rc := (r.1 * f, r.2 * f)
theorem over_sc {c f : Int} (f1 : 1 ≤ f) (r s : Rc) : over (c * f) (scR f r) (scR f s) = over c r s := by
  unfold over scR
  have e : (s.1 * f - r.1 * f) / (c * f) = (s.1 - r.1) / c := by
    rw [← Int.sub_mul, Int.mul_ediv_mul_of_pos_left _ _ (by omega)]
  simp only [e]
  rw [show r.2 * f + (s.1 - r.1) / c * (c * f) = (r.2 + (s.1 - r.1) / c * c) * f by rw [Int.add_mul, Int.mul_assoc]]
  congr 1
  apply propext
  constructor
  · intro h; exact Int.lt_of_mul_lt_mul_right h (by omega)
  · intro h; exact Int.mul_lt_mul_of_pos_right h (by omega)
theorem fitB_iff {c t : Int} {rs : List Rc} : fitB c t rs = true ↔ (∀ r ∈ rs, t ≤ r.2 - r.1) ∧ ∀ r ∈ rs, ∀ s ∈ rs, over c r s = false := by
  unfold fitB
  simp only [List.all_eq_true, Bool.and_eq_true, decide_eq_true_eq, Bool.not_eq_true']
  exact ⟨fun h => ⟨fun r hr => (h r hr).1, fun r hr => (h r hr).2⟩, fun h r hr => ⟨h.1 r hr, h.2 r hr⟩⟩
/-- the same records, each moved by cycles -/
def Sub (c : Int) (A B : List Rc) : Prop := ∀ r ∈ A, ∃ s ∈ B, ∃ k, r = mvR c k s
theorem fit_sub {c t : Int} {A B : List Rc} (c1 : 1 ≤ c) (h : Sub c A B) (f : fitB c t B = true) : fitB c t A = true := by
  rw [fitB_iff] at f ⊢
  refine ⟨fun r hr => ?_, fun r hr s hs => ?_⟩
  · obtain ⟨x, hx, k, rfl⟩ := h r hr
    have := f.1 x hx
    unfold mvR
    simp only []
    omega
  · obtain ⟨x, hx, k, rfl⟩ := h r hr
    obtain ⟨y, hy, j, rfl⟩ := h s hs
    rw [over_mv c1]
    exact f.2 x hx y hy
theorem fit_eq {c t : Int} {A B : List Rc} (c1 : 1 ≤ c) (h : Sub c A B) (h' : Sub c B A) : fitB c t A = fitB c t B := by
  cases e : fitB c t B with
  | true => exact fit_sub c1 h e
  | false =>
    cases e' : fitB c t A with
    | false => rfl
    | true => rw [fit_sub c1 h' e'] at e; cases e
theorem mv0 (c : Int) (r : Rc) : r = mvR c 0 r := by unfold mvR; rw [Int.zero_mul, Int.add_zero, Int.add_zero]
theorem mv_back (c k : Int) (r : Rc) : r = mvR c (-k) (mvR c k r) := by
  unfold mvR
  rw [Int.neg_mul]
  show r = (r.1 + k * c + -(k * c), r.2 + k * c + -(k * c))
  rw [Int.add_neg_cancel_right, Int.add_neg_cancel_right]
theorem fit_back {c t k : Int} {A : List Rc} (c1 : 1 ≤ c) : fitB c t (A.reverse.map (mvR c k)) = fitB c t A := by
  refine fit_eq c1 (fun r hr => ?_) (fun r hr => ⟨mvR c k r, List.mem_map_of_mem (List.mem_reverse.mpr hr), -k, mv_back c k r⟩)
  obtain ⟨s, hs, rfl⟩ := List.mem_map.mp hr
  exact ⟨s, List.mem_reverse.mp hs, k, rfl⟩
theorem fit_two {c t : Int} {A : List Rc} (c1 : 1 ≤ c) (l : A.length ≤ 40) : fitB c t ((A ++ A).take 40) = fitB c t A := by
  refine fit_eq c1 (fun r hr => ⟨r, ?_, 0, mv0 c r⟩) (fun r hr => ⟨r, ?_, 0, mv0 c r⟩)
  · have := List.mem_of_mem_take hr
    rcases List.mem_append.mp this with h | h <;> exact h
  · rw [List.take_append]
    exact List.mem_append_left _ (by rw [List.take_of_length_le l]; exact hr)
theorem fit_turn {c t k : Int} {A : List Rc} (c1 : 1 ≤ c) (ne : A ≠ []) : fitB c t ((A.reverse.map (mvR c k)).take 1 ++ A.dropLast) = fitB c t A := by
  have e : A = A.dropLast ++ [A.getLast ne] := (List.dropLast_concat_getLast ne).symm
  have e2 : (A.reverse.map (mvR c k)).take 1 = [mvR c k (A.getLast ne)] := by
    conv => lhs; rw [e]
    simp
  rw [e2]
  refine fit_eq c1 (fun r hr => ?_) (fun r hr => ?_)
  · rcases List.mem_append.mp hr with h | h
    · rw [List.mem_singleton.mp h]
      exact ⟨_, List.getLast_mem ne, k, rfl⟩
    · exact ⟨r, (List.dropLast_sublist A).subset h, 0, mv0 c r⟩
  · rw [e] at hr
    rcases List.mem_append.mp hr with h | h
    · exact ⟨r, List.mem_append_right _ h, 0, mv0 c r⟩
    · rw [List.mem_singleton.mp h]
      exact ⟨_, List.mem_append_left _ List.mem_cons_self, -k, mv_back c k _⟩
theorem fit_sc {c t f : Int} {A : List Rc} (f1 : 1 ≤ f) : fitB (c * f) (t * f) (A.map (scR f)) = fitB c t A := by
  unfold fitB
  rw [List.all_map]
  congr 1
  funext r
  simp only [Function.comp]
  rw [List.all_map]
  congr 1
  · unfold scR
    simp only []
    rw [← Int.sub_mul]
    congr 1
    apply propext
    constructor
    · intro h; exact Int.le_of_mul_le_mul_right h (by omega)
    · intro h; exact Int.mul_le_mul_of_nonneg_right h (by omega)
  · congr 1
    funext s
    simp only [Function.comp]
    rw [over_sc f1]
/-! ### arrivals that never fall -/
def Rises (c : Int) (E : Int → Int) : Prop := (∀ x y, x ≤ y → E x ≤ E y) ∧ ∀ x k : Int, E (x + k * c) = E x + k * c
theorem fit_rise {c t : Int} {E : Int → Int} (h : Rises c E) (c1 : 1 ≤ c) (l : ∀ x, t ≤ E x - x) {ts : List Int} : fitB c t (ts.map fun x => (x, E x)) = true := by
  rw [fitB_iff]
  refine ⟨fun r hr => ?_, fun r hr s hs => ?_⟩
  · obtain ⟨x, _, rfl⟩ := List.mem_map.mp hr
    exact l x
  · obtain ⟨x, _, rfl⟩ := List.mem_map.mp hr
    obtain ⟨y, _, rfl⟩ := List.mem_map.mp hs
    unfold over
    refine decide_eq_false (fun g => ?_)
    simp only [] at g
    have m := h.1 (x + (y - x) / c * c) y (by
      have := Int.ediv_mul_le (y - x) (show c ≠ 0 by omega)
      omega)
    rw [h.2] at m
    omega
/-- in order: none of the rows ahead of i, by themselves, overtakes any behind it -/
def upTo (c t : Int) (rs : List Rc) (i : Nat) : Prop := ∀ k r, k < i → rs[k]? = some r → t ≤ r.2 - r.1 ∧ ∀ j s, k < j → rs[j]? = some s → over c r s = false ∧ over c s r = false
theorem fit_upTo {c t : Int} {rs : List Rc} (h : upTo c t rs rs.length) : fitB c t rs = true := by
  rw [fitB_iff]
  refine ⟨fun r hr => ?_, fun r hr s hs => ?_⟩
  · obtain ⟨k, hk, e⟩ := List.getElem_of_mem hr
    exact (h k r hk (by rw [List.getElem?_eq_getElem hk, e])).1
  · obtain ⟨k, hk, e⟩ := List.getElem_of_mem hr
    obtain ⟨j, hj, e'⟩ := List.getElem_of_mem hs
    have hk' : rs[k]? = some r := by rw [List.getElem?_eq_getElem hk, e]
    have hj' : rs[j]? = some s := by rw [List.getElem?_eq_getElem hj, e']
    rcases Nat.lt_trichotomy k j with g | g | g
    · exact ((h k r hk hk').2 j s g hj').1
    · subst g
      rw [hk'] at hj'
      cases hj'
      exact over_self c r
    · exact ((h j s hj hj').2 k r g hk').2
theorem nofit_short {c t : Int} {rs : List Rc} {r : Rc} (hr : r ∈ rs) (h : ¬ t ≤ r.2 - r.1) : fitB c t rs = false := by
  cases e : fitB c t rs with
  | false => rfl
  | true => exact absurd ((fitB_iff.mp e).1 r hr) h
theorem nofit_over {c t : Int} {rs : List Rc} {r s : Rc} (hr : r ∈ rs) (hs : s ∈ rs) (h : over c r s = true) : fitB c t rs = false := by
  cases e : fitB c t rs with
  | false => rfl
  | true => rw [(fitB_iff.mp e).2 r hr s hs] at h; cases h
/-! ### for i, x in enumerate(a list) -/
theorem for_enumM {K : PySem.W.Frag} {a : Addr} {xs : List V} {g : TG} {tb : TS} {D : Ends} {σ : L2.St} {H : Hp} (Pv : Nat → L2.St → Hp → Prop) (h0 : Pv 0 σ H) (hl : ∀ i σ H, Pv i σ H → SqL K H a xs)
    (hs : ∀ (i : Nat) (x : V) (T : Addr) (σ : L2.St) (H : Hp), xs[i]? = some x → Pv i σ H → H T = none → g (.ref T) σ (upd H T (.tup [.int (i : Int), x])) fun σ2 H2 => tb { nx := Pv (i + 1), rt := D.rt, bk := D.nx, ct := Pv (i + 1) } σ2 H2)
    (hd : ∀ i σ H, xs.length ≤ i → Pv i σ H → D.nx σ H) :
    ∃ W : Nat → Nat → L2.St → Hp → Prop, (∃ m, W 0 m σ H) ∧ ∀ i m σ H, W i m σ H → ((Ite K a).stop i H ∧ D.nx σ H) ∨ ((Ite K a).go i H ∧ ∃ N, (∀ σ' H', N σ' H' → ∃ m', m' < m ∧ W (i + 1) m' σ' H') ∧ ∀ x H', (Ite K a).yld i H x H' → g x σ H' fun σ2 H2 => tb { nx := N, rt := D.rt, bk := D.nx, ct := N } σ2 H2) := by
  refine ⟨fun i m σ H => Pv i σ H ∧ m = xs.length - i, ⟨_, h0, rfl⟩, ?_⟩
  rintro i m σ H ⟨p, rfl⟩
  have q := hl i σ H p
  by_cases hi : i < xs.length
  · refine .inr ⟨⟨xs, xs[i], q, List.getElem?_eq_getElem hi⟩, Pv (i + 1), fun σ' H' n => ⟨_, by omega, n, rfl⟩, ?_⟩
    rintro x H' ⟨T, u, rfl, hT, rfl, hu⟩
    exact hs i u T σ H (hu xs q) p hT
  · exact .inl ⟨⟨xs, q, by omega⟩, hd i σ H (by omega) p⟩
end Gr

set_option Elab.async false
set_option linter.all false
set_option pp.deepTerms false
set_option pp.maxSteps 3000
set_option maxRecDepth 100000
set_option maxHeartbeats 4000000
set_option exponentiation.threshold 3000
namespace Gr
open PySem PySem.Spec PyProof.Rows L2
theorem smallL {n : Nat} (h : n ≤ 100000) : n < sizeLine := Nat.lt_of_le_of_lt h (by decide)
theorem same_upd {H0 H : Hp} {J : Addr} {o : HO} (s : Same H0 H) (h : H0 J = none) : Same H0 (upd H J o) := fun b u e => by
  rw [upd_ne (ne_of_none e h)]; exact s b u e
def RcAt (H : Hp) (x : V) (r : Rc) : Prop := ∃ b, x = .ref b ∧ H b = some (.tup [.int r.1, .int r.2])
theorem RcAt.mono {H H' : Hp} {x : V} {r : Rc} (s : Same H H') (h : RcAt H x r) : RcAt H' x r := by
  obtain ⟨b, e, h⟩ := h; exact ⟨b, e, s _ _ h⟩
theorem RcAt.but {H H' : Hp} {p : Addr} {u : List V} {x : V} {r : Rc} (s : But p H H') (hp : H p = some (.lst u)) (h : RcAt H x r) : RcAt H' x r := by
  obtain ⟨b, e, h⟩ := h; exact ⟨b, e, s _ _ (ne_of h hp (fun z => nomatch z)) h⟩
theorem rc_upd {H : Hp} {D : Addr} {us : List V} {o : HO} {x : V} {r : Rc} (hD : H D = some (.lst us)) (h : RcAt H x r) : RcAt (upd H D o) x r := by
  obtain ⟨b, e, h⟩ := h
  exact ⟨b, e, by rw [upd_ne (ne_of h hD (fun z => nomatch z))]; exact h⟩
def RcsL (H : Hp) (a : Addr) (rs : List Rc) : Prop := ∃ xs, H a = some (.lst xs) ∧ Paired (RcAt H) xs rs
theorem rcs_mono {H H' : Hp} (s : Same H H') {xs : List V} {rs : List Rc} (h : Paired (RcAt H) xs rs) : Paired (RcAt H') xs rs := L2.Paired.mapP h fun _ _ r => r.mono s
theorem rcs_but {H H' : Hp} {p : Addr} {u : List V} (s : But p H H') (hp : H p = some (.lst u)) {xs : List V} {rs : List Rc} (h : Paired (RcAt H) xs rs) : Paired (RcAt H') xs rs := L2.Paired.mapP h fun _ _ r => r.but s hp
theorem RcsL.mono {H H' : Hp} {a : Addr} {rs : List Rc} (s : Same H H') (h : RcsL H a rs) : RcsL H' a rs := by
  obtain ⟨xs, h1, h2⟩ := h; exact ⟨xs, s _ _ h1, rcs_mono s h2⟩
def SmR (r : Rc) : Prop := r.1.natAbs < 2 ^ 300 ∧ r.2.natAbs < 2 ^ 300
def spIsRec : Sp := fun vs H Q _ => ∃ (x : V) (r : Rc), vs = [x] ∧ RcAt H x r ∧ ∀ H', Same H H' → Q (.bl true) H'
def spRecs : Sp := fun vs H Q _ => ∃ (c t : Int) (a : Addr) (rs : List Rc), vs = [.int c, .int t, .ref a] ∧ 1 ≤ c ∧ c ≤ 10 ^ 30 ∧ 0 ≤ t ∧ t ≤ 10 ^ 30 ∧ RcsL H a rs ∧ 1 ≤ rs.length ∧ rs.length ≤ 40 ∧ ∀ H', Same H H' → Q .non H'
def spOver : Sp := fun vs H Q _ => ∃ (c : Int) (x y : V) (r s : Rc), vs = [.int c, x, y] ∧ 1 ≤ c ∧ c ≤ 10 ^ 30 ∧ RcAt H x r ∧ RcAt H y s ∧ SmR r ∧ SmR s ∧ Q (.bl (over c r s)) H
def spContra : Sp := fun vs H Q _ => ∃ (c t : Int) (a : Addr) (rs : List Rc), vs = [.int c, .int t, .ref a] ∧ 1 ≤ c ∧ c ≤ 10 ^ 30 ∧ RcsL H a rs ∧ rs.length ≤ 40 ∧ (∀ r ∈ rs, SmR r) ∧
  ∀ v H', Same H H' → ((fitB c t rs = true ∧ v = .non) ∨ (fitB c t rs = false ∧ ∃ b, v = .ref b)) → Q v H'
def spFits : Sp := fun vs H Q _ => ∃ (c t : Int) (a : Addr) (rs : List Rc), vs = [.int c, .int t, .ref a] ∧ 1 ≤ c ∧ c ≤ 10 ^ 30 ∧ 0 ≤ t ∧ t ≤ 10 ^ 30 ∧ RcsL H a rs ∧ 1 ≤ rs.length ∧ rs.length ≤ 40 ∧ (∀ r ∈ rs, SmR r) ∧ ∀ H', Same H H' → Q (.bl (fitB c t rs)) H'
section
variable {P : Program} {w : World} {K : PySem.W.Frag} {mg : Str → Option Value} {base : Heap} {tC tR tT : Tok}
theorem ok_is_record {f f1 : Addr} {fd fd1 : FuncData} (B : Blt mg tC tR tT) (Dis_record : Def K mg "is_record" s_is_record ["value"] f fd) (Dis_whole : Def K mg "is_whole" s_is_whole ["value"] f1 fd1) : FnOk P w K mg base CX0 2 f fd ["value"] spIsRec := by
  have Gis_whole := ok_is_whole (P := P) (w := w) (base := base) B Dis_whole
  refine Dis_record.F.ok scis_record (fun vs H Q E h => ?_) (fun cdv A outer s H vs Q E hr h => ⟨_, (pss_one (ps_ret (pe_and (pe_callB call_isi (by rfl) B.n_isinstance (by decide +kernel) (pa_cons (pv 0) (pa_cons (pe_bltn (v := .ty "tuple") (u := .type "tuple") (by rfl) B.n_tuple (by decide +kernel) rfl) pa_nil))) (pe_and (pe_cmpR op_eq (pe_callB call_len_seq (by rfl) B.len PySem.boot_len (pa_cons (pv 0) pa_nil)) pe_int (nomark _)) (pe_one (pe_callB (cr_all rfl) (by rfl) B.n_all (by decide +kernel) (pa_cons (pe_lc (own := [("part", 1)]) (g := (gName 1)) (tt := tYes) rfl scis_record.nd (pi_tup (pv 0)) (blkOk_by (N := ["value", "part"]) (sc := defScope s_is_record) (by decide +kernel)) (fun _ _ _ _ _ => (pg_name (i := 1) scis_record.nd rfl (Or.inl rfl))) (fun _ _ _ _ _ => pts_nil) (fun _ _ _ _ _ => (pe_call Gis_whole (hr.mono (by decide)) (by rfl) Dis_whole.g Dis_whole.F.kp Dis_whole.b .nil pass0 (pa_cons (pv 1) pa_nil)))) pa_nil))))))), ?_⟩)
  · obtain ⟨x, r, rfl, _⟩ := h; rfl
  · obtain ⟨x, r, rfl, ⟨a, rfl, ha⟩, q⟩ := h
    refine ⟨_, rfl, .ref a, .ty "tuple", .type "tuple", .type "tuple", true, rfl, .ty _, .base (.tup ha), kit_ty (by decide +kernel), _, rfl, ?_⟩
    refine ⟨_, rfl, a, _, rfl, .inr (SqT.of ha), rfl, ?_⟩
    refine ⟨_, rfl, iteY rfl ?_⟩
    refine ⟨_, rfl, a, rfl, ⟨_, SqT.of ha⟩, fun D hD => ?_⟩
    refine lc_tup (xs := [.int r.1, .int r.2]) (fun i H' => Same H H' ∧ H' D = some (.lst ((List.replicate i true).map V.bl))) ⟨Same.new hD, upd_same⟩ (fun i H' _ ⟨s1, _⟩ => SqT.of (s1 _ _ ha)) ?_ ?_
    · rintro i x H' hx ⟨s1, e1⟩
      have hi := (List.getElem?_eq_some_iff.mp hx).1
      have h3 : [V.int r.1, V.int r.2].length = 2 := rfl
      obtain ⟨n, rfl⟩ : ∃ n, x = .int n := by
        have := List.mem_of_getElem? hx
        simp only [List.mem_cons, List.not_mem_nil, or_false] at this
        rcases this with e | e <;> exact ⟨_, e⟩
      refine ⟨rfl, _, rfl, n, rfl, _, e1, ?_, fun b' o h => ?_, ?_⟩
      · rw [List.length_map, List.length_replicate]; exact smallL (by omega)
      · rw [upd_ne (ne_of_none h hD)]; exact s1 _ _ h
      · rw [upd_same, List.replicate_succ', List.map_append]; rfl
    · rintro H' ⟨s1, e1⟩
      refine ⟨D, _, rfl, SqL.of e1, ?_⟩
      exact q _ s1
theorem ok_check_records {f f1 f2 f3 f4 : Addr} {fd fd1 fd2 fd3 fd4 : FuncData} (B : Blt mg tC tR tT) (Dcheck_records : Def K mg "check_records" s_check_records ["cycle", "travel", "records"] f fd) (Dis_record : Def K mg "is_record" s_is_record ["value"] f1 fd1) (Dis_whole : Def K mg "is_whole" s_is_whole ["value"] f2 fd2) (Dcheck_cycle : Def K mg "check_cycle" s_check_cycle ["cycle"] f3 fd3) (Dcheck_number_in : Def K mg "check_number_in" s_check_number_in ["number", "least", "most"] f4 fd4) : FnOk P w K mg base CX0 3 f fd ["cycle", "travel", "records"] spRecs := by
  have Gis_record := ok_is_record (P := P) (w := w) (base := base) B Dis_record Dis_whole
  have Gcheck_cycle := ok_check_cycle (P := P) (w := w) (base := base) B Dcheck_cycle Dis_whole
  have Gcheck_number_in := ok_check_number_in (P := P) (w := w) (base := base) B Dcheck_number_in Dis_whole
  refine Dcheck_records.F.ok sccheck_records (fun vs H Q E h => ?_) (fun cdv A outer s H vs Q E hr h => ⟨_, (pss_cons (ps_expr (pe_call Gcheck_cycle (hr.mono (by decide)) (by rfl) Dcheck_cycle.g Dcheck_cycle.F.kp Dcheck_cycle.b .nil pass0 (pa_cons (pv 0) pa_nil)))
  (pss_cons (ps_expr (pe_call Gcheck_number_in (hr.mono (by decide)) (by rfl) Dcheck_number_in.g Dcheck_number_in.F.kp Dcheck_number_in.b .nil pass0 (pa_cons (pv 1) (pa_cons pe_int (pa_cons (pe_glob (v := .int (10 ^ 30)) (by rfl) B.MOST_TRAVEL ⟨_, rfl⟩) pa_nil)))))
  (pss_cons (ps_if (PW.pt (pw_or (pt_not (pt_val (pe_callB call_isi (by rfl) B.n_isinstance (by decide +kernel) (pa_cons (pv 2) (pa_cons (pe_bltn (v := .ty "list") (u := .type "list") (by rfl) B.n_list (by decide +kernel) rfl) pa_nil))))) (pw_or1 (pt_not (pt_chain op_le op_le pe_int (pe_callB call_len_seq (by rfl) B.len PySem.boot_len (pa_cons (pv 2) pa_nil)) (pe_glob (v := .int 40) (by rfl) B.MOST_RECORDS ⟨_, rfl⟩))))))
   (pss_one ps_never)
   pss_nil)
  (pss_one (ps_for PassesOwn.never rfl (pi_enum (by rfl) B.n_enumerate (pa_cons (pv 2) pa_nil)) (pg_tup rfl (pgs_cons (pg_name (i := 3) sccheck_records.nd rfl (Or.inl rfl)) (pgs_cons (pg_name (i := 4) sccheck_records.nd rfl (Or.inl rfl)) pgs_nil)))
   (pss_one (ps_if (pt_not (pt_val (pe_call Gis_record (hr.mono (by decide)) (by rfl) Dis_record.g Dis_record.F.kp Dis_record.b .nil pass0 (pa_cons (pv 4) pa_nil))))
   (pss_one ps_never)
   pss_nil))))))), ?_⟩)
  · obtain ⟨c, t, a, rs, rfl, _⟩ := h; rfl
  · obtain ⟨c, t, a, rs, rfl, c1, c30, t0, t30, ⟨xs, ha, hX⟩, l1, l40, q⟩ := h
    have lx := paired_len hX
    refine ⟨_, rfl, c, rfl, c1, c30, _, rfl, t, 0, 10 ^ 30, rfl, t0, t30, ?_⟩
    refine ⟨_, rfl, .ref a, .ty "list", .type "list", .type "list", true, rfl, .ty _, .base (.lst ha), kit_ty (by decide +kernel), _, rfl, ?_⟩
    refine iteF ?_
    refine ⟨_, rfl, a, _, rfl, .inl (SqL.of ha), _, _, rfl, rfl, _, rfl, ?_⟩
    rw [decide_eq_true (show (1 : Int) ≤ (xs.length : Int) by omega)]
    refine ⟨_, _, rfl, rfl, _, rfl, ?_⟩
    rw [decide_eq_true (show (xs.length : Int) ≤ 40 by omega)]
    refine iteF ?_
    refine ⟨_, rfl, a, xs, rfl, SqL.of ha, ?_⟩
    refine for_enumM (fun i σ H' => ∃ y3 y4, σ = [some (.int c), some (.int t), some (.ref a), y3, y4] ∧ Same H H') ⟨_, _, rfl, Same.refl H⟩ (fun i σ H' ⟨_, _, _, s1⟩ => SqL.of (s1 _ _ ha)) ?_ ?_
    · rintro i x T σ H' hx ⟨y3, y4, rfl, s1⟩ hT
      obtain ⟨r, hg, hr'⟩ := paired_at hX hx
      have s2 := Same.new hT (o := .tup [.int (i : Int), x])
      refine ⟨T, _, rfl, SqT.of upd_same, rfl, _, _, rfl, _, _, rfl, rfl, ?_⟩
      refine ⟨_, rfl, x, r, rfl, (hr'.mono s1).mono s2, fun H2 s3 => ⟨true, rfl, iteF ?_⟩⟩
      exact ⟨_, _, rfl, (s1.trans s2).trans s3⟩
    · rintro i σ H' hi ⟨y3, y4, rfl, s1⟩
      exact q H' s1
theorem ok_overtakes {f : Addr} {fd : FuncData} (B : Blt mg tC tR tT) (Dovertakes : Def K mg "overtakes" s_overtakes ["cycle", "record", "other"] f fd) : FnOk P w K mg base CX0 1 f fd ["cycle", "record", "other"] spOver := by
  refine Dovertakes.F.ok scovertakes (fun vs H Q E h => ?_) (fun cdv A outer s H vs Q E hr h => ⟨_, (pss_cons (ps_asg (pv 1) (pg_tup rfl (pgs_cons (pg_name (i := 3) scovertakes.nd rfl (Or.inl rfl)) (pgs_cons (pg_name (i := 4) scovertakes.nd rfl (Or.inl rfl)) pgs_nil))))
  (pss_cons (ps_set (i := 5) scovertakes.nd rfl (Or.inl rfl) (pe_op op_mulW (pe_op op_fdivW (pe_op op_sub (pe_ix ix_tup (pv 2) pe_int (fun _ _ => rfl)) (pv 3)) (pv 0)) (pv 0)))
  (pss_one (ps_ret (pe_cmpR op_gt (pe_op op_add (pv 4) (pv 5)) (pe_ix ix_tup (pv 2) pe_int (fun _ _ => rfl)) (nomark _)))))), ?_⟩)
  · obtain ⟨c, x, y, r, s, rfl, _⟩ := h; rfl
  · obtain ⟨c, x, y, ⟨r1, r2⟩, ⟨s1, s2⟩, rfl, c1, c30, ⟨a, rfl, ha⟩, ⟨b, rfl, hb⟩, ⟨m1, m2⟩, ⟨m3, m4⟩, q⟩ := h
    simp only [] at m1 m2 m3 m4
    have z : 2 ^ 300 + 2 ^ 300 ≤ 2 ^ 301 := by decide +kernel
    have cb : c.natAbs < 2 ^ 110 := natAbs_lt (by omega) (by have : (10 : Int) ^ 30 < ((2 ^ 110 : Nat) : Int) := by decide +kernel
                                                             omega)
    have cd : CDivW (s1 - r1) c := wide_div (b := 110) (by omega) cb (by decide) (by decide)
    have q1 : ((s1 - r1) / c).natAbs < 2 ^ 302 := by
      have : ((s1 - r1) / c).natAbs ≤ (s1 - r1).natAbs := Int.natAbs_ediv_le_natAbs (s1 - r1) c
      omega
    have cm : CMulW ((s1 - r1) / c) c := wide_mul (a := 302) (b := 110) q1 cb (by decide) (by decide) (by decide)
    refine ⟨_, rfl, a, _, rfl, SqT.of ha, rfl, _, _, rfl, _, _, rfl, rfl, ?_⟩
    refine ⟨_, rfl, b, _, _, _, rfl, rfl, SqT.of hb, atI_nat (j := 0) rfl, _, rfl, _, _, rfl, rfl, _, rfl, _, _, rfl, rfl, cd, _, rfl, _, _, rfl, rfl, cm, ?_⟩
    refine ⟨_, rfl, _, rfl, _, _, rfl, rfl, _, rfl, b, _, _, _, rfl, rfl, SqT.of hb, atI_nat (j := 1) rfl, _, _, rfl, rfl, ?_⟩
    exact q
end
end Gr

set_option Elab.async false
set_option linter.all false
set_option pp.deepTerms false
set_option pp.maxSteps 3000
set_option maxRecDepth 100000
set_option maxHeartbeats 4000000
set_option exponentiation.threshold 3000
namespace Gr
open PySem PySem.Spec PyProof.Rows L2
section
variable {P : Program} {w : World} {K : PySem.W.Frag} {mg : Str → Option Value} {base : Heap} {tC tR tT : Tok}
theorem ok_contra {f f1 : Addr} {fd fd1 : FuncData} (B : Blt mg tC tR tT) (Dcontradiction_in : Def K mg "contradiction_in" s_contradiction_in ["cycle", "travel", "records"] f fd) (Dovertakes : Def K mg "overtakes" s_overtakes ["cycle", "record", "other"] f1 fd1) : FnOk P w K mg base CX0 2 f fd ["cycle", "travel", "records"] spContra := by
  have Govertakes := ok_overtakes (P := P) (w := w) (base := base) B Dovertakes
  refine Dcontradiction_in.F.ok sccontradiction_in (fun vs H Q E h => ?_) (fun cdv A outer s H vs Q E hr h => ⟨_, (pss_cons (ps_for PassesOwn.never rfl (pi_enum (by rfl) B.n_enumerate (pa_cons (pv 2) pa_nil)) (pg_tup rfl (pgs_cons (pg_name (i := 3) sccontradiction_in.nd rfl (Or.inl rfl)) (pgs_cons (pg_name (i := 4) sccontradiction_in.nd rfl (Or.inl rfl)) pgs_nil)))
   (pss_cons (ps_if (pt_cmpR op_lt (pe_op op_sub (pe_ix ix_tup (pv 4) pe_int (fun _ _ => rfl)) (pe_ix ix_tup (pv 4) pe_int (fun _ _ => rfl))) (pv 1) (nomark _))
   (pss_one (ps_ret (pe_tup (pa_cons (pv 3) (pa_cons (pv 3) pa_nil)))))
   pss_nil)
  (pss_one (ps_for PassesOwn.never rfl (pi_range2 (by rfl) B.range (pa_cons (pe_op op_add (pv 3) pe_int) (pa_cons (pe_callB call_len_seq (by rfl) B.len PySem.boot_len (pa_cons (pv 2) pa_nil)) pa_nil))) (pg_name (i := 5) sccontradiction_in.nd rfl (Or.inl rfl))
   (pss_one (ps_if (PW.pt (pw_or (pt_val (pe_call Govertakes (hr.mono (by decide)) (by rfl) Dovertakes.g Dovertakes.F.kp Dovertakes.b .nil pass0 (pa_cons (pv 0) (pa_cons (pv 4) (pa_cons (pe_ix ix_list (pv 2) (pv 5) (fun _ _ => rfl)) pa_nil))))) (pw_or1 (pt_val (pe_call Govertakes (hr.mono (by decide)) (by rfl) Dovertakes.g Dovertakes.F.kp Dovertakes.b .nil pass0 (pa_cons (pv 0) (pa_cons (pe_ix ix_list (pv 2) (pv 5) (fun _ _ => rfl)) (pa_cons (pv 4) pa_nil))))))))
   (pss_one (ps_ret (pe_tup (pa_cons (pv 3) (pa_cons (pv 5) pa_nil)))))
   pss_nil))))))
  (pss_one (ps_ret pe_non))), ?_⟩)
  · obtain ⟨c, t, a, rs, rfl, _⟩ := h; rfl
  · obtain ⟨c, t, a, rs, rfl, c1, c30, ⟨xs, ha, hX⟩, l40, sm, q⟩ := h
    have lx := paired_len hX
    have two : 2 ≤ sizeLine := by decide
    refine ⟨_, rfl, a, xs, rfl, SqL.of ha, ?_⟩
    refine for_enumM (fun i σ H' => ∃ y3 y4 y5, σ = [some (.int c), some (.int t), some (.ref a), y3, y4, y5] ∧ Same H H' ∧ upTo c t rs i) ⟨_, _, _, rfl, Same.refl H, fun k r hk => absurd hk (Nat.not_lt_zero _)⟩ (fun i σ H' ⟨_, _, _, _, s1, _⟩ => SqL.of (s1 _ _ ha)) ?_ ?_
    · rintro i x T σ H' hx ⟨y3, y4, y5, rfl, s1, up⟩ hT
      obtain ⟨r, hg, hr'⟩ := paired_at hX hx
      have hi := (List.getElem?_eq_some_iff.mp hg).1
      have hm := List.mem_of_getElem? hg
      have s2 := s1.trans (Same.new hT (o := .tup [.int (i : Int), x]))
      obtain ⟨b, rfl, hb⟩ := hr'.mono s2
      have ha2 := s2 _ _ ha
      refine ⟨T, _, rfl, SqT.of upd_same, rfl, _, _, rfl, _, _, rfl, rfl, ?_⟩
      generalize upd H' T (HO.tup [.int (i : Int), .ref b]) = H2 at s2 hb ha2 ⊢
      refine ⟨_, rfl, b, _, _, _, rfl, rfl, SqT.of hb, atI_nat (j := 1) rfl, _, rfl, b, _, _, _, rfl, rfl, SqT.of hb, atI_nat (j := 0) rfl, _, _, rfl, rfl, _, rfl, _, _, rfl, rfl, _, rfl, ?_⟩
      by_cases k : r.2 - r.1 < t
      · refine iteY k ?_
        refine ⟨_, rfl, _, rfl, two, fun p hp => ?_⟩
        exact q _ _ (s2.trans (Same.new hp)) (.inr ⟨nofit_short hm (by omega), p, rfl⟩)
      · refine iteN k ?_
        refine ⟨_, rfl, _, _, rfl, rfl, _, rfl, a, _, rfl, .inl (SqL.of ha2), (i : Int) + 1, (xs.length : Int), rfl, ⟨by omega, by omega, by omega, by omega⟩, ?_⟩
        refine for_range (lo := (i : Int) + 1) (fun j σ H' => ∃ y5, σ = [some (.int c), some (.int t), some (.ref a), some (.int (i : Int)), some (.ref b), y5] ∧ Same H2 H' ∧ ∀ m s, m < j → rs[i + 1 + m]? = some s → over c r s = false ∧ over c s r = false) ⟨_, rfl, Same.refl H2, fun m s hm => absurd hm (Nat.not_lt_zero _)⟩ ?_ ?_
        · rintro j σ H' hj ⟨y5, rfl, s3, no⟩
          obtain ⟨s, hs⟩ : ∃ s, rs[i + 1 + j]? = some s := ⟨_, List.getElem?_eq_getElem (by omega)⟩
          obtain ⟨y, hy, ⟨b', rfl, hb'⟩⟩ : ∃ y, xs[i + 1 + j]? = some y ∧ RcAt H y s := by
            obtain ⟨y', hy'⟩ : ∃ y, xs[i + 1 + j]? = some y := ⟨_, List.getElem?_eq_getElem (by omega)⟩
            obtain ⟨s', hs', h⟩ := paired_at hX hy'
            rw [hs] at hs'; cases hs'
            exact ⟨y', hy', h⟩
          have hb3 := s3 _ _ hb
          have hb'3 := s3 _ _ (s2 _ _ hb')
          have ha3 := s3 _ _ ha2
          have ix : atI xs ((i : Int) + 1 + (j : Int)) = some (.ref b') := by
            have := atI_nat hy
            rw [show (((i + 1 + j : Nat)) : Int) = (i : Int) + 1 + (j : Int) by push_cast; rfl] at this
            exact this
          refine ⟨_, rfl, _, rfl, _, rfl, _, rfl, a, _, _, _, rfl, rfl, SqL.of ha3, ix, c, .ref b, .ref b', r, s, rfl, c1, c30, ⟨b, rfl, hb3⟩, ⟨b', rfl, hb'3⟩, sm _ hm, sm _ (List.mem_of_getElem? hs), _, rfl, ?_⟩
          cases e1 : over c r s with
          | true =>
            refine iteT (iteT ?_)
            refine ⟨_, rfl, _, rfl, two, fun p hp => ?_⟩
            exact q _ _ ((s2.trans s3).trans (Same.new hp)) (.inr ⟨nofit_over hm (List.mem_of_getElem? hs) e1, p, rfl⟩)
          | false =>
            refine iteF ?_
            refine ⟨_, rfl, _, rfl, _, rfl, a, _, _, _, rfl, rfl, SqL.of ha3, ix, _, rfl, c, .ref b', .ref b, s, r, rfl, c1, c30, ⟨b', rfl, hb'3⟩, ⟨b, rfl, hb3⟩, sm _ (List.mem_of_getElem? hs), sm _ hm, _, rfl, ?_⟩
            cases e2 : over c s r with
            | true =>
              refine iteT ?_
              refine ⟨_, rfl, _, rfl, two, fun p hp => ?_⟩
              exact q _ _ ((s2.trans s3).trans (Same.new hp)) (.inr ⟨nofit_over (List.mem_of_getElem? hs) hm e2, p, rfl⟩)
            | false =>
              refine iteF ?_
              refine ⟨_, rfl, s3, fun m s' hm' hs' => ?_⟩
              rcases Nat.lt_or_ge m j with g | g
              · exact no m s' g hs'
              · obtain rfl : m = j := by omega
                rw [hs] at hs'
                cases hs'
                exact ⟨e1, e2⟩
        · rintro σ H' ⟨y5, rfl, s3, no⟩
          refine ⟨_, _, _, rfl, s2.trans s3, fun k r' hk hr' => ?_⟩
          rcases Nat.lt_or_ge k i with g | g
          · exact up k r' g hr'
          · obtain rfl : k = i := by omega
            rw [hg] at hr'
            cases hr'
            refine ⟨by omega, fun j s hj hs => ?_⟩
            have hjl := (List.getElem?_eq_some_iff.mp hs).1
            exact no (j - (k + 1)) s (by omega) (by rw [show k + 1 + (j - (k + 1)) = j by omega]; exact hs)
    · rintro i σ H' hi ⟨y3, y4, y5, rfl, s1, up⟩
      refine q _ _ s1 (.inl ⟨fit_upTo fun k r hk => up k r (by omega), rfl⟩)
theorem ok_fits {f f1 f2 f3 f4 f5 f6 f7 : Addr} {fd fd1 fd2 fd3 fd4 fd5 fd6 fd7 : FuncData} (B : Blt mg tC tR tT) (Dfits : Def K mg "fits" s_fits ["cycle", "travel", "records"] f fd) (Dcontradiction_in : Def K mg "contradiction_in" s_contradiction_in ["cycle", "travel", "records"] f1 fd1) (Dovertakes : Def K mg "overtakes" s_overtakes ["cycle", "record", "other"] f2 fd2) (Dcheck_records : Def K mg "check_records" s_check_records ["cycle", "travel", "records"] f3 fd3) (Dis_record : Def K mg "is_record" s_is_record ["value"] f4 fd4) (Dis_whole : Def K mg "is_whole" s_is_whole ["value"] f5 fd5) (Dcheck_cycle : Def K mg "check_cycle" s_check_cycle ["cycle"] f6 fd6) (Dcheck_number_in : Def K mg "check_number_in" s_check_number_in ["number", "least", "most"] f7 fd7) : FnOk P w K mg base CX0 4 f fd ["cycle", "travel", "records"] spFits := by
  have Gcontradiction_in := ok_contra (P := P) (w := w) (base := base) B Dcontradiction_in Dovertakes
  have Gcheck_records := ok_check_records (P := P) (w := w) (base := base) B Dcheck_records Dis_record Dis_whole Dcheck_cycle Dcheck_number_in
  refine Dfits.F.ok scfits (fun vs H Q E h => ?_) (fun cdv A outer s H vs Q E hr h => ⟨_, (pss_cons (ps_expr (pe_call Gcheck_records (hr.mono (by decide)) (by rfl) Dcheck_records.g Dcheck_records.F.kp Dcheck_records.b .nil pass0 (pa_cons (pv 0) (pa_cons (pv 1) (pa_cons (pv 2) pa_nil)))))
  (pss_one (ps_ret (pe_cmpR op_isN (pe_call Gcontradiction_in (hr.mono (by decide)) (by rfl) Dcontradiction_in.g Dcontradiction_in.F.kp Dcontradiction_in.b .nil pass0 (pa_cons (pv 0) (pa_cons (pv 1) (pa_cons (pv 2) pa_nil)))) pe_non (nomark _))))), ?_⟩)
  · obtain ⟨c, t, a, rs, rfl, _⟩ := h; rfl
  · obtain ⟨c, t, a, rs, rfl, c1, c30, t0, t30, hL, l1, l40, sm, q⟩ := h
    refine ⟨_, rfl, _, rfl, _, rfl, c, t, a, rs, rfl, c1, c30, t0, t30, hL, l1, l40, fun H1 s1 => ?_⟩
    refine ⟨_, rfl, _, rfl, _, rfl, c, t, a, rs, rfl, c1, c30, hL.mono s1, l40, sm, fun v H2 s2 hv => ?_⟩
    rcases hv with ⟨e, rfl⟩ | ⟨e, b, rfl⟩
    · refine ⟨rfl, ?_⟩
      show Q (V.bl (decide (V.non = V.non))) H2
      have := q H2 (s1.trans s2)
      rw [e] at this
      rw [decide_eq_true rfl]
      exact this
    · refine ⟨rfl, ?_⟩
      show Q (V.bl (decide (V.ref b = V.non))) H2
      have := q H2 (s1.trans s2)
      rw [e] at this
      rw [decide_eq_false (fun z => nomatch z)]
      exact this
end
end Gr

set_option Elab.async false
set_option linter.all false
set_option pp.deepTerms false
set_option pp.maxSteps 3000
set_option maxRecDepth 100000
set_option maxHeartbeats 4000000
set_option exponentiation.threshold 3000
namespace Gr
open PySem PySem.Spec PyProof.Rows L2
abbrev Bk := Int × Bool
def BkAt (H : Hp) (x : V) (b : Bk) : Prop := ∃ p, x = .ref p ∧ H p = some (.tup [.int b.1, .bl b.2])
theorem BkAt.mono {H H' : Hp} {x : V} {r : Bk} (s : Same H H') (h : BkAt H x r) : BkAt H' x r := by
  obtain ⟨b, e, h⟩ := h; exact ⟨b, e, s _ _ h⟩
theorem BkAt.but {H H' : Hp} {p : Addr} {u : List V} {x : V} {r : Bk} (s : But p H H') (hp : H p = some (.lst u)) (h : BkAt H x r) : BkAt H' x r := by
  obtain ⟨b, e, h⟩ := h; exact ⟨b, e, s _ _ (ne_of h hp (fun z => nomatch z)) h⟩
theorem bk_upd {H : Hp} {D : Addr} {us : List V} {o : HO} {x : V} {r : Bk} (hD : H D = some (.lst us)) (h : BkAt H x r) : BkAt (upd H D o) x r := by
  obtain ⟨b, e, h⟩ := h
  exact ⟨b, e, by rw [upd_ne (ne_of h hD (fun z => nomatch z))]; exact h⟩
def endF (c : Int) (Bs : List Bk) (t : Int) : Int := (Bs.getD (t % c).toNat (0, false)).1 + t / c * c
def BlksL (H : Hp) (a : Addr) (Bs : List Bk) : Prop := ∃ xs, H a = some (.lst xs) ∧ Paired (BkAt H) xs Bs
theorem bks_mono {H H' : Hp} (s : Same H H') {xs : List V} {rs : List Bk} (h : Paired (BkAt H) xs rs) : Paired (BkAt H') xs rs := L2.Paired.mapP h fun _ _ r => r.mono s
theorem bks_but {H H' : Hp} {p : Addr} {u : List V} (s : But p H H') (hp : H p = some (.lst u)) {xs : List V} {rs : List Bk} (h : Paired (BkAt H) xs rs) : Paired (BkAt H') xs rs := L2.Paired.mapP h fun _ _ r => r.but s hp
def spEnd : Sp := fun vs H Q _ => ∃ (c t : Int) (a : Addr) (Bs : List Bk), vs = [.int c, .ref a, .int t] ∧ 1 ≤ c ∧ c ≤ 10 ^ 4 ∧ (Bs.length : Int) = c ∧ BlksL H a Bs ∧ t.natAbs < 2 ^ 500 ∧ Q (.int (endF c Bs t)) H
def spAgainst : Sp := fun vs H Q _ => ∃ (c : Int) (x y : V) (r s : Rc), vs = [.int c, x, y] ∧ 1 ≤ c ∧ RcAt H x r ∧ RcAt H y s ∧ ∀ H', Same H H' → Q (.bl (over c r s)) H'
def spFit : Sp := fun vs H Q _ => ∃ (c t : Int) (a : Addr) (rs : List Rc), vs = [.int c, .int t, .ref a] ∧ 1 ≤ c ∧ RcsL H a rs ∧ rs.length ≤ 40 ∧ ∀ H', Same H H' → Q (.bl (fitB c t rs)) H'
theorem ediv_is {x c k : Int} (c1 : 1 ≤ c) (h0 : k * c ≤ x) (h1 : x < k * c + c) : x / c = k := by
  have e := Int.emod_add_mul_ediv x c
  have r0 := Int.emod_nonneg x (show c ≠ 0 by omega)
  have r1 := Int.emod_lt_of_pos x (show 0 < c by omega)
  rw [Int.mul_comm] at e
  rcases Int.lt_trichotomy (x / c) k with g | g | g
  · have : (x / c + 1) * c ≤ k * c := Int.mul_le_mul_of_nonneg_right (by omega) (by omega)
    rw [Int.add_mul] at this
    omega
  · exact g
  · have : (k + 1) * c ≤ x / c * c := Int.mul_le_mul_of_nonneg_right (by omega) (by omega)
    rw [Int.add_mul] at this
    omega
theorem lay_ints : ∀ ns : List Int, PyData.canLayAll0 (ns.map PyData.int) = true
  | [] => by simp [PyData.canLayAll0]
  | n :: ns => by simp [PyData.canLayAll0, PyData.canLay0, lay_ints ns]
theorem depth_ints : ∀ ns : List Int, PyData.depthAll (ns.map PyData.int) ≤ 5
  | [] => by simp [PyData.depthAll]
  | n :: ns => by
    have := depth_ints ns
    simp only [List.map_cons, PyData.depthAll, PyData.depth]
    omega
theorem shaped_ints (ns : List Int) : SeqAt.shaped (.list (ns.map PyData.int)) = true := by
  have h := depth_ints ns
  unfold SeqAt.shaped
  rw [Bool.and_eq_true]
  refine ⟨by simpa only [PyData.canLay0] using lay_ints ns, decide_eq_true ?_⟩
  simp only [PyData.depth]
  omega
theorem dp_ints {K : PySem.W.Frag} {H : Hp} : ∀ ns : List Int, DpAll K H (ns.map V.int) (ns.map PyData.int)
  | [] => .nil
  | n :: ns => .cons (.int n) (dp_ints ns)
theorem shaped_nil : SeqAt.shaped (.list []) = true := by decide +kernel
theorem neNil {K : PySem.W.Frag} {H : Hp} {a b : Addr} {Q : VK} (ns : List Int) (ha : H a = some (.lst (ns.map V.int))) (hb : H b = some (.lst [])) (q : Q (.bl !ns.isEmpty) H) : rNeD K (.ref a) (.ref b) H Q := by
  refine ⟨_, _, .lst (SqL.of ha) (dp_ints ns), .lst (SqL.of hb) .nil, shaped_ints ns, shaped_nil, ?_⟩
  have : PyData.eqv (.list (ns.map PyData.int)) (.list []) = ns.isEmpty := by cases ns <;> simp [PyData.eqv, PyData.eqvAll]
  rw [this]
  exact q
section
variable {P : Program} {w : World} {K : PySem.W.Frag} {mg : Str → Option Value} {base : Heap} {tC tR tT : Tok}
theorem ok_end {f : Addr} {fd : FuncData} (B : Blt mg tC tR tT) (Dl_end : Def K mg "_law_end" s_l_end ["_law_span", "_law_blocks", "_law_t"] f fd) : FnOk P w K mg base CX0 1 f fd ["_law_span", "_law_blocks", "_law_t"] spEnd := by
  refine Dl_end.F.ok scl_end (fun vs H Q E h => ?_) (fun cdv A outer s H vs Q E hr h => ⟨_, (pss_one (ps_ret (pe_op op_add (pe_ix ix_tup (pe_ix ix_list (pv 1) (pe_op op_modN (pv 2) (pv 0)) (fun _ _ => rfl)) pe_int (fun _ _ => rfl)) (pe_op op_mulW (pe_op op_fdivW (pv 2) (pv 0)) (pv 0))))), ?_⟩)
  · obtain ⟨c, t, a, Bs, rfl, _⟩ := h; rfl
  · obtain ⟨c, t, a, Bs, rfl, c1, c4, lB, ⟨xs, ha, hX⟩, ts, q⟩ := h
    have lx := paired_len hX
    have r0 := Int.emod_nonneg t (show c ≠ 0 by omega)
    have r1 := Int.emod_lt_of_pos t (show 0 < c by omega)
    obtain ⟨j, hj⟩ := Int.eq_ofNat_of_zero_le r0
    have jl : j < Bs.length := by omega
    obtain ⟨x, hx⟩ : ∃ x, xs[j]? = some x := ⟨_, List.getElem?_eq_getElem (by omega)⟩
    obtain ⟨⟨e, z⟩, hb, b, rfl, hb'⟩ := paired_at hX hx
    have ef : endF c Bs t = e + t / c * c := by
      unfold endF
      rw [hj, Int.toNat_natCast, List.getD_eq_getElem?_getD, hb]
      rfl
    have cb : c.natAbs < 2 ^ 110 := natAbs_lt (by omega) (by have : (10 : Int) ^ 4 < ((2 ^ 110 : Nat) : Int) := by decide +kernel
                                                             omega)
    have cd : CDivW t c := wide_div (b := 110) (by omega) cb (by decide) (by decide)
    have q1 : (t / c).natAbs < 2 ^ 500 := by
      have : (t / c).natAbs ≤ t.natAbs := Int.natAbs_ediv_le_natAbs t c
      omega
    have cm : CMulW (t / c) c := wide_mul (a := 500) (b := 110) q1 cb (by decide) (by decide) (by decide)
    have fm : t.fmod c = (j : Int) := by rw [Int.fmod_eq_emod_of_nonneg t (by omega), hj]
    refine ⟨_, rfl, _, rfl, _, rfl, _, _, rfl, rfl, (by omega), a, _, _, _, rfl, rfl, SqL.of ha, (by rw [fm]; exact atI_nat hx), b, _, _, _, rfl, rfl, SqT.of hb', atI_nat (j := 0) rfl, _, rfl, _, rfl, _, _, rfl, rfl, cd, _, rfl, _, _, rfl, rfl, cm, _, _, rfl, rfl, ?_⟩
    rw [ef] at q
    exact q
theorem ok_against {f : Addr} {fd : FuncData} (B : Blt mg tC tR tT) (Dl_against : Def K mg "_law_against" s_l_against ["_law_span", "_law_one", "_law_other"] f fd) : FnOk P w K mg base CX0 1 f fd ["_law_span", "_law_one", "_law_other"] spAgainst := by
  refine Dl_against.F.ok scl_against (fun vs H Q E h => ?_) (fun cdv A outer s H vs Q E hr h => ⟨_, (pss_cons (ps_set (i := 3) scl_against.nd rfl (Or.inl rfl) (pv 1))
  (pss_cons (ps_while PassesOwn.never (pt_cmpR op_gt (pe_ix ix_tup (pv 3) pe_int (fun _ _ => rfl)) (pe_ix ix_tup (pv 2) pe_int (fun _ _ => rfl)) (nomark _))
   (pss_one (ps_set (i := 3) scl_against.nd rfl (Or.inl rfl) (pe_tup (pa_cons (pe_op op_sub (pe_ix ix_tup (pv 3) pe_int (fun _ _ => rfl)) (pv 0)) (pa_cons (pe_op op_sub (pe_ix ix_tup (pv 3) pe_int (fun _ _ => rfl)) (pv 0)) pa_nil))))))
  (pss_cons (ps_while PassesOwn.never (pt_cmpR op_le (pe_op op_add (pe_ix ix_tup (pv 3) pe_int (fun _ _ => rfl)) (pv 0)) (pe_ix ix_tup (pv 2) pe_int (fun _ _ => rfl)) (nomark _))
   (pss_one (ps_set (i := 3) scl_against.nd rfl (Or.inl rfl) (pe_tup (pa_cons (pe_op op_add (pe_ix ix_tup (pv 3) pe_int (fun _ _ => rfl)) (pv 0)) (pa_cons (pe_op op_add (pe_ix ix_tup (pv 3) pe_int (fun _ _ => rfl)) (pv 0)) pa_nil))))))
  (pss_one (ps_ret (pe_cmpR op_gt (pe_ix ix_tup (pv 3) pe_int (fun _ _ => rfl)) (pe_ix ix_tup (pv 2) pe_int (fun _ _ => rfl)) (nomark _))))))), ?_⟩)
  · obtain ⟨c, x, y, r, s, rfl, _⟩ := h; rfl
  · obtain ⟨c, x, y, ⟨r1, r2⟩, ⟨s1, s2⟩, rfl, c1, ⟨a, rfl, ha⟩, ⟨b, rfl, hb⟩, q⟩ := h
    simp only [] at ha hb
    have two : 2 ≤ sizeLine := by decide
    refine ⟨_, rfl, ?_⟩
    refine ⟨fun m σ H' => ∃ (k : Int) (p : Addr), m = (r1 + k * c - s1).toNat ∧ σ = [some (.int c), some (.ref a), some (.ref b), some (.ref p)] ∧ Same H H' ∧ H' p = some (.tup [.int (r1 + k * c), .int (r2 + k * c)]), ⟨_, 0, a, rfl, rfl, Same.refl H, by rw [Int.zero_mul, Int.add_zero, Int.add_zero]; exact ha⟩, ?_⟩
    rintro m σ H' ⟨k, p, rfl, rfl, sH, hp⟩
    have hb' := sH _ _ hb
    refine ⟨_, rfl, p, _, _, _, rfl, rfl, SqT.of hp, atI_nat (j := 0) rfl, _, rfl, b, _, _, _, rfl, rfl, SqT.of hb', atI_nat (j := 0) rfl, _, _, rfl, rfl, _, rfl, ?_⟩
    by_cases h : r1 + k * c > s1
    · refine iteY h ?_
      refine ⟨fun σ' H2 => ∃ m', m' < (r1 + k * c - s1).toNat ∧ ∃ (k : Int) (p : Addr), m' = (r1 + k * c - s1).toNat ∧ σ' = [some (.int c), some (.ref a), some (.ref b), some (.ref p)] ∧ Same H H2 ∧ H2 p = some (.tup [.int (r1 + k * c), .int (r2 + k * c)]), fun _ _ h => h, ?_⟩
      refine ⟨_, rfl, p, _, _, _, rfl, rfl, SqT.of hp, atI_nat (j := 0) rfl, _, rfl, _, _, rfl, rfl, _, rfl, p, _, _, _, rfl, rfl, SqT.of hp, atI_nat (j := 1) rfl, _, rfl, _, _, rfl, rfl, two, fun p2 hp2 => ?_⟩
      have e : (k - 1) * c = k * c - c := by rw [Int.sub_mul, Int.one_mul]
      refine ⟨_, ?_, k - 1, p2, rfl, rfl, sH.trans (Same.new hp2), ?_⟩
      · rw [e]; omega
      · rw [upd_same, e, show r1 + (k * c - c) = r1 + k * c - c by omega, show r2 + (k * c - c) = r2 + k * c - c by omega]
    · refine iteN h ?_
      refine ⟨fun m σ H' => ∃ (k : Int) (p : Addr), m = (s1 - r1 - k * c).toNat ∧ σ = [some (.int c), some (.ref a), some (.ref b), some (.ref p)] ∧ Same H H' ∧ H' p = some (.tup [.int (r1 + k * c), .int (r2 + k * c)]) ∧ r1 + k * c ≤ s1, ⟨_, k, p, rfl, rfl, sH, hp, by omega⟩, ?_⟩
      clear h hb' hp sH
      rintro m σ H' ⟨k, p, rfl, rfl, sH, hp, le⟩
      have hb' := sH _ _ hb
      refine ⟨_, rfl, p, _, _, _, rfl, rfl, SqT.of hp, atI_nat (j := 0) rfl, _, rfl, _, _, rfl, rfl, _, rfl, b, _, _, _, rfl, rfl, SqT.of hb', atI_nat (j := 0) rfl, _, _, rfl, rfl, _, rfl, ?_⟩
      by_cases h : r1 + k * c + c ≤ s1
      · refine iteY h ?_
        refine ⟨fun σ' H2 => ∃ m', m' < (s1 - r1 - k * c).toNat ∧ ∃ (k : Int) (p : Addr), m' = (s1 - r1 - k * c).toNat ∧ σ' = [some (.int c), some (.ref a), some (.ref b), some (.ref p)] ∧ Same H H2 ∧ H2 p = some (.tup [.int (r1 + k * c), .int (r2 + k * c)]) ∧ r1 + k * c ≤ s1, fun _ _ h => h, ?_⟩
        refine ⟨_, rfl, p, _, _, _, rfl, rfl, SqT.of hp, atI_nat (j := 0) rfl, _, rfl, _, _, rfl, rfl, _, rfl, p, _, _, _, rfl, rfl, SqT.of hp, atI_nat (j := 1) rfl, _, rfl, _, _, rfl, rfl, two, fun p2 hp2 => ?_⟩
        have e : (k + 1) * c = k * c + c := by rw [Int.add_mul, Int.one_mul]
        refine ⟨_, ?_, k + 1, p2, rfl, rfl, sH.trans (Same.new hp2), ?_, ?_⟩
        · rw [e]; omega
        · rw [upd_same, e, ← Int.add_assoc, ← Int.add_assoc]
        · rw [e]; omega
      · refine iteN h ?_
        refine ⟨_, rfl, p, _, _, _, rfl, rfl, SqT.of hp, atI_nat (j := 1) rfl, _, rfl, b, _, _, _, rfl, rfl, SqT.of hb', atI_nat (j := 1) rfl, _, _, rfl, rfl, ?_⟩
        have := q H' sH
        unfold over at this
        simp only [] at this
        rw [ediv_is c1 (show k * c ≤ s1 - r1 by omega) (by omega)] at this
        exact this
theorem ok_fit {f f1 : Addr} {fd fd1 : FuncData} (B : Blt mg tC tR tT) (Dl_fit : Def K mg "_law_fit" s_l_fit ["_law_span", "_law_ticks", "_law_pairs_here"] f fd) (Dl_against : Def K mg "_law_against" s_l_against ["_law_span", "_law_one", "_law_other"] f1 fd1) : FnOk P w K mg base CX0 2 f fd ["_law_span", "_law_ticks", "_law_pairs_here"] spFit := by
  have Gl_against := ok_against (P := P) (w := w) (base := base) B Dl_against
  refine Dl_fit.F.ok scl_fit (fun vs H Q E h => ?_) (fun cdv A outer s H vs Q E hr h => ⟨_, (pss_cons (ps_for PassesOwn.never rfl (pi_list (pv 2)) (pg_name (i := 3) scl_fit.nd rfl (Or.inr rfl))
   (pss_one (ps_if (PW.pt (pw_or (pt_cmpR op_lt (pe_op op_sub (pe_ix ix_tup (pv 3) pe_int (fun _ _ => rfl)) (pe_ix ix_tup (pv 3) pe_int (fun _ _ => rfl))) (pv 1) (nomark _)) (pw_or1 (pt_cmpR (op_neD hr.units) (pe_lc (own := [("_law_other", 4)]) (g := (gName 4))  rfl scl_fit.nd (pi_list (pv 2)) (blkOk_by (N := ["_law_span", "_law_ticks", "_law_pairs_here", "_law_one", "_law_other"]) (sc := defScope s_l_fit) (by decide +kernel)) (fun _ _ _ _ _ => (pg_name (i := 4) scl_fit.nd rfl (Or.inl rfl))) (fun _ _ _ _ _ => pts_one (pt_val (pe_call Gl_against (hr.mono (by decide)) (by rfl) Dl_against.g Dl_against.F.kp Dl_against.b .nil pass0 (pa_cons (pv 0) (pa_cons (pv 3) (pa_cons (pv 4) pa_nil)))))) (fun _ _ _ _ _ => pe_int)) (pe_lst pa_nil) (nomark _)))))
   (pss_one (ps_ret pe_bl))
   pss_nil)))
  (pss_one (ps_ret pe_bl))), ?_⟩)
  · obtain ⟨c, t, a, rs, rfl, _⟩ := h; rfl
  · obtain ⟨c, t, a, rs, rfl, c1, ⟨xs, ha, hX⟩, l40, q⟩ := h
    have lx := paired_len hX
    refine ⟨_, rfl, a, rfl, ⟨_, SqL.of ha⟩, ?_⟩
    refine for_list (xs := xs) (fun i σ H' => ∃ y3 y4, σ = [some (.int c), some (.int t), some (.ref a), y3, y4] ∧ Same H H' ∧ ∀ k r, k < i → rs[k]? = some r → t ≤ r.2 - r.1 ∧ ∀ s ∈ rs, over c r s = false) ⟨_, _, rfl, Same.refl H, fun k r hk => absurd hk (Nat.not_lt_zero _)⟩ (fun i σ H' _ ⟨_, _, _, s1, _⟩ => SqL.of (s1 _ _ ha)) ?_ ?_
    · rintro i x σ H' hx ⟨y3, y4, rfl, s1, up⟩
      obtain ⟨r, hg, b, rfl, hb⟩ := paired_at hX hx
      have hb1 := s1 _ _ hb
      have ha1 := s1 _ _ ha
      have hm := List.mem_of_getElem? hg
      refine ⟨_, rfl, b, _, _, _, rfl, rfl, SqT.of hb1, atI_nat (j := 1) rfl, _, rfl, b, _, _, _, rfl, rfl, SqT.of hb1, atI_nat (j := 0) rfl, _, _, rfl, rfl, _, rfl, _, _, rfl, rfl, _, rfl, ?_⟩
      by_cases k : r.2 - r.1 < t
      · refine iteY k (iteT ?_)
        have := q _ s1
        rw [nofit_short hm (by omega)] at this
        exact this
      · refine iteN k ?_
        refine ⟨_, rfl, a, rfl, ⟨_, SqL.of ha1⟩, fun D hD => ?_⟩
        refine lc_list (xs := xs) (fun j H2 => Same H' H2 ∧ ∃ m, H2 D = some (.lst ((List.replicate m (1 : Int)).map V.int)) ∧ m ≤ j ∧ (m = 0 → ∀ k s, k < j → rs[k]? = some s → over c r s = false) ∧ (m ≠ 0 → ∃ s ∈ rs, over c r s = true)) ⟨Same.new hD, 0, upd_same, Nat.le_refl _, fun _ k s hk => absurd hk (Nat.not_lt_zero _), fun z => absurd rfl z⟩ (fun j H2 _ ⟨s2, _⟩ => SqL.of (s2 _ _ ha1)) ?_ ?_
        · rintro j y H2 hy ⟨s2, m, e2, mj, no, yes⟩
          obtain ⟨s, hs, b', rfl, hb'⟩ := paired_at hX hy
          have hjl := (List.getElem?_eq_some_iff.mp hs).1
          refine ⟨rfl, _, rfl, _, rfl, _, rfl, c, .ref b, .ref b', r, s, rfl, c1, ⟨b, rfl, s2 _ _ hb1⟩, ⟨b', rfl, s2 _ _ (s1 _ _ hb')⟩, fun H3 s3 => ⟨_, rfl, ?_⟩⟩
          cases e1 : over c r s with
          | true =>
            refine iteT ?_
            refine ⟨_, s3 _ _ e2, smallL (by rw [List.length_map, List.length_replicate]; omega), same_upd (s2.trans s3) hD, m + 1, ?_, by omega, fun z => absurd z (Nat.succ_ne_zero m), fun _ => ⟨s, List.mem_of_getElem? hs, e1⟩⟩
            rw [upd_same, List.replicate_succ', List.map_append]; rfl
          | false =>
            refine iteF ?_
            refine ⟨s2.trans s3, m, s3 _ _ e2, by omega, fun z k' s' hk' hs' => ?_, yes⟩
            rcases Nat.lt_or_ge k' j with g | g
            · exact no z k' s' g hs'
            · obtain rfl : k' = j := by omega
              rw [hs] at hs'
              cases hs'
              exact e1
        · rintro H2 ⟨s2, m, e2, mj, no, yes⟩
          refine ⟨Nat.zero_le _, fun Z hZ => ?_⟩
          have s3 := s2.trans (Same.new hZ (o := .lst []))
          refine neNil _ (Same.new hZ _ _ e2) upd_same ?_
          by_cases m0 : m = 0
          · subst m0
            refine ⟨_, rfl, iteF ?_⟩
            refine ⟨_, _, rfl, s1.trans s3, fun k' r' hk' hr' => ?_⟩
            rcases Nat.lt_or_ge k' i with g | g
            · exact up k' r' g hr'
            · obtain rfl : k' = i := by omega
              rw [hg] at hr'
              cases hr'
              refine ⟨by omega, fun s hs => ?_⟩
              obtain ⟨j, hj, e⟩ := List.getElem_of_mem hs
              exact no rfl j s (by omega) (by rw [List.getElem?_eq_getElem hj, e])
          · have : (!(List.replicate m (1 : Int)).isEmpty) = true := by cases m with
              | zero => exact absurd rfl m0
              | succ m => rfl
            rw [this]
            refine ⟨_, rfl, iteT ?_⟩
            obtain ⟨s, hs, e⟩ := yes m0
            have := q _ (s1.trans s3)
            rw [nofit_over hm hs e] at this
            exact this
    · rintro σ H' ⟨y3, y4, rfl, s1, up⟩
      have := q _ s1
      rw [fitB_iff.mpr ⟨fun r hr => ?_, fun r hr => ?_⟩] at this
      · exact this
      · obtain ⟨k, hk, e⟩ := List.getElem_of_mem hr
        exact (up k r (by omega) (by rw [List.getElem?_eq_getElem hk, e])).1
      · obtain ⟨k, hk, e⟩ := List.getElem_of_mem hr
        exact (up k r (by omega) (by rw [List.getElem?_eq_getElem hk, e])).2
end
end Gr

set_option Elab.async false
set_option linter.all false
set_option pp.deepTerms false
set_option pp.maxSteps 3000
set_option maxRecDepth 100000
set_option maxHeartbeats 4000000
set_option exponentiation.threshold 3000
namespace Gr
open PySem PySem.Spec PyProof.Rows L2
theorem rep_one (m : Nat) : (List.replicate ((m : Int)).toNat [V.int 1]).flatten = List.replicate m (V.int 1) := by
  rw [Int.toNat_natCast]
  induction m with
  | zero => rfl
  | succ m ih => rw [List.replicate_succ, List.flatten_cons, ih, List.replicate_succ]; rfl
theorem sum_ones (m : Nat) : (List.replicate m (1 : Int)).sum = m := by
  induction m with
  | zero => rfl
  | succ m ih => rw [List.replicate_succ, List.sum_cons, ih]; push_cast; omega
theorem sum_set : ∀ {ss : List Int} {i : Nat} {x : Int} (v : Int), ss[i]? = some x → (ss.set i v).sum = ss.sum - x + v
  | [], _, _, _, h => by simp at h
  | a :: t, 0, x, v, h => by
    simp at h
    subst h
    rw [List.set_cons_zero, List.sum_cons, List.sum_cons]; omega
  | a :: t, i + 1, x, v, h => by
    have := sum_set (ss := t) v (by simpa using h)
    rw [List.set_cons_succ, List.sum_cons, List.sum_cons, this]; omega
theorem mem_set_nn {ss : List Int} {i : Nat} {v : Int} (h : ∀ x ∈ ss, 0 ≤ x) (hv : 0 ≤ v) : ∀ x ∈ ss.set i v, 0 ≤ x := fun x hx => by
  rcases List.mem_or_eq_of_mem_set hx with h' | h'
  · exact h x h'
  · rw [h']; exact hv
theorem take_sum {ss : List Int} {i : Nat} {x : Int} (h : ss[i]? = some x) : (ss.take (i + 1)).sum = (ss.take i).sum + x := by
  rw [List.take_add_one, h, List.sum_append]; simp
theorem sum_nn : ∀ {l : List Int}, (∀ x ∈ l, 0 ≤ x) → 0 ≤ l.sum
  | [], _ => by simp
  | a :: t, h => by
    have := sum_nn (l := t) fun x hx => h x (List.mem_cons_of_mem _ hx)
    have := h a List.mem_cons_self
    rw [List.sum_cons]; omega
theorem take_le {ss : List Int} (h : ∀ x ∈ ss, 0 ≤ x) (i : Nat) : 0 ≤ (ss.take i).sum ∧ (ss.take i).sum ≤ ss.sum := by
  have e : (ss.take i).sum + (ss.drop i).sum = ss.sum := by rw [← List.sum_append, List.take_append_drop]
  have h1 := sum_nn (l := ss.take i) fun x hx => h x (List.mem_of_mem_take hx)
  have h2 := sum_nn (l := ss.drop i) fun x hx => h x (List.mem_of_mem_drop hx)
  omega
def rise (b : Bk) : Int := if b.2 = true then 1 else 0
structure Shape (c wd : Int) (Bs : List Bk) : Prop where
  len : (Bs.length : Int) = c
  rng : ∀ b ∈ Bs, -wd ≤ b.1 ∧ b.1 ≤ wd + c
  up : ∀ i b d, Bs[i]? = some b → Bs[i + 1]? = some d → b.1 + rise b ≤ d.1
  wrap : ∀ b d, Bs[0]? = some b → Bs[Bs.length - 1]? = some d → d.1 + rise d ≤ b.1 + c
theorem shape_of {c wd e0 : Int} {ss : List Int} {Bs : List Bk} (len : Bs.length = ss.length) (lc : (ss.length : Int) = c) (nn : ∀ x ∈ ss, 0 ≤ x) (sum : ss.sum = c) (e1 : -wd ≤ e0) (e2 : e0 ≤ wd)
    (h : ∀ k b, Bs[k]? = some b → b.1 = e0 + (ss.take k).sum ∧ (b.2 = true → ∃ x, ss[k]? = some x ∧ 1 ≤ x)) : Shape c wd Bs := by
  have step : ∀ i b, Bs[i]? = some b → b.1 + rise b ≤ e0 + (ss.take (i + 1)).sum := fun i b hb => by
    have hi := (List.getElem?_eq_some_iff.mp hb).1
    obtain ⟨x, hx⟩ : ∃ x, ss[i]? = some x := ⟨_, List.getElem?_eq_getElem (by omega)⟩
    obtain ⟨a, a2⟩ := h i b hb
    rw [take_sum hx, a]
    have x0 := nn x (List.mem_of_getElem? hx)
    unfold rise
    split
    · rename_i z
      obtain ⟨y, hy, y1⟩ := a2 z
      rw [hx] at hy; cases hy
      omega
    · omega
  refine ⟨by omega, fun b hb => ?_, fun i b d hb hd => ?_, fun b d hb hd => ?_⟩
  · obtain ⟨k, hk, e⟩ := List.getElem_of_mem hb
    have := (h k b (by rw [List.getElem?_eq_getElem hk, e])).1
    have := take_le nn k
    omega
  · have := step i b hb
    have := (h (i + 1) d hd).1
    omega
  · have s := step _ d hd
    have a := (h 0 b hb).1
    have hl := (List.getElem?_eq_some_iff.mp hb).1
    rw [List.take_zero, List.sum_nil] at a
    rw [show Bs.length - 1 + 1 = ss.length by omega, List.take_of_length_le (Nat.le_refl _), sum] at s
    omega
def spShape : Sp := fun vs H Q _ => ∃ (p : Addr) (c wd n : Int), vs = [.ref p, .int c, .int wd] ∧ Pond n p H ∧ n ≤ 10 ^ 8 ∧ 1 ≤ c ∧ c ≤ 200 ∧ 1 ≤ wd ∧ wd ≤ 1000 ∧
  ∀ L xs Bs H', H L = none → L ≠ p → But p H H' → Pond (n + 20000) p H' → H' L = some (.lst xs) → Paired (BkAt H') xs Bs → Shape c wd Bs → Q (.ref L) H'
section
variable {P : Program} {w : World} {K : PySem.W.Frag} {mg : Str → Option Value} {base : Heap} {tC tR tT : Tok}
theorem ok_shape {f f1 : Addr} {fd fd1 : FuncData} (B : Blt mg tC tR tT) (Dl_shape : Def K mg "_law_shape" s_l_shape ["_law_pond_here", "_law_span", "_law_wide"] f fd) (Dl_fish : Def K mg "_law_fish" s_l_fish ["_law_pond_here", "_law_bound"] f1 fd1) : FnOk P w K mg base CX0 3 f fd ["_law_pond_here", "_law_span", "_law_wide"] spShape := by
  have Gl_fish := ok_fish (P := P) (w := w) (base := base) B Dl_fish
  refine Dl_shape.F.ok scl_shape (fun vs H Q E h => ?_) (fun cdv A outer s H vs Q E hr h => ⟨_, (pss_cons (ps_set (i := 3) scl_shape.nd rfl (Or.inl rfl) (pe_op op_rep (pe_lst (pa_cons pe_int pa_nil)) (pv 1)))
  (pss_cons (ps_for PassesOwn.never rfl (pi_range1 (by rfl) B.range (pa_cons (pe_call Gl_fish (hr.mono (by decide)) (by rfl) Dl_fish.g Dl_fish.F.kp Dl_fish.b .nil pass0 (pa_cons (pv 0) (pa_cons (pe_op op_add (pe_op op_mulW pe_int (pv 1)) pe_int) pa_nil))) pa_nil)) (pg_name (i := 4) scl_shape.nd rfl (Or.inl rfl))
   (pss_cons (ps_par (i := 5) (j := 6) rfl scl_shape.nd rfl rfl (by decide) rfl rfl (pa_cons (pe_call Gl_fish (hr.mono (by decide)) (by rfl) Dl_fish.g Dl_fish.F.kp Dl_fish.b .nil pass0 (pa_cons (pv 0) (pa_cons (pv 1) pa_nil))) (pa_cons (pe_call Gl_fish (hr.mono (by decide)) (by rfl) Dl_fish.g Dl_fish.F.kp Dl_fish.b .nil pass0 (pa_cons (pv 0) (pa_cons (pv 1) pa_nil))) pa_nil)) (by rfl))
  (pss_cons (ps_set (i := 7) scl_shape.nd rfl (Or.inl rfl) (pe_ix ix_list (pe_lst (pa_cons (pe_callB (call_min2 rfl) (by rfl) B.n_min (by decide +kernel) (pa_cons pe_int (pa_cons (pe_ix ix_list (pv 3) (pv 5) (fun _ _ => rfl)) pa_nil))) (pa_cons (pe_ix ix_list (pv 3) (pv 5) (fun _ _ => rfl)) pa_nil))) (pe_call Gl_fish (hr.mono (by decide)) (by rfl) Dl_fish.g Dl_fish.F.kp Dl_fish.b .nil pass0 (pa_cons (pv 0) (pa_cons pe_int pa_nil))) (fun _ _ => rfl)))
  (pss_cons (ps_asg (pe_op op_sub (pe_ix ix_list (pv 3) (pv 5) (fun _ _ => rfl)) (pv 7)) (pg_sub (pv 3) (pv 5) set_list))
  (pss_one (ps_asg (pe_op op_add (pe_ix ix_list (pv 3) (pv 6) (fun _ _ => rfl)) (pv 7)) (pg_sub (pv 3) (pv 6) set_list)))))))
  (pss_cons (ps_par (i := 8) (j := 9) rfl scl_shape.nd rfl rfl (by decide) rfl rfl (pa_cons (pe_op op_sub (pe_call Gl_fish (hr.mono (by decide)) (by rfl) Dl_fish.g Dl_fish.F.kp Dl_fish.b .nil pass0 (pa_cons (pv 0) (pa_cons (pv 2) pa_nil))) (pe_op op_fdivW (pv 2) pe_int)) (pa_cons (pe_lst pa_nil) pa_nil)) (by rfl))
  (pss_cons (ps_for PassesOwn.never rfl (pi_list (pv 3)) (pg_name (i := 10) scl_shape.nd rfl (Or.inl rfl))
   (pss_cons (ps_expr (pe_bm PySem.F.plainAttrs_list PySem.F.slot_list_append PySem.F.type_list_append mt_append (pv 9) (pa_cons (pe_tup (pa_cons (pv 8) (pa_cons (pe_and (pe_cmpR op_gt (pv 10) pe_int (nomark _)) (pe_one (pe_cmpR op_gt (pe_call Gl_fish (hr.mono (by decide)) (by rfl) Dl_fish.g Dl_fish.F.kp Dl_fish.b .nil pass0 (pa_cons (pv 0) (pa_cons pe_int pa_nil))) pe_int (nomark _)))) pa_nil))) pa_nil)))
  (pss_one (ps_set (i := 8) scl_shape.nd rfl (Or.inl rfl) (pe_op op_add (pv 8) (pv 10))))))
  (pss_one (ps_ret (pv 9))))))), ?_⟩)
  · obtain ⟨p, c, wd, n, rfl, _⟩ := h; rfl
  · obtain ⟨p, c, wd, n, rfl, pd, hn, c1, c2, w1, w2, q⟩ := h
    obtain ⟨m, rfl⟩ := Int.eq_ofNat_of_zero_le (show 0 ≤ c by omega)
    have one : 1 ≤ sizeLine := by decide
    have two : 2 ≤ sizeLine := by decide
    have mb : ∀ k : Int, k.natAbs < 2 ^ 20 → CMulW 2 k := fun k h => wide_mul (a := 20) (b := 20) (by decide) h (by decide) (by decide) (by decide)
    refine ⟨one, fun Z hZ => ⟨_, rfl, Z, _, _, rfl, rfl, upd_same, by omega, by omega, by show 1 * ((m : Int)).toNat ≤ sizeLine; rw [Int.toNat_natCast]; exact Nat.le_of_lt (smallL (by omega)), fun S hS => ?_⟩⟩
    rw [rep_one m]
    have sS : Same H (upd (upd H Z (.lst [.int 1])) S (.lst (List.replicate m (.int 1)))) := (Same.new hZ).trans (Same.new hS)
    have eS : (upd (upd H Z (.lst [.int 1])) S (.lst (List.replicate m (.int 1)))) S = some (.lst ((List.replicate m (1 : Int)).map V.int)) := by rw [upd_same, List.map_replicate]
    have hS0 : H S = none := Same.free (Same.new hZ) hS
    have nSp : S ≠ p := fun e => pd.ne (by rw [← e]; exact hS0)
    generalize upd (upd H Z (.lst [.int 1])) S (.lst (List.replicate m (.int 1))) = H1 at sS eS ⊢
    have pd1 := pd.same sS
    refine ⟨_, rfl, _, rfl, _, _, rfl, rfl, mb _ (by omega), _, _, rfl, rfl, p, 2 * (m : Int) + 1, n, rfl, pd1, by omega, by omega, by omega, fun r H2 b2 pd2 r0 r1 => ?_⟩
    obtain ⟨R, rfl⟩ := Int.eq_ofNat_of_zero_le r0
    refine ⟨(R : Int), rfl, by omega, by omega, ?_⟩
    have bH2 : But p H H2 := (Same.but sS).trans b2
    refine for_range (lo := 0) (fun i σ H' => ∃ y4 y5 y6 y7 ss, σ = [some (.ref p), some (.int (m : Int)), some (.int wd), some (.ref S), y4, y5, y6, y7, none, none, none] ∧ But p H H' ∧ Pond (n + 12 + 36 * i) p H' ∧ H' S = some (.lst (ss.map V.int)) ∧ ss.length = m ∧ (∀ x ∈ ss, 0 ≤ x) ∧ ss.sum = (m : Int))
      ⟨_, _, _, _, List.replicate m 1, rfl, bH2, pd2.mono (by omega), b2 _ _ nSp eS, by rw [List.length_replicate], fun x hx => by rw [(List.mem_replicate.mp hx).2]; decide, sum_ones m⟩ ?_ ?_
    · rintro i σ H' hi ⟨y4, y5, y6, y7, ss, rfl, bt, pd3, e3, len, nn, sum⟩
      have hi' : i < 401 := by omega
      refine ⟨_, rfl, _, rfl, p, (m : Int), _, rfl, pd3, by omega, by omega, by omega, fun r1 H3 b3 pd4 r10 r11 => ⟨_, rfl, _, rfl, p, (m : Int), _, rfl, pd4, by omega, by omega, by omega, fun r2 H4 b4 pd5 r20 r21 => ⟨_, _, rfl, ?_⟩⟩⟩
      obtain ⟨j1, rfl⟩ := Int.eq_ofNat_of_zero_le r10
      obtain ⟨j2, rfl⟩ := Int.eq_ofNat_of_zero_le r20
      obtain ⟨x1, hx1⟩ : ∃ x, ss[j1]? = some x := ⟨_, List.getElem?_eq_getElem (by omega)⟩
      obtain ⟨x2, hx2⟩ : ∃ x, ss[j2]? = some x := ⟨_, List.getElem?_eq_getElem (by omega)⟩
      have x10 := nn x1 (List.mem_of_getElem? hx1)
      have e4 := (b4 _ _ nSp (b3 _ _ nSp e3))
      have at1 : atI (ss.map V.int) (j1 : Int) = some (.int x1) := atI_nat (by rw [List.getElem?_map, hx1]; rfl)
      refine ⟨_, rfl, _, rfl, S, _, _, _, rfl, rfl, SqL.of e4, at1, _, _, rfl, _, rfl, _, rfl, S, _, _, _, rfl, rfl, SqL.of e4, at1, two, fun T hT => ?_⟩
      have nTp : T ≠ p := fun e => pd5.ne (by rw [← e]; exact hT)
      have nST : S ≠ T := fun e => by rw [← e, e4] at hT; cases hT
      refine ⟨_, rfl, p, 2, _, rfl, pd5.new hT, by omega, by decide, by decide, fun r3 H5 b5 pd6 r30 r31 => ?_⟩
      obtain ⟨v, hv, hvat⟩ := pick (xs := [if x1 < 1 then x1 else 1, x1]) r30 r31
      have v01 : 0 ≤ v ∧ v ≤ x1 := by
        simp only [List.mem_cons, List.not_mem_nil, or_false] at hv
        split at hv <;> omega
      have e5 := b5 _ _ nSp (Same.new hT _ _ e4)
      refine ⟨T, _, _, _, rfl, rfl, SqL.of (b5 _ _ nTp upd_same), hvat, ?_⟩
      refine ⟨_, rfl, _, rfl, S, _, _, _, rfl, rfl, SqL.of e5, at1, _, rfl, _, _, rfl, rfl, _, rfl, _, rfl, S, _, _, j1, rfl, rfl, e5, Evl.ixN_nat (by rw [List.length_map]; omega), ?_⟩
      obtain ⟨ss1, ess1⟩ : ∃ ss1, ss1 = ss.set j1 (x1 - v) := ⟨_, rfl⟩
      have m1 : (ss.map V.int).set j1 ((fun i j => V.int (i - j)) x1 v) = ss1.map V.int := by rw [ess1, List.map_set]
      rw [m1]
      have len1 : ss1.length = m := by rw [ess1, List.length_set]; exact len
      have nn1 := mem_set_nn (i := j1) (v := x1 - v) nn (by omega)
      have sum1 := sum_set (x1 - v) hx1
      rw [← ess1] at nn1 sum1
      obtain ⟨z, hz⟩ : ∃ z, ss1[j2]? = some z := ⟨_, List.getElem?_eq_getElem (by omega)⟩
      have z0 := nn1 z (List.mem_of_getElem? hz)
      have e6 : (upd H5 S (.lst (ss1.map V.int))) S = some (.lst (ss1.map V.int)) := upd_same
      have at2 : atI (ss1.map V.int) (j2 : Int) = some (.int z) := atI_nat (by rw [List.getElem?_map, hz]; rfl)
      refine ⟨_, rfl, _, rfl, S, _, _, _, rfl, rfl, SqL.of e6, at2, _, rfl, _, _, rfl, rfl, _, rfl, _, rfl, S, _, _, j2, rfl, rfl, e6, Evl.ixN_nat (by rw [List.length_map]; omega), ?_⟩
      have m2 : (ss1.map V.int).set j2 ((fun i j => V.int (i + j)) z v) = (ss1.set j2 (z + v)).map V.int := by rw [List.map_set]
      rw [m2]
      refine ⟨_, _, _, _, ss1.set j2 (z + v), rfl, ?_, ?_, upd_same, by rw [List.length_set]; exact len1, mem_set_nn nn1 (by omega), by rw [sum_set (z + v) hz]; omega⟩
      · exact ((((((bt.trans b3).trans b4).new hT).trans b5).mut hS0).mut hS0)
      · obtain ⟨a1, a2, a3, h1, h2, h3, h4, h5⟩ := pd6
        exact ⟨a1, a2, a3, by rw [upd_ne nSp.symm, upd_ne nSp.symm]; exact h1, h2, h3, h4, by push_cast; omega⟩
    · rintro σ H' ⟨y4, y5, y6, y7, ss, rfl, bt, pd3, e3, len, nn, sum⟩
      have R4 : ((R : Int)).toNat ≤ 401 := by omega
      refine ⟨_, rfl, _, rfl, p, wd, _, rfl, pd3, by omega, w1, by omega, fun e H3 b3 pd4 f0 f1 => ⟨_, rfl, _, _, rfl, rfl, ⟨by decide, by decide +kernel⟩, _, _, rfl, rfl, Nat.zero_le _, fun F hF => ⟨_, _, rfl, ?_⟩⟩⟩
      obtain ⟨e0, he0⟩ : ∃ e0, e0 = e - wd / 3 := ⟨_, rfl⟩
      have w3 : 0 ≤ wd / 3 ∧ wd / 3 ≤ wd := by omega
      have e4 := b3 _ _ nSp e3
      have nFp : F ≠ p := fun z => pd4.ne (by rw [← z]; exact hF)
      have nFS : F ≠ S := fun z => by rw [z, e4] at hF; cases hF
      have bH3 := bt.trans b3
      obtain ⟨up0, hup⟩ := pd.some
      have hF0 : H F = none := bH3.fresh hup pd4.ne hF
      refine ⟨_, rfl, S, rfl, ⟨_, SqL.of (Same.new hF _ _ e4)⟩, ?_⟩
      refine for_list (xs := ss.map V.int) (fun i σ H' => ∃ y10 xs Bs, σ = [some (.ref p), some (.int (m : Int)), some (.int wd), some (.ref S), y4, y5, y6, y7, some (.int (e0 + (ss.take i).sum)), some (.ref F), y10] ∧ But p H H' ∧ Pond (n + 15000 + 12 * i) p H' ∧ H' S = some (.lst (ss.map V.int)) ∧ H' F = some (.lst xs) ∧ Paired (BkAt H') xs Bs ∧ Bs.length = i ∧ ∀ k b, Bs[k]? = some b → b.1 = e0 + (ss.take k).sum ∧ (b.2 = true → ∃ x, ss[k]? = some x ∧ 1 ≤ x))
        ⟨none, [], [], ?_, bH3.new hF, (pd4.new hF).mono (by omega), Same.new hF _ _ e4, upd_same, .nil, rfl, fun k b hb => by simp at hb⟩ (fun i σ H' _ ⟨_, _, _, _, _, _, h, _⟩ => SqL.of h) ?_ ?_
      · rw [List.take_zero, List.sum_nil, Int.add_zero, he0]; rfl
      · rintro i x σ H' hx ⟨y10, xs, Bs, rfl, b4, pd5, eS5, eF5, hX, lB, hB⟩
        rw [List.getElem?_map] at hx
        obtain ⟨z, hz, rfl⟩ := Option.map_eq_some_iff.mp hx
        have hi := (List.getElem?_eq_some_iff.mp hz).1
        have z0 := nn z (List.mem_of_getElem? hz)
        have lx := paired_len hX
        refine ⟨_, rfl, .inl ⟨rfl, _, SqL.of eF5⟩, _, rfl, _, rfl, _, _, rfl, rfl, _, rfl, ?_⟩
        by_cases zp : z > 0
        · refine iteY zp ?_
          refine ⟨_, rfl, p, 3, _, rfl, pd5, by omega, by decide, by decide, fun r H5 b5 pd6 r0 r1 => ⟨_, _, rfl, rfl, two, fun T hT => ?_⟩⟩
          have eF6 := b5 _ _ nFp eF5
          have eS6 := b5 _ _ nSp eS5
          have nTF : F ≠ T := fun e => by rw [← e, eF6] at hT; cases hT
          have nTS : S ≠ T := fun e => by rw [← e, eS6] at hT; cases hT
          have smT := Same.new hT (o := .tup [.int (e0 + (ss.take i).sum), .bl (decide (r > 0))])
          obtain ⟨up5, hup5⟩ := pd5.some
          refine ⟨F, _, _, rfl, rfl, smT _ _ eF6, smallL (by omega), ?_⟩
          refine ⟨_, rfl, _, rfl, _, _, rfl, rfl, ?_⟩
          refine ⟨some (.int z), xs ++ [.ref T], Bs ++ [(e0 + (ss.take i).sum, (decide (r > 0)))], ?_, ?_, ?_, ?_, upd_same, ?_, by rw [List.length_append, lB]; rfl, fun k b hb => ?_⟩
          · rw [take_sum hz, ← Int.add_assoc]; rfl
          · exact ((b4.trans b5).new hT).mut hF0
          · obtain ⟨a1, a2, a3, h1, h2, h3, h4, h5⟩ := pd6.new hT (o := .tup [.int (e0 + (ss.take i).sum), .bl (decide (r > 0))])
            exact ⟨a1, a2, a3, by rw [upd_ne nFp.symm]; exact h1, h2, h3, h4, by push_cast; omega⟩
          · rw [upd_ne nFS.symm]; exact smT _ _ eS6
          · refine paired_snoc (L2.Paired.mapP hX fun _ _ h => bk_upd (smT _ _ eF6) ((h.but b5 hup5).mono smT)) ⟨T, rfl, ?_⟩
            rw [upd_ne nTF.symm]; exact upd_same
          · rcases Nat.lt_or_ge k Bs.length with g | g
            · rw [List.getElem?_append_left g] at hb
              exact hB k b hb
            · rw [List.getElem?_append_right g] at hb
              have k0 : k - Bs.length = 0 := by
                have := (List.getElem?_eq_some_iff.mp hb).1
                simp at this; omega
              rw [k0] at hb
              obtain rfl : k = i := by omega
              cases hb
              exact ⟨rfl, fun _ => ⟨z, hz, by omega⟩⟩
        · refine iteN zp ?_
          refine ⟨two, fun T hT => ?_⟩
          have b5 := But.refl p H'
          have pd6 := pd5.mono (show n + 15000 + 12 * (i : Int) ≤ n + 15000 + 12 * (i : Int) + 12 by omega)
          have eF6 := b5 _ _ nFp eF5
          have eS6 := b5 _ _ nSp eS5
          have nTF : F ≠ T := fun e => by rw [← e, eF6] at hT; cases hT
          have nTS : S ≠ T := fun e => by rw [← e, eS6] at hT; cases hT
          have smT := Same.new hT (o := .tup [.int (e0 + (ss.take i).sum), .bl false])
          obtain ⟨up5, hup5⟩ := pd5.some
          refine ⟨F, _, _, rfl, rfl, smT _ _ eF6, smallL (by omega), ?_⟩
          refine ⟨_, rfl, _, rfl, _, _, rfl, rfl, ?_⟩
          refine ⟨some (.int z), xs ++ [.ref T], Bs ++ [(e0 + (ss.take i).sum, false)], ?_, ?_, ?_, ?_, upd_same, ?_, by rw [List.length_append, lB]; rfl, fun k b hb => ?_⟩
          · rw [take_sum hz, ← Int.add_assoc]; rfl
          · exact ((b4.trans b5).new hT).mut hF0
          · obtain ⟨a1, a2, a3, h1, h2, h3, h4, h5⟩ := pd6.new hT (o := .tup [.int (e0 + (ss.take i).sum), .bl false])
            exact ⟨a1, a2, a3, by rw [upd_ne nFp.symm]; exact h1, h2, h3, h4, by push_cast; omega⟩
          · rw [upd_ne nFS.symm]; exact smT _ _ eS6
          · refine paired_snoc (L2.Paired.mapP hX fun _ _ h => bk_upd (smT _ _ eF6) ((h.but b5 hup5).mono smT)) ⟨T, rfl, ?_⟩
            rw [upd_ne nTF.symm]; exact upd_same
          · rcases Nat.lt_or_ge k Bs.length with g | g
            · rw [List.getElem?_append_left g] at hb
              exact hB k b hb
            · rw [List.getElem?_append_right g] at hb
              have k0 : k - Bs.length = 0 := by
                have := (List.getElem?_eq_some_iff.mp hb).1
                simp at this; omega
              rw [k0] at hb
              obtain rfl : k = i := by omega
              cases hb
              exact ⟨rfl, fun z => nomatch z⟩
      · rintro σ H' ⟨y10, xs, Bs, rfl, b4, pd5, eS5, eF5, hX, lB, hB⟩
        rw [List.length_map] at lB
        exact ⟨_, rfl, q F xs Bs H' hF0 nFp b4 (pd5.mono (by rw [List.length_map]; omega)) eF5 hX (shape_of lB (by omega) nn sum (by omega) (by omega) hB)⟩
def spPairs : Sp := fun vs H Q _ => ∃ (p a : Addr) (c n : Int) (m : Nat) (Bs : List Bk), vs = [.ref p, .int c, .ref a, .int (m : Int)] ∧ Pond n p H ∧ n ≤ 10 ^ 8 ∧ 1 ≤ c ∧ c ≤ 200 ∧ (Bs.length : Int) = c ∧ BlksL H a Bs ∧ a ≠ p ∧ m ≤ 40 ∧
  ∀ (L : Addr) (H' : Hp) (ts : List Int) (xs : List V), H L = none → L ≠ p → But p H H' → Pond (n + 12 * m) p H' → H' L = some (.lst xs) → Paired (RcAt H') xs (ts.map fun x => (x, endF c Bs x)) → ts.length = m → (∀ t ∈ ts, -(3 * c) ≤ t ∧ t < 3 * c) → Q (.ref L) H'
theorem ok_pairs {f f1 f2 : Addr} {fd fd1 fd2 : FuncData} (B : Blt mg tC tR tT) (Dl_pairs : Def K mg "_law_pairs" s_l_pairs ["_law_pond_here", "_law_span", "_law_blocks", "_law_many"] f fd) (Dl_fish : Def K mg "_law_fish" s_l_fish ["_law_pond_here", "_law_bound"] f1 fd1) (Dl_end : Def K mg "_law_end" s_l_end ["_law_span", "_law_blocks", "_law_t"] f2 fd2) : FnOk P w K mg base CX0 3 f fd ["_law_pond_here", "_law_span", "_law_blocks", "_law_many"] spPairs := by
  have Gl_fish := ok_fish (P := P) (w := w) (base := base) B Dl_fish
  have Gl_end := ok_end (P := P) (w := w) (base := base) B Dl_end
  refine Dl_pairs.F.ok scl_pairs (fun vs H Q E h => ?_) (fun cdv A outer s H vs Q E hr h => ⟨_, (pss_cons (ps_set (i := 4) scl_pairs.nd rfl (Or.inl rfl) (pe_lst pa_nil))
  (pss_cons (ps_for PassesOwn.never rfl (pi_range1 (by rfl) B.range (pa_cons (pv 3) pa_nil)) (pg_name (i := 5) scl_pairs.nd rfl (Or.inl rfl))
   (pss_cons (ps_set (i := 6) scl_pairs.nd rfl (Or.inl rfl) (pe_op op_sub (pe_call Gl_fish (hr.mono (by decide)) (by rfl) Dl_fish.g Dl_fish.F.kp Dl_fish.b .nil pass0 (pa_cons (pv 0) (pa_cons (pe_op op_mulW pe_int (pv 1)) pa_nil))) (pe_op op_mulW pe_int (pv 1))))
  (pss_one (ps_expr (pe_bm PySem.F.plainAttrs_list PySem.F.slot_list_append PySem.F.type_list_append mt_append (pv 4) (pa_cons (pe_tup (pa_cons (pv 6) (pa_cons (pe_call Gl_end (hr.mono (by decide)) (by rfl) Dl_end.g Dl_end.F.kp Dl_end.b .nil pass0 (pa_cons (pv 1) (pa_cons (pv 2) (pa_cons (pv 6) pa_nil)))) pa_nil))) pa_nil))))))
  (pss_one (ps_ret (pv 4))))), ?_⟩)
  · obtain ⟨p, a, c, n, m, Bs, rfl, _⟩ := h; rfl
  · obtain ⟨p, a, c, n, m, Bs, rfl, pd, hn, c1, c2, lB, ⟨bs, ha, hBs⟩, nap, m40, q⟩ := h
    have two : 2 ≤ sizeLine := by decide
    have mb : ∀ k j : Int, k.natAbs < 2 ^ 20 → j.natAbs < 2 ^ 20 → CMulW k j := fun k j h h' => wide_mul (a := 20) (b := 20) h h' (by decide) (by decide) (by decide)
    refine ⟨Nat.zero_le _, fun F hF => ?_⟩
    have nFp : F ≠ p := fun z => pd.ne (by rw [← z]; exact hF)
    have nFa : F ≠ a := fun z => by rw [z, ha] at hF; cases hF
    obtain ⟨up0, hup⟩ := pd.some
    refine ⟨_, rfl, (m : Int), rfl, by omega, by omega, ?_⟩
    refine for_range (lo := 0) (fun i σ H' => ∃ (y5 y6 : Option V) (xs : List V) (ts : List Int), σ = [some (.ref p), some (.int c), some (.ref a), some (.int (m : Int)), some (.ref F), y5, y6] ∧ But p H H' ∧ Pond (n + 12 * i) p H' ∧ H' F = some (.lst xs) ∧ Paired (RcAt H') xs (ts.map fun x => (x, endF c Bs x)) ∧ ts.length = i ∧ (∀ t ∈ ts, -(3 * c) ≤ t ∧ t < 3 * c))
      ⟨none, none, [], [], rfl, Same.but (Same.new hF), (pd.new hF).mono (by omega), upd_same, .nil, rfl, fun t ht => (List.not_mem_nil ht).elim⟩ ?_ ?_
    · rintro i σ H' hi ⟨y5, y6, xs, ts, rfl, bt, pd1, eF, hX, lt, rt⟩
      have lx := paired_len hX
      rw [List.length_map] at lx
      obtain ⟨up1, hup1⟩ := pd1.some
      refine ⟨_, rfl, _, rfl, _, _, rfl, rfl, mb _ _ (by decide) (by omega), p, 6 * c, _, rfl, pd1, by omega, by omega, by omega, fun r H2 b2 pd2 r0 r1 => ⟨_, rfl, _, _, rfl, rfl, mb _ _ (by decide) (by omega), _, _, rfl, rfl, ?_⟩⟩
      obtain ⟨t, et⟩ : ∃ t, t = r - 3 * c := ⟨_, rfl⟩
      show gName 6 (V.int (r - 3 * c)) _ H2 _
      rw [← et]
      have bH := bt.trans b2
      have eF2 := b2 _ _ nFp eF
      refine ⟨_, rfl, .inl ⟨rfl, _, SqL.of eF2⟩, _, rfl, _, rfl, _, rfl, _, rfl, c, t, a, Bs, rfl, c1, by omega, lB, ⟨bs, bH _ _ nap ha, bks_but bH hup hBs⟩, by omega, two, fun T hT => ?_⟩
      have nTF : F ≠ T := fun e => by rw [← e, eF2] at hT; cases hT
      have smT := Same.new hT (o := .tup [.int t, .int (endF c Bs t)])
      refine ⟨F, _, _, rfl, rfl, smT _ _ eF2, smallL (by omega), ?_⟩
      refine ⟨_, _, xs ++ [.ref T], ts ++ [t], rfl, (bH.new hT).mut hF, ?_, upd_same, ?_, by rw [List.length_append, lt]; rfl, fun u hu => ?_⟩
      · obtain ⟨a1, a2, a3, h1, h2, h3, h4, h5⟩ := pd2.new hT (o := .tup [.int t, .int (endF c Bs t)])
        exact ⟨a1, a2, a3, by rw [upd_ne nFp.symm]; exact h1, h2, h3, h4, by push_cast; omega⟩
      · rw [List.map_append]
        refine paired_snoc (L2.Paired.mapP hX fun _ _ h => rc_upd (smT _ _ eF2) ((h.but b2 hup1).mono smT)) ⟨T, rfl, ?_⟩
        rw [upd_ne nTF.symm]; exact upd_same
      · rcases List.mem_append.mp hu with g | g
        · exact rt u g
        · rw [List.mem_singleton.mp g]; omega
    · rintro σ H' ⟨y5, y6, xs, ts, rfl, bt, pd1, eF, hX, lt, rt⟩
      rw [show ((m : Int)).toNat = m from Int.toNat_natCast m] at lt pd1
      exact ⟨_, rfl, q F H' ts xs hF nFp bt pd1 eF hX lt rt⟩
end
end Gr

set_option Elab.async false
set_option linter.all false
set_option pp.deepTerms false
set_option pp.maxSteps 3000
set_option maxRecDepth 100000
set_option maxHeartbeats 4000000
set_option exponentiation.threshold 3000
namespace Gr
open PySem PySem.Spec PyProof.Rows L2
theorem endF_per {c : Int} {Bs : List Bk} (c1 : 1 ≤ c) (x k : Int) : endF c Bs (x + k * c) = endF c Bs x + k * c := by
  unfold endF
  rw [Int.add_mul_emod_self_right, Int.add_mul_ediv_right _ _ (by omega), Int.add_mul]
  omega
theorem endF_at {c : Int} {Bs : List Bk} {x : Int} {j : Nat} {b : Bk} (h : x % c = (j : Int)) (hb : Bs[j]? = some b) : endF c Bs x = b.1 + x / c * c := by
  unfold endF
  rw [h, Int.toNat_natCast, List.getD_eq_getElem?_getD, hb]; rfl
theorem endF_step {c wd : Int} {Bs : List Bk} (h : Shape c wd Bs) (c1 : 1 ≤ c) (x : Int) : ∃ b, Bs[(x % c).toNat]? = some b ∧ endF c Bs x + rise b ≤ endF c Bs (x + 1) := by
  have r0 := Int.emod_nonneg x (show c ≠ 0 by omega)
  have r1 := Int.emod_lt_of_pos x (show 0 < c by omega)
  have e := Int.emod_add_mul_ediv x c
  rw [Int.mul_comm] at e
  obtain ⟨j, hj⟩ := Int.eq_ofNat_of_zero_le r0
  have hl := h.len
  obtain ⟨b, hb⟩ : ∃ b, Bs[j]? = some b := ⟨_, List.getElem?_eq_getElem (by omega)⟩
  refine ⟨b, by rw [hj, Int.toNat_natCast]; exact hb, ?_⟩
  by_cases k : (j : Int) + 1 < c
  · obtain ⟨d, hd⟩ : ∃ d, Bs[j + 1]? = some d := ⟨_, List.getElem?_eq_getElem (by omega)⟩
    have q : (x + 1) / c = x / c := ediv_is c1 (by omega) (by omega)
    have m : (x + 1) % c = ((j + 1 : Nat) : Int) := by
      have e' := Int.emod_add_mul_ediv (x + 1) c
      rw [Int.mul_comm, q] at e'
      push_cast; omega
    rw [endF_at hj hb, endF_at m hd, q]
    have := h.up j b d hb hd
    omega
  · obtain ⟨d, hd⟩ : ∃ d, Bs[0]? = some d := ⟨_, List.getElem?_eq_getElem (by omega)⟩
    have q : (x + 1) / c = x / c + 1 := ediv_is c1 (by rw [Int.add_mul]; omega) (by rw [Int.add_mul]; omega)
    have m : (x + 1) % c = ((0 : Nat) : Int) := by
      have e' := Int.emod_add_mul_ediv (x + 1) c
      rw [Int.mul_comm, q, Int.add_mul] at e'
      push_cast; omega
    rw [endF_at hj hb, endF_at m hd, q, Int.add_mul]
    have := h.wrap d b hd (by rw [show Bs.length - 1 = j by omega]; exact hb)
    omega
theorem rise0 (b : Bk) : 0 ≤ rise b := by unfold rise; split <;> omega
theorem mono_succ {E : Int → Int} (h : ∀ x, E x ≤ E (x + 1)) (x : Int) : ∀ n : Nat, E x ≤ E (x + n)
  | 0 => by rw [Int.natCast_zero, Int.add_zero]; exact Int.le_refl _
  | n + 1 => by
    have a := mono_succ h x n
    have b := h (x + n)
    rw [show x + ((n + 1 : Nat) : Int) = x + (n : Int) + 1 by push_cast; omega]
    omega
theorem endF_rises {c wd : Int} {Bs : List Bk} (h : Shape c wd Bs) (c1 : 1 ≤ c) : Rises c (endF c Bs) := by
  refine ⟨fun x y l => ?_, fun x k => endF_per c1 x k⟩
  obtain ⟨n, hn⟩ := Int.eq_ofNat_of_zero_le (show 0 ≤ y - x by omega)
  have := mono_succ (E := endF c Bs) (fun x => by
    obtain ⟨b, _, k⟩ := endF_step h c1 x
    have := rise0 b
    omega) x n
  rw [show x + (n : Int) = y by omega] at this
  exact this
def bump (k : Int) (b : Bk) : Bk := (b.1 + k, b.2)
theorem shape_bump {c wd k : Int} {Bs : List Bk} (h : Shape c wd Bs) (k0 : 0 ≤ k) : Shape c (wd + k) (Bs.map (bump k)) := by
  refine ⟨by rw [List.length_map]; exact h.len, fun b hb => ?_, fun i b d hb hd => ?_, fun b d hb hd => ?_⟩
  · obtain ⟨b', hb', rfl⟩ := List.mem_map.mp hb
    have := h.rng b' hb'
    unfold bump
    constructor <;> simp only [] <;> omega
  · rw [List.getElem?_map] at hb hd
    obtain ⟨b', hb', rfl⟩ := Option.map_eq_some_iff.mp hb
    obtain ⟨d', hd', rfl⟩ := Option.map_eq_some_iff.mp hd
    have := h.up i b' d' hb' hd'
    unfold bump rise at *
    simp only [] at *
    omega
  · rw [List.getElem?_map] at hb hd
    rw [List.length_map] at hd
    obtain ⟨b', hb', rfl⟩ := Option.map_eq_some_iff.mp hb
    obtain ⟨d', hd', rfl⟩ := Option.map_eq_some_iff.mp hd
    have := h.wrap b' d' hb' hd'
    unfold bump rise at *
    simp only [] at *
    omega
theorem endF_low {c wd low : Int} {Bs : List Bk} (h : Shape c wd Bs) (c1 : 1 ≤ c) (l : ∀ (j : Nat) (b : Bk), Bs[j]? = some b → low ≤ b.1 - (j : Int)) (x : Int) : low ≤ endF c Bs x - x := by
  have r0 := Int.emod_nonneg x (show c ≠ 0 by omega)
  have r1 := Int.emod_lt_of_pos x (show 0 < c by omega)
  have e := Int.emod_add_mul_ediv x c
  rw [Int.mul_comm] at e
  obtain ⟨j, hj⟩ := Int.eq_ofNat_of_zero_le r0
  have hl := h.len
  obtain ⟨b, hb⟩ : ∃ b, Bs[j]? = some b := ⟨_, List.getElem?_eq_getElem (by omega)⟩
  rw [endF_at hj hb]
  have := l j b hb
  omega
theorem endF_rng {c wd : Int} {Bs : List Bk} (h : Shape c wd Bs) (c1 : 1 ≤ c) (x : Int) : -wd - c + x ≤ endF c Bs x ∧ endF c Bs x ≤ wd + c + x := by
  have r0 := Int.emod_nonneg x (show c ≠ 0 by omega)
  have r1 := Int.emod_lt_of_pos x (show 0 < c by omega)
  have e := Int.emod_add_mul_ediv x c
  rw [Int.mul_comm] at e
  obtain ⟨j, hj⟩ := Int.eq_ofNat_of_zero_le r0
  have hl := h.len
  obtain ⟨b, hb⟩ : ∃ b, Bs[j]? = some b := ⟨_, List.getElem?_eq_getElem (by omega)⟩
  rw [endF_at hj hb]
  have := h.rng b (List.mem_of_getElem? hb)
  omega
def spRight51 : Sp := fun vs H Q _ => ∃ (p a : Addr) (c t n : Int) (rs : List Rc), vs = [.ref p, .int c, .int t, .ref a] ∧ Pond n p H ∧ n ≤ 10 ^ 8 ∧ 1 ≤ c ∧ c ≤ 30 ∧ 0 ≤ t ∧ t ≤ 1000 ∧ RcsL H a rs ∧ a ≠ p ∧ 1 ≤ rs.length ∧ rs.length ≤ 40 ∧
  (∀ r ∈ rs, r.1.natAbs ≤ 1000000 ∧ r.2.natAbs ≤ 1000000) ∧ ∀ H', But p H H' → Pond (n + 24) p H' → Q (.bl true) H'
theorem cut_hi (xs : List V) (m : Nat) (hm : m ≤ xs.length) : cutV xs none (some (m : Int)) = xs.take m := by
  unfold cutV
  rw [HT.sIx_nat, HT.sIx_none, Nat.min_eq_left hm]
  simp
theorem cut_hiA (xs : List V) (m : Nat) : cutV xs none (some (m : Int)) = xs.take m := by
  by_cases h : m ≤ xs.length
  · exact cut_hi xs m h
  · unfold cutV
    rw [HT.sIx_nat, HT.sIx_none, Nat.min_eq_right (by omega), List.take_of_length_le (show xs.length ≤ m by omega)]
    simp
theorem cut_but' (ks : List V) (x : V) : cutV (ks ++ [x]) none (some (-1)) = ks ∧ ¬ (HT.sIx (ks ++ [x]).length 0 none = 0 ∧ HT.sIx (ks ++ [x]).length (ks ++ [x]).length (some (-1)) = (ks ++ [x]).length) := by
  have e1 : HT.sIx (ks ++ [x]).length (ks ++ [x]).length (some (-1)) = ks.length := by
    show (if (-1 : Int) < 0 then ((-1 : Int) + ((ks ++ [x]).length : Int)).toNat else min (-1 : Int).toNat (ks ++ [x]).length) = ks.length
    rw [if_pos (by decide), List.length_append]
    simp
    omega
  constructor
  · unfold cutV
    rw [e1, HT.sIx_none]
    simp
  · rw [e1, List.length_append]
    simp
theorem cut_drop (xs : List V) (h : xs ≠ []) : cutV xs none (some (-1)) = xs.dropLast := by
  have e := (List.dropLast_concat_getLast h).symm
  rw [e, (cut_but' _ _).1]
  simp
theorem paired_take {α β : Type} {R : α → β → Prop} (n : Nat) : ∀ {xs : List α} {ys : List β}, Paired R xs ys → Paired R (xs.take n) (ys.take n) := by
  induction n with
  | zero => intro xs ys _; exact .nil
  | succ n ih =>
    intro xs ys h
    cases h with
    | nil => exact .nil
    | cons a t => exact .cons a (ih t)
theorem paired_app {α β : Type} {R : α → β → Prop} {xs xs' : List α} {ys ys' : List β} (h : Paired R xs ys) (k : Paired R xs' ys') : Paired R (xs ++ xs') (ys ++ ys') := by
  induction h with
  | nil => exact k
  | cons a _ ih => exact .cons a ih
theorem paired_drop {α β : Type} {R : α → β → Prop} {xs : List α} {ys : List β} (h : Paired R xs ys) : Paired R xs.dropLast ys.dropLast := by
  have e : ys.length = xs.length := (paired_len h).symm
  rw [List.dropLast_eq_take, List.dropLast_eq_take, e]
  exact paired_take _ h
def fiveD (b : Bool) : PyData := .list [.bool b, .bool b, .bool b, .bool b, .bool b]
theorem five_ok (b : Bool) : (fiveD b).showable = true ∧ (fiveD b).hasDict = false ∧ (fiveD b).depth ≤ 40 ∧ (fiveD b).shown.length ≤ sizeLine := by
  cases b <;> decide +kernel
theorem paired_rev {α β : Type} {R : α → β → Prop} {xs : List α} {ys : List β} (h : Paired R xs ys) : Paired R xs.reverse ys.reverse := by
  induction h with
  | nil => exact .nil
  | cons a t ih => rw [List.reverse_cons, List.reverse_cons]; exact paired_snoc ih a
section
variable {P : Program} {w : World} {K : PySem.W.Frag} {mg : Str → Option Value} {base : Heap} {tC tR tT : Tok}
theorem ok_right {f f1 f2 f3 : Addr} {fd fd1 fd2 fd3 : FuncData} (B : Blt mg tC tR tT) (Dl_right : Def K mg "_law_right" s_l_right ["_law_pond_here", "_law_span", "_law_ticks", "_law_pairs_here"] f fd) (Dl_fish : Def K mg "_law_fish" s_l_fish ["_law_pond_here", "_law_bound"] f1 fd1) (Dl_fit : Def K mg "_law_fit" s_l_fit ["_law_span", "_law_ticks", "_law_pairs_here"] f2 fd2) (Dfits : Def K mg "fits" s_fits ["cycle", "travel", "records"] f3 fd3) (Gl_fit : FnOk P w K mg base CX0 2 f2 fd2 ["_law_span", "_law_ticks", "_law_pairs_here"] spFit) (Gfits : FnOk P w K mg base CX0 4 f3 fd3 ["cycle", "travel", "records"] spFits) : FnG P w K mg base CX0 5 f fd ["_law_pond_here", "_law_span", "_law_ticks", "_law_pairs_here"] spRight51 := by
  have Gl_fish := ok_fish (P := P) (w := w) (base := base) B Dl_fish
  refine okG Dl_right.F scl_right (fun vs H Q E h => ?_) (fun cdv A outer s H vs Q E hf hr h => ⟨_, (pss_cons (ps_set (i := 4) scl_right.nd rfl (Or.inl rfl) (pe_call Gl_fit (hr.mono (by decide)) (by rfl) Dl_fit.g Dl_fit.F.kp Dl_fit.b .nil pass0 (pa_cons (pv 1) (pa_cons (pv 2) (pa_cons (pv 3) pa_nil)))))
  (pss_cons (ps_asg (pe_tup (pa_cons (pe_op op_add pe_int (pe_call Gl_fish (hr.mono (by decide)) (by rfl) Dl_fish.g Dl_fish.F.kp Dl_fish.b .nil pass0 (pa_cons (pv 0) (pa_cons (pe_op op_fdivW (pe_op op_powW pe_int pe_int) (pe_op op_add (pv 1) (pv 2))) pa_nil)))) (pa_cons (pe_call Gl_fish (hr.mono (by decide)) (by rfl) Dl_fish.g Dl_fish.F.kp Dl_fish.b .nil pass0 (pa_cons (pv 0) (pa_cons (pe_op op_powW pe_int pe_int) pa_nil))) pa_nil))) (pg_tup rfl (pgs_cons (pg_name (i := 5) scl_right.nd rfl (Or.inr rfl)) (pgs_cons (pg_name (i := 6) scl_right.nd rfl (Or.inr rfl)) pgs_nil))))
  (pss_cons (ps_setLc (i := 7) (own := [("_law_start", 8), ("_law_end_here", 9)]) (g := (gTup K 2 (gCons (gName 8) (gCons (gName 9) gNil)))) (tt := tYes) rfl scl_right.nd rfl rfl (sw_true rfl rfl rfl (by decide +kernel)) (pi_list (pv 3)) (blkOk_by (N := ["_law_pond_here", "_law_span", "_law_ticks", "_law_pairs_here", "_law_due", "_law_factor", "_law_far", "_law_great", "_law_start", "_law_end_here", "_law_moved", "_law_told"]) (sc := defScope s_l_right) (by decide +kernel)) (fun _ _ _ _ _ => (pg_tup rfl (pgs_cons (pg_name (i := 8) scl_right.nd rfl (Or.inl rfl)) (pgs_cons (pg_name (i := 9) scl_right.nd rfl (Or.inl rfl)) pgs_nil)))) (fun _ _ _ _ _ => pts_nil) (fun _ _ _ _ _ => (pe_tup (pa_cons (pe_op op_mulW (pv 8) (pv 5)) (pa_cons (pe_op op_mulW (pv 9) (pv 5)) pa_nil)))))
  (pss_cons (ps_setLc (i := 10) (own := [("_law_start", 8), ("_law_end_here", 9)]) (g := (gTup K 2 (gCons (gName 8) (gCons (gName 9) gNil)))) (tt := tYes) rfl scl_right.nd rfl rfl (sw_true rfl rfl rfl (by decide +kernel)) (pi_list (pe_revL (pv 3))) (blkOk_by (N := ["_law_pond_here", "_law_span", "_law_ticks", "_law_pairs_here", "_law_due", "_law_factor", "_law_far", "_law_great", "_law_start", "_law_end_here", "_law_moved", "_law_told"]) (sc := defScope s_l_right) (by decide +kernel)) (fun _ _ _ _ _ => (pg_tup rfl (pgs_cons (pg_name (i := 8) scl_right.nd rfl (Or.inl rfl)) (pgs_cons (pg_name (i := 9) scl_right.nd rfl (Or.inl rfl)) pgs_nil)))) (fun _ _ _ _ _ => pts_nil) (fun _ _ _ _ _ => (pe_tup (pa_cons (pe_op op_add (pv 8) (pe_op op_mulW (pv 6) (pv 1))) (pa_cons (pe_op op_add (pv 9) (pe_op op_mulW (pv 6) (pv 1))) pa_nil)))))
  (pss_cons (ps_set (i := 11) scl_right.nd rfl (Or.inl rfl) (pe_lst (pa_cons (pe_call Gfits (hr.mono (by decide)) (by rfl) Dfits.g Dfits.F.kp Dfits.b .nil pass0 (pa_cons (pv 1) (pa_cons (pv 2) (pa_cons (pv 3) pa_nil)))) (pa_cons (pe_call Gfits (hr.mono (by decide)) (by rfl) Dfits.g Dfits.F.kp Dfits.b .nil pass0 (pa_cons (pv 1) (pa_cons (pv 2) (pa_cons (pv 10) pa_nil)))) (pa_cons (pe_call Gfits (hr.mono (by decide)) (by rfl) Dfits.g Dfits.F.kp Dfits.b .nil pass0 (pa_cons (pe_op op_mulW (pv 1) (pv 5)) (pa_cons (pe_op op_mulW (pv 2) (pv 5)) (pa_cons (pv 7) pa_nil)))) pa_nil)))))
  (pss_cons (ps_set (i := 11) scl_right.nd rfl (Or.inl rfl) (pe_op op_cat (pv 11) (pe_lst (pa_cons (pe_call Gfits (hr.mono (by decide)) (by rfl) Dfits.g Dfits.F.kp Dfits.b .nil pass0 (pa_cons (pv 1) (pa_cons (pv 2) (pa_cons (pe_slice sl_list (pe_op op_cat (pv 3) (pv 3)) po_none (po_some pe_int)) pa_nil)))) (pa_cons (pe_call Gfits (hr.mono (by decide)) (by rfl) Dfits.g Dfits.F.kp Dfits.b .nil pass0 (pa_cons (pv 1) (pa_cons (pv 2) (pa_cons (pe_op op_cat (pe_slice sl_list (pv 10) po_none (po_some pe_int)) (pe_slice sl_list (pv 3) po_none (po_some (pe_un un_neg pe_int)))) pa_nil)))) pa_nil)))))
  (pss_one (ps_ret (pe_cmpR op_eq (pe_callB (call_reprA hf hr.units) (by rfl) B.n_repr (by decide +kernel) (pa_cons (pv 11) pa_nil)) (pe_callB (call_reprA hf hr.units) (by rfl) B.n_repr (by decide +kernel) (pa_cons (pe_op op_rep (pe_lst (pa_cons (pv 4) pa_nil)) pe_int) pa_nil)) (nomark _)))))))))), ?_⟩)
  · obtain ⟨p, a, c, t, n, rs, rfl, _⟩ := h; rfl
  · obtain ⟨p, a, c, t, n, rs, rfl, pd, hn, c1, c2, t0, t1, ⟨xs, ha, hX⟩, nap, l1, l40, sm, q⟩ := h
    have lx := paired_len hX
    have two : 2 ≤ sizeLine := by decide
    refine ⟨_, rfl, _, rfl, _, rfl, c, t, a, rs, rfl, c1, ⟨xs, ha, hX⟩, l40, fun H1 s1 => ?_⟩
    have k30 : (10 : Int) ^ (30 : Int).toNat = 10 ^ 30 := rfl
    have k40 : (10 : Int) ^ (40 : Int).toNat = 10 ^ 40 := rfl
    have cp40 : CPowW 10 40 := ⟨by decide, by decide +kernel⟩
    have ct : (c + t).natAbs < 2 ^ 110 := by omega
    have cd : CDivW ((10 : Int) ^ (30 : Int).toNat) (c + t) := wide_div (b := 110) (by omega) ct (by decide) (by decide)
    obtain ⟨M, hM⟩ : ∃ M, M = (10 : Int) ^ (30 : Int).toNat / (c + t) := ⟨_, rfl⟩
    have M1 : 1 ≤ M ∧ M ≤ 10 ^ 30 ∧ M * (c + t) ≤ 10 ^ 30 := by
      have g : (2000 : Int) ≤ 10 ^ 30 := by decide +kernel
      have m0 := Int.ediv_mul_le ((10 : Int) ^ 30) (show c + t ≠ 0 by omega)
      have m1 := Int.emod_add_mul_ediv ((10 : Int) ^ 30) (c + t)
      have m2 := Int.emod_lt_of_pos ((10 : Int) ^ 30) (show 0 < c + t by omega)
      rw [k30] at hM
      rw [← hM] at m0 m1
      have h1 : 1 ≤ M := by
        rcases Int.lt_or_le M 1 with z | z
        · have : (c + t) * M ≤ (c + t) * 0 := Int.mul_le_mul_of_nonneg_left (by omega) (by omega)
          rw [Int.mul_zero] at this
          omega
        · exact z
      refine ⟨h1, ?_, m0⟩
      have : M * 1 ≤ M * (c + t) := Int.mul_le_mul_of_nonneg_left (by omega) (by omega)
      omega
    have pd1 := pd.same s1
    have q100 : (10 : Int) ^ 30 ≤ 10 ^ 100 ∧ (10 : Int) ^ 40 ≤ 10 ^ 100 := by decide +kernel
    refine ⟨_, rfl, _, _, rfl, rfl, cp30, _, rfl, _, rfl, _, _, rfl, rfl, _, _, rfl, rfl, cd, p, M, n, by rw [hM]; rfl, pd1, by omega, M1.1, by omega, fun r H2 b2 pd2 r0 r1 => ⟨_, _, rfl, rfl, _, rfl, _, _, rfl, rfl, cp40, p, 10 ^ (40 : Int).toNat, _, rfl, pd2, by omega, by rw [k40]; decide +kernel, by rw [k40]; omega, fun g H3 b3 pd3 g0 g1 => ⟨two, fun T hT => ?_⟩⟩⟩
    refine ⟨T, _, rfl, SqT.of upd_same, rfl, _, _, rfl, _, _, rfl, rfl, ?_⟩
    have mb : ∀ k j : Int, k.natAbs < 2 ^ 200 → j.natAbs < 2 ^ 200 → CMulW k j := fun k j h h' => wide_mul (a := 200) (b := 200) h h' (by decide) (by decide) (by decide)
    have q200 : (10 : Int) ^ 30 + 1 < ((2 ^ 200 : Nat) : Int) ∧ (10 : Int) ^ 40 < ((2 ^ 200 : Nat) : Int) ∧ (10 : Int) ^ 30 * 10 ^ 7 < ((2 ^ 300 : Nat) : Int) ∧ (10 : Int) ^ 40 * 10 ^ 7 < ((2 ^ 300 : Nat) : Int) := by decide +kernel
    obtain ⟨fa, efa⟩ : ∃ fa, fa = 1 + r := ⟨_, rfl⟩
    have f1 : 1 ≤ fa ∧ fa ≤ M := by omega
    have fb : fa.natAbs < 2 ^ 200 := by omega
    have gb : g.natAbs < 2 ^ 200 := by rw [k40] at g1; omega
    obtain ⟨u1, hu1⟩ := pd1.some
    obtain ⟨u2, hu2⟩ := pd2.some
    have sT := Same.new hT (o := .tup [.int (1 + r), .int g])
    have ha4 := sT _ _ (b3 _ _ nap (b2 _ _ nap (s1 _ _ ha)))
    have hX4 := rcs_mono sT (rcs_but b3 hu2 (rcs_but b2 hu1 (rcs_mono s1 hX)))
    have pd4 := pd3.same sT
    have bH4 : But p H (upd H3 T (.tup [.int (1 + r), .int g])) := (((Same.but s1).trans b2).trans b3).trans (Same.but sT)
    generalize upd H3 T (HO.tup [.int (1 + r), .int g]) = H4 at ha4 hX4 pd4 bH4 ⊢
    refine ⟨_, rfl, a, rfl, ⟨_, SqL.of ha4⟩, fun D hD => ?_⟩
    refine lc_list (xs := xs) (fun i H' => Same H4 H' ∧ ∃ acc, H' D = some (.lst acc) ∧ Paired (RcAt H') acc ((rs.take i).map (scR fa))) ⟨Same.new hD, [], upd_same, .nil⟩ (fun i H' _ ⟨s1, _⟩ => SqL.of (s1 _ _ ha4)) ?_ ?_
    · rintro i x H' hx ⟨s5, acc, e5, hA⟩
      obtain ⟨⟨z1, z2⟩, hz, b, rfl, hb⟩ := paired_at hX4 hx
      have hi := (List.getElem?_eq_some_iff.mp hz).1
      obtain ⟨sm1, sm2⟩ := sm _ (List.mem_of_getElem? hz)
      have la := paired_len hA
      rw [List.length_map, List.length_take] at la
      simp only [] at sm1 sm2
      refine ⟨b, _, rfl, SqT.of (s5 _ _ hb), rfl, _, _, rfl, _, _, rfl, rfl, rfl, _, rfl, _, rfl, _, _, rfl, rfl, mb _ _ (by omega) (by rw [← efa]; exact fb), _, rfl, _, rfl, _, _, rfl, rfl, mb _ _ (by omega) (by rw [← efa]; exact fb), two, fun T2 hT2 => ?_⟩
      have nTD : T2 ≠ D := fun e => by rw [e, e5] at hT2; cases hT2
      have e6 := Same.new hT2 (o := .tup [.int (z1 * (1 + r)), .int (z2 * (1 + r))]) _ _ e5
      refine ⟨acc, e6, smallL (by omega), same_upd (s5.trans (Same.new hT2)) hD, _, upd_same, ?_⟩
      rw [List.take_add_one, hz, List.map_append]
      refine paired_snoc (L2.Paired.mapP hA fun _ _ h => rc_upd e6 (h.mono (Same.new hT2))) ⟨T2, rfl, ?_⟩
      rw [upd_ne nTD, upd_same, efa]; rfl
    · rintro H5 ⟨s5, gx, e5, hG⟩
      rw [lx, List.take_of_length_le (Nat.le_refl _)] at hG
      have ha5 := s5 _ _ ha4
      have hX5 := rcs_mono s5 hX4
      have pd5 := pd4.same s5
      have bH5 := bH4.trans (Same.but s5)
      refine ⟨_, rfl, a, _, rfl, SqL.of ha5, fun R hR => ⟨R, rfl, ⟨_, SqL.of upd_same⟩, fun D2 hD2 => ?_⟩⟩
      have lr : xs.reverse.length = rs.reverse.length := by rw [List.length_reverse, List.length_reverse]; exact lx
      have sR := Same.new hR (o := .lst xs.reverse)
      have hXr : Paired (RcAt (upd H5 R (.lst xs.reverse))) xs.reverse rs.reverse := paired_rev (rcs_mono sR hX5)
      have eR : (upd H5 R (.lst xs.reverse)) R = some (.lst xs.reverse) := upd_same
      have e5R := sR _ _ e5
      have ha5R := sR _ _ ha5
      have hX5R := rcs_mono sR hX5
      have hGR := rcs_mono sR hG
      have pd5R := pd5.same sR
      have bH5R := bH5.trans (Same.but sR)
      generalize upd H5 R (HO.lst xs.reverse) = H6 at hXr eR e5R ha5R hX5R hGR pd5R bH5R hD2 ⊢
      refine lc_list (xs := xs.reverse) (fun i H' => Same H6 H' ∧ ∃ acc, H' D2 = some (.lst acc) ∧ Paired (RcAt H') acc ((rs.reverse.take i).map (mvR c g))) ⟨Same.new hD2, [], upd_same, .nil⟩ (fun i H' _ ⟨s1, _⟩ => SqL.of (s1 _ _ eR)) ?_ ?_
      · rintro i x H' hx ⟨s6, acc, e6, hA⟩
        obtain ⟨⟨z1, z2⟩, hz, b, rfl, hb⟩ := paired_at hXr hx
        have hi := (List.getElem?_eq_some_iff.mp hz).1
        rw [List.length_reverse] at hi
        have la := paired_len hA
        rw [List.length_map, List.length_take, List.length_reverse] at la
        refine ⟨b, _, rfl, SqT.of (s6 _ _ hb), rfl, _, _, rfl, _, _, rfl, rfl, rfl, ?_⟩
        refine ⟨_, rfl, _, rfl, _, rfl, _, _, rfl, rfl, mb _ _ gb (by omega), _, _, rfl, rfl, _, rfl, _, rfl, _, rfl, _, _, rfl, rfl, mb _ _ gb (by omega), _, _, rfl, rfl, two, fun T2 hT2 => ?_⟩
        have nTD : T2 ≠ D2 := fun e => by rw [e, e6] at hT2; cases hT2
        have e7 := Same.new hT2 (o := .tup [.int (z1 + g * c), .int (z2 + g * c)]) _ _ e6
        refine ⟨acc, e7, smallL (by omega), same_upd (s6.trans (Same.new hT2)) hD2, _, upd_same, ?_⟩
        rw [List.take_add_one, hz, List.map_append]
        refine paired_snoc (L2.Paired.mapP hA fun _ _ h => rc_upd e7 (h.mono (Same.new hT2))) ⟨T2, rfl, ?_⟩
        rw [upd_ne nTD, upd_same]; rfl
      · rintro H7 ⟨s7, mx, e7, hM7⟩
        rw [lr, List.take_of_length_le (Nat.le_refl _)] at hM7
        have ha7 := s7 _ _ ha5R
        have hX7 := rcs_mono s7 hX5R
        have hG7 := rcs_mono s7 hGR
        have eD7 := s7 _ _ e5R
        have pd7 := pd5R.same s7
        have bH7 := bH5R.trans (Same.but s7)
        have lm := paired_len hM7
        have lg := paired_len hG
        rw [List.length_map, List.length_reverse] at lm
        rw [List.length_map] at lg
        have smR : ∀ r ∈ rs, SmR r := fun r hr => by
          obtain ⟨h1, h2⟩ := sm r hr
          have z : 1000000 < 2 ^ 300 := by decide +kernel
          exact ⟨by omega, by omega⟩
        have gc : g * c ≤ 10 ^ 40 * 30 := Int.le_trans (Int.mul_le_mul_of_nonneg_left c2 g0) (Int.mul_le_mul_of_nonneg_right (by rw [k40] at g1; omega) (by decide))
        have gc0 : 0 ≤ g * c := Int.mul_nonneg g0 (by omega)
        have q300 : (10 : Int) ^ 40 * 30 + 1000000 < ((2 ^ 300 : Nat) : Int) ∧ (10 : Int) ^ 30 * 1000000 < ((2 ^ 300 : Nat) : Int) := by decide +kernel
        have mvS : ∀ r : Rc, (r.1.natAbs ≤ 1000000 ∧ r.2.natAbs ≤ 1000000) → SmR (mvR c g r) := fun r h => by
          unfold SmR mvR
          simp only []
          omega
        have smM : ∀ r ∈ rs.reverse.map (mvR c g), SmR r := fun r hr => by
          obtain ⟨r', hr', rfl⟩ := List.mem_map.mp hr
          exact mvS r' (sm r' (List.mem_reverse.mp hr'))
        have smG : ∀ r ∈ rs.map (scR fa), SmR r := fun r hr => by
          obtain ⟨⟨x1, x2⟩, hr', rfl⟩ := List.mem_map.mp hr
          obtain ⟨h1, h2⟩ := sm _ hr'
          simp only [] at h1 h2
          have m1 : x1.natAbs * fa.natAbs ≤ 1000000 * fa.natAbs := Nat.mul_le_mul_right _ h1
          have m2 : x2.natAbs * fa.natAbs ≤ 1000000 * fa.natAbs := Nat.mul_le_mul_right _ h2
          rw [← Int.natAbs_mul] at m1 m2
          unfold SmR scR
          simp only []
          have : (1000000 * fa.natAbs : Nat) < 2 ^ 300 := by omega
          exact ⟨by omega, by omega⟩
        have cf : c * fa ≤ 10 ^ 30 ∧ t * fa ≤ 10 ^ 30 := by
          have h1 : fa * (c + t) ≤ M * (c + t) := Int.mul_le_mul_of_nonneg_right f1.2 (by omega)
          have h2 : fa * c ≤ fa * (c + t) := Int.mul_le_mul_of_nonneg_left (by omega) (by omega)
          have h3 : fa * t ≤ fa * (c + t) := Int.mul_le_mul_of_nonneg_left (by omega) (by omega)
          rw [Int.mul_comm c, Int.mul_comm t]
          omega
        have cf1 : 1 * 1 ≤ c * fa := Int.mul_le_mul c1 f1.1 (by decide) (by omega)
        have tf0 : 0 ≤ t * fa := Int.mul_nonneg t0 (by omega)
        have c30 : (30 : Int) ≤ 10 ^ 30 ∧ (1000 : Int) ≤ 10 ^ 30 := by decide +kernel
        obtain ⟨d, ed⟩ : ∃ d, d = fitB c t rs := ⟨_, rfl⟩
        show gName 10 (V.ref D2) [some (.ref p), some (.int c), some (.int t), some (.ref a), some (.bl (fitB c t rs)), some (.int (1 + r)), some (.int g), some (.ref D), none, none, none, none] H7 _
        rw [← ed, ← efa]
        refine ⟨_, rfl, _, rfl, _, rfl, c, t, a, rs, rfl, c1, by omega, t0, by omega, ⟨xs, ha7, hX7⟩, l1, l40, smR, fun H8 s8 => ?_⟩
        refine ⟨_, rfl, _, rfl, _, rfl, c, t, D2, _, rfl, c1, by omega, t0, by omega, ⟨mx, s8 _ _ e7, rcs_mono s8 hM7⟩, by rw [List.length_map, List.length_reverse]; exact l1, by rw [List.length_map, List.length_reverse]; exact l40, smM, fun H9 s9 => ?_⟩
        refine ⟨_, rfl, _, rfl, _, _, rfl, rfl, mb _ _ (by omega) fb, _, rfl, _, rfl, _, _, rfl, rfl, mb _ _ (by omega) fb, _, rfl, c * fa, t * fa, D, _, rfl, by omega, cf.1, tf0, cf.2, ⟨gx, s9 _ _ (s8 _ _ eD7), rcs_mono s9 (rcs_mono s8 hG7)⟩, by rw [List.length_map]; exact l1, by rw [List.length_map]; exact l40, smG, fun HA sA => ⟨(by show 3 ≤ sizeLine; decide), fun L1 hL1 => ?_⟩⟩
        rw [fit_back c1, fit_sc f1.1, ← ed]
        have s7A := (s8.trans s9).trans sA
        have sL := Same.new hL1 (o := .lst [.bl d, .bl d, .bl d])
        have s7L := s7A.trans sL
        have eL : (upd HA L1 (.lst [.bl d, .bl d, .bl d])) L1 = some (.lst [.bl d, .bl d, .bl d]) := upd_same
        generalize upd HA L1 (HO.lst [.bl d, .bl d, .bl d]) = HL at sL s7L eL ⊢
        have haL := s7L _ _ ha7
        refine ⟨_, rfl, _, rfl, _, rfl, _, rfl, _, rfl, a, a, xs, xs, rfl, rfl, haL, haL, Nat.le_of_lt (smallL (by omega)), fun W hW => ?_⟩
        refine ⟨40, rfl, W, _, rfl, SqL.of upd_same, fun U hU => ?_⟩
        have ec : cutV (xs ++ xs) none (some (40 : Int)) = (xs ++ xs).take 40 := cut_hiA _ 40
        rw [ec]
        have sU := (Same.new hW (o := .lst (xs ++ xs))).trans (Same.new hU (o := .lst ((xs ++ xs).take 40)))
        have eU : (upd (upd HL W (.lst (xs ++ xs))) U (.lst ((xs ++ xs).take 40))) U = some (.lst ((xs ++ xs).take 40)) := upd_same
        generalize upd (upd HL W (.lst (xs ++ xs))) U (.lst ((xs ++ xs).take 40)) = HU at sU eU ⊢
        have s7U := s7L.trans sU
        have h2 := paired_app hX7 hX7
        refine ⟨c, t, U, (rs ++ rs).take 40, rfl, c1, by omega, t0, by omega, ⟨_, eU, rcs_mono s7U (paired_take 40 h2)⟩, by rw [List.length_take, List.length_append]; omega, by rw [List.length_take]; omega, fun r hr => ?_, fun HB sB => ?_⟩
        · rcases List.mem_append.mp (List.mem_of_mem_take hr) with h | h <;> exact smR r h
        rw [fit_two c1 l40, ← ed]
        have s7B := s7U.trans sB
        refine ⟨_, rfl, _, rfl, _, rfl, 1, rfl, D2, _, rfl, SqL.of (s7B _ _ e7), fun V1 hV1 => ?_⟩
        have ec1 : cutV mx none (some (1 : Int)) = mx.take 1 := cut_hiA _ 1
        rw [ec1]
        refine ⟨_, rfl, ?_⟩
        have sV1 := Same.new hV1 (o := .lst (mx.take 1))
        have eV1 : (upd HB V1 (.lst (mx.take 1))) V1 = some (.lst (mx.take 1)) := upd_same
        generalize upd HB V1 (.lst (mx.take 1)) = HV at sV1 eV1 ⊢
        have s7V := s7B.trans sV1
        have xne : xs ≠ [] := fun e => by rw [e] at lx; simp at lx; omega
        have rne : rs ≠ [] := fun e => by rw [e] at l1; simp at l1
        refine ⟨1, rfl, -1, rfl, a, _, rfl, SqL.of (s7V _ _ ha7), fun V2 hV2 => ?_⟩
        have ec2 : cutV xs none (some (-1 : Int)) = xs.dropLast := cut_drop xs xne
        rw [show -(1 : Int) = -1 from rfl, ec2]
        have sV2 := Same.new hV2 (o := .lst xs.dropLast)
        have eV2 : (upd HV V2 (.lst xs.dropLast)) V2 = some (.lst xs.dropLast) := upd_same
        have eV12 := sV2 _ _ eV1
        generalize upd HV V2 (.lst xs.dropLast) = HW at sV2 eV2 eV12 ⊢
        have s7W := s7V.trans sV2
        refine ⟨V1, V2, _, _, rfl, rfl, eV12, eV2, Nat.le_of_lt (smallL (by rw [List.length_take, List.length_dropLast]; omega)), fun V3 hV3 => ?_⟩
        have s7X := s7W.trans (Same.new hV3 (o := .lst (mx.take 1 ++ xs.dropLast)))
        have sLX := (((sU.trans sB).trans sV1).trans sV2).trans (Same.new hV3 (o := .lst (mx.take 1 ++ xs.dropLast)))
        have eV3 : (upd HW V3 (.lst (mx.take 1 ++ xs.dropLast))) V3 = some (.lst (mx.take 1 ++ xs.dropLast)) := upd_same
        generalize upd HW V3 (.lst (mx.take 1 ++ xs.dropLast)) = HX at s7X sLX eV3 ⊢
        refine ⟨c, t, V3, (rs.reverse.map (mvR c g)).take 1 ++ rs.dropLast, rfl, c1, by omega, t0, by omega, ⟨_, eV3, paired_app (paired_take 1 (rcs_mono s7X hM7)) (paired_drop (rcs_mono s7X hX7))⟩, ?_, ?_, fun r hr => ?_, fun HY sY => ⟨two, fun L2 hL2 => ?_⟩⟩
        · rw [List.length_append, List.length_take, List.length_map, List.length_reverse]; omega
        · rw [List.length_append, List.length_take, List.length_map, List.length_reverse, List.length_dropLast]; omega
        · rcases List.mem_append.mp hr with h | h
          · exact smM r (List.mem_of_mem_take h)
          · exact smR r ((List.dropLast_sublist rs).subset h)
        rw [fit_turn c1 rne, ← ed]
        have eL7 : HY L1 = some (.lst [.bl d, .bl d, .bl d]) := sY _ _ (sLX _ _ eL)
        have s7Y := s7X.trans sY
        refine ⟨L1, L2, _, _, rfl, rfl, Same.new hL2 _ _ eL7, upd_same, Nat.le_of_lt (smallL (by simp)), fun L3 hL3 => ?_⟩
        have s7Z := (s7Y.trans (Same.new hL2)).trans (Same.new hL3 (o := .lst ([.bl d, .bl d, .bl d] ++ [.bl d, .bl d])))
        have eL3 : (upd (upd HY L2 (.lst [.bl d, .bl d])) L3 (.lst ([.bl d, .bl d, .bl d] ++ [.bl d, .bl d]))) L3 = some (.lst [.bl d, .bl d, .bl d, .bl d, .bl d]) := upd_same
        generalize upd (upd HY L2 (.lst [.bl d, .bl d])) L3 (.lst ([.bl d, .bl d, .bl d] ++ [.bl d, .bl d])) = HZ at s7Z eL3 ⊢
        obtain ⟨v1, v2, v3, v4⟩ := five_ok d
        refine ⟨_, rfl, .ref L3, fiveD d, rfl, .lst (SqL.of eL3) (.cons (.bl d) (.cons (.bl d) (.cons (.bl d) (.cons (.bl d) (.cons (.bl d) .nil))))), v1, v2, v3, v4, (fun y e => nomatch e), ?_⟩
        refine ⟨_, rfl, (by show 1 ≤ sizeLine; decide), fun L4 hL4 => ⟨L4, 5, _, rfl, rfl, upd_same, by decide, by decide, (by show 5 ≤ sizeLine; decide), fun L5 hL5 => ?_⟩⟩
        refine ⟨.ref L5, fiveD d, rfl, .lst (SqL.of upd_same) (.cons (.bl d) (.cons (.bl d) (.cons (.bl d) (.cons (.bl d) (.cons (.bl d) .nil))))), v1, v2, v3, v4, (fun y e => nomatch e), ?_⟩
        refine ⟨rfl, ?_⟩
        rw [decide_eq_true (show V.str (fiveD d).shown = V.str (fiveD d).shown from rfl)]
        have sF := (s7Z.trans (Same.new hL4 (o := .lst [.bl d]))).trans (Same.new hL5 (o := .lst (List.replicate (Int.toNat 5) [V.bl d]).flatten))
        exact q _ (bH7.trans (Same.but sF)) ((pd7.same sF).mono (by omega))
end
end Gr

set_option Elab.async false
set_option linter.all false
set_option pp.deepTerms false
set_option pp.maxSteps 3000
set_option maxRecDepth 100000
set_option maxHeartbeats 8000000
set_option exponentiation.threshold 3000
namespace Gr
open PySem PySem.Spec PyProof.Rows L2
def spLaw (K : PySem.W.Frag) : Sp := fun vs H Q _ => ∃ (a : Addr) (ns : List Int), vs = [.ref a] ∧ SqL K H a (ns.map V.int) ∧ ns.length ≤ 63 ∧ ∀ H', Q (.bl true) H'
theorem cut_lo (xs : List V) (m : Nat) (hm : m ≤ xs.length) : cutV xs (some (m : Int)) none = xs.drop m := by
  unfold cutV
  rw [HT.sIx_nat, HT.sIx_none, Nat.min_eq_left hm, List.take_of_length_le (by rw [List.length_drop]; exact Nat.le_refl _)]
theorem paired_dropN {α β : Type} {R : α → β → Prop} (n : Nat) : ∀ {xs : List α} {ys : List β}, Paired R xs ys → Paired R (xs.drop n) (ys.drop n) := by
  induction n with
  | zero => intro xs ys h; exact h
  | succ n ih =>
    intro xs ys h
    cases h with
    | nil => exact .nil
    | cons a t => exact ih t
theorem and_two {c : Bool} {X : TT} {σ : L2.St} {H : Hp} {K' : Bool → Hp → Prop} (h : ∀ H', Same H H' → K' false H') (hX : c = true → (∀ H', Same H H' → K' false H') → X σ H K') : if c = true then X σ H K' else K' false H := by
  cases c with
  | true => exact hX rfl h
  | false => exact h H (Same.refl H)
theorem ite_ints {b : Bool} {x y : Int} {σ : L2.St} {H : Hp} {Q : VK} (h : ∀ m : Int, m = x ∨ m = y → Q (.int m) H) : if b = true then L2.tC (V.int x) σ H Q else L2.tC (V.int y) σ H Q := by
  cases b with
  | true => exact h x (.inl rfl)
  | false => exact h y (.inr rfl)
theorem But.same {p : Addr} {H H1 H2 : Hp} (b : But p H1 H2) (s : Same H H1) (hp : H p = none) : Same H H2 := fun q o e => b q o (ne_of_none e hp) (s q o e)
section
variable {P : Program} {w : World} {K : PySem.W.Frag} {mg : Str → Option Value} {base : Heap} {tC tR tT : Tok}
theorem ok_law {f f1 f2 f3 f4 f5 f6 f7 : Addr} {fd fd1 fd2 fd3 fd4 fd5 fd6 fd7 : FuncData} (B : Blt mg tC tR tT) (Dlaw : Def K mg "law" s_law ["_law_script"] f fd) (Dl_fish : Def K mg "_law_fish" s_l_fish ["_law_pond_here", "_law_bound"] f1 fd1) (Dl_pond : Def K mg "_law_pond" s_l_pond ["_law_script", "_law_k"] f2 fd2) (Dl_shape : Def K mg "_law_shape" s_l_shape ["_law_pond_here", "_law_span", "_law_wide"] f3 fd3) (Dl_pairs : Def K mg "_law_pairs" s_l_pairs ["_law_pond_here", "_law_span", "_law_blocks", "_law_many"] f4 fd4) (Dl_right : Def K mg "_law_right" s_l_right ["_law_pond_here", "_law_span", "_law_ticks", "_law_pairs_here"] f5 fd5) (Dfits : Def K mg "fits" s_fits ["cycle", "travel", "records"] f6 fd6) (Dl_end : Def K mg "_law_end" s_l_end ["_law_span", "_law_blocks", "_law_t"] f7 fd7)
    (Gl_right : FnG P w K mg base CX0 5 f5 fd5 ["_law_pond_here", "_law_span", "_law_ticks", "_law_pairs_here"] spRight51) (Gfits : FnOk P w K mg base CX0 4 f6 fd6 ["cycle", "travel", "records"] spFits) : FnG P w K mg base CX0 6 f fd ["_law_script"] (spLaw K) := by
  have Gl_fish := ok_fish (P := P) (w := w) (base := base) B Dl_fish
  have Gl_pond := ok_pond (P := P) (w := w) (base := base) B Dl_pond
  have Gl_shape := ok_shape (P := P) (w := w) (base := base) B Dl_shape Dl_fish
  have Gl_pairs := ok_pairs (P := P) (w := w) (base := base) B Dl_pairs Dl_fish Dl_end
  refine okG Dlaw.F sclaw (fun vs H Q E h => ?_) (fun cdv A outer s H vs Q E hf hr h => ⟨_, (pss_cons (ps_for PassesOwn.never rfl (pi_range1 (by rfl) B.range (pa_cons (pe_callB (call_max2 rfl) (by rfl) B.n_max (by decide +kernel) (pa_cons pe_int (pa_cons (pe_callB (call_min2 rfl) (by rfl) B.n_min (by decide +kernel) (pa_cons pe_int (pa_cons (pe_callB call_len_seq (by rfl) B.len PySem.boot_len (pa_cons (pv 0) pa_nil)) pa_nil))) pa_nil))) pa_nil)) (pg_name (i := 1) sclaw.nd rfl (Or.inl rfl))
   (pss_cons (ps_set (i := 2) sclaw.nd rfl (Or.inl rfl) (pe_call Gl_pond (hr.mono (by decide)) (by rfl) Dl_pond.g Dl_pond.F.kp Dl_pond.b .nil pass0 (pa_cons (pv 0) (pa_cons (pv 1) pa_nil))))
  (pss_one (ps_for PassesOwn.never rfl (pi_range1 (by rfl) B.range (pa_cons pe_int pa_nil)) (pg_name (i := 3) sclaw.nd rfl (Or.inl rfl))
   (pss_cons (ps_set (i := 4) sclaw.nd rfl (Or.inr rfl) (pe_ix ix_list (pe_lst (pa_cons (pe_op op_add pe_int (pe_call Gl_fish (hr.mono (by decide)) (by rfl) Dl_fish.g Dl_fish.F.kp Dl_fish.b .nil pass0 (pa_cons (pv 2) (pa_cons pe_int pa_nil)))) (pa_cons pe_int (pa_cons pe_int (pa_cons pe_int pa_nil))))) (pe_call Gl_fish (hr.mono (by decide)) (by rfl) Dl_fish.g Dl_fish.F.kp Dl_fish.b .nil pass0 (pa_cons (pv 2) (pa_cons pe_int pa_nil))) (fun _ _ => rfl)))
  (pss_cons (ps_set (i := 5) sclaw.nd rfl (Or.inl rfl) (pe_call Gl_shape (hr.mono (by decide)) (by rfl) Dl_shape.g Dl_shape.F.kp Dl_shape.b .nil pass0 (pa_cons (pv 2) (pa_cons (pv 4) (pa_cons (pe_op op_add (pe_op op_mulW pe_int (pv 4)) pe_int) pa_nil)))))
  (pss_cons (ps_setLc (i := 5) (own := [("_law_end_here", 6), ("_law_rises", 7)]) (g := (gTup K 2 (gCons (gName 6) (gCons (gName 7) gNil)))) (tt := tYes) rfl sclaw.nd rfl rfl (sw_true rfl rfl rfl (by decide +kernel)) (pi_list (pv 5)) (blkOk_by (N := ["_law_script", "_law_k", "_law_pond_here", "_law_turn", "_law_span", "_law_blocks", "_law_end_here", "_law_rises", "_law_low", "_law_t", "_law_many", "_law_pairs_here", "_law_ticks", "_law_spot", "_law_other"]) (sc := defScope s_law) (by decide +kernel)) (fun _ _ _ _ _ => (pg_tup rfl (pgs_cons (pg_name (i := 6) sclaw.nd rfl (Or.inl rfl)) (pgs_cons (pg_name (i := 7) sclaw.nd rfl (Or.inl rfl)) pgs_nil)))) (fun _ _ _ _ _ => pts_nil) (fun _ _ _ _ _ => (pe_tup (pa_cons (pe_op op_add (pe_op op_add (pv 6) (pv 4)) pe_int) (pa_cons (pv 7) pa_nil)))))
  (pss_cons (ps_set (i := 8) sclaw.nd rfl (Or.inl rfl) (pe_callB (cr_min rfl) (by rfl) B.n_min (by decide +kernel) (pa_cons (pe_lc (own := [("_law_t", 9), ("_law_end_here", 6), ("_law_rises", 7)]) (g := (gTup K 2 (gCons (gName 9) (gCons (gTup K 2 (gCons (gName 6) (gCons (gName 7) gNil))) gNil)))) (tt := tYes) rfl sclaw.nd (pi_enum (by rfl) B.n_enumerate (pa_cons (pv 5) pa_nil)) (blkOk_by (N := ["_law_script", "_law_k", "_law_pond_here", "_law_turn", "_law_span", "_law_blocks", "_law_end_here", "_law_rises", "_law_low", "_law_t", "_law_many", "_law_pairs_here", "_law_ticks", "_law_spot", "_law_other"]) (sc := defScope s_law) (by decide +kernel)) (fun _ _ _ _ _ => (pg_tup rfl (pgs_cons (pg_name (i := 9) sclaw.nd rfl (Or.inl rfl)) (pgs_cons (pg_tup rfl (pgs_cons (pg_name (i := 6) sclaw.nd rfl (Or.inl rfl)) (pgs_cons (pg_name (i := 7) sclaw.nd rfl (Or.inl rfl)) pgs_nil))) pgs_nil)))) (fun _ _ _ _ _ => pts_nil) (fun _ _ _ _ _ => (pe_op op_sub (pv 6) (pv 9)))) pa_nil)))
  (pss_cons (ps_set (i := 10) sclaw.nd rfl (Or.inl rfl) (pe_op op_add pe_int (pe_call Gl_fish (hr.mono (by decide)) (by rfl) Dl_fish.g Dl_fish.F.kp Dl_fish.b .nil pass0 (pa_cons (pv 2) (pa_cons (pe_ix ix_list (pe_lst (pa_cons pe_int (pa_cons (pe_ifExp (pt_cmpR op_eq (pv 1) pe_int (nomark _)) pe_int pe_int) pa_nil))) (pe_call Gl_fish (hr.mono (by decide)) (by rfl) Dl_fish.g Dl_fish.F.kp Dl_fish.b .nil pass0 (pa_cons (pv 2) (pa_cons pe_int pa_nil))) (fun _ _ => rfl)) pa_nil)))))
  (pss_cons (ps_set (i := 11) sclaw.nd rfl (Or.inl rfl) (pe_call Gl_pairs (hr.mono (by decide)) (by rfl) Dl_pairs.g Dl_pairs.F.kp Dl_pairs.b .nil pass0 (pa_cons (pv 2) (pa_cons (pv 4) (pa_cons (pv 5) (pa_cons (pv 10) pa_nil))))))
  (pss_cons (ps_set (i := 12) sclaw.nd rfl (Or.inl rfl) (pe_callB (call_max2 rfl) (by rfl) B.n_max (by decide +kernel) (pa_cons pe_int (pa_cons (pe_op op_add (pv 8) (pe_ix ix_list (pe_lst (pa_cons pe_int (pa_cons pe_int (pa_cons pe_int (pa_cons (pe_un un_neg pe_int) (pa_cons (pe_op op_sub pe_int (pe_call Gl_fish (hr.mono (by decide)) (by rfl) Dl_fish.g Dl_fish.F.kp Dl_fish.b .nil pass0 (pa_cons (pv 2) (pa_cons pe_int pa_nil)))) pa_nil)))))) (pe_call Gl_fish (hr.mono (by decide)) (by rfl) Dl_fish.g Dl_fish.F.kp Dl_fish.b .nil pass0 (pa_cons (pv 2) (pa_cons pe_int pa_nil))) (fun _ _ => rfl))) pa_nil))))
  (pss_cons (ps_if (PW.pt (pw_or (pt_not (pt_val (pe_callG Gl_right hf (hr.mono (by decide)) (by rfl) Dl_right.g Dl_right.F.kp Dl_right.b .nil pass0 (pa_cons (pv 2) (pa_cons (pv 4) (pa_cons (pv 12) (pa_cons (pv 11) pa_nil))))))) (pw_or1 (PW.pt (pw_and (pt_cmpR op_ge (pv 8) (pv 12) (nomark _)) (pw_and1 (pt_not (pt_val (pe_call Gfits (hr.mono (by decide)) (by rfl) Dfits.g Dfits.F.kp Dfits.b .nil pass0 (pa_cons (pv 4) (pa_cons (pv 12) (pa_cons (pv 11) pa_nil))))))))))))
   (pss_one (ps_ret pe_bl))
   pss_nil)
  (pss_cons (ps_set (i := 13) sclaw.nd rfl (Or.inl rfl) (pe_call Gl_fish (hr.mono (by decide)) (by rfl) Dl_fish.g Dl_fish.F.kp Dl_fish.b .nil pass0 (pa_cons (pv 2) (pa_cons (pe_callB call_len_seq (by rfl) B.len PySem.boot_len (pa_cons (pv 11) pa_nil)) pa_nil))))
  (pss_cons (ps_set (i := 14) sclaw.nd rfl (Or.inl rfl) (pe_tup (pa_cons (pe_ix ix_tup (pe_ix ix_list (pv 11) (pv 13) (fun _ _ => rfl)) pe_int (fun _ _ => rfl)) (pa_cons (pe_op op_add (pe_ix ix_tup (pe_ix ix_list (pv 11) (pv 13) (fun _ _ => rfl)) pe_int (fun _ _ => rfl)) (pe_ix ix_list (pe_lst (pa_cons pe_int (pa_cons (pe_un un_neg pe_int) (pa_cons pe_int (pa_cons (pv 4) (pa_cons (pe_op op_sub pe_int (pv 4)) pa_nil)))))) (pe_call Gl_fish (hr.mono (by decide)) (by rfl) Dl_fish.g Dl_fish.F.kp Dl_fish.b .nil pass0 (pa_cons (pv 2) (pa_cons pe_int pa_nil))) (fun _ _ => rfl))) pa_nil))))
  (pss_one (ps_if (pt_not (pt_val (pe_callG Gl_right hf (hr.mono (by decide)) (by rfl) Dl_right.g Dl_right.F.kp Dl_right.b .nil pass0 (pa_cons (pv 2) (pa_cons (pv 4) (pa_cons (pv 12) (pa_cons (pe_op op_cat (pe_op op_cat (pe_slice sl_list (pv 11) po_none (po_some (pv 13))) (pe_lst (pa_cons (pv 14) pa_nil))) (pe_slice sl_list (pv 11) (po_some (pe_op op_add (pv 13) pe_int)) po_none)) pa_nil)))))))
   (pss_one (ps_ret pe_bl))
   pss_nil))))))))))))))))
  (pss_one (ps_ret (pe_and (pe_call Gfits (hr.mono (by decide)) (by rfl) Dfits.g Dfits.F.kp Dfits.b .nil pass0 (pa_cons pe_int (pa_cons pe_int (pa_cons (pe_lst (pa_cons (pe_tup (pa_cons pe_int (pa_cons pe_int pa_nil))) (pa_cons (pe_tup (pa_cons pe_int (pa_cons pe_int pa_nil))) pa_nil))) pa_nil)))) (pe_and (pe_not (pe_call Gfits (hr.mono (by decide)) (by rfl) Dfits.g Dfits.F.kp Dfits.b .nil pass0 (pa_cons pe_int (pa_cons pe_int (pa_cons (pe_lst (pa_cons (pe_tup (pa_cons pe_int (pa_cons pe_int pa_nil))) (pa_cons (pe_tup (pa_cons pe_int (pa_cons pe_int pa_nil))) pa_nil))) pa_nil))))) (pe_one (pe_not (pe_call Gfits (hr.mono (by decide)) (by rfl) Dfits.g Dfits.F.kp Dfits.b .nil pass0 (pa_cons pe_int (pa_cons pe_int (pa_cons (pe_lst (pa_cons (pe_tup (pa_cons pe_int (pa_cons pe_int pa_nil))) pa_nil)) pa_nil))))))))))), ?_⟩)
  · obtain ⟨a, ns, rfl, _⟩ := h; rfl
  · obtain ⟨a, ns, rfl, hS, hl, q⟩ := h
    have mb : ∀ k j : Int, k.natAbs < 2 ^ 20 → j.natAbs < 2 ^ 20 → CMulW k j := fun k j h h' => wide_mul (a := 20) (b := 20) h h' (by decide) (by decide) (by decide)
    have two : 2 ≤ sizeLine := by decide
    have four : 4 ≤ sizeLine := by decide
    have five : 5 ≤ sizeLine := by decide
    refine ⟨_, rfl, a, _, rfl, .inl hS, _, _, rfl, _, _, rfl, _, rfl, ?_, ?_, ?_⟩
    · rw [List.length_map]; split <;> split <;> omega
    · rw [List.length_map]; split <;> split <;> omega
    refine for_range (lo := 0) (fun i σ H' => ∃ y1 y2 y3 y4 y5 y6 y7 y8 y9 y10 y11 y12 y13 y14, σ = [some (.ref a), y1, y2, y3, y4, y5, y6, y7, y8, y9, y10, y11, y12, y13, y14] ∧ Same H H') ⟨_, _, _, _, _, _, _, _, _, _, _, _, _, _, rfl, Same.refl H⟩ ?_ ?_
    · rintro k σ H0 hk ⟨y1, y2, y3, y4, y5, y6, y7, y8, y9, y10, y11, y12, y13, y14, rfl, s0⟩
      have k6 : k ≤ 6 := by
        rw [List.length_map] at hk
        split at hk <;> split at hk <;> omega
      refine ⟨_, rfl, _, rfl, a, _, ns, rfl, s0.seq hS, by omega, by omega, fun p H1 hp0 s1 pd1 => ?_⟩
      refine ⟨4, rfl, by decide, by decide, ?_⟩
      refine for_range (lo := 0) (fun i σ H' => ∃ y3 y4 y5 y6 y7 y8 y9 y10 y11 y12 y13 y14, σ = [some (.ref a), some (.int (0 + (k : Int))), some (.ref p), y3, y4, y5, y6, y7, y8, y9, y10, y11, y12, y13, y14] ∧ But p H1 H' ∧ Pond (25000 * i) p H') ⟨_, _, _, _, _, _, _, _, _, _, _, _, rfl, But.refl p H1, pd1.mono (by omega)⟩ ?_ ?_
      · clear y3 y4 y5 y6 y7 y8 y9 y10 y11 y12 y13 y14
        rintro i σ H2 hi ⟨y3, y4, y5, y6, y7, y8, y9, y10, y11, y12, y13, y14, rfl, b2, pd2⟩
        have i4 : i < 4 := by omega
        refine ⟨_, rfl, p, 30, _, rfl, pd2, by omega, by decide, by decide +kernel, fun r3 H3 b3 pd3 r30 r31 => ⟨_, _, rfl, rfl, four, fun L hL => ?_⟩⟩
        have hLp : L ≠ p := fun e => pd3.ne (e ▸ hL)
        refine ⟨_, rfl, p, 4, _, rfl, pd3.new hL, by omega, by decide, by decide +kernel, fun r4 H4 b4 pd4 r40 r41 => ?_⟩
        obtain ⟨c, hv, hva⟩ := pick (xs := [1 + r3, 10, 2, 1]) r40 r41
        have c12 : 1 ≤ c ∧ c ≤ 30 := by
          simp only [List.mem_cons, List.not_mem_nil, or_false] at hv
          omega
        have b24 : But p H2 H4 := (b3.trans (Same.but (Same.new hL (o := .lst [.int (1 + r3), .int 10, .int 2, .int 1])))).trans b4
        refine ⟨L, _, _, _, rfl, rfl, SqL.of (b4 L _ hLp upd_same), hva, ?_⟩
        show gName 4 (V.int c) [some (.ref a), some (.int (0 + (k : Int))), some (.ref p), some (.int (0 + (i : Int))), y4, y5, y6, y7, y8, y9, y10, y11, y12, y13, y14] H4 _
        refine ⟨_, rfl, _, rfl, _, rfl, _, _, rfl, rfl, mb _ _ (by decide) (by omega), _, _, rfl, rfl, p, c, 3 * c + 1, _, rfl, pd4, by omega, c12.1, by omega, by omega, by omega, fun S xs Bs H5 nS nSp b5 pd5 eS hBs sh => ?_⟩
        have lB := sh.len
        have lx := paired_len hBs
        refine ⟨_, rfl, S, rfl, ⟨_, SqL.of eS⟩, fun D hD => ?_⟩
        refine lc_list (xs := xs) (fun i H' => Same H5 H' ∧ ∃ acc, H' D = some (.lst acc) ∧ Paired (BkAt H') acc ((Bs.take i).map (bump (c + 1)))) ⟨Same.new hD, [], upd_same, .nil⟩ (fun i H' _ ⟨s1, _⟩ => SqL.of (s1 _ _ eS)) ?_ ?_
        · rintro j x H' hx ⟨s5, acc, e5, hA⟩
          obtain ⟨⟨z1, z2⟩, hz, b, rfl, hb⟩ := paired_at hBs hx
          have hj := (List.getElem?_eq_some_iff.mp hz).1
          have la := paired_len hA
          rw [List.length_map, List.length_take] at la
          refine ⟨b, _, rfl, SqT.of (s5 _ _ hb), rfl, _, _, rfl, _, _, rfl, rfl, rfl, _, rfl, _, rfl, _, _, rfl, rfl, _, _, rfl, rfl, _, rfl, two, fun T2 hT2 => ?_⟩
          have nTD : T2 ≠ D := fun e => by rw [e, e5] at hT2; cases hT2
          have e6 := Same.new hT2 (o := .tup [.int (z1 + c + 1), .bl z2]) _ _ e5
          refine ⟨acc, e6, smallL (by omega), same_upd (s5.trans (Same.new hT2)) hD, _, upd_same, ?_⟩
          rw [List.take_add_one, hz, List.map_append]
          refine paired_snoc (L2.Paired.mapP hA fun _ _ h => bk_upd e6 (h.mono (Same.new hT2))) ⟨T2, rfl, ?_⟩
          rw [upd_ne nTD, upd_same]
          show some (HO.tup [V.int (z1 + c + 1), V.bl z2]) = some (HO.tup [V.int (z1 + (c + 1)), V.bl z2])
          rw [Int.add_assoc]
        rintro H6 ⟨s6, ys, e6, hB2⟩
        rw [lx, List.take_of_length_le (Nat.le_refl _)] at hB2
        have sh2 := shape_bump sh (show 0 ≤ c + 1 by omega)
        have pd6 := pd5.same s6
        obtain ⟨Bs2, eB2⟩ : ∃ Bs2, Bs2 = Bs.map (bump (c + 1)) := ⟨_, rfl⟩
        rw [← eB2] at hB2 sh2
        have lB2 := sh2.len
        have ly := paired_len hB2
        have e6' := e6
        refine ⟨_, rfl, D, _, rfl, SqL.of e6, fun D3 hD3 => ?_⟩
        refine lc_it (walk_enum (xs := ys)) (fun j H' => Same H6 H' ∧ ∃ zs : List Int, H' D3 = some (.lst (zs.map V.int)) ∧ zs.length = j ∧ ∀ (i : Nat) (z : Int) (b : Bk), zs[i]? = some z → Bs2[i]? = some b → z = b.1 - (i : Int)) ⟨Same.new hD3, [], upd_same, rfl, fun i z b h => by simp at h⟩ (fun j H' _ ⟨s1, _⟩ => SqL.of (s1 _ _ e6)) ?_ ?_
        · rintro j x H' H'' hj ⟨s7, zs, e7, lz, hz⟩ ⟨T, x0, x1, rfl, hT, rfl, h0, h1⟩
          cases h0
          obtain ⟨⟨z1, z2⟩, hb, b, rfl, hb'⟩ := paired_at hB2 h1
          have sT := Same.new hT (o := .tup [.int (j : Nat), .ref b])
          have hb2 := sT _ _ (s7 _ _ hb')
          refine ⟨T, _, rfl, SqT.of upd_same, rfl, _, _, rfl, _, _, rfl, b, _, rfl, SqT.of hb2, rfl, _, _, rfl, _, _, rfl, rfl, rfl, rfl, _, rfl, _, rfl, _, _, rfl, rfl, ?_⟩
          have e8 := sT _ _ e7
          refine ⟨_, e8, smallL (by rw [List.length_map]; omega), same_upd (s7.trans sT) hD3, zs ++ [z1 - (j : Int)], ?_, by rw [List.length_append, lz]; rfl, fun i' z b' h h' => ?_⟩
          · rw [upd_same, List.map_append]; rfl
          · rcases Nat.lt_or_ge i' zs.length with g | g
            · rw [List.getElem?_append_left g] at h
              exact hz i' z b' h h'
            · rw [List.getElem?_append_right g] at h
              have i0 : i' - zs.length = 0 := by
                have := (List.getElem?_eq_some_iff.mp h).1
                simp at this; omega
              rw [i0] at h
              obtain rfl : i' = j := by omega
              cases h
              rw [hb] at h'
              cases h'
              rfl
        rintro H7 ⟨s7, zs, e7, lz, hz⟩
        refine ⟨D3, zs, rfl, SqL.of e7, by omega, fun low hlow lmin => ?_⟩
        have lowI : ∀ (j : Nat) (b : Bk), Bs2[j]? = some b → low ≤ b.1 - (j : Int) := fun j b hb => by
          have hj := (List.getElem?_eq_some_iff.mp hb).1
          have hz' : zs[j]? = some (zs[j]'(by omega)) := List.getElem?_eq_getElem (by omega)
          have := hz j _ b hz' hb
          have := lmin _ (List.mem_of_getElem? hz')
          omega
        have lowR : -300 ≤ low ∧ low ≤ 300 := by
          obtain ⟨j, hj, ej⟩ := List.getElem_of_mem hlow
          obtain ⟨b, hb⟩ : ∃ b, Bs2[j]? = some b := ⟨_, List.getElem?_eq_getElem (by omega)⟩
          have e := hz j low b (by rw [List.getElem?_eq_getElem hj, ej]) hb
          have := sh2.rng b (List.mem_of_getElem? hb)
          omega
        have lowE := endF_low sh2 c12.1 lowI
        have ris := endF_rises sh2 c12.1
        have rgE := endF_rng sh2 c12.1
        have pd7 := pd6.same s7
        have eD7 := s7 _ _ e6
        have hB7 := bks_mono s7 hB2
        have nDp : D ≠ p := fun e => pd5.ne (e ▸ hD)
        have b17 : But p H1 H7 := ((((b2.trans b24).trans b5).trans (Same.but s6)).trans (Same.but s7))
        clear lmin hlow hz lz e7 D3 hD3 lowI
        show gName 8 (V.int low) [some (.ref a), some (.int (0 + (k : Int))), some (.ref p), some (.int (0 + (i : Int))), some (.int c), some (.ref D), y6, y7, y8, y9, y10, y11, y12, y13, y14] H7 _
        refine ⟨_, rfl, _, rfl, rfl, _, rfl, ?_⟩
        refine ite_ints fun mm hmm => ⟨two, fun T1 hT1 => ?_⟩
        have nT1 : T1 ≠ p := fun e => pd7.ne (e ▸ hT1)
        refine ⟨_, rfl, p, 2, _, rfl, pd7.new hT1, by omega, by decide, by decide +kernel, fun r8 H8 b8 pd8 r80 r81 => ?_⟩
        obtain ⟨m8, hm8, ha8⟩ := pick (xs := [5, mm]) r80 r81
        have m8r : 1 ≤ m8 ∧ m8 ≤ 40 := by
          simp only [List.mem_cons, List.not_mem_nil, or_false] at hm8
          omega
        refine ⟨T1, _, _, _, rfl, rfl, SqL.of (b8 _ _ nT1 upd_same), ha8, p, m8, _, rfl, pd8, by omega, by omega, by omega, fun r9 H9 b9 pd9 r90 r91 => ⟨_, _, rfl, rfl, ?_⟩⟩
        obtain ⟨many, em⟩ := Int.eq_ofNat_of_zero_le (show 0 ≤ 1 + r9 by omega)
        show gName 10 (V.int (1 + r9)) _ H9 _
        rw [em]
        have b79 : But p H7 H9 := ((Same.but (Same.new hT1)).trans b8).trans b9
        obtain ⟨up7, hup7⟩ := pd7.some
        have eD9 := b79 _ _ nDp eD7
        have hB9 := bks_but b79 hup7 hB7
        refine ⟨_, rfl, _, rfl, _, rfl, _, rfl, p, D, c, _, many, Bs2, rfl, pd9, by omega, c12.1, by omega, lB2, ⟨ys, eD9, hB9⟩, nDp, by omega, fun L2' HA ts xr nL2 nL2p bA pdA eL hR lt rt => ?_⟩
        show gName 11 (V.ref L2') [some (.ref a), some (.int (0 + (k : Int))), some (.ref p), some (.int (0 + (i : Int))), some (.int c), some (.ref D), y6, y7, some (.int low), y9, some (.int (many : Int)), y11, y12, y13, y14] HA _
        refine ⟨_, rfl, 1, rfl, _, rfl, p, 9, _, rfl, pdA, by omega, by decide, by decide +kernel, fun rB HB bB pdB rB0 rB1 => ⟨_, _, rfl, rfl, five, fun T2 hT2 => ?_⟩⟩
        have nT2 : T2 ≠ p := fun e => pdB.ne (e ▸ hT2)
        refine ⟨_, rfl, p, 5, _, rfl, pdB.new hT2, by omega, by decide, by decide +kernel, fun rC HC bC pdC rC0 rC1 => ?_⟩
        obtain ⟨v5, hv5, ha5⟩ := pick (xs := [0, 0, 1, -1, 0 - rB]) rC0 rC1
        have v5r : -9 ≤ v5 ∧ v5 ≤ 1 := by
          simp only [List.mem_cons, List.not_mem_nil, or_false] at hv5
          omega
        refine ⟨T2, _, _, _, rfl, rfl, SqL.of (bC _ _ nT2 upd_same), ha5, _, _, rfl, rfl, _, _, rfl, ?_⟩
        obtain ⟨tk, etk⟩ : ∃ tk, tk = (if low + v5 > 0 then low + v5 else 0) := ⟨_, rfl⟩
        have tkr : 0 ≤ tk ∧ tk ≤ 310 := by
          rw [etk]; split <;> omega
        show gName 12 (V.int (if low + v5 > 0 then low + v5 else 0)) _ HC _
        rw [← etk]
        have bAC : But p HA HC := (bB.trans (Same.but (Same.new hT2 (o := .lst [.int 0, .int 0, .int 1, .int (-1), .int (0 - rB)])))).trans bC
        obtain ⟨upA, hupA⟩ := pdA.some
        have eL' := bAC _ _ nL2p eL
        have hR' := rcs_but bAC hupA hR
        obtain ⟨rs, ers⟩ : ∃ rs, rs = ts.map fun x => (x, endF c Bs2 x) := ⟨_, rfl⟩
        have lrs : rs.length = many := by rw [ers, List.length_map]; exact lt
        have many1 : 1 ≤ many ∧ many ≤ 40 := by omega
        have smr : ∀ r ∈ rs, r.1.natAbs ≤ 100 ∧ r.2.natAbs ≤ 900 := fun r hr => by
          rw [ers] at hr
          obtain ⟨x, hx, rfl⟩ := List.mem_map.mp hr
          have h1 := rt x hx
          have h2 := rgE x
          simp only []
          omega
        have fitT : low ≥ tk → fitB c tk rs = true := fun g => by
          rw [ers]
          exact fit_rise ris c12.1 (fun x => by have := lowE x; omega)
        rw [← ers] at hR'
        have lxr := paired_len hR'
        refine ⟨_, rfl, _, rfl, _, rfl, _, rfl, p, L2', c, tk, _, rs, rfl, pdC, by omega, c12.1, c12.2, tkr.1, by omega, ⟨xr, eL', hR'⟩, nL2p, by omega, by omega, fun r hr => by have := smr r hr; omega, fun HD bD pdD => ⟨true, rfl, iteF ?_⟩⟩
        obtain ⟨upC, hupC⟩ := pdC.some
        have c30 : (310 : Int) ≤ 10 ^ 30 := by decide +kernel
        have smS : ∀ r ∈ rs, SmR r := fun r hr => by
          obtain ⟨h1, h2⟩ := smr r hr
          have z : 1000 < 2 ^ 300 := by decide +kernel
          exact ⟨by omega, by omega⟩
        have eLD := bD _ _ nL2p eL'
        have hRD := rcs_but bD hupC hR'
        refine ⟨_, rfl, _, rfl, _, _, rfl, rfl, _, rfl, and_two (fun HE sE => ?_) (fun g rest => ?_)⟩
        case refine_2 =>
          refine ⟨_, rfl, _, rfl, _, rfl, c, tk, L2', rs, rfl, c12.1, by omega, tkr.1, by omega, ⟨xr, eLD, hRD⟩, by omega, by omega, smS, fun HE sE => ⟨_, rfl, ?_⟩⟩
          rw [fitT (by have := of_decide_eq_true g; omega)]
          exact rest HE sE
        refine iteF ?_
        have pdE := pdD.same sE
        have eLE := sE _ _ eLD
        have hRE := rcs_mono sE hRD
        show gName 11 (V.ref L2') [some (.ref a), some (.int (0 + (k : Int))), some (.ref p), some (.int (0 + (i : Int))), some (.int c), some (.ref D), y6, y7, some (.int low), y9, some (.int (many : Int)), some (.ref L2'), some (.int tk), y13, y14] HE _
        have b1E : But p H1 HE := ((((b17.trans b79).trans bA).trans bAC).trans bD).trans (Same.but sE)
        refine ⟨_, rfl, _, rfl, L2', _, rfl, .inl (SqL.of eLE), p, (xr.length : Int), _, rfl, pdE, by omega, by omega, by omega, fun rF HF bF pdF rF0 rF1 => ?_⟩
        obtain ⟨sp, rfl⟩ := Int.eq_ofNat_of_zero_le rF0
        have spl : sp < rs.length := by omega
        obtain ⟨upE, hupE⟩ := pdE.some
        have eLF := bF _ _ nL2p eLE
        have hRF := rcs_but bF hupE hRE
        obtain ⟨x0, hx0⟩ : ∃ x, xr[sp]? = some x := ⟨_, List.getElem?_eq_getElem (by omega)⟩
        obtain ⟨⟨o1, o2⟩, ho, b0, rfl, hb0⟩ := paired_at hRF hx0
        obtain ⟨so1, so2⟩ := smr _ (List.mem_of_getElem? ho)
        simp only [] at so1 so2
        refine ⟨_, rfl, _, rfl, L2', _, _, _, rfl, rfl, SqL.of eLF, atI_nat hx0, b0, _, _, _, rfl, rfl, SqT.of hb0, atI_nat (j := 0) rfl, _, rfl, _, rfl, L2', _, _, _, rfl, rfl, SqL.of eLF, atI_nat hx0, b0, _, _, _, rfl, rfl, SqT.of hb0, atI_nat (j := 1) rfl, 1, rfl, _, rfl, _, rfl, _, _, rfl, rfl, five, fun T3 hT3 => ?_⟩
        have nT3 : T3 ≠ p := fun e => pdF.ne (e ▸ hT3)
        refine ⟨_, rfl, p, 5, _, rfl, pdF.new hT3, by omega, by decide, by decide +kernel, fun rG HG bG pdG rG0 rG1 => ?_⟩
        obtain ⟨v6, hv6, ha6⟩ := pick (xs := [1, -1, 2, c, 0 - c]) rG0 rG1
        have v6r : -30 ≤ v6 ∧ v6 ≤ 30 := by
          simp only [List.mem_cons, List.not_mem_nil, or_false] at hv6
          omega
        refine ⟨T3, _, _, _, rfl, rfl, SqL.of (bG _ _ nT3 upd_same), ha6, _, _, rfl, rfl, two, fun T4 hT4 => ?_⟩
        obtain ⟨upF, hupF⟩ := pdF.some
        have bFG : But p HF HG := (Same.but (Same.new hT3 (o := .lst [.int 1, .int (-1), .int 2, .int c, .int (0 - c)]))).trans bG
        have sT4 := Same.new hT4 (o := .tup [.int o1, .int (o2 + v6)])
        have eT4 : (upd HG T4 (.tup [.int o1, .int (o2 + v6)])) T4 = some (.tup [.int o1, .int (o2 + v6)]) := upd_same
        have eL4 := sT4 _ _ (bFG _ _ nL2p eLF)
        have hR4 := rcs_mono sT4 (rcs_but bFG hupF hRF)
        have pd4' := pdG.same sT4
        have b14 : But p H1 (upd HG T4 (.tup [.int o1, .int (o2 + v6)])) := ((b1E.trans bF).trans bFG).trans (Same.but sT4)
        show gName 14 (V.ref T4) [some (.ref a), some (.int (0 + (k : Int))), some (.ref p), some (.int (0 + (i : Int))), some (.int c), some (.ref D), y6, y7, some (.int low), y9, some (.int (many : Int)), some (.ref L2'), some (.int tk), some (.int (sp : Int)), y14] (upd HG T4 (.tup [.int o1, .int (o2 + v6)])) _
        generalize upd HG T4 (HO.tup [.int o1, .int (o2 + v6)]) = HK at sT4 eT4 eL4 hR4 pd4' b14 ⊢
        refine ⟨_, rfl, _, rfl, _, rfl, _, rfl, _, rfl, _, rfl, L2', _, rfl, SqL.of eL4, fun U1 hU1 => ?_⟩
        have ec1 : cutV xr none (some (sp : Int)) = xr.take sp := cut_hiA _ sp
        rw [ec1]
        have one : 1 ≤ sizeLine := by decide
        refine ⟨_, rfl, one, fun U2 hU2 => ?_⟩
        have sU := (Same.new hU1 (o := .lst (xr.take sp))).trans (Same.new hU2 (o := .lst [.ref T4]))
        have eU1 : (upd (upd HK U1 (.lst (xr.take sp))) U2 (.lst [.ref T4])) U1 = some (.lst (xr.take sp)) := Same.new hU2 _ _ upd_same
        have eU2 : (upd (upd HK U1 (.lst (xr.take sp))) U2 (.lst [.ref T4])) U2 = some (.lst [.ref T4]) := upd_same
        generalize upd (upd HK U1 (.lst (xr.take sp))) U2 (.lst [.ref T4]) = HU at sU eU1 eU2 ⊢
        refine ⟨U1, U2, _, _, rfl, rfl, eU1, eU2, Nat.le_of_lt (smallL (by rw [List.length_take, List.length_singleton]; omega)), fun U3 hU3 => ?_⟩
        have sU3 := sU.trans (Same.new hU3 (o := .lst (xr.take sp ++ [.ref T4])))
        have eU3 : (upd HU U3 (.lst (xr.take sp ++ [.ref T4]))) U3 = some (.lst (xr.take sp ++ [.ref T4])) := upd_same
        generalize upd HU U3 (.lst (xr.take sp ++ [.ref T4])) = HV at sU3 eU3 ⊢
        refine ⟨_, rfl, _, rfl, _, _, rfl, rfl, _, rfl, L2', _, rfl, SqL.of (sU3 _ _ eL4), fun U4 hU4 => ?_⟩
        have ec2 : cutV xr (some ((sp : Int) + 1)) none = xr.drop (sp + 1) := cut_lo xr (sp + 1) (by omega)
        rw [ec2]
        have sU4 := sU3.trans (Same.new hU4 (o := .lst (xr.drop (sp + 1))))
        have eU34 := Same.new hU4 (o := .lst (xr.drop (sp + 1))) _ _ eU3
        have eU4 : (upd HV U4 (.lst (xr.drop (sp + 1)))) U4 = some (.lst (xr.drop (sp + 1))) := upd_same
        generalize upd HV U4 (.lst (xr.drop (sp + 1))) = HW at sU4 eU34 eU4 ⊢
        refine ⟨U3, U4, _, _, rfl, rfl, eU34, eU4, Nat.le_of_lt (smallL (by rw [List.length_append, List.length_take, List.length_singleton, List.length_drop]; omega)), fun U5 hU5 => ?_⟩
        have sU5 := sU4.trans (Same.new hU5 (o := .lst (xr.take sp ++ [.ref T4] ++ xr.drop (sp + 1))))
        have pdW := pd4'.same sU5
        have nU5 : U5 ≠ p := fun e => (pd4'.same sU4).ne (e ▸ hU5)
        have hRW := rcs_mono sU5 hR4
        refine ⟨p, U5, c, tk, _, rs.take sp ++ [(o1, o2 + v6)] ++ rs.drop (sp + 1), rfl, pdW, by omega, c12.1, c12.2, tkr.1, by omega, ⟨_, upd_same, paired_app (paired_app (paired_take sp hRW) (.cons ⟨T4, rfl, sU5 _ _ eT4⟩ .nil)) (paired_dropN (sp + 1) hRW)⟩, nU5, ?_, ?_, fun r hr => ?_, fun HX bX pdX => ⟨true, rfl, iteF ?_⟩⟩
        · rw [List.length_append, List.length_append, List.length_take, List.length_singleton, List.length_drop]; omega
        · rw [List.length_append, List.length_append, List.length_take, List.length_singleton, List.length_drop]; omega
        · rcases List.mem_append.mp hr with h | h
          · rcases List.mem_append.mp h with h | h
            · have := smr r (List.mem_of_mem_take h); omega
            · rw [List.mem_singleton.mp h]; simp only []; omega
          · have := smr r (List.mem_of_mem_drop h); omega
        exact ⟨_, _, _, _, _, _, _, _, _, _, _, _, rfl, (b14.trans (Same.but sU5)).trans bX, pdX.mono (by push_cast; omega)⟩
      · rintro σ H2 ⟨y3, y4, y5, y6, y7, y8, y9, y10, y11, y12, y13, y14, rfl, b2, pd2⟩
        exact ⟨_, _, _, _, _, _, _, _, _, _, _, _, _, _, rfl, s0.trans (b2.same s1 hp0)⟩
    · rintro σ H0 ⟨y1, y2, y3, y4, y5, y6, y7, y8, y9, y10, y11, y12, y13, y14, rfl, s0⟩
      have k1 : fitB 10 2 [(0, 5), (3, 6)] = true := by decide
      have k2 : fitB 10 2 [(0, 5), (3, 4)] = false := by decide
      have k3 : fitB 10 6 [(0, 5)] = false := by decide
      have d30 : (10 : Int) ≤ 10 ^ 30 := by decide +kernel
      have one : 1 ≤ sizeLine := by decide
      have sm2 : ∀ rs : List Rc, (∀ r ∈ rs, r.1.natAbs < 10 ∧ r.2.natAbs < 10) → ∀ r ∈ rs, SmR r := fun rs h r hr => by
        obtain ⟨h1, h2⟩ := h r hr
        have z : 10 < 2 ^ 300 := by decide +kernel
        exact ⟨by omega, by omega⟩
      have pair : ∀ (x y u v : Int) (G : Hp) (A B L : Addr), G A = none → (upd G A (.tup [.int x, .int y])) B = none → (upd (upd G A (.tup [.int x, .int y])) B (.tup [.int u, .int v])) L = none →
          RcsL (upd (upd (upd G A (.tup [.int x, .int y])) B (.tup [.int u, .int v])) L (.lst [.ref A, .ref B])) L [(x, y), (u, v)] := fun x y u v G A B L hA hB hL =>
        ⟨_, upd_same, .cons ⟨A, rfl, Same.new hL _ _ (Same.new hB _ _ upd_same)⟩ (.cons ⟨B, rfl, Same.new hL _ _ upd_same⟩ .nil)⟩
      refine ⟨two, fun A1 hA1 => ⟨two, fun A2 hA2 => ⟨two, fun A3 hA3 => ⟨10, 2, A3, _, rfl, by decide, d30, by decide, by decide +kernel, pair _ _ _ _ _ _ _ _ hA1 hA2 hA3, by simp, by simp, sm2 _ (by decide), fun H1 s1 => ?_⟩⟩⟩⟩
      rw [k1]
      refine ⟨_, rfl, iteT ?_⟩
      refine ⟨two, fun B1 hB1 => ⟨two, fun B2 hB2 => ⟨two, fun B3 hB3 => ⟨10, 2, B3, _, rfl, by decide, d30, by decide, by decide +kernel, pair _ _ _ _ _ _ _ _ hB1 hB2 hB3, by simp, by simp, sm2 _ (by decide), fun H2 s2 => ?_⟩⟩⟩⟩
      rw [k2]
      refine ⟨_, rfl, _, rfl, iteT ?_⟩
      refine ⟨two, fun C1 hC1 => ⟨one, fun C3 hC3 => ⟨10, 6, C3, [(0, 5)], rfl, by decide, d30, by decide, by decide +kernel, ⟨_, upd_same, .cons ⟨C1, rfl, Same.new hC3 _ _ upd_same⟩ .nil⟩, by simp, by simp, sm2 _ (by decide), fun H3 s3 => ?_⟩⟩⟩
      rw [k3]
      exact ⟨_, rfl, q _⟩
end
end Gr

set_option Elab.async false
set_option linter.all false
set_option maxRecDepth 100000
set_option maxHeartbeats 8000000
namespace Gr
open PySem PySem.Spec PyProof.Rows L2
theorem all_mk {l : PySem.W.OpenLaw} {w : World} {K : PySem.W.Frag} {h : Heap} {mg : Str → Option Value} {fa : Addr} (X : K.In h) (G : h.Ns mainGlobals mg) (hfa : mg "law" = some (.ref fa))
    {f0 : Addr} {od0 an0 : Option Addr} {sl0 : Array (Option Value)} {oc0 kV0 dc0 pm0 cd0 ct0 : Value}
    (a0 : PySem.W.nsIn K mainGlobals "is_whole" = some (some (.ref f0))) (l0 : K.lookup f0 = some ⟨oc0, od0, .func (PySem.W.fnOf "is_whole" "is_whole" (defArgs s_is_whole) (defBody s_is_whole) (defScope s_is_whole) .none kV0 dc0 pm0 an0 cd0 ct0), sl0⟩) (c0 : PySem.W.codeIn K cd0 "is_whole" = true) (k0 : PySem.W.keepIn K (.ref f0) = true)
    {f1 : Addr} {od1 an1 : Option Addr} {sl1 : Array (Option Value)} {oc1 kV1 dc1 pm1 cd1 ct1 : Value}
    (a1 : PySem.W.nsIn K mainGlobals "check_cycle" = some (some (.ref f1))) (l1 : K.lookup f1 = some ⟨oc1, od1, .func (PySem.W.fnOf "check_cycle" "check_cycle" (defArgs s_check_cycle) (defBody s_check_cycle) (defScope s_check_cycle) .none kV1 dc1 pm1 an1 cd1 ct1), sl1⟩) (c1 : PySem.W.codeIn K cd1 "check_cycle" = true) (k1 : PySem.W.keepIn K (.ref f1) = true)
    {f2 : Addr} {od2 an2 : Option Addr} {sl2 : Array (Option Value)} {oc2 kV2 dc2 pm2 cd2 ct2 : Value}
    (a2 : PySem.W.nsIn K mainGlobals "check_number_in" = some (some (.ref f2))) (l2 : K.lookup f2 = some ⟨oc2, od2, .func (PySem.W.fnOf "check_number_in" "check_number_in" (defArgs s_check_number_in) (defBody s_check_number_in) (defScope s_check_number_in) .none kV2 dc2 pm2 an2 cd2 ct2), sl2⟩) (c2 : PySem.W.codeIn K cd2 "check_number_in" = true) (k2 : PySem.W.keepIn K (.ref f2) = true)
    {f3 : Addr} {od3 an3 : Option Addr} {sl3 : Array (Option Value)} {oc3 kV3 dc3 pm3 cd3 ct3 : Value}
    (a3 : PySem.W.nsIn K mainGlobals "is_record" = some (some (.ref f3))) (l3 : K.lookup f3 = some ⟨oc3, od3, .func (PySem.W.fnOf "is_record" "is_record" (defArgs s_is_record) (defBody s_is_record) (defScope s_is_record) .none kV3 dc3 pm3 an3 cd3 ct3), sl3⟩) (c3 : PySem.W.codeIn K cd3 "is_record" = true) (k3 : PySem.W.keepIn K (.ref f3) = true)
    {f4 : Addr} {od4 an4 : Option Addr} {sl4 : Array (Option Value)} {oc4 kV4 dc4 pm4 cd4 ct4 : Value}
    (a4 : PySem.W.nsIn K mainGlobals "check_records" = some (some (.ref f4))) (l4 : K.lookup f4 = some ⟨oc4, od4, .func (PySem.W.fnOf "check_records" "check_records" (defArgs s_check_records) (defBody s_check_records) (defScope s_check_records) .none kV4 dc4 pm4 an4 cd4 ct4), sl4⟩) (c4 : PySem.W.codeIn K cd4 "check_records" = true) (k4 : PySem.W.keepIn K (.ref f4) = true)
    {f5 : Addr} {od5 an5 : Option Addr} {sl5 : Array (Option Value)} {oc5 kV5 dc5 pm5 cd5 ct5 : Value}
    (a5 : PySem.W.nsIn K mainGlobals "overtakes" = some (some (.ref f5))) (l5 : K.lookup f5 = some ⟨oc5, od5, .func (PySem.W.fnOf "overtakes" "overtakes" (defArgs s_overtakes) (defBody s_overtakes) (defScope s_overtakes) .none kV5 dc5 pm5 an5 cd5 ct5), sl5⟩) (c5 : PySem.W.codeIn K cd5 "overtakes" = true) (k5 : PySem.W.keepIn K (.ref f5) = true)
    {f6 : Addr} {od6 an6 : Option Addr} {sl6 : Array (Option Value)} {oc6 kV6 dc6 pm6 cd6 ct6 : Value}
    (a6 : PySem.W.nsIn K mainGlobals "contradiction_in" = some (some (.ref f6))) (l6 : K.lookup f6 = some ⟨oc6, od6, .func (PySem.W.fnOf "contradiction_in" "contradiction_in" (defArgs s_contradiction_in) (defBody s_contradiction_in) (defScope s_contradiction_in) .none kV6 dc6 pm6 an6 cd6 ct6), sl6⟩) (c6 : PySem.W.codeIn K cd6 "contradiction_in" = true) (k6 : PySem.W.keepIn K (.ref f6) = true)
    {f7 : Addr} {od7 an7 : Option Addr} {sl7 : Array (Option Value)} {oc7 kV7 dc7 pm7 cd7 ct7 : Value}
    (a7 : PySem.W.nsIn K mainGlobals "fits" = some (some (.ref f7))) (l7 : K.lookup f7 = some ⟨oc7, od7, .func (PySem.W.fnOf "fits" "fits" (defArgs s_fits) (defBody s_fits) (defScope s_fits) .none kV7 dc7 pm7 an7 cd7 ct7), sl7⟩) (c7 : PySem.W.codeIn K cd7 "fits" = true) (k7 : PySem.W.keepIn K (.ref f7) = true)
    {f8 : Addr} {od8 an8 : Option Addr} {sl8 : Array (Option Value)} {oc8 kV8 dc8 pm8 cd8 ct8 : Value}
    (a8 : PySem.W.nsIn K mainGlobals "_law_pond" = some (some (.ref f8))) (l8 : K.lookup f8 = some ⟨oc8, od8, .func (PySem.W.fnOf "_law_pond" "_law_pond" (defArgs s_l_pond) (defBody s_l_pond) (defScope s_l_pond) .none kV8 dc8 pm8 an8 cd8 ct8), sl8⟩) (c8 : PySem.W.codeIn K cd8 "_law_pond" = true) (k8 : PySem.W.keepIn K (.ref f8) = true)
    {f9 : Addr} {od9 an9 : Option Addr} {sl9 : Array (Option Value)} {oc9 kV9 dc9 pm9 cd9 ct9 : Value}
    (a9 : PySem.W.nsIn K mainGlobals "_law_fish" = some (some (.ref f9))) (l9 : K.lookup f9 = some ⟨oc9, od9, .func (PySem.W.fnOf "_law_fish" "_law_fish" (defArgs s_l_fish) (defBody s_l_fish) (defScope s_l_fish) .none kV9 dc9 pm9 an9 cd9 ct9), sl9⟩) (c9 : PySem.W.codeIn K cd9 "_law_fish" = true) (k9 : PySem.W.keepIn K (.ref f9) = true)
    {f10 : Addr} {od10 an10 : Option Addr} {sl10 : Array (Option Value)} {oc10 kV10 dc10 pm10 cd10 ct10 : Value}
    (a10 : PySem.W.nsIn K mainGlobals "_law_shape" = some (some (.ref f10))) (l10 : K.lookup f10 = some ⟨oc10, od10, .func (PySem.W.fnOf "_law_shape" "_law_shape" (defArgs s_l_shape) (defBody s_l_shape) (defScope s_l_shape) .none kV10 dc10 pm10 an10 cd10 ct10), sl10⟩) (c10 : PySem.W.codeIn K cd10 "_law_shape" = true) (k10 : PySem.W.keepIn K (.ref f10) = true)
    {f11 : Addr} {od11 an11 : Option Addr} {sl11 : Array (Option Value)} {oc11 kV11 dc11 pm11 cd11 ct11 : Value}
    (a11 : PySem.W.nsIn K mainGlobals "_law_end" = some (some (.ref f11))) (l11 : K.lookup f11 = some ⟨oc11, od11, .func (PySem.W.fnOf "_law_end" "_law_end" (defArgs s_l_end) (defBody s_l_end) (defScope s_l_end) .none kV11 dc11 pm11 an11 cd11 ct11), sl11⟩) (c11 : PySem.W.codeIn K cd11 "_law_end" = true) (k11 : PySem.W.keepIn K (.ref f11) = true)
    {f12 : Addr} {od12 an12 : Option Addr} {sl12 : Array (Option Value)} {oc12 kV12 dc12 pm12 cd12 ct12 : Value}
    (a12 : PySem.W.nsIn K mainGlobals "_law_against" = some (some (.ref f12))) (l12 : K.lookup f12 = some ⟨oc12, od12, .func (PySem.W.fnOf "_law_against" "_law_against" (defArgs s_l_against) (defBody s_l_against) (defScope s_l_against) .none kV12 dc12 pm12 an12 cd12 ct12), sl12⟩) (c12 : PySem.W.codeIn K cd12 "_law_against" = true) (k12 : PySem.W.keepIn K (.ref f12) = true)
    {f13 : Addr} {od13 an13 : Option Addr} {sl13 : Array (Option Value)} {oc13 kV13 dc13 pm13 cd13 ct13 : Value}
    (a13 : PySem.W.nsIn K mainGlobals "_law_fit" = some (some (.ref f13))) (l13 : K.lookup f13 = some ⟨oc13, od13, .func (PySem.W.fnOf "_law_fit" "_law_fit" (defArgs s_l_fit) (defBody s_l_fit) (defScope s_l_fit) .none kV13 dc13 pm13 an13 cd13 ct13), sl13⟩) (c13 : PySem.W.codeIn K cd13 "_law_fit" = true) (k13 : PySem.W.keepIn K (.ref f13) = true)
    {f14 : Addr} {od14 an14 : Option Addr} {sl14 : Array (Option Value)} {oc14 kV14 dc14 pm14 cd14 ct14 : Value}
    (a14 : PySem.W.nsIn K mainGlobals "_law_pairs" = some (some (.ref f14))) (l14 : K.lookup f14 = some ⟨oc14, od14, .func (PySem.W.fnOf "_law_pairs" "_law_pairs" (defArgs s_l_pairs) (defBody s_l_pairs) (defScope s_l_pairs) .none kV14 dc14 pm14 an14 cd14 ct14), sl14⟩) (c14 : PySem.W.codeIn K cd14 "_law_pairs" = true) (k14 : PySem.W.keepIn K (.ref f14) = true)
    {f15 : Addr} {od15 an15 : Option Addr} {sl15 : Array (Option Value)} {oc15 kV15 dc15 pm15 cd15 ct15 : Value}
    (a15 : PySem.W.nsIn K mainGlobals "_law_right" = some (some (.ref f15))) (l15 : K.lookup f15 = some ⟨oc15, od15, .func (PySem.W.fnOf "_law_right" "_law_right" (defArgs s_l_right) (defBody s_l_right) (defScope s_l_right) .none kV15 dc15 pm15 an15 cd15 ct15), sl15⟩) (c15 : PySem.W.codeIn K cd15 "_law_right" = true) (k15 : PySem.W.keepIn K (.ref f15) = true)
    {f16 : Addr} {od16 an16 : Option Addr} {sl16 : Array (Option Value)} {oc16 kV16 dc16 pm16 cd16 ct16 : Value}
    (a16 : PySem.W.nsIn K mainGlobals "law" = some (some (.ref f16))) (l16 : K.lookup f16 = some ⟨oc16, od16, .func (PySem.W.fnOf "law" "law" (defArgs s_law) (defBody s_law) (defScope s_law) .none kV16 dc16 pm16 an16 cd16 ct16), sl16⟩) (c16 : PySem.W.codeIn K cd16 "law" = true) (k16 : PySem.W.keepIn K (.ref f16) = true)
    (z0 : PySem.W.nsIn K mainGlobals "all" = some none)
    (z1 : PySem.W.nsIn K mainGlobals "bool" = some none)
    (z2 : PySem.W.nsIn K mainGlobals "enumerate" = some none)
    (z3 : PySem.W.nsIn K mainGlobals "int" = some none)
    (z4 : PySem.W.nsIn K mainGlobals "isinstance" = some none)
    (z5 : PySem.W.nsIn K mainGlobals "len" = some none)
    (z6 : PySem.W.nsIn K mainGlobals "list" = some none)
    (z7 : PySem.W.nsIn K mainGlobals "max" = some none)
    (z8 : PySem.W.nsIn K mainGlobals "min" = some none)
    (z9 : PySem.W.nsIn K mainGlobals "range" = some none)
    (z10 : PySem.W.nsIn K mainGlobals "repr" = some none)
    (z11 : PySem.W.nsIn K mainGlobals "tuple" = some none)
    {tMOST_CYCLE : Tok} (mMOST_CYCLE : PySem.W.nsIn K mainGlobals "MOST_CYCLE" = some (some (.int 1000000000000000000000000000000 tMOST_CYCLE)))
    {tMOST_RECORDS : Tok} (mMOST_RECORDS : PySem.W.nsIn K mainGlobals "MOST_RECORDS" = some (some (.int 40 tMOST_RECORDS)))
    {tMOST_TRAVEL : Tok} (mMOST_TRAVEL : PySem.W.nsIn K mainGlobals "MOST_TRAVEL" = some (some (.int 1000000000000000000000000000000 tMOST_TRAVEL)))
    : ∃ fd : FuncData, (∀ (s : Shared) (v : Value), BindsTo s fd ⟨[v], []⟩ [("_law_script", v)]) ∧ ∀ base : Heap, K.In base → base.Ns mainGlobals mg → FnG l.prog w K mg base CX0 6 fa fd ["_law_script"] (spLaw K) := by
  have e := hfa.symm.trans (PySem.W.mg_of X G a16)
  cases e
  have B : Blt mg tMOST_CYCLE tMOST_RECORDS tMOST_TRAVEL := ⟨PySem.W.mg_none_of X G z0, PySem.W.mg_none_of X G z1, PySem.W.mg_none_of X G z2, PySem.W.mg_none_of X G z3, PySem.W.mg_none_of X G z4, PySem.W.mg_none_of X G z5, PySem.W.mg_none_of X G z6, PySem.W.mg_none_of X G z7, PySem.W.mg_none_of X G z8, PySem.W.mg_none_of X G z9, PySem.W.mg_none_of X G z10, PySem.W.mg_none_of X G z11, (PySem.W.mg_of X G mMOST_CYCLE).trans (congrArg (fun z => some (Value.int z tMOST_CYCLE)) (show (1000000000000000000000000000000 : Int) = (10 ^ 30) by decide +kernel)), (PySem.W.mg_of X G mMOST_RECORDS).trans (congrArg (fun z => some (Value.int z tMOST_RECORDS)) (show (40 : Int) = 40 by decide +kernel)), (PySem.W.mg_of X G mMOST_TRAVEL).trans (congrArg (fun z => some (Value.int z tMOST_TRAVEL)) (show (1000000000000000000000000000000 : Int) = (10 ^ 30) by decide +kernel))⟩
  have F0 := fun_mk (st := s_is_whole) l0 c0 k0
  have Dis_whole : Def K mg "is_whole" s_is_whole ["value"] f0 _ := ⟨F0, PySem.W.mg_of X G a0, F0.binds (ps := ["value"]) fun _ _ _ _ _ _ us hl => match us, hl with | [_], _ => rfl⟩
  have F1 := fun_mk (st := s_check_cycle) l1 c1 k1
  have Dcheck_cycle : Def K mg "check_cycle" s_check_cycle ["cycle"] f1 _ := ⟨F1, PySem.W.mg_of X G a1, F1.binds (ps := ["cycle"]) fun _ _ _ _ _ _ us hl => match us, hl with | [_], _ => rfl⟩
  have F2 := fun_mk (st := s_check_number_in) l2 c2 k2
  have Dcheck_number_in : Def K mg "check_number_in" s_check_number_in ["number", "least", "most"] f2 _ := ⟨F2, PySem.W.mg_of X G a2, F2.binds (ps := ["number", "least", "most"]) fun _ _ _ _ _ _ us hl => match us, hl with | [_, _, _], _ => rfl⟩
  have F3 := fun_mk (st := s_is_record) l3 c3 k3
  have Dis_record : Def K mg "is_record" s_is_record ["value"] f3 _ := ⟨F3, PySem.W.mg_of X G a3, F3.binds (ps := ["value"]) fun _ _ _ _ _ _ us hl => match us, hl with | [_], _ => rfl⟩
  have F4 := fun_mk (st := s_check_records) l4 c4 k4
  have Dcheck_records : Def K mg "check_records" s_check_records ["cycle", "travel", "records"] f4 _ := ⟨F4, PySem.W.mg_of X G a4, F4.binds (ps := ["cycle", "travel", "records"]) fun _ _ _ _ _ _ us hl => match us, hl with | [_, _, _], _ => rfl⟩
  have F5 := fun_mk (st := s_overtakes) l5 c5 k5
  have Dovertakes : Def K mg "overtakes" s_overtakes ["cycle", "record", "other"] f5 _ := ⟨F5, PySem.W.mg_of X G a5, F5.binds (ps := ["cycle", "record", "other"]) fun _ _ _ _ _ _ us hl => match us, hl with | [_, _, _], _ => rfl⟩
  have F6 := fun_mk (st := s_contradiction_in) l6 c6 k6
  have Dcontradiction_in : Def K mg "contradiction_in" s_contradiction_in ["cycle", "travel", "records"] f6 _ := ⟨F6, PySem.W.mg_of X G a6, F6.binds (ps := ["cycle", "travel", "records"]) fun _ _ _ _ _ _ us hl => match us, hl with | [_, _, _], _ => rfl⟩
  have F7 := fun_mk (st := s_fits) l7 c7 k7
  have Dfits : Def K mg "fits" s_fits ["cycle", "travel", "records"] f7 _ := ⟨F7, PySem.W.mg_of X G a7, F7.binds (ps := ["cycle", "travel", "records"]) fun _ _ _ _ _ _ us hl => match us, hl with | [_, _, _], _ => rfl⟩
  have F8 := fun_mk (st := s_l_pond) l8 c8 k8
  have Dl_pond : Def K mg "_law_pond" s_l_pond ["_law_script", "_law_k"] f8 _ := ⟨F8, PySem.W.mg_of X G a8, F8.binds (ps := ["_law_script", "_law_k"]) fun _ _ _ _ _ _ us hl => match us, hl with | [_, _], _ => rfl⟩
  have F9 := fun_mk (st := s_l_fish) l9 c9 k9
  have Dl_fish : Def K mg "_law_fish" s_l_fish ["_law_pond_here", "_law_bound"] f9 _ := ⟨F9, PySem.W.mg_of X G a9, F9.binds (ps := ["_law_pond_here", "_law_bound"]) fun _ _ _ _ _ _ us hl => match us, hl with | [_, _], _ => rfl⟩
  have F10 := fun_mk (st := s_l_shape) l10 c10 k10
  have Dl_shape : Def K mg "_law_shape" s_l_shape ["_law_pond_here", "_law_span", "_law_wide"] f10 _ := ⟨F10, PySem.W.mg_of X G a10, F10.binds (ps := ["_law_pond_here", "_law_span", "_law_wide"]) fun _ _ _ _ _ _ us hl => match us, hl with | [_, _, _], _ => rfl⟩
  have F11 := fun_mk (st := s_l_end) l11 c11 k11
  have Dl_end : Def K mg "_law_end" s_l_end ["_law_span", "_law_blocks", "_law_t"] f11 _ := ⟨F11, PySem.W.mg_of X G a11, F11.binds (ps := ["_law_span", "_law_blocks", "_law_t"]) fun _ _ _ _ _ _ us hl => match us, hl with | [_, _, _], _ => rfl⟩
  have F12 := fun_mk (st := s_l_against) l12 c12 k12
  have Dl_against : Def K mg "_law_against" s_l_against ["_law_span", "_law_one", "_law_other"] f12 _ := ⟨F12, PySem.W.mg_of X G a12, F12.binds (ps := ["_law_span", "_law_one", "_law_other"]) fun _ _ _ _ _ _ us hl => match us, hl with | [_, _, _], _ => rfl⟩
  have F13 := fun_mk (st := s_l_fit) l13 c13 k13
  have Dl_fit : Def K mg "_law_fit" s_l_fit ["_law_span", "_law_ticks", "_law_pairs_here"] f13 _ := ⟨F13, PySem.W.mg_of X G a13, F13.binds (ps := ["_law_span", "_law_ticks", "_law_pairs_here"]) fun _ _ _ _ _ _ us hl => match us, hl with | [_, _, _], _ => rfl⟩
  have F14 := fun_mk (st := s_l_pairs) l14 c14 k14
  have Dl_pairs : Def K mg "_law_pairs" s_l_pairs ["_law_pond_here", "_law_span", "_law_blocks", "_law_many"] f14 _ := ⟨F14, PySem.W.mg_of X G a14, F14.binds (ps := ["_law_pond_here", "_law_span", "_law_blocks", "_law_many"]) fun _ _ _ _ _ _ us hl => match us, hl with | [_, _, _, _], _ => rfl⟩
  have F15 := fun_mk (st := s_l_right) l15 c15 k15
  have Dl_right : Def K mg "_law_right" s_l_right ["_law_pond_here", "_law_span", "_law_ticks", "_law_pairs_here"] f15 _ := ⟨F15, PySem.W.mg_of X G a15, F15.binds (ps := ["_law_pond_here", "_law_span", "_law_ticks", "_law_pairs_here"]) fun _ _ _ _ _ _ us hl => match us, hl with | [_, _, _, _], _ => rfl⟩
  have F16 := fun_mk (st := s_law) l16 c16 k16
  have Dlaw : Def K mg "law" s_law ["_law_script"] fa _ := ⟨F16, PySem.W.mg_of X G a16, F16.binds (ps := ["_law_script"]) fun _ _ _ _ _ _ us hl => match us, hl with | [_], _ => rfl⟩
  refine ⟨PySem.W.fnOf "law" "law" (defArgs s_law) (defBody s_law) (defScope s_law) .none kV16 dc16 pm16 an16 cd16 ct16, fun s v => .of_eq rfl, fun base _ _ => ?_⟩
  have Gfits := ok_fits (P := l.prog) (w := w) (base := base) B Dfits Dcontradiction_in Dovertakes Dcheck_records Dis_record Dis_whole Dcheck_cycle Dcheck_number_in
  have Gl_fit := ok_fit (P := l.prog) (w := w) (base := base) B Dl_fit Dl_against
  have Gl_right := ok_right (P := l.prog) (w := w) (base := base) B Dl_right Dl_fish Dl_fit Dfits Gl_fit Gfits
  exact ok_law B Dlaw Dl_fish Dl_pond Dl_shape Dl_pairs Dl_right Dfits Dl_end Gl_right Gfits
end Gr
open PySem PySem.W PyProof.Rows
set_option maxHeartbeats 0 in
theorem PySem.Challenge.cw_greenroads_k51_records_that_fit_holds : PySem.Challenge.rw_greenroads_k51_records_that_fit.Holds := by
  w_on; o_law; k_head; (case hw => w_witness2)
  k_fill
  refine Gr.walkG (l := PySem.Challenge.rw_greenroads_k51_records_that_fit) (n := 63) (k := 6) (x := "_law_script") (sp := Gr.spLaw) rfl (by decide) rfl ⟨rfl, by decide, by decide⟩ (fun w h Y => PySem.W.kIn_of Y) ?F (fun K G a ns hl _ hS => ⟨a, ns, rfl, hS, hl, fun _ => rfl⟩)
  case F =>
    intro w mg fa h KX G hmg
    refine' Gr.all_mk KX G hmg ?a0 ?l0 ?c0 ?k0 ?a1 ?l1 ?c1 ?k1 ?a2 ?l2 ?c2 ?k2 ?a3 ?l3 ?c3 ?k3 ?a4 ?l4 ?c4 ?k4 ?a5 ?l5 ?c5 ?k5 ?a6 ?l6 ?c6 ?k6 ?a7 ?l7 ?c7 ?k7 ?a8 ?l8 ?c8 ?k8 ?a9 ?l9 ?c9 ?k9 ?a10 ?l10 ?c10 ?k10 ?a11 ?l11 ?c11 ?k11 ?a12 ?l12 ?c12 ?k12 ?a13 ?l13 ?c13 ?k13 ?a14 ?l14 ?c14 ?k14 ?a15 ?l15 ?c15 ?k15 ?a16 ?l16 ?c16 ?k16 ?z0 ?z1 ?z2 ?z3 ?z4 ?z5 ?z6 ?z7 ?z8 ?z9 ?z10 ?z11 ?mMOST_CYCLE ?mMOST_RECORDS ?mMOST_TRAVEL
    (case a0 => k_is)
    (case l0 => k_is)
    (case c0 => k_is)
    (case k0 => k_is)
    (case a1 => k_is)
    (case l1 => k_is)
    (case c1 => k_is)
    (case k1 => k_is)
    (case a2 => k_is)
    (case l2 => k_is)
    (case c2 => k_is)
    (case k2 => k_is)
    (case a3 => k_is)
    (case l3 => k_is)
    (case c3 => k_is)
    (case k3 => k_is)
    (case a4 => k_is)
    (case l4 => k_is)
    (case c4 => k_is)
    (case k4 => k_is)
    (case a5 => k_is)
    (case l5 => k_is)
    (case c5 => k_is)
    (case k5 => k_is)
    (case a6 => k_is)
    (case l6 => k_is)
    (case c6 => k_is)
    (case k6 => k_is)
    (case a7 => k_is)
    (case l7 => k_is)
    (case c7 => k_is)
    (case k7 => k_is)
    (case a8 => k_is)
    (case l8 => k_is)
    (case c8 => k_is)
    (case k8 => k_is)
    (case a9 => k_is)
    (case l9 => k_is)
    (case c9 => k_is)
    (case k9 => k_is)
    (case a10 => k_is)
    (case l10 => k_is)
    (case c10 => k_is)
    (case k10 => k_is)
    (case a11 => k_is)
    (case l11 => k_is)
    (case c11 => k_is)
    (case k11 => k_is)
    (case a12 => k_is)
    (case l12 => k_is)
    (case c12 => k_is)
    (case k12 => k_is)
    (case a13 => k_is)
    (case l13 => k_is)
    (case c13 => k_is)
    (case k13 => k_is)
    (case a14 => k_is)
    (case l14 => k_is)
    (case c14 => k_is)
    (case k14 => k_is)
    (case a15 => k_is)
    (case l15 => k_is)
    (case c15 => k_is)
    (case k15 => k_is)
    (case a16 => k_is)
    (case l16 => k_is)
    (case c16 => k_is)
    (case k16 => k_is)
    (case z0 => k_is)
    (case z1 => k_is)
    (case z2 => k_is)
    (case z3 => k_is)
    (case z4 => k_is)
    (case z5 => k_is)
    (case z6 => k_is)
    (case z7 => k_is)
    (case z8 => k_is)
    (case z9 => k_is)
    (case z10 => k_is)
    (case z11 => k_is)
    (case mMOST_CYCLE => k_is)
    (case mMOST_RECORDS => k_is)
    (case mMOST_TRAVEL => k_is)
