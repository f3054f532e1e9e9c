import PyProof.Rows.All
import Wide.All
import OpenK.AllK
import Wide.FinOn
import PyProof.EqAt
import PyProof.EqKinds
import PyProof.TupleCall
import HandS.ForMost
import HandS.Wide
import HandS.WideBits
import HandS.IsInst
import HandS.TupMul
import HandS.TupAny
import HandS.Style
import HandS.Conv
import HandS.Evl
import HandS.Rev
import PySem.Challenge.RW_greenroads_k04_first_hits
set_option Elab.async false
set_option linter.all false
set_option maxRecDepth 100000
set_option maxHeartbeats 2000000
/-! Defs under which no guard stands (so that repr of lists may be asked), and rules that the layer lacks. -/
namespace Gr
open PySem PySem.Spec PyProof.Rows L2

/-- no repr is under way around the call -/
abbrev Free (A : Around) : Prop := A.guards = some []
theorem Free.deep {A : Around} (h : Free A) (env : Env) : Free (A.deeper env) := h

structure FnG (P : Program) (w : World) (K : PySem.W.Frag) (mg : Str → Option Value) (base : Heap) (C : CXT) (k : Nat) (f : Addr) (fd : FuncData) (ps : List Str) (sp : Sp) : Prop where
  sized : ∀ xs G Z E, sp xs G Z E → xs.length = ps.length
  go : ∀ (A : Around) (envs : List Env) (st : Shared) (G : Hp) (ar : Args) (vals : List Value) (xs : List V) (Z : VK) (E : XK), Free A → Room k A → Env0 P w K mg base A envs st G →
    BindsTo st fd ar (ps.zip vals) → Vals xs vals → sp xs G Z E → codeAny (model P w) A (.call (.ref f) ar) (CR C envs P w G st Z E) st

section
variable {P : Program} {w : World} {K : PySem.W.Frag} {mg : Str → Option Value} {base : Heap} {C : CXT} {k : Nat} {f : Addr} {fd : FuncData} {ps : List Str} {sp : Sp}
theorem FnG.ofOk (F : FnOk P w K mg base C k f fd ps sp) : FnG P w K mg base C k f fd ps sp := ⟨F.len, fun A o st G ar vals xs Z E _ => F.run A o st G ar vals xs Z E⟩

theorem fnG_body {name qual : Str} {params : Arguments} {body : List Stmt} {sc : Scope} {dV kV doc pm cdv ct oc : Value} {an od : Option Addr} {osl : Array (Option Value)} {N : List Str}
    (lk : K.lookup f = some ⟨oc, od, .func (PySem.W.fnOf name qual params body sc dV kV doc pm an cdv ct), osl⟩) (hc : PySem.W.codeIn K cdv qual = true) (S : FnScope N ps sc) (sized : ∀ xs G Z E, sp xs G Z E → xs.length = ps.length)
    (hb : ∀ (A : Around) (envs : List Env) (st : Shared) (G : Hp) (xs : List V) (Z : VK) (E : XK), Free A → Room k (A.deeper (envOfC qual sc st.heap.objs.size f cdv)) → sp xs G Z E →
      ∃ t, PSs (cxOf C P w K mg base N qual sc f cdv A envs st G E) body t ∧ t { nx := fun _ G' => Z .non G', rt := Z } (start N xs) G) :
    FnG P w K mg base C (k + 1) f (PySem.W.fnOf name qual params body sc dV kV doc pm an cdv ct) ps sp where
  sized := sized
  go := by
    intro A envs st G ar vals xs Z E hf room e0 bt rv want
    have kin : K.In st.heap := e0.mod.kin.keeps (fun b o q => (e0.bs b o q).1)
    have nl : st.heap.NoLimit := e0.mod.nolimit.keeps (fun b o q => (e0.bs b o q).1)
    have kinds : ∀ q ∈ ps.zip vals, sc.names.lookup q.1 = some .local ∨ (sc.names.lookup q.1 = some .cell ∧ ((cellsFrom (st.heap.objs.size + 1) sc.names []).lookup q.1).isSome = true) := by
      rintro ⟨n, v⟩ hq
      cases S.par n (List.of_mem_zip hq).1 with
      | inl h => exact Or.inl h
      | inr h => exact Or.inr ⟨h, PySem.W.cellsFrom_some _ _ _ (Or.inl h)⟩
    apply codeAny_call_function room.depth (kin _ _ lk) rfl S.co S.gen rfl (PySem.W.codeRec_of kin hc)
    apply bt
    apply wpAny_newFunctionEnv_cells S.kind kinds
    intro env he s1 x
    cases he
    refine ⟨nl.keeps x.toInCall.keep, codeAny_func ?_⟩
    obtain ⟨t, ht, hq⟩ := hb A envs st G xs Z E hf (room.deeper _) want
    have J0 : Inv (cxOf C P w K mg base N qual sc f cdv A envs st G E) [] (start N xs) G s1 := inv_start S room.hd e0 (sized _ _ _ _ want) rv x
    apply wpAny_mono (ht.run [] s1 (start N xs) G _ J0 hq) _ (fun _ _ h => h)
    intro fl s2 hs
    cases fl with
    | ret u =>
      obtain ⟨v, τ, G2, J, r2, q2⟩ := hs
      exact ⟨v, G2, J.os, J.bare, J.base, J.hok, r2, q2⟩
    | next =>
      obtain ⟨τ, G2, J, q2⟩ := hs
      exact ⟨.non, G2, J.os, J.bare, J.base, J.hok, rfl, q2⟩
    | brk => exact (hs.elim fun _ h => h.elim fun _ h => h.2).elim
    | cont => exact (hs.elim fun _ h => h.elim fun _ h => h.2).elim

/-- a def by its body, guards known -/
theorem okG {x qual : Str} {st : Stmt} {N : List Str} (F : Fun K x qual st f fd) (S : FnScope N ps (defScope st)) (sized : ∀ xs G Z E, sp xs G Z E → xs.length = ps.length)
    (hb : ∀ (cdv : Value) (A : Around) (envs : List Env) (s : Shared) (G : Hp) (xs : List V) (Z : VK) (E : XK), Free A → Room k (A.deeper (envOfC qual (defScope st) s.heap.objs.size f cdv)) → sp xs G Z E →
      ∃ t, PSs (cxOf CX0 P w K mg base N qual (defScope st) f cdv A envs s G E).nox (defBody st) t ∧ t { nx := fun _ G' => Z .non G', rt := Z } (start N xs) G) : FnG P w K mg base CX0 (k + 1) f fd ps sp := by
  obtain ⟨oc, od, kV, doc, pm, an, cdv, ct, osl, rfl, lk, hcd⟩ := F.ex
  apply fnG_body lk hcd S sized
  intro A envs s G xs Z E hf hr hs
  obtain ⟨t, h, q⟩ := hb cdv A envs s G xs Z E hf hr hs
  exact ⟨t, h.nox, q⟩
end

section
variable {X : Cx} {C : CXT} {k : Nat} {f : Addr} {fd : FuncData} {ps : List Str} {sp : Sp} {dvs : List V} {ds : List Value} {E : XK} {x : Str} {p pos : Pos} {e : Expr} {es : List Expr} {t : TA}
theorem pe_callG (F : FnG X.prog X.w X.K X.mg X.base C k f fd ps sp) (hf : Free X.A) (hr : Room k X.A) (hg : Gl X x) (hm : X.mg x = some (.ref f)) (hk : PySem.W.keepIn X.K (.ref f) = true) (hb : Binds X.K fd ps ds) (hd : Vals dvs ds)
    (hx : Passes C X E) (ha : PA X (e :: es) t) (hdb : (x == ("__debug__" : Str)) = false := by decide) (he : starEach (e :: es) X.env = (false, eval e X.env) :: starEach es X.env := by rfl)
    (hpl : (backTo pos (starEach es X.env)).any (·.1) = false := by rfl) : PE X (.Call (.Name x p) (e :: es) [] pos) (tCall sp dvs E t) where
  run := by
    intro pins s σ H Q I h
    apply wpAny_Call_Name_kw
    apply ld_glob I hg hm _ hdb
    apply PySem.W.callWith_K (h₀ := X.base) I.ok.mod.kin hk _ he hpl
    apply thn (ha.run pos pins s σ H _ I h)
    rintro us s1 ⟨vs, H1, I1, r, q⟩
    have both : Vals (vs ++ dvs) (us ++ ds) := r.append hd
    have many : (us ++ ds).length = ps.length := both.length.symm.trans (F.sized _ _ _ _ q)
    refine ⟨I1.kIn, wpAny_call (codeAny_mono (F.go X.A X.stack s1 H1 ⟨us, []⟩ (us ++ ds) (vs ++ dvs) Q E hf hr I1.env0 (hb s1 us I1.kIn many) both q) ?_)⟩
    intro res s2 hq
    match res, hq with
    | .ok (.ret u), hq => exact I1.after hq
    | .error err, hq => exact hx pins σ H1 s1 err s2 I1 hq
end

/-! ### rules -/
section
variable {X : Cx}
def CPowW (i j : Int) : Prop := 0 ≤ j ∧ (Builtin.Int.intBits i : Int) * j ≤ 2 ^ 27
theorem op_powW : OpR X (binaryOp .Pow) (rI CPowW fun i j => .int (i ^ j.toNat)) := opI fun _ _ _ _ _ _ _ hc q => pow_int hc.1 hc.2 q
theorem bits_le {i : Int} {n : Nat} (h : i.natAbs < 2 ^ n) (h0 : 0 < n) : Builtin.Int.intBits i ≤ n := by
  have a := PySem.Flt.log2_lt_of h0 h
  unfold Builtin.Int.intBits
  split <;> omega
theorem cube_ok {i : Int} (h : i.natAbs < 2 ^ 1000) : CPowW i 3 := by
  have a := bits_le h (by decide)
  exact ⟨by decide, by omega⟩

/-- repr of a list, a tuple, what lies in them -/
def rRepr (K : PySem.W.Frag) : List V → Hp → VK → Prop := fun xs H Q => ∃ (a : Addr) (d : PyData), xs = [.ref a] ∧ Dp K H (.ref a) d ∧ d.showable = true ∧ d.hasDict = false ∧ d.depth ≤ 40 ∧ d.shown.length ≤ sizeLine ∧ Q (.str d.shown) H
theorem call_reprD (hf : Free X.A) (hu : X.A.units + 64 < cLine) : CallR X (.builtin "repr") (rRepr X.K) := by
  rintro pins s σ H xs us Q I r ⟨a, d, rfl, hD, hs, hd, h20, hz, q⟩
  obtain ⟨u, rfl, hr⟩ := vals1 r
  cases (show u = Value.ref a from hr)
  obtain ⟨as, rd⟩ := Dp.reads I d (.ref a) (.ref a) hD rfl
  exact repr_of_reads' rd hs (fun e => by rw [hd] at e; cases e) hf (by omega) (fun _ _ e => e) (fun h' u tk hk => ⟨.str d.shown, H, I.kept hk, ⟨u, rfl⟩, q⟩) hz
end

/-! ### the law's own call -/
section
variable {P : Program} {w : World} {K : PySem.W.Frag} {mg mb : Str → Option Value} {k : Nat} {fa a : Addr} {fd : FuncData} {x : Str} {sp : Sp} {st : Shared} {vs : List Value} {ns : List Int}
/-- behind the top: the heap with what G tracks hidden is a module's base -/
theorem base_mod {G : Hp} (kin : K.In st.heap) (hg : st.heap.Ns mainGlobals mg) (hb : st.heap.Ns builtinsNs mb) (hbb : ∀ y : Str, y ≠ "__name__" → mb y = bootBuiltins y) (nl : st.heap.NoLimit)
    (notD : ∀ b o es ep, st.heap.get? b = some o → o.data = .dict es ep → G b = none) (notK : ∀ b o, K.lookup b = some o → G b = none) :
    K.In (hidT st.heap G) ∧ (hidT st.heap G).Ns mainGlobals mg ∧ Mod K mg (hidT st.heap G) := by
  have nsH : ∀ {b : Addr} {m : Str → Option Value}, st.heap.Ns b m → (hidT st.heap G).Ns b m := by
    rintro b m ⟨o, es, ep, e, d, rest⟩
    exact ⟨o, es, ep, hidT_get e (notD b o es ep e d), d, rest⟩
  have kH : K.In (hidT st.heap G) := fun b o e => hidT_get (kin b o e) (notK b o e)
  obtain ⟨mc, c1, c2⟩ := nl
  exact ⟨kH, nsH hg, kH, nsH hg, ⟨mb, nsH hb, hbb⟩, mc, nsH c1, c2⟩

theorem law_run {G : Hp} (bm : K.In (hidT st.heap G) ∧ (hidT st.heap G).Ns mainGlobals mg ∧ Mod K mg (hidT st.heap G)) (no : st.gens = #[]) (only : Only G) (sq : SqL K G a (ns.map V.int)) (ok : HOk P w G st.heap) (room : Room k callerA)
    (F : ∀ base : Heap, K.In base → base.Ns mainGlobals mg → FnG P w K mg base CX0 k fa fd [x] sp) (bt : ∀ (s : Shared) (u : Value), BindsTo s fd ⟨[u], []⟩ [(x, u)])
    (want : sp [.ref a] G (fun v _ => v = .bl true) fun _ _ _ => False) :
    codeAny (model P w) callerA (.call (.ref fa) ⟨[.ref a], []⟩) (fun r s2 => r = .ok (.ret (.bool true)) ∧ OldK st.heap s2.heap ∧ s2.os = st.os ∧ AllBare s2.gens) st := by
  obtain ⟨b1, b2, b3⟩ := bm
  have e0 : Env0 P w K mg (hidT st.heap G) callerA [] st G :=
    { frames := rfl, mod := b3, bs := fun b o e => of_hidT e, bsz := Nat.le_of_eq (hidT_size _ _), funs := trivial, frf := fun b h => (List.not_mem_nil (show b ∈ ([] : List Addr) from h)).elim, hok := ok, bare := .of_eq no }
  apply codeAny_mono ((F _ b1 b2).go callerA [] st G ⟨[.ref a], []⟩ [.ref a] [.ref a] _ _ rfl room e0 (bt st (.ref a)) (.cons rfl .nil) want)
  intro r s2 h
  match r, h with
  | .ok (.ret u), h =>
    obtain ⟨v, G2, os, bare, un, ok2, rv, q⟩ := h
    cases (show v = .bl true from q)
    cases (show u = Value.bool true from rv)
    refine ⟨rfl, OldK.of_keep (fun b o e => ?_), os, bare⟩
    rcases only b with z | ⟨ob, xs, z⟩
    · exact un.keep b o e z (fun h => (List.not_mem_nil (show b ∈ ([] : List Addr) from h)).elim) (by simp)
    · have e1 := (ok b _ z).1
      have e2 := (ok2 b _ (un.frzs b ob _ z)).1
      rw [e] at e1
      cases e1
      exact e2

theorem law_callG (kin : K.In st.heap) (hg : st.heap.Ns mainGlobals mg) (hb : st.heap.Ns builtinsNs mb) (hbb : ∀ y : Str, y ≠ "__name__" → mb y = bootBuiltins y) (nl : st.heap.NoLimit) (no : st.gens = #[])
    (ha : st.heap.get? a = some { cls := .type "list", data := .seq vs.toArray }) (hi : IntsAre vs ns) (hl : ns.length ≤ sizeLine) (room : Room k callerA)
    (F : ∀ base : Heap, K.In base → base.Ns mainGlobals mg → FnG P w K mg base CX0 k fa fd [x] sp) (bt : ∀ (s : Shared) (u : Value), BindsTo s fd ⟨[u], []⟩ [(x, u)])
    (want : ∀ G : Hp, Only G → SqL K G a (ns.map V.int) → sp [.ref a] G (fun v _ => v = .bl true) fun _ _ _ => False) :
    codeAny (model P w) callerA (.call (.ref fa) ⟨[.ref a], []⟩) (fun r s2 => r = .ok (.ret (.bool true)) ∧ OldK st.heap s2.heap ∧ s2.os = st.os ∧ AllBare s2.gens) st := by
  have rv := vals_ints hi
  cases hk : K.lookup a with
  | some o =>
    have e := kin a o hk
    rw [ha] at e
    cases e
    have sq : SqL K (fun _ => none) a (ns.map V.int) := Or.inr ⟨_, vs.toArray, _, hk, rfl, rfl, rfl, by rw [List.size_toArray, hi.length]; exact hl, by simpa using rv⟩
    exact law_run (G := fun _ => none) (base_mod kin hg hb hbb nl (fun _ _ _ _ _ _ => rfl) fun _ _ _ => rfl) no (fun _ => Or.inl rfl) sq (fun b u z => nomatch (show (none : Option HO) = some u from z)) room F bt (want _ (fun _ => Or.inl rfl) sq)
  | none =>
    have at1 : (fun b => if b = a then some (HO.frz { cls := .type "list", data := .seq vs.toArray } (.lst (ns.map V.int))) else none : Hp) a = some (HO.frz { cls := .type "list", data := .seq vs.toArray } (.lst (ns.map V.int))) := if_pos rfl
    generalize hG : (fun b => if b = a then some (HO.frz { cls := .type "list", data := .seq vs.toArray } (.lst (ns.map V.int))) else none : Hp) = G at at1
    have at0 : ∀ b, b ≠ a → G b = none := fun b hb => by rw [← hG]; exact if_neg hb
    have sq : SqL K G a (ns.map V.int) := Or.inl (Or.inr ⟨_, at1⟩)
    have only : Only G := fun b => by
      by_cases hb : b = a
      · exact Or.inr ⟨_, _, hb ▸ at1⟩
      · exact Or.inl (at0 b hb)
    refine law_run (base_mod kin hg hb hbb nl (fun b o es ep e d => ?_) fun b o e => ?_) no only sq (fun b u z => ?_) room F bt (want _ only sq)
    · by_cases hb : b = a
      · rw [hb, ha] at e
        cases e
        cases (show Data.seq vs.toArray _ = Data.dict es ep from d)
      · exact at0 b hb
    · exact at0 b (fun hb => by rw [hb, hk] at e; cases e)
    · by_cases hb : b = a
      · subst hb
        rw [at1] at z
        cases z
        exact ⟨ha, by rw [List.length_map]; exact hl, vs, _, rv, ha⟩
      · rw [at0 b hb] at z
        cases z
end

theorem walkG {l : PySem.W.OpenLaw} {n k : Nat} {q : Program} {loose : List Str} {XP : (Str → Option Value) → Heap → Prop} {YP : World → Heap → Prop} {d : DefRec} {K : Params → PySem.W.Frag} {sp : PySem.W.Frag → Sp} {x : Str}
    (hn : l.most = some n) (hn2 : n ≤ sizeLine) (hdf : d.params.defaults = []) (hr : Room k callerA) (hY : ∀ (w : World) (h : Heap), YP w h → (K w.params).In h)
    (F : ∀ (w : World) (mg : Str → Option Value) (fa : Addr) (h : Heap), (K w.params).In h → h.Ns mainGlobals mg → mg d.name = some (.ref fa) →
      ∃ fd : FuncData, (∀ (s : Shared) (u : Value), BindsTo s fd ⟨[u], []⟩ [(x, u)]) ∧ ∀ base : Heap, (K w.params).In base → base.Ns mainGlobals mg → FnG l.prog w (K w.params) mg base CX0 k fa fd [x] (sp (K w.params)))
    (hsp : ∀ (K : PySem.W.Frag) (G : Hp) (a : Addr) (ns : List Int), ns.length ≤ n → Only G → SqL K G a (ns.map V.int) → sp K [.ref a] G (fun v _ => v = .bl true) fun _ _ _ => False) :
    PySem.W.WalkO q loose XP YP l.row.toRowW d [] (fun f vs => PySem.call f vs) := by
  apply Att.attach_call hn hdf
  intro w s₀ s₁ mg mb fa o pm cd doc a vs ns G Y ho hd hcd hmg hobj hints hlen hg
  have kin := hY w _ Y
  obtain ⟨fd, hb, hF⟩ := F w mg fa _ kin G.T.g hmg
  exact law_callG kin G.T.g G.T.b G.T.builtins G.T.nolimit hg hobj hints (Nat.le_trans hlen hn2) hr hF hb (fun H hO hS => hsp (K w.params) H a ns hlen hO hS)
end Gr

set_option Elab.async false
set_option linter.all false
set_option maxRecDepth 100000
set_option maxHeartbeats 4000000
/-! t[::-1] of a tuple, repr of what is no object. -/
namespace Gr
open PySem PySem.Spec PyProof.Rows L2 HT
section
variable {prog : Program} {w : World} {A : Around} {E : Value → Shared → Prop} {s : Shared}
theorem back_places (n : Nat) : Builtin.Slice.slicePlaces ((n : Int) - 1) (-1) (-1) = n := by
  unfold Builtin.Slice.slicePlaces
  rw [if_neg (by decide)]
  by_cases h : (n : Int) - 1 > -1
  · rw [if_pos h]
    simp only [Int.neg_neg, Int.ediv_one]
    omega
  · rw [if_neg h]; omega
theorem back_applied {sl : Addr} {n : Nat} {t : Tok} {Q : Int × Int × Nat → Shared → Prop} (hs : s.heap.IsSliceOf sl .none .none (.int (-1) t)) (h : Q ((n : Int) - 1, -1, n) s) :
    wpAny (model prog w) A (Builtin.Slice.sliceApplied (.ref sl) (pure (n : Int))) Q E s := by
  obtain ⟨os, e1, e2, e3⟩ := id hs
  unfold Builtin.Slice.sliceApplied Builtin.Slice.sliceFields
  apply wpAny_bind
  apply wpAny_bind
  refine wpAny_field e1 e3 (x := .none) rfl ?_
  apply wpAny_bind
  refine wpAny_field e1 e3 (x := .none) rfl ?_
  apply wpAny_bind
  refine wpAny_field e1 e3 (x := .int (-1) t) rfl (wpAny_pure ?_)
  refine wpAny_bind (slicePart_int ?_)
  show wpAny _ _ (if ((-1 : Int) == 0) = true then _ else _) _ _ s
  rw [if_neg (by decide)]
  apply wpAny_bind
  apply slicePart_none
  apply wpAny_bind
  apply slicePart_none
  refine wpAny_bind (wpAny_pure ?_)
  show wpAny _ _ (pure ((n : Int) - 1, (-1 : Int), Builtin.Slice.slicePlaces ((n : Int) - 1) (-1) (-1))) _ _ s
  rw [back_places]
  exact wpAny_pure h
theorem fm_congr {α β : Type} {f g : α → Option β} : ∀ {l : List α}, (∀ x ∈ l, f x = g x) → l.filterMap f = l.filterMap g
  | [], _ => rfl
  | a :: r, h => by
    rw [List.filterMap_cons, List.filterMap_cons, h a List.mem_cons_self, fm_congr fun x hx => h x (List.mem_cons_of_mem _ hx)]
theorem back_pick (xs : Array Value) : ((List.range xs.size).filterMap fun (m : Nat) => xs[(((xs.size : Int) - 1) + (m : Int) * (-1)).toNat]?).toArray = xs.toList.reverse.toArray := by
  congr 1
  have key : ∀ m ∈ List.range xs.size, xs[(((xs.size : Int) - 1) + (m : Int) * (-1)).toNat]? = xs.toList.reverse[m]? := by
    intro m hm
    have hm' : m < xs.size := List.mem_range.mp hm
    rw [List.getElem?_reverse (by simpa using hm')]
    have e : (((xs.size : Int) - 1) + (m : Int) * (-1)).toNat = xs.toList.length - 1 - m := by
      rw [Array.length_toList]; omega
    rw [e, Array.getElem?_toList]
  rw [fm_congr key]
  have : ∀ l : List Value, (List.range l.length).filterMap (fun m => l[m]?) = l := by
    intro l
    induction l with
    | nil => rfl
    | cons a r ih =>
      rw [List.length_cons, List.range_succ_eq_map, List.filterMap_cons]
      show a :: _ = _
      rw [List.filterMap_map]
      exact congrArg (a :: ·) ih
  have z := this xs.toList.reverse
  rw [List.length_reverse, Array.length_toList] at z
  exact z
theorem getItem_tuple_back {t sl : Addr} {items : Array Value} {u : Tok} {Q : Value → Shared → Prop} (ht : IsTup s.heap t items) (hs : s.heap.IsSliceOf sl .none .none (.int (-1) u))
    (h : Q (.ref s.heap.objs.size) { s with heap := s.heap.push { cls := .type "tuple", data := .seq items.toList.reverse.toArray } }) (hsz : items.size ≤ sizeLine) : wpAny (model prog w) A (getItem (.ref t) (.ref sl)) Q E s := by
  have ok : sizeOk (.seq items.toList.reverse.toArray) := by
    show items.toList.reverse.toArray.size ≤ sizeLine
    rw [List.size_toArray, List.length_reverse, Array.length_toList]
    exact hsz
  obtain ⟨os, e1, e2, e3⟩ := id hs
  have tS : s.TypeIs (.ref sl) "slice" := ⟨os, e1, e2⟩
  unfold getItem
  try with_reducible refine wpAny_holding ?_
  first | refine wpAny_bind (wpAny_pure ?_) | skip
  apply wpAny_bind
  apply wpAny_sequenceKey ht.typeIs (by decide)
  apply wpAny_bind
  refine wpAny_callSpecial?_slot (name := Str.ofString "__getitem__") ht.typeIs PyProof.Rows.slot_tuple_getitem ?_
  refine wpAny_call_entry PyProof.Rows.slot_tuple_getitem ht.typeIs entry_tuple_getitem ?_ (args_tuple_getitem _ _)
  show wpAny _ _ (Builtin.Tuple.tupleItemsOf (.ref t) >>= _) _ _ s
  apply wpAny_bind
  apply tupleItemsOf_ ht
  apply wpAny_bind
  apply wpAny_typeOf tS
  rw [if_pos (by decide)]
  apply wpAny_bind
  apply back_applied hs
  have no : ¬ ((((items.size : Int) - 1) == 0 && (-1 : Int) == 1 && items.size == items.size) = true) := by
    rw [show ((-1 : Int) == 1) = false from rfl, Bool.and_false, Bool.false_and]
    exact Bool.false_ne_true
  show wpAny _ _ (if (((items.size : Int) - 1) == 0 && (-1 : Int) == 1 && items.size == items.size) = true then _ else _) _ _ s
  rw [if_neg no, back_pick]
  first
    | exact wpAny_bind (m := Builtin.Tuple.tupleExact _) (wpAny_newObj_type (wpAny_pure ⟨_, rfl, wpAny_pure h⟩) ok)
    | exact wpAny_bind (m := Builtin.Tuple.tupleExact _) (wpAny_newObj_type (wpAny_bind (wpAny_pure (wpAny_pure ⟨_, rfl, wpAny_pure h⟩))) ok)
    | exact wpAny_bind (wpAny_bind (m := Builtin.Tuple.tupleExact _) (wpAny_newObj_type (wpAny_pure (wpAny_pure ⟨_, rfl, wpAny_pure h⟩)) ok))
    | exact wpAny_bind (wpAny_bind (m := Builtin.Tuple.tupleExact _) (wpAny_newObj_type (wpAny_pure ⟨_, rfl, wpAny_pure h⟩) ok))
end
section
variable {X : Cx}
/-- t[::-1] -/
def tRevT (K : PySem.W.Frag) (te : TE) : TE := fun σ H Q => te σ H fun x H1 => ∃ a xs, x = .ref a ∧ SqT K H1 a xs ∧ ∀ p, H1 p = none → Q (.ref p) (upd H1 p (.tup xs.reverse))
theorem pe_revT {e : Expr} {te : TE} {k : Nat} {p1 p2 p3 pos : Pos} (he : PE X e te) : PE X (.Subscript e (.Slice none none (some (.UnaryOp .USub (.Constant (.int 1) k p1) p2)) p3) pos) (tRevT X.K te) where
  run := by
    intro pins s σ H Q I h
    apply Subscript_
    refine thn (he.run pins s σ H _ I h) ?_
    rintro v s1 ⟨x, H1, I1, r1, a, xs, rfl, hx, q⟩
    cases r1
    have step : PO X (some (.UnaryOp .USub (.Constant (.int 1) k p1) p2)) (tPart (tUn (rU fun i => .int (-i)) (tC (.int 1)))) := po_some (pe_un un_neg pe_int)
    apply wpAny_Slice
    refine thn (po_none.run pins s1 σ H1 (fun o G => o = none ∧ G = H1) I1 ⟨rfl, rfl⟩) ?_
    rintro vl s2 ⟨_, G2, I2, pl, rfl, g2⟩
    rw [g2] at I2
    refine thn (po_none.run pins s2 σ H1 (fun o G => o = none ∧ G = H1) I2 ⟨rfl, rfl⟩) ?_
    rintro vu s3 ⟨_, G3, I3, pu, rfl, g3⟩
    rw [g3] at I3
    refine thn (step.run pins s3 σ H1 (fun o G => o = some (-1) ∧ G = H1) I3 ⟨1, rfl, -1, rfl, rfl, rfl⟩) ?_
    rintro vs s4 ⟨_, G4, I4, ps, rfl, g4⟩
    rw [g4] at I4
    cases pl
    cases pu
    cases ps with
    | int i t =>
      have I5 : Inv X pins σ H1 { s4 with heap := s4.heap.push { cls := .type "slice", data := .fields #[.none, .none, .int (-1) t] } } := I4.kept (t' := s4.toks) fun b ob q => Heap.get?_push_of_some _ q
      obtain ⟨its, r, ht, hz⟩ := I5.tuple hx
      have hlen : its.toArray.size = xs.length := by rw [List.size_toArray]; exact r.length.symm
      show wpAny (model X.prog X.w) X.A (subscriptTail e (.Slice none none (some (.UnaryOp .USub (.Constant (.int 1) k p1) p2)) p3) (.ref a) (.ref s4.heap.objs.size)) (EP X pins σ Q) X.xe { s4 with heap := s4.heap.push { cls := .type "slice", data := .fields #[.none, .none, .int (-1) t] } }
      refine tail_any (ops := [.ref a, .ref s4.heap.objs.size]) ht.typeIs (PyProof.Rows.slot_tuple_getitem.lookup) ?_ (by with_unfolding_all rfl)
      refine getItem_tuple_back ht (Heap.IsSliceOf.new _ .none .none (.int (-1) t)) ?_ (by rw [hlen]; exact hz)
      refine ⟨.ref _, _, I5.laid (t' := s4.toks) (o := .tup xs.reverse) (fun b ob q => Heap.get?_push_of_some _ q) (Nat.le_refl _) ?_, rfl, q _ (I5.hok.fresh (Nat.le_refl _))⟩
      exact ⟨by rw [List.length_reverse]; exact hz, its.toArray.toList.reverse, by simpa using r.reverse, IsTup.new _ _⟩

/-- repr of an object, a truth, None, an int -/
def rReprA (K : PySem.W.Frag) : List V → Hp → VK → Prop := fun xs H Q => ∃ (x : V) (d : PyData), xs = [x] ∧ Dp K H x d ∧ d.showable = true ∧ d.hasDict = false ∧ d.depth ≤ 40 ∧ d.shown.length ≤ sizeLine ∧ (∀ y, x ≠ .str y) ∧ Q (.str d.shown) H
theorem call_reprA (hf : Free X.A) (hu : X.A.units + 64 < cLine) : CallR X (.builtin "repr") (rReprA X.K) := by
  rintro pins s σ H xs us Q I r ⟨x, d, rfl, hD, hs, hd, h20, hz, hy, q⟩
  obtain ⟨u, rfl, hr⟩ := vals1 r
  cases hD with
  | non =>
    cases (show u = Value.none from hr)
    exact PySem.P.repr_of_none ⟨.str _, H, I.tok _, ⟨_, rfl⟩, by simpa [PyData.shown] using q⟩
  | bl b =>
    cases (show u = Value.bool b from hr)
    exact PySem.P.repr_of_bool ⟨.str _, H, I.tok _, ⟨_, rfl⟩, by simpa [PyData.shown] using q⟩
  | int i =>
    obtain ⟨t, rfl⟩ := (show ∃ t, u = Value.int i t from hr)
    exact PySem.P.repr_of_int (by simpa [PyData.showable] using hs) ⟨.str _, H, I.tok _, ⟨_, rfl⟩, by simpa [PyData.shown] using q⟩
  | str y => exact absurd rfl (hy y)
  | @lst a ys ds h1 h2 => exact call_reprD hf hu pins s σ H [.ref a] [u] Q I r ⟨a, _, rfl, .lst h1 h2, hs, hd, h20, hz, q⟩
  | @tup a ys ds h1 h2 => exact call_reprD hf hu pins s σ H [.ref a] [u] Q I r ⟨a, _, rfl, .tup h1 h2, hs, hd, h20, hz, q⟩
end
end Gr

set_option Elab.async false
set_option linter.all false
set_option maxRecDepth 100000
set_option maxHeartbeats 4000000
/-! The least of many steps that hits: the mathematics. -/
namespace Gr
def Least (p : Int → Prop) : Option Int → Prop
  | none => ∀ n, 0 ≤ n → ¬ p n
  | some n => 0 ≤ n ∧ p n ∧ ∀ k, 0 ≤ k → k < n → ¬ p k
theorem Least.uniq {p : Int → Prop} {r r' : Option Int} (h : Least p r) (h' : Least p r') : r = r' := by
  cases r with
  | none =>
    cases r' with
    | none => rfl
    | some n => exact absurd h'.2.1 (h n h'.1)
  | some m =>
    cases r' with
    | none => exact absurd h.2.1 (h' m h.1)
    | some n =>
      congr 1
      rcases Int.lt_trichotomy m n with a | a | a
      · exact absurd h.2.1 (h'.2.2 m h.1 a)
      · exact a
      · exact absurd h'.2.1 (h.2.2 n h'.1 a)
theorem Least.to {p q : Int → Prop} {r : Option Int} (h : Least p r) (e : ∀ n, 0 ≤ n → (p n ↔ q n)) : Least q r := by
  cases r with
  | none => exact fun n n0 z => h n n0 ((e n n0).mpr z)
  | some m => exact ⟨h.1, (e m h.1).mp h.2.1, fun k k0 k1 z => h.2.2 k k0 k1 ((e k k0).mpr z)⟩
def hit (c b s f l : Int) (n : Int) : Prop := (b + n * s - f) % c < l
def inW (m a l h : Int) (n : Int) : Prop := l ≤ (n * a) % m ∧ (n * a) % m ≤ h
/-- the quotient rounded up -/
def up (x a : Int) : Int := -((-x) / a)
theorem up_mul (x a : Int) : up x a * a = x + (-x) % a := by
  have h := Int.emod_add_mul_ediv (-x) a
  unfold up
  rw [Int.neg_mul, Int.mul_comm ((-x) / a) a]
  omega
theorem up_rng {x a : Int} (ha : 0 < a) : x ≤ up x a * a ∧ up x a * a < x + a := by
  rw [up_mul]
  have h0 := Int.emod_nonneg (-x) (show a ≠ 0 by omega)
  have h1 := Int.emod_lt_of_pos (-x) ha
  omega
theorem lt_of_mul {x y a : Int} (ha : 0 < a) (h : x * a < y * a) : x < y := Int.lt_of_mul_lt_mul_right h (by omega)
theorem up_pos {x a : Int} (ha : 0 < a) (hx : 0 < x) : 0 < up x a := by
  have := (up_rng (x := x) ha).1
  exact lt_of_mul ha (by omega)
theorem up_mono {x y a : Int} (ha : 0 < a) (h : x ≤ y) : up x a ≤ up y a := by
  have h1 := (up_rng (x := x) ha).2
  have h2 := (up_rng (x := y) ha).1
  have : up x a * a < (up y a + 1) * a := by rw [Int.add_mul]; omega
  have := lt_of_mul ha this
  omega
theorem direct {m a l h : Int} (ha : 0 < a) (l0 : 0 < l) (hm : h < m) (hh : up l a * a ≤ h) : Least (inW m a l h) (some (up l a)) := by
  have r := up_rng (x := l) ha
  refine ⟨Int.le_of_lt (up_pos ha l0), ?_, fun k k0 k1 z => ?_⟩
  · unfold inW
    rw [Int.emod_eq_of_lt (by omega) (by omega)]
    exact ⟨r.1, hh⟩
  · have a1 : (k + 1) * a ≤ up l a * a := Int.mul_le_mul_of_nonneg_right (by omega) (by omega)
    rw [Int.add_mul, Int.one_mul] at a1
    have a0 : 0 ≤ k * a := Int.mul_nonneg k0 (by omega)
    unfold inW at z
    rw [Int.emod_eq_of_lt a0 (by omega)] at z
    omega
theorem inner {m a l h : Int} (ha : 0 < a) (l0 : 0 < l) (lh : l ≤ h) (hno : ¬ up l a * a ≤ h) : 0 < (-h) % a ∧ (-h) % a ≤ (-l) % a ∧ (-l) % a < a ∧ (-h) % a = (-l) % a - (h - l) := by
  rw [up_mul] at hno
  have u1 := Int.emod_lt_of_pos (-l) ha
  have e : (-h) % a = (-l) % a - (h - l) := by
    have : (-h) % a = ((-l) % a - (h - l)) % a := by
      rw [Int.emod_sub_emod]
      congr 1
      omega
    rw [this, Int.emod_eq_of_lt (by omega) (by omega)]
  omega
theorem mul_rest (k m a : Int) : (k * (m % a)) % a = (k * m) % a := by rw [Int.mul_emod k (m % a) a, Int.emod_emod, ← Int.mul_emod]
theorem around {m a l h : Int} (ha : 0 < a) (am : a < m) (l0 : 0 < l) (lh : l ≤ h) (hm : h < m) (hno : ¬ up l a * a ≤ h) {r : Option Int} (hr : Least (inW a (m % a) ((-h) % a) ((-l) % a)) r) : Least (inW m a l h) (r.map fun k => up (l + k * m) a) := by
  obtain ⟨i0, i1, i2, i3⟩ := inner (m := m) ha l0 lh hno
  have nz : a ≠ 0 := by omega
  have mz : m ≠ 0 := by omega
  have rest : ∀ k : Int, (k * (m % a)) % a = (k * m) % a := fun k => mul_rest k m a
  have neg : ∀ k : Int, (-(l + k * m)) % a = ((-l) % a - (k * m) % a) % a := fun k => by
    rw [Int.emod_sub_emod, Int.sub_emod_emod]
    congr 1
    omega
  have to : ∀ k, 0 ≤ k → inW a (m % a) ((-h) % a) ((-l) % a) k → inW m a l h (up (l + k * m) a) := fun k k0 z => by
    unfold inW at z
    rw [rest] at z
    have t1 := Int.emod_lt_of_pos (k * m) ha
    have t0 := Int.emod_nonneg (k * m) nz
    have e2 : ((-l) % a - (k * m) % a) % a = (-l) % a - (k * m) % a := Int.emod_eq_of_lt (by omega) (by omega)
    have e := (neg k).trans e2
    unfold inW
    rw [up_mul, e]
    have : (l + k * m + ((-l) % a - k * m % a)) % m = l + ((-l) % a - k * m % a) := by
      rw [show l + k * m + ((-l) % a - k * m % a) = l + ((-l) % a - k * m % a) + k * m by omega, Int.add_mul_emod_self_right, Int.emod_eq_of_lt (by omega) (by omega)]
    omega
  have back : ∀ n, 0 ≤ n → inW m a l h n → 0 ≤ (n * a) / m ∧ inW a (m % a) ((-h) % a) ((-l) % a) ((n * a) / m) ∧ up (l + (n * a) / m * m) a = n := fun n n0 z => by
    unfold inW at z
    have na : 0 ≤ n * a := Int.mul_nonneg n0 (by omega)
    have k0 : 0 ≤ (n * a) / m := Int.ediv_nonneg na (by omega)
    have d := Int.emod_add_mul_ediv (n * a) m
    rw [Int.mul_comm m] at d
    have e : (-(l + (n * a) / m * m)) % a = (n * a) % m - l := by
      rw [show -(l + (n * a) / m * m) = ((n * a) % m - l) + (-n) * a by rw [Int.neg_mul]; omega, Int.add_mul_emod_self_right, Int.emod_eq_of_lt (by omega) (by omega)]
    refine ⟨k0, ?_, ?_⟩
    · rw [neg] at e
      have t0 := Int.emod_nonneg ((n * a) / m * m) nz
      have t1 := Int.emod_lt_of_pos ((n * a) / m * m) ha
      unfold inW
      rw [rest]
      by_cases c : (n * a) / m * m % a ≤ (-l) % a
      · have e2 : ((-l) % a - ((n * a) / m * m) % a) % a = (-l) % a - ((n * a) / m * m) % a := Int.emod_eq_of_lt (by omega) (by omega)
        omega
      · have e2 : ((-l) % a - ((n * a) / m * m) % a) % a = (-l) % a - ((n * a) / m * m) % a + a := by
          rw [← Int.add_emod_right, Int.emod_eq_of_lt (by omega) (by omega)]
        omega
    · have q := up_mul (l + (n * a) / m * m) a
      rw [e] at q
      have q2 : up (l + (n * a) / m * m) a * a = n * a := by omega
      exact Int.eq_of_mul_eq_mul_right nz q2
  cases r with
  | none => exact fun n n0 z => hr _ (back n n0 z).1 (back n n0 z).2.1
  | some k =>
    obtain ⟨k0, k1, k2⟩ := hr
    have km : 0 ≤ k * m := Int.mul_nonneg k0 (by omega)
    refine ⟨Int.le_of_lt (up_pos ha (by omega)), to k k0 k1, fun n n0 n1 z => ?_⟩
    obtain ⟨b0, b1, b2⟩ := back n n0 z
    have : ¬ (n * a) / m < k := fun c => k2 _ b0 c b1
    have g : k * m ≤ (n * a) / m * m := Int.mul_le_mul_of_nonneg_right (by omega) (by omega)
    have := up_mono (x := l + k * m) (y := l + (n * a) / m * m) ha (by omega)
    show False
    have n1' : n < up (l + k * m) a := n1
    omega
theorem zeroW {m l h : Int} (l0 : 0 < l) : Least (inW m 0 l h) none := fun n _ z => by
  unfold inW at z
  rw [Int.mul_zero, Int.zero_emod] at z
  omega
/-- the first question as one of multiples -/
theorem hit_inW {c b s f l : Int} (hc : 0 < c) (l0 : 1 ≤ l) (no : ¬ (b - f) % c < l) (n : Int) : hit c b s f l n ↔ inW c (s % c) ((f - b) % c) ((f - b) % c + l - 1) n := by
  have d0 := Int.emod_nonneg (b - f) (show c ≠ 0 by omega)
  have d1 := Int.emod_lt_of_pos (b - f) hc
  have e : (f - b) % c = c - (b - f) % c := by
    have : (f - b) % c = (c - (b - f) % c) % c := by
      rw [Int.sub_emod_emod, show c - (b - f) = (f - b) + c by omega, Int.add_emod_right]
    rw [this, Int.emod_eq_of_lt (by omega) (by omega)]
  have x0 := Int.emod_nonneg (n * s) (show c ≠ 0 by omega)
  have x1 := Int.emod_lt_of_pos (n * s) hc
  have k : (b + n * s - f) % c = ((b - f) % c + (n * s) % c) % c := by
    rw [Int.emod_add_emod, Int.add_emod_emod]
    congr 1
    omega
  unfold hit inW
  rw [k, mul_rest, e]
  by_cases z : (b - f) % c + (n * s) % c < c
  · rw [Int.emod_eq_of_lt (by omega) z]
    omega
  · rw [← Int.sub_emod_right, Int.emod_eq_of_lt (by omega) (by omega)]
    omega
end Gr

set_option Elab.async false
set_option linter.all false
set_option pp.deepTerms false
set_option pp.maxSteps 3000
set_option maxRecDepth 100000
set_option maxHeartbeats 4000000
set_option exponentiation.threshold 30000
namespace Gr
open PySem PySem.Spec PyProof.Rows L2
def topS (i : Nat) : Stmt := PySem.Challenge.pw_greenroads_k04_first_hits.main.body.getD i (.Pass ⟨0, 0, 0, 0⟩)
abbrev s_is_whole : Stmt := topS 6
theorem scis_whole : FnScope ["value"] ["value"] (defScope s_is_whole) := ⟨rfl, rfl, rfl, by decide +kernel, rfl, by decide +kernel, by decide +kernel⟩
abbrev s_check_cycle : Stmt := topS 7
theorem sccheck_cycle : FnScope ["cycle"] ["cycle"] (defScope s_check_cycle) := ⟨rfl, rfl, rfl, by decide +kernel, rfl, by decide +kernel, by decide +kernel⟩
abbrev s_check_number : Stmt := topS 8
theorem sccheck_number : FnScope ["number"] ["number"] (defScope s_check_number) := ⟨rfl, rfl, rfl, by decide +kernel, rfl, by decide +kernel, by decide +kernel⟩
abbrev s_check_number_in : Stmt := topS 9
theorem sccheck_number_in : FnScope ["number", "least", "most"] ["number", "least", "most"] (defScope s_check_number_in) := ⟨rfl, rfl, rfl, by decide +kernel, rfl, by decide +kernel, by decide +kernel⟩
abbrev s_first_hit : Stmt := topS 11
theorem scfirst_hit : FnScope ["cycle", "begin", "step", "first", "length"] ["cycle", "begin", "step", "first", "length"] (defScope s_first_hit) := ⟨rfl, rfl, rfl, by decide +kernel, rfl, by decide +kernel, by decide +kernel⟩
abbrev s_met_within : Stmt := topS 12
theorem scmet_within : FnScope ["cycle", "begin", "step", "stretch", "most", "first", "length", "ahead"] ["cycle", "begin", "step", "stretch", "most"] (defScope s_met_within) := ⟨rfl, rfl, rfl, by decide +kernel, rfl, by decide +kernel, by decide +kernel⟩
abbrev s_least_factor : Stmt := topS 13
theorem scleast_factor : FnScope ["whole", "step", "low", "high", "most", "outer", "modulus", "count"] ["whole", "step", "low", "high", "most"] (defScope s_least_factor) := ⟨rfl, rfl, rfl, by decide +kernel, rfl, by decide +kernel, by decide +kernel⟩
abbrev s_factor_outside : Stmt := topS 14
theorem scfactor_outside : FnScope ["outer", "count", "modulus", "step", "low"] ["outer", "count"] (defScope s_factor_outside) := ⟨rfl, rfl, rfl, by decide +kernel, rfl, by decide +kernel, by decide +kernel⟩
abbrev s_l_pond : Stmt := topS 16
theorem scl_pond : FnScope ["_law_script", "_law_k", "_law_cell"] ["_law_script", "_law_k"] (defScope s_l_pond) := ⟨rfl, rfl, rfl, by decide +kernel, rfl, by decide +kernel, by decide +kernel⟩
abbrev s_l_fish : Stmt := topS 17
theorem scl_fish : FnScope ["_law_pond_here", "_law_bound", "_law_found", "_law_turn", "_law_mixed"] ["_law_pond_here", "_law_bound"] (defScope s_l_fish) := ⟨rfl, rfl, rfl, by decide +kernel, rfl, by decide +kernel, by decide +kernel⟩
abbrev s_l_least : Stmt := topS 18
theorem scl_least : FnScope ["_law_span", "_law_begin", "_law_step", "_law_place", "_law_size", "_law_n"] ["_law_span", "_law_begin", "_law_step", "_law_place", "_law_size"] (defScope s_l_least) := ⟨rfl, rfl, rfl, by decide +kernel, rfl, by decide +kernel, by decide +kernel⟩
abbrev s_l_small_right : Stmt := topS 19
theorem scl_small_right : FnScope ["_law_pond_here", "_law_span", "_law_begin", "_law_step", "_law_place", "_law_size", "_law_due", "_law_far", "_law_turn", "_law_factor", "_law_rest", "_law_told", "_law_whole", "_law_great", "_law_number"] ["_law_pond_here", "_law_span"] (defScope s_l_small_right) := ⟨rfl, rfl, rfl, by decide +kernel, rfl, by decide +kernel, by decide +kernel⟩
abbrev s_l_great_right : Stmt := topS 20
theorem scl_great_right : FnScope ["_law_pond_here", "_law_up", "_law_turns", "_law_span", "_law_pairs", "_law_step", "_law_inverse", "_law_begin", "_law_place", "_law_size", "_law_due", "_law_j", "_law_times"] ["_law_pond_here"] (defScope s_l_great_right) := ⟨rfl, rfl, rfl, by decide +kernel, rfl, by decide +kernel, by decide +kernel⟩
abbrev s_l_turns_right : Stmt := topS 21
theorem scl_turns_right : FnScope ["_law_pond_here", "_law_span", "_law_step", "_law_turn", "_law_more", "_law_one", "_law_other", "_law_back", "_law_inverse", "_law_begin", "_law_place", "_law_size", "_law_due", "_law_j"] ["_law_pond_here"] (defScope s_l_turns_right) := ⟨rfl, rfl, rfl, by decide +kernel, rfl, by decide +kernel, by decide +kernel⟩
abbrev s_l_wide_right : Stmt := topS 22
theorem scl_wide_right : FnScope ["_law_pond_here", "_law_span", "_law_begin", "_law_step", "_law_place", "_law_size", "_law_told", "_law_hits", "_law_n"] ["_law_pond_here"] (defScope s_l_wide_right) := ⟨rfl, rfl, rfl, by decide +kernel, rfl, by decide +kernel, by decide +kernel⟩
abbrev s_l_between_right : Stmt := topS 23
theorem scl_between_right : FnScope ["_law_pond_here", "_law_span", "_law_begin", "_law_step", "_law_n", "_law_size", "_law_place", "_law_told", "_law_spot", "_law_first", "_law_length", "_law_other"] ["_law_pond_here"] (defScope s_l_between_right) := ⟨rfl, rfl, rfl, by decide +kernel, rfl, by decide +kernel, by decide +kernel⟩
abbrev s_l_straight_right : Stmt := topS 24
theorem scl_straight_right : FnScope ["_law_pond_here", "_law_span", "_law_begin", "_law_place", "_law_size", "_law_ahead", "_law_due"] ["_law_pond_here"] (defScope s_l_straight_right) := ⟨rfl, rfl, rfl, by decide +kernel, rfl, by decide +kernel, by decide +kernel⟩
abbrev s_law : Stmt := topS 25
theorem sclaw : FnScope ["_law_script", "_law_k", "_law_pond_here", "_law_turn"] ["_law_script"] (defScope s_law) := ⟨rfl, rfl, rfl, by decide +kernel, rfl, by decide +kernel, by decide +kernel⟩
/-- what the text has at the top beside its defs -/
structure Blt (mg : Str → Option Value) (tMOST_CYCLE : Tok) : Prop where
  n_bool : mg "bool" = none
  n_int : mg "int" = none
  n_isinstance : mg "isinstance" = none
  len : mg "len" = none
  n_max : mg "max" = none
  n_min : mg "min" = none
  range : mg "range" = none
  n_repr : mg "repr" = none
  n_reversed : mg "reversed" = none
  MOST_CYCLE : mg "MOST_CYCLE" = some (.int (10 ^ 30) tMOST_CYCLE)
/-- a def that stands under its name -/
structure Def (K : PySem.W.Frag) (mg : Str → Option Value) (x : Str) (st : Stmt) (ps : List Str) (f : Addr) (fd : FuncData) : Prop where
  F : Fun K x x st f fd
  g : mg x = some (.ref f)
  b : Binds K fd ps []
theorem Same.new {H : Hp} {p : Addr} {o : HO} (h : H p = none) : Same H (upd H p o) := fun b u e => by
  rw [upd_ne (ne_of_none e h)]; exact e
theorem iteY {c A B : Prop} [Decidable c] (hc : c) (h : A) : if (decide c) = true then A else B := by
  rw [decide_eq_true hc]; exact iteT h
theorem iteN {c A B : Prop} [Decidable c] (hc : ¬ c) (h : B) : if (decide c) = true then A else B := by
  rw [decide_eq_false hc]; exact iteF h
theorem natAbs_lt {i : Int} {k : Nat} (h0 : 0 ≤ i) (h : i < ((2 ^ k : Nat) : Int)) : i.natAbs < 2 ^ k := by omega
theorem paired_at {α β : Type} {R : α → β → Prop} : ∀ {xs : List α} {ys : List β} {i : Nat} {x : α}, Paired R xs ys → xs[i]? = some x → ∃ y, ys[i]? = some y ∧ R x y
  | _, _, _, _, .nil, e => by simp at e
  | _, _, 0, _, .cons r _, e => by simp at e; subst e; exact ⟨_, rfl, r⟩
  | _, _, i + 1, x, .cons _ t, e => by
    obtain ⟨u, h1, h2⟩ := paired_at (i := i) (x := x) t (by simpa using e)
    exact ⟨u, by simpa using h1, h2⟩
theorem paired_len {α β : Type} {R : α → β → Prop} : ∀ {xs : List α} {ys : List β}, Paired R xs ys → xs.length = ys.length
  | _, _, .nil => rfl
  | _, _, .cons _ t => congrArg (· + 1) (paired_len t)
theorem paired_snoc {α β : Type} {R : α → β → Prop} : ∀ {xs : List α} {ys : List β} {x : α} {y : β}, Paired R xs ys → R x y → Paired R (xs ++ [x]) (ys ++ [y])
  | _, _, _, _, .nil, r => .cons r .nil
  | _, _, _, _, .cons q t, r => .cons q (paired_snoc t r)
def spWhole : Sp := fun vs H Q _ => ∃ i : Int, vs = [.int i] ∧ Q (.bl true) H
def spCycle : Sp := fun vs H Q _ => ∃ c : Int, vs = [.int c] ∧ 1 ≤ c ∧ c ≤ 10 ^ 30 ∧ Q .non H
def spNumber : Sp := fun vs H Q _ => ∃ c : Int, vs = [.int c] ∧ Q .non H
def spNumberIn : Sp := fun vs H Q _ => ∃ c lo hi : Int, vs = [.int c, .int lo, .int hi] ∧ lo ≤ c ∧ c ≤ hi ∧ Q .non H
def OutAt (H : Hp) (x : V) (t : Int × Int × Int) : Prop := ∃ b, x = .ref b ∧ H b = some (.tup [.int t.1, .int t.2.1, .int t.2.2])
def outF (t : Int × Int × Int) (c : Int) : Int := up (t.2.2 + c * t.1) t.2.1
def OkT (t : Int × Int × Int) : Prop := 0 ≤ t.1 ∧ t.1 ≤ 10 ^ 30 ∧ 0 < t.2.1 ∧ t.2.1 ≤ 10 ^ 30 ∧ 0 ≤ t.2.2 ∧ t.2.2 ≤ 10 ^ 30
def optV : Option Int → V
  | none => .non
  | some n => .int n
def spOutside (K : PySem.W.Frag) : Sp := fun vs H Q _ => ∃ (o : Addr) (c : Int) (us : List V) (ts : List (Int × Int × Int)), vs = [.ref o, .int c] ∧ H o = some (.lst us) ∧ Paired (OutAt H) us ts ∧ ts.length ≤ 210 ∧ (∀ t ∈ ts, OkT t) ∧ 0 ≤ c ∧ c ≤ 10 ^ 30 ∧ Q (.int (ts.foldr outF c)) H
def spLeastF : Sp := fun vs H Q _ => ∃ m a l h : Int, vs = [.int m, .int a, .int l, .int h, .int m] ∧ 0 < l ∧ l ≤ h ∧ h < m ∧ 0 ≤ a ∧ a < m ∧ m ≤ 10 ^ 30 ∧ ∀ r H', Least (inW m a l h) r → Same H H' → Q (optV r) H'
def spHit : Sp := fun vs H Q _ => ∃ c b s f l : Int, vs = [.int c, .int b, .int s, .int f, .int l] ∧ 1 ≤ c ∧ c ≤ 10 ^ 30 ∧ 1 ≤ l ∧ l ≤ c ∧ ∀ r H', Least (hit c b s f l) r → Same H H' → Q (optV r) H'
def spMet : Sp := fun vs H Q _ => ∃ (c b s f l : Int) (T : Addr), vs = [.int c, .int b, .int s, .ref T, .int c] ∧ H T = some (.tup [.int f, .int l]) ∧ 1 ≤ c ∧ c ≤ 10 ^ 30 ∧ 1 ≤ l ∧ l ≤ c ∧ ∀ r H', Least (hit c b s f l) r → Same H H' → Q (optV r) H'
theorem e30 : ((10 : Int) ^ 30) < ((2 ^ 100 : Nat) : Int) := by decide +kernel
theorem outF_le {t : Int × Int × Int} {c : Int} {B : Nat} (ht : OkT t) (c0 : 0 ≤ c) (h : c < ((2 ^ (105 * (B + 1)) : Nat) : Int)) : 0 ≤ outF t c ∧ outF t c < ((2 ^ (105 * (B + 2)) : Nat) : Int) := by
  obtain ⟨h1, h2, h3, h4, h5, h6⟩ := ht
  have cm : 0 ≤ c * t.1 := Int.mul_nonneg c0 h1
  have r := up_rng (x := t.2.2 + c * t.1) h3
  have lo : 0 ≤ outF t c := by
    by_cases z : 0 ≤ outF t c
    · exact z
    · have : outF t c * t.2.1 ≤ (-1) * t.2.1 := Int.mul_le_mul_of_nonneg_right (by omega) (by omega)
      unfold outF at this
      omega
  refine ⟨lo, ?_⟩
  have hi : outF t c ≤ outF t c * t.2.1 := by
    have : outF t c * 1 ≤ outF t c * t.2.1 := Int.mul_le_mul_of_nonneg_left (by omega) lo
    omega
  have e := e30
  have b1 : c * t.1 ≤ ((2 ^ (105 * (B + 1)) : Nat) : Int) * ((2 ^ 100 : Nat) : Int) := Int.le_trans (Int.mul_le_mul_of_nonneg_right (Int.le_of_lt h) h1) (Int.mul_le_mul_of_nonneg_left (by omega) (by omega))
  have b2 : ((2 ^ (105 * (B + 2)) : Nat) : Int) = ((2 ^ (105 * (B + 1)) : Nat) : Int) * ((2 ^ 105 : Nat) : Int) := by
    rw [show 105 * (B + 2) = 105 * (B + 1) + 105 by omega, Nat.pow_add]
    exact Int.natCast_mul _ _
  have b3 : (1 : Int) ≤ ((2 ^ (105 * (B + 1)) : Nat) : Int) := by
    have := Nat.one_le_two_pow (n := 105 * (B + 1))
    omega
  have b4 : ((2 ^ 105 : Nat) : Int) = 32 * ((2 ^ 100 : Nat) : Int) := by decide +kernel
  rw [b2, b4]
  have b5 : ((2 ^ (105 * (B + 1)) : Nat) : Int) * (32 * ((2 ^ 100 : Nat) : Int)) = 32 * (((2 ^ (105 * (B + 1)) : Nat) : Int) * ((2 ^ 100 : Nat) : Int)) := by
    rw [Int.mul_left_comm]
  rw [b5]
  have b6 : 1 * ((2 ^ 100 : Nat) : Int) ≤ ((2 ^ (105 * (B + 1)) : Nat) : Int) * ((2 ^ 100 : Nat) : Int) := Int.mul_le_mul_of_nonneg_right b3 (by omega)
  unfold outF at *
  omega
section
variable {P : Program} {w : World} {K : PySem.W.Frag} {mg : Str → Option Value} {base : Heap} {tC : Tok}
theorem ok_is_whole {f : Addr} {fd : FuncData} (B : Blt mg tC) (Dis_whole : Def K mg "is_whole" s_is_whole ["value"] f fd) : FnOk P w K mg base CX0 1 f fd ["value"] spWhole := by
  refine Dis_whole.F.ok scis_whole (fun vs H Q E h => ?_) (fun cdv A outer s H vs Q E hr h => ⟨_, (pss_one (ps_ret (pe_and (pe_callB call_isi (by rfl) B.n_isinstance (by decide +kernel) (pa_cons (pv 0) (pa_cons (pe_bltn (v := .ty "int") (u := .type "int") (by rfl) B.n_int (by decide +kernel) rfl) pa_nil))) (pe_one (pe_not (pe_callB call_isi (by rfl) B.n_isinstance (by decide +kernel) (pa_cons (pv 0) (pa_cons (pe_bltn (v := .ty "bool") (u := .type "bool") (by rfl) B.n_bool (by decide +kernel) rfl) pa_nil)))))))), ?_⟩)
  · obtain ⟨i, rfl, _⟩ := h; rfl
  · obtain ⟨i, rfl, q⟩ := h
    refine ⟨_, rfl, .int i, .ty "int", .type "int", .type "int", true, rfl, .ty _, .base (.int i), kit_ty (by decide +kernel), _, rfl, ?_⟩
    refine ⟨_, rfl, .int i, .ty "bool", .type "int", .type "bool", false, rfl, .ty _, .base (.int i), kit_ty (by decide +kernel), _, rfl, q⟩
theorem ok_check_cycle {f f1 : Addr} {fd fd1 : FuncData} (B : Blt mg tC) (Dcheck_cycle : Def K mg "check_cycle" s_check_cycle ["cycle"] f fd) (Dis_whole : Def K mg "is_whole" s_is_whole ["value"] f1 fd1) : FnOk P w K mg base CX0 2 f fd ["cycle"] spCycle := by
  have Gis_whole := ok_is_whole (P := P) (w := w) (base := base) B Dis_whole
  refine Dcheck_cycle.F.ok sccheck_cycle (fun vs H Q E h => ?_) (fun cdv A outer s H vs Q E hr h => ⟨_, (pss_one (ps_if (PW.pt (pw_or (pt_not (pt_val (pe_call Gis_whole (hr.mono (by decide)) (by rfl) Dis_whole.g Dis_whole.F.kp Dis_whole.b .nil pass0 (pa_cons (pv 0) pa_nil)))) (pw_or1 (pt_not (pt_chain op_le op_le pe_int (pv 0) (pe_glob (v := .int (10 ^ 30)) (by rfl) B.MOST_CYCLE ⟨_, rfl⟩))))))
   (pss_one ps_never)
   pss_nil)), ?_⟩)
  · obtain ⟨i, rfl, _⟩ := h; rfl
  · obtain ⟨i, rfl, h1, h2, q⟩ := h
    refine ⟨_, rfl, _, rfl, _, rfl, ?_⟩
    refine ⟨_, rfl, _, _, rfl, rfl, _, rfl, ?_⟩
    rw [decide_eq_true h1]
    refine ⟨_, _, rfl, rfl, _, rfl, ?_⟩
    rw [decide_eq_true h2]
    exact q
theorem ok_check_number {f f1 : Addr} {fd fd1 : FuncData} (B : Blt mg tC) (Dcheck_number : Def K mg "check_number" s_check_number ["number"] f fd) (Dis_whole : Def K mg "is_whole" s_is_whole ["value"] f1 fd1) : FnOk P w K mg base CX0 2 f fd ["number"] spNumber := by
  have Gis_whole := ok_is_whole (P := P) (w := w) (base := base) B Dis_whole
  refine Dcheck_number.F.ok sccheck_number (fun vs H Q E h => ?_) (fun cdv A outer s H vs Q E hr h => ⟨_, (pss_one (ps_if (pt_not (pt_val (pe_call Gis_whole (hr.mono (by decide)) (by rfl) Dis_whole.g Dis_whole.F.kp Dis_whole.b .nil pass0 (pa_cons (pv 0) pa_nil))))
   (pss_one ps_never)
   pss_nil)), ?_⟩)
  · obtain ⟨i, rfl, _⟩ := h; rfl
  · obtain ⟨i, rfl, q⟩ := h
    exact ⟨_, rfl, _, rfl, _, rfl, q⟩
theorem ok_check_number_in {f f1 : Addr} {fd fd1 : FuncData} (B : Blt mg tC) (Dcheck_number_in : Def K mg "check_number_in" s_check_number_in ["number", "least", "most"] f fd) (Dis_whole : Def K mg "is_whole" s_is_whole ["value"] f1 fd1) : FnOk P w K mg base CX0 2 f fd ["number", "least", "most"] spNumberIn := by
  have Gis_whole := ok_is_whole (P := P) (w := w) (base := base) B Dis_whole
  refine Dcheck_number_in.F.ok sccheck_number_in (fun vs H Q E h => ?_) (fun cdv A outer s H vs Q E hr h => ⟨_, (pss_one (ps_if (PW.pt (pw_or (pt_not (pt_val (pe_call Gis_whole (hr.mono (by decide)) (by rfl) Dis_whole.g Dis_whole.F.kp Dis_whole.b .nil pass0 (pa_cons (pv 0) pa_nil)))) (pw_or1 (pt_not (pt_chain op_le op_le (pv 1) (pv 0) (pv 2))))))
   (pss_one ps_never)
   pss_nil)), ?_⟩)
  · obtain ⟨i, lo, hi, rfl, _⟩ := h; rfl
  · obtain ⟨i, lo, hi, rfl, h1, h2, q⟩ := h
    refine ⟨_, rfl, _, rfl, _, rfl, ?_⟩
    refine ⟨_, rfl, _, rfl, _, _, rfl, rfl, _, rfl, ?_⟩
    rw [decide_eq_true h1]
    refine ⟨_, rfl, _, _, rfl, rfl, _, rfl, ?_⟩
    rw [decide_eq_true h2]
    exact q
theorem ok_outside {f : Addr} {fd : FuncData} (B : Blt mg tC) (Dfactor_outside : Def K mg "factor_outside" s_factor_outside ["outer", "count"] f fd) : FnOk P w K mg base CX0 1 f fd ["outer", "count"] (spOutside K) := by
  refine Dfactor_outside.F.ok scfactor_outside (fun vs H Q E h => ?_) (fun cdv A outer s H vs Q E hr h => ⟨_, (pss_cons (ps_for PassesOwn.never rfl (RT.pi_revA (by rfl) B.n_reversed (pv 0)) (pg_tup rfl (pgs_cons (pg_name (i := 2) scfactor_outside.nd rfl (Or.inl rfl)) (pgs_cons (pg_name (i := 3) scfactor_outside.nd rfl (Or.inl rfl)) (pgs_cons (pg_name (i := 4) scfactor_outside.nd rfl (Or.inl rfl)) pgs_nil))))
   (pss_one (ps_set (i := 1) scfactor_outside.nd rfl (Or.inl rfl) (pe_un un_neg (pe_op op_fdivW (pe_un un_neg (pe_op op_add (pv 4) (pe_op op_mulW (pv 1) (pv 2)))) (pv 3))))))
  (pss_one (ps_ret (pv 1)))), ?_⟩)
  · obtain ⟨o, c, us, ts, rfl, _⟩ := h; rfl
  · obtain ⟨o, c, us, ts, rfl, ho, hP, hl, hT, c0, c1, q⟩ := h
    have el := paired_len hP
    refine ⟨_, rfl, o, us, rfl, .inl ⟨SqL.of ho, ?_⟩⟩
    refine RT.for_Itv (fun i σ H' => ∃ y2 y3 y4 cc, σ = [some (.ref o), some (.int cc), y2, y3, y4] ∧ H' = H ∧ cc = (ts.drop (us.length - i)).foldr outF c ∧ 0 ≤ cc ∧ cc < ((2 ^ (105 * (i + 1)) : Nat) : Int)) ⟨none, none, none, c, rfl, rfl, ?_, c0, ?_⟩ (fun i σ H' ⟨_, _, _, _, _, e, _⟩ => by rw [e]; exact SqL.of ho) ?_ ?_
    · rw [List.drop_of_length_le (by omega)]; rfl
    · have := e30
      have : ((2 ^ 100 : Nat) : Int) < ((2 ^ (105 * (0 + 1)) : Nat) : Int) := by decide +kernel
      omega
    · rintro i x σ H' hi hx ⟨y2, y3, y4, cc, rfl, rfl, hcc, cc0, cc1⟩
      obtain ⟨t, ht, b, rfl, hb⟩ := paired_at hP hx
      have ok := hT t (List.mem_of_getElem? ht)
      obtain ⟨h1, h2, h3, h4, h5, h6⟩ := id ok
      have e := e30
      refine ⟨b, _, rfl, SqT.of hb, rfl, _, _, rfl, _, _, rfl, _, _, rfl, rfl, ?_⟩
      refine ⟨_, rfl, _, rfl, _, rfl, _, _, rfl, rfl, wide_mul (a := 105 * (i + 1)) (b := 100) (natAbs_lt cc0 cc1) (natAbs_lt h1 (by omega)) (by omega) (by decide) (by omega), _, _, rfl, rfl, _, rfl, _, rfl, _, _, rfl, rfl, wide_div (b := 100) h3 (natAbs_lt (by omega) (by omega)) (by decide) (by decide), _, rfl, ?_⟩
      have nx := outF_le (B := i) ok cc0 cc1
      refine ⟨_, _, _, outF t cc, rfl, rfl, ?_, nx.1, nx.2⟩
      have hj : us.length - (i + 1) = us.length - 1 - i := by omega
      have hlt : us.length - 1 - i < ts.length := by omega
      rw [hj, List.drop_eq_getElem_cons hlt, List.foldr_cons]
      have et : ts[us.length - 1 - i] = t := by
        rw [List.getElem?_eq_getElem hlt] at ht
        exact Option.some.inj ht
      rw [et, hcc, show us.length - 1 - i + 1 = us.length - i by omega]
    · rintro σ H' ⟨y2, y3, y4, cc, rfl, rfl, hcc, _, _⟩
      rw [Nat.sub_self, List.drop_zero] at hcc
      refine ⟨_, rfl, ?_⟩
      rw [hcc]
      exact q
end
end Gr

set_option Elab.async false
set_option linter.all false
set_option pp.deepTerms false
set_option pp.maxSteps 3000
set_option maxRecDepth 100000
set_option maxHeartbeats 4000000
set_option exponentiation.threshold 30000
namespace Gr
open PySem PySem.Spec PyProof.Rows L2
theorem fm {x m : Int} (h : 0 < m) : x.fmod m = x % m := Int.fmod_eq_emod_of_nonneg x (by omega)
theorem half_rest {m a : Int} (ha : 0 < a) (am : a < m) : 2 * (m % a) ≤ m := by
  have h0 := Int.emod_add_mul_ediv m a
  have h1 := Int.emod_lt_of_pos m ha
  have h2 := Int.emod_nonneg m (show a ≠ 0 by omega)
  have q1 : 1 ≤ m / a := by
    exact Int.le_ediv_of_mul_le ha (by omega)
  have : a * 1 ≤ a * (m / a) := Int.mul_le_mul_of_nonneg_left q1 (by omega)
  omega
/-- what holds at the top of the loop -/
structure LfInv (M A L Hh : Int) (H : Hp) (o : Addr) (md st lo hi : Int) (us : List V) (ts : List (Int × Int × Int)) (H' : Hp) : Prop where
  same : Same H H'
  at_ : H' o = some (.lst us)
  pr : Paired (OutAt H') us ts
  ok : ∀ t ∈ ts, OkT t
  l0 : 0 < lo
  lh : lo ≤ hi
  hm : hi < md
  s0 : 0 ≤ st
  sm : st < md
  md1 : md ≤ 10 ^ 30
  c1 : md * ((2 ^ (ts.length / 2) : Nat) : Int) ≤ M
  c2 : st * ((2 ^ ((ts.length + 1) / 2) : Nat) : Int) ≤ M
  sem : ∀ r, Least (inW md st lo hi) r → Least (inW M A L Hh) (r.map fun k => ts.foldr outF k)
theorem LfInv.short {M A L Hh : Int} {H : Hp} {o : Addr} {md st lo hi : Int} {us : List V} {ts : List (Int × Int × Int)} {H' : Hp} (h : LfInv M A L Hh H o md st lo hi us ts H') (hM : M ≤ 10 ^ 30) : ts.length ≤ 202 := by
  have a := h.c1
  have b : (1 : Int) * ((2 ^ (ts.length / 2) : Nat) : Int) ≤ md * ((2 ^ (ts.length / 2) : Nat) : Int) := Int.mul_le_mul_of_nonneg_right (by have := h.s0; have := h.sm; omega) (Int.natCast_nonneg _)
  have e := e30
  by_cases c : ts.length ≤ 202
  · exact c
  · have : (2 : Nat) ^ 100 ≤ 2 ^ (ts.length / 2) := Nat.pow_le_pow_right (by decide) (by omega)
    omega
section
variable {P : Program} {w : World} {K : PySem.W.Frag} {mg : Str → Option Value} {base : Heap} {tC : Tok}
theorem ok_least {f f1 : Addr} {fd fd1 : FuncData} (B : Blt mg tC) (Dleast_factor : Def K mg "least_factor" s_least_factor ["whole", "step", "low", "high", "most"] f fd) (Dfactor_outside : Def K mg "factor_outside" s_factor_outside ["outer", "count"] f1 fd1) : FnOk P w K mg base CX0 2 f fd ["whole", "step", "low", "high", "most"] spLeastF := by
  have Gfactor_outside := ok_outside (P := P) (w := w) (base := base) B Dfactor_outside
  refine Dleast_factor.F.ok scleast_factor (fun vs H Q E h => ?_) (fun cdv A outer s H vs Q E hr h => ⟨_, (pss_cons (ps_set (i := 5) scleast_factor.nd rfl (Or.inl rfl) (pe_lst pa_nil))
  (pss_cons (ps_set (i := 6) scleast_factor.nd rfl (Or.inl rfl) (pv 0))
  (pss_cons (ps_while PassesOwn.never (pt_cmpR op_gt (pv 1) pe_int (nomark _))
   (pss_cons (ps_set (i := 7) scleast_factor.nd rfl (Or.inl rfl) (pe_un un_neg (pe_op op_fdivW (pe_un un_neg (pv 2)) (pv 1))))
  (pss_cons (ps_if (pt_cmpR op_le (pe_op op_mulW (pv 7) (pv 1)) (pv 3) (nomark _))
   (pss_one (ps_ret (pe_call Gfactor_outside (hr.mono (by decide)) (by rfl) Dfactor_outside.g Dfactor_outside.F.kp Dfactor_outside.b .nil pass0 (pa_cons (pv 5) (pa_cons (pv 7) pa_nil)))))
   pss_nil)
  (pss_cons (ps_expr (pe_bm PySem.F.plainAttrs_list PySem.F.slot_list_append PySem.F.type_list_append mt_append (pv 5) (pa_cons (pe_tup (pa_cons (pv 6) (pa_cons (pv 1) (pa_cons (pv 2) pa_nil)))) pa_nil)))
  (pss_cons (ps_asg (pe_tup (pa_cons (pv 1) (pa_cons (pe_op op_modN (pv 6) (pv 1)) (pa_cons (pe_op op_modN (pe_un un_neg (pv 3)) (pv 1)) (pa_cons (pe_op op_modN (pe_un un_neg (pv 2)) (pv 1)) pa_nil))))) (pg_tup rfl (pgs_cons (pg_name (i := 6) scleast_factor.nd rfl (Or.inl rfl)) (pgs_cons (pg_name (i := 1) scleast_factor.nd rfl (Or.inl rfl)) (pgs_cons (pg_name (i := 2) scleast_factor.nd rfl (Or.inl rfl)) (pgs_cons (pg_name (i := 3) scleast_factor.nd rfl (Or.inl rfl)) pgs_nil))))))
  (pss_one (ps_if (pt_cmpR op_lt (pe_op op_mulW (pv 4) (pv 6)) (pv 0) (nomark _))
   (pss_one (ps_ret pe_non))
   pss_nil)))))))
  (pss_one (ps_ret pe_non))))), ?_⟩)
  · obtain ⟨m, a, l, h, rfl, _⟩ := h; rfl
  · obtain ⟨M, A, L, Hh, rfl, l0, lh, hM, a0, aM, M1, q⟩ := h
    refine ⟨Nat.zero_le _, fun o ho => ?_⟩
    refine ⟨_, rfl, ?_⟩
    refine ⟨fun m σ H' => ∃ md st lo hi us ts y5, m = st.toNat ∧ σ = [some (.int M), some (.int st), some (.int lo), some (.int hi), some (.int M), some (.ref o), some (.int md), y5] ∧ LfInv M A L Hh H o md st lo hi us ts H', ⟨_, M, A, L, Hh, [], [], none, rfl, rfl, ?_⟩, ?_⟩
    · refine ⟨Same.new ho, upd_same, .nil, fun _ h => (List.not_mem_nil h).elim, l0, lh, hM, a0, aM, M1, ?_, ?_, fun r hr => ?_⟩
      · simp
      · simp; omega
      · cases r with
        | none => exact hr
        | some k => exact hr
    · rintro m σ H' ⟨md, st, lo, hi, us, ts, y5, rfl, rfl, I⟩
      have hs := I.short M1
      have s0 := I.s0
      have sm := I.sm
      have md1 := I.md1
      have i0 := I.l0
      have i1 := I.lh
      have i2 := I.hm
      refine ⟨_, rfl, _, _, rfl, rfl, _, rfl, ?_⟩
      by_cases st0 : 0 < st
      · refine iteY st0 ?_
        refine ⟨fun σ' H2 => ∃ m', m' < st.toNat ∧ ∃ md st lo hi us ts y5, m' = st.toNat ∧ σ' = [some (.int M), some (.int st), some (.int lo), some (.int hi), some (.int M), some (.ref o), some (.int md), y5] ∧ LfInv M A L Hh H o md st lo hi us ts H2, fun _ _ n => n, ?_⟩
        have e := e30
        have sb : st.natAbs < 2 ^ 100 := natAbs_lt (by omega) (by omega)
        have ur := up_rng (x := lo) st0
        have up0 := up_pos (x := lo) st0 i0
        have up1 : up lo st * 1 ≤ up lo st * st := Int.mul_le_mul_of_nonneg_left (by omega) (by omega)
        have cd : CDivW (-lo) st := wide_div (b := 100) st0 sb (by decide) (by decide)
        have z : ((2 ^ 100 : Nat) : Int) + ((2 ^ 100 : Nat) : Int) < ((2 ^ 110 : Nat) : Int) := by decide +kernel
        refine ⟨_, rfl, _, rfl, _, rfl, _, _, rfl, rfl, cd, _, rfl, ?_⟩
        have cm : CMulW (-(-lo / st)) st := wide_mul (a := 110) (b := 100) (natAbs_lt (i := up lo st) (by omega) (by omega)) sb (by decide) (by decide) (by decide)
        refine ⟨_, rfl, _, rfl, _, _, rfl, rfl, cm, _, rfl, _, _, rfl, rfl, _, rfl, ?_⟩
        by_cases hh : up lo st * st ≤ hi
        · refine iteY hh ?_
          refine ⟨_, rfl, _, rfl, o, up lo st, us, ts, rfl, I.at_, I.pr, by omega, I.ok, by omega, by omega, ?_⟩
          exact q (some _) H' (I.sem _ (direct st0 i0 i2 hh)) I.same
        · refine iteN hh ?_
          have nz : st ≠ 0 := by omega
          refine ⟨_, rfl, .inl ⟨rfl, _, SqL.of I.at_⟩, _, rfl, _, rfl, _, rfl, (by show 3 ≤ sizeLine; decide), fun T hT => ?_⟩
          have noT : o ≠ T := fun e => by rw [← e, I.at_] at hT; cases hT
          refine ⟨o, us, _, rfl, rfl, (by rw [upd_ne noT]; exact I.at_), small1000 (by have := paired_len I.pr; omega), ?_⟩
          refine ⟨_, rfl, _, rfl, _, rfl, _, _, rfl, rfl, nz, _, rfl, _, rfl, _, rfl, _, _, rfl, rfl, nz, _, rfl, _, rfl, _, rfl, _, _, rfl, rfl, nz, (by show 4 ≤ sizeLine; decide), fun T4 hT4 => ?_⟩
          refine ⟨T4, _, rfl, SqT.of upd_same, rfl, _, _, rfl, _, _, rfl, _, _, rfl, _, _, rfl, rfl, ?_⟩
          have M0 : 1 ≤ M := by have := I.c1; have := I.hm; omega
          have cM : CMulW M st := wide_mul (a := 100) (b := 100) (natAbs_lt (by omega) (by omega)) sb (by decide) (by decide) (by decide)
          have Ms : ¬ M * st < M := fun h => by
            have := Int.mul_le_mul_of_nonneg_left (show 1 ≤ st by omega) (show 0 ≤ M by omega)
            omega
          refine ⟨_, rfl, _, rfl, _, _, rfl, rfl, cM, _, rfl, _, _, rfl, rfl, _, rfl, ?_⟩
          refine iteN Ms ?_
          obtain ⟨j0, j1, j2, j3⟩ := inner (m := md) st0 i0 i1 hh
          have r0 := Int.emod_nonneg md nz
          have r1 := Int.emod_lt_of_pos md st0
          have hx : (upd (upd H' T (.tup [.int md, .int st, .int lo])) o (.lst (us ++ [.ref T]))) o = some (.lst (us ++ [.ref T])) := upd_same
          have keep : ∀ b xs, H' b = some (.tup xs) → (upd (upd H' T (.tup [.int md, .int st, .int lo])) o (.lst (us ++ [.ref T]))) b = some (.tup xs) := fun b xs e => by
            rw [upd_ne (ne_of e I.at_ (fun z => nomatch z))]
            exact Same.new hT _ _ e
          refine ⟨(md % st).toNat, by omega, st, md % st, (-hi) % st, (-lo) % st, us ++ [.ref T], ts ++ [(md, st, lo)], some (.int (-(-lo / st))), rfl, ?_, ?_⟩
          · rw [← fm st0, ← fm st0, ← fm st0]
            rfl
          · have sN : Same (upd (upd H' T (.tup [.int md, .int st, .int lo])) o (.lst (us ++ [.ref T]))) (upd (upd (upd H' T (.tup [.int md, .int st, .int lo])) o (.lst (us ++ [.ref T]))) T4 (.tup [.int st, .int (md.fmod st), .int ((-hi).fmod st), .int ((-lo).fmod st)])) := Same.new hT4
            refine ⟨fun b u e => ?_, sN _ _ hx, paired_snoc (L2.Paired.mapP I.pr fun _ _ ⟨b, e, h⟩ => ⟨b, e, sN _ _ (keep _ _ h)⟩) ⟨T, rfl, sN _ _ ?_⟩, ?_, j0, j1, j2, r0, r1, by omega, ?_, ?_, fun r hr' => ?_⟩
            · refine sN _ _ ?_
              rw [upd_ne (ne_of_none e ho)]
              exact Same.new hT _ _ (I.same _ _ e)
            · rw [upd_ne noT.symm]; exact upd_same
            · intro t ht
              rcases List.mem_append.mp ht with h | h
              · exact I.ok t h
              · rw [List.mem_singleton.mp h]
                exact ⟨by show 0 ≤ md; omega, by show md ≤ 10 ^ 30; omega, st0, by show st ≤ 10 ^ 30; omega, by show 0 ≤ lo; omega, by show lo ≤ 10 ^ 30; omega⟩
            · rw [List.length_append]; exact I.c2
            · rw [List.length_append, show (ts.length + [(md, st, lo)].length + 1) / 2 = ts.length / 2 + 1 by simp; omega]
              have h2 := half_rest st0 sm
              have c1 := I.c1
              have : (2 * (md % st)) * ((2 ^ (ts.length / 2) : Nat) : Int) ≤ md * ((2 ^ (ts.length / 2) : Nat) : Int) := Int.mul_le_mul_of_nonneg_right h2 (Int.natCast_nonneg _)
              have e2 : ((2 ^ (ts.length / 2 + 1) : Nat) : Int) = ((2 ^ (ts.length / 2) : Nat) : Int) * 2 := by rw [Nat.pow_succ]; exact Int.natCast_mul _ _
              rw [e2, show md % st * (((2 ^ (ts.length / 2) : Nat) : Int) * 2) = (2 * (md % st)) * ((2 ^ (ts.length / 2) : Nat) : Int) by rw [Int.mul_comm _ 2, ← Int.mul_assoc, Int.mul_comm 2]]
              omega
            · have z := I.sem _ (around st0 sm i0 i1 i2 hh hr')
              cases r with
              | none => exact z
              | some k =>
                show Least _ (some ((ts ++ [(md, st, lo)]).foldr outF k))
                rw [List.foldr_append]
                exact z
      · refine iteN st0 ?_
        have e : st = 0 := by omega
        subst e
        exact q none H' (I.sem none (zeroW i0)) I.same
theorem ok_met {f f1 f2 : Addr} {fd fd1 fd2 : FuncData} (B : Blt mg tC) (Dmet_within : Def K mg "met_within" s_met_within ["cycle", "begin", "step", "stretch", "most"] f fd) (Dleast_factor : Def K mg "least_factor" s_least_factor ["whole", "step", "low", "high", "most"] f1 fd1) (Dfactor_outside : Def K mg "factor_outside" s_factor_outside ["outer", "count"] f2 fd2) : FnOk P w K mg base CX0 3 f fd ["cycle", "begin", "step", "stretch", "most"] spMet := by
  have Gleast_factor := ok_least (P := P) (w := w) (base := base) B Dleast_factor Dfactor_outside
  refine Dmet_within.F.ok scmet_within (fun vs H Q E h => ?_) (fun cdv A outer s H vs Q E hr h => ⟨_, (pss_cons (ps_asg (pv 3) (pg_tup rfl (pgs_cons (pg_name (i := 5) scmet_within.nd rfl (Or.inl rfl)) (pgs_cons (pg_name (i := 6) scmet_within.nd rfl (Or.inl rfl)) pgs_nil))))
  (pss_cons (ps_if (pt_cmpR op_lt (pe_op op_modN (pe_op op_sub (pv 1) (pv 5)) (pv 0)) (pv 6) (nomark _))
   (pss_one (ps_ret pe_int))
   pss_nil)
  (pss_cons (ps_set (i := 7) scmet_within.nd rfl (Or.inl rfl) (pe_op op_modN (pe_op op_sub (pv 5) (pv 1)) (pv 0)))
  (pss_one (ps_ret (pe_call Gleast_factor (hr.mono (by decide)) (by rfl) Dleast_factor.g Dleast_factor.F.kp Dleast_factor.b .nil pass0 (pa_cons (pv 0) (pa_cons (pe_op op_modN (pv 2) (pv 0)) (pa_cons (pv 7) (pa_cons (pe_op op_sub (pe_op op_add (pv 7) (pv 6)) pe_int) (pa_cons (pv 4) pa_nil))))))))))), ?_⟩)
  · obtain ⟨c, b, st, ff, l, T, rfl, _⟩ := h; rfl
  · obtain ⟨c, b, st, ff, l, T, rfl, hT, c0, c1, l0, l1, q⟩ := h
    have cz : c ≠ 0 := by omega
    refine ⟨_, rfl, T, _, rfl, SqT.of hT, rfl, _, _, rfl, _, _, rfl, rfl, ?_⟩
    refine ⟨_, rfl, _, rfl, _, _, rfl, rfl, _, rfl, _, _, rfl, rfl, cz, _, rfl, _, _, rfl, rfl, _, rfl, ?_⟩
    rw [fm (x := b - ff) (show 0 < c by omega)]
    by_cases z : (b - ff) % c < l
    · refine iteY z (q (some 0) H ⟨Int.le_refl _, ?_, fun k k0 k1 => ?_⟩ (Same.refl H))
      · unfold hit
        rw [Int.zero_mul, Int.add_zero]
        exact z
      · exact absurd k1 (by omega)
    · refine iteN z ?_
      refine ⟨_, rfl, _, rfl, _, _, rfl, rfl, _, rfl, _, _, rfl, rfl, cz, ?_⟩
      refine ⟨_, rfl, _, rfl, _, rfl, _, _, rfl, rfl, cz, _, rfl, _, rfl, _, rfl, _, _, rfl, rfl, _, _, rfl, rfl, ?_⟩
      have f1 := fm (x := ff - b) (m := c) (by omega)
      have f2 := fm (x := st) (m := c) (by omega)
      have d0 := Int.emod_nonneg (b - ff) cz
      have d1 := Int.emod_lt_of_pos (b - ff) (show 0 < c by omega)
      have e : (ff - b) % c = c - (b - ff) % c := by
        have : (ff - b) % c = (c - (b - ff) % c) % c := by
          rw [Int.sub_emod_emod, show c - (b - ff) = (ff - b) + c by omega, Int.add_emod_right]
        rw [this, Int.emod_eq_of_lt (by omega) (by omega)]
      have g0 := Int.emod_nonneg st cz
      have g1 := Int.emod_lt_of_pos st (show 0 < c by omega)
      refine ⟨_, rfl, c, st.fmod c, (ff - b).fmod c, (ff - b).fmod c + l - 1, rfl, by omega, by omega, by omega, by omega, by omega, c1, fun r H' hL sm => ?_⟩
      rw [f1, f2] at hL
      exact q r H' (hL.to fun n _ => (hit_inW (by omega) l0 z n).symm) sm
theorem ok_hit {f f1 f2 f3 f4 f5 f6 f7 : Addr} {fd fd1 fd2 fd3 fd4 fd5 fd6 fd7 : FuncData} (B : Blt mg tC) (Dfirst_hit : Def K mg "first_hit" s_first_hit ["cycle", "begin", "step", "first", "length"] f fd) (Dleast_factor : Def K mg "least_factor" s_least_factor ["whole", "step", "low", "high", "most"] f1 fd1) (Dfactor_outside : Def K mg "factor_outside" s_factor_outside ["outer", "count"] f2 fd2) (Dis_whole : Def K mg "is_whole" s_is_whole ["value"] f3 fd3) (Dcheck_cycle : Def K mg "check_cycle" s_check_cycle ["cycle"] f4 fd4) (Dcheck_number : Def K mg "check_number" s_check_number ["number"] f5 fd5) (Dcheck_number_in : Def K mg "check_number_in" s_check_number_in ["number", "least", "most"] f6 fd6) (Dmet_within : Def K mg "met_within" s_met_within ["cycle", "begin", "step", "stretch", "most"] f7 fd7) : FnOk P w K mg base CX0 4 f fd ["cycle", "begin", "step", "first", "length"] spHit := by
  have Gmet_within := ok_met (P := P) (w := w) (base := base) B Dmet_within Dleast_factor Dfactor_outside
  have Gcheck_cycle := ok_check_cycle (P := P) (w := w) (base := base) B Dcheck_cycle Dis_whole
  have Gcheck_number := ok_check_number (P := P) (w := w) (base := base) B Dcheck_number Dis_whole
  have Gcheck_number_in := ok_check_number_in (P := P) (w := w) (base := base) B Dcheck_number_in Dis_whole
  refine Dfirst_hit.F.ok scfirst_hit (fun vs H Q E h => ?_) (fun cdv A outer s H vs Q E hr h => ⟨_, (pss_cons (ps_expr (pe_call Gcheck_cycle (hr.mono (by decide)) (by rfl) Dcheck_cycle.g Dcheck_cycle.F.kp Dcheck_cycle.b .nil pass0 (pa_cons (pv 0) pa_nil)))
  (pss_cons (ps_expr (pe_call Gcheck_number (hr.mono (by decide)) (by rfl) Dcheck_number.g Dcheck_number.F.kp Dcheck_number.b .nil pass0 (pa_cons (pv 1) pa_nil)))
  (pss_cons (ps_expr (pe_call Gcheck_number (hr.mono (by decide)) (by rfl) Dcheck_number.g Dcheck_number.F.kp Dcheck_number.b .nil pass0 (pa_cons (pv 2) pa_nil)))
  (pss_cons (ps_expr (pe_call Gcheck_number (hr.mono (by decide)) (by rfl) Dcheck_number.g Dcheck_number.F.kp Dcheck_number.b .nil pass0 (pa_cons (pv 3) pa_nil)))
  (pss_cons (ps_expr (pe_call Gcheck_number_in (hr.mono (by decide)) (by rfl) Dcheck_number_in.g Dcheck_number_in.F.kp Dcheck_number_in.b .nil pass0 (pa_cons (pv 4) (pa_cons pe_int (pa_cons (pv 0) pa_nil)))))
  (pss_one (ps_ret (pe_call Gmet_within (hr.mono (by decide)) (by rfl) Dmet_within.g Dmet_within.F.kp Dmet_within.b .nil pass0 (pa_cons (pv 0) (pa_cons (pv 1) (pa_cons (pv 2) (pa_cons (pe_tup (pa_cons (pv 3) (pa_cons (pv 4) pa_nil))) (pa_cons (pv 0) pa_nil))))))))))))), ?_⟩)
  · obtain ⟨c, b, st, ff, l, rfl, _⟩ := h; rfl
  · obtain ⟨c, b, st, ff, l, rfl, c0, c1, l0, l1, q⟩ := h
    have cz : c ≠ 0 := by omega
    refine ⟨_, rfl, c, rfl, c0, c1, _, rfl, b, rfl, _, rfl, st, rfl, _, rfl, ff, rfl, _, rfl, _, rfl, l, 1, c, rfl, l0, l1, ?_⟩
    refine ⟨_, rfl, _, rfl, _, rfl, _, rfl, _, rfl, (by show 2 ≤ sizeLine; decide), fun T hT => ?_⟩
    refine ⟨_, rfl, c, b, st, ff, l, T, rfl, upd_same, c0, c1, l0, l1, fun r H' hL sm => q r H' hL ((Same.new hT).trans sm)⟩
end
end Gr

set_option Elab.async false
set_option linter.all false
set_option pp.deepTerms false
set_option pp.maxSteps 3000
set_option maxRecDepth 100000
set_option maxHeartbeats 4000000
namespace Gr
open PySem PySem.Spec PyProof.Rows L2
/-! ### the draws -/
/-- all but p stands -/
def But (p : Addr) (H H' : Hp) : Prop := ∀ q o, q ≠ p → H q = some o → H' q = some o
theorem But.refl (p : Addr) (H : Hp) : But p H H := fun _ _ _ h => h
theorem But.trans {p : Addr} {H H1 H2 : Hp} (a : But p H H1) (b : But p H1 H2) : But p H H2 := fun q o n h => b q o n (a q o n h)
theorem Same.but {p : Addr} {H H' : Hp} (s : Same H H') : But p H H' := fun q o _ h => s q o h
theorem But.new {p q : Addr} {H H' : Hp} {o : HO} (s : But p H H') (h : H' q = none) : But p H (upd H' q o) := fun r u n e => by
  have := s r u n e
  rw [upd_ne (ne_of_none this h)]; exact this
/-- an object that H does not know may change -/
theorem But.mut {p q : Addr} {H H' : Hp} {o : HO} (s : But p H H') (h : H q = none) : But p H (upd H' q o) := fun r u n e => by
  rw [upd_ne (ne_of_none e h)]; exact s r u n e
theorem But.at {p : Addr} {H H' : Hp} {o : HO} (s : But p H H') : But p H (upd H' p o) := fun r u n e => by
  rw [upd_ne n]; exact s r u n e
theorem But.fresh {p q : Addr} {H H' : Hp} {u : HO} (s : But p H H') (hp : H p = some u) (hp' : H' p ≠ none) (h : H' q = none) : H q = none := by
  cases e : H q with
  | none => rfl
  | some o =>
    by_cases hq : q = p
    · exact absurd (hq ▸ h) hp'
    · rw [s q o hq e] at h; cases h
/-- a pond at p of which n draws at most were taken -/
def Pond (n : Int) (p : Addr) (H : Hp) : Prop := ∃ a b c : Int, H p = some (.lst [.int a, .int b, .int c]) ∧ 0 ≤ b ∧ b < 10 ^ 60 ∧ 0 ≤ c ∧ c ≤ n
theorem Pond.mono {n m : Int} {p : Addr} {H : Hp} (h : Pond n p H) (l : n ≤ m) : Pond m p H := by
  obtain ⟨a, b, c, h1, h2, h3, h4, h5⟩ := h
  exact ⟨a, b, c, h1, h2, h3, h4, by omega⟩
theorem Pond.same {n : Int} {p : Addr} {H H' : Hp} (s : Same H H') (h : Pond n p H) : Pond n p H' := by
  obtain ⟨a, b, c, h1, h2⟩ := h
  exact ⟨a, b, c, s _ _ h1, h2⟩
theorem Pond.some {n : Int} {p : Addr} {H : Hp} (h : Pond n p H) : ∃ xs, H p = some (.lst xs) := by
  obtain ⟨a, b, c, h1, h2⟩ := h
  exact ⟨_, h1⟩
theorem Pond.ne {n : Int} {p : Addr} {H : Hp} (h : Pond n p H) : H p ≠ none := by
  obtain ⟨xs, h⟩ := h.some
  rw [h]; exact fun z => nomatch z
theorem Pond.new {n : Int} {p q : Addr} {H : Hp} {o : HO} (h : Pond n p H) (hq : H q = none) : Pond n p (upd H q o) := h.same (Same.new hq)
theorem e60 : ((10 : Int) ^ 60) < ((2 ^ 200 : Nat) : Int) := by decide +kernel
theorem e100 : ((10 : Int) ^ 100) < ((2 ^ 1000 : Nat) : Int) := by decide +kernel
theorem draw_ok {m : Int} (h1 : 1 ≤ m) (h2 : m ≤ 10 ^ 100) : m.natAbs < 2 ^ 1000 := natAbs_lt (by omega) (Int.lt_of_le_of_lt h2 e100)
theorem fmod_rng {x m : Int} (h : 1 ≤ m) : 0 ≤ x.fmod m ∧ x.fmod m < m := by
  rw [Int.fmod_eq_emod_of_nonneg x (by omega)]
  exact ⟨Int.emod_nonneg x (by omega), Int.emod_lt_of_pos x (by omega)⟩
def spFish : Sp := fun vs H Q _ => ∃ (p : Addr) (m n : Int), vs = [.ref p, .int m] ∧ Pond n p H ∧ n ≤ 10 ^ 9 ∧ 1 ≤ m ∧ m ≤ 10 ^ 100 ∧ ∀ r H', But p H H' → Pond (n + 12) p H' → 0 ≤ r → r < m → Q (.int r) H'
def spFish1 : Sp := fun vs H Q _ => ∃ (p : Addr) (m n : Int), vs = [.ref p, .int m] ∧ Pond n p H ∧ n ≤ 10 ^ 9 + 100 ∧ 1 ≤ m ∧ m ≤ 10 ^ 30 ∧ ∀ r H', But p H H' → Pond (n + 1) p H' → 0 ≤ r → r < m → Q (.int r) H'
theorem cp30 : CPowW 10 30 := ⟨by decide, by decide +kernel⟩
theorem cp42 : CPowW 10 42 := ⟨by decide, by decide +kernel⟩
theorem cp44 : CPowW 10 44 := ⟨by decide, by decide +kernel⟩
theorem cube_of {i : Int} (h0 : 0 ≤ i) (h : i < ((2 ^ 1000 : Nat) : Int)) : CPowW i 3 := cube_ok (natAbs_lt h0 h)
theorem mulc {k c : Int} (h0 : 0 ≤ k) (h1 : k < ((2 ^ 40 : Nat) : Int)) (c0 : 0 ≤ c) (c1 : c ≤ 10 ^ 10) : CMulW k c := by
  have e : ((10 : Int) ^ 10) < ((2 ^ 40 : Nat) : Int) := by decide +kernel
  exact wide_mul (a := 40) (b := 40) (natAbs_lt h0 h1) (natAbs_lt c0 (by omega)) (by decide) (by decide) (by decide)
theorem p200 : ((2 ^ 200 : Nat) : Int) + 10 ^ 20 < ((2 ^ 1000 : Nat) : Int) := by decide +kernel
theorem p42 : (10 : Int) ^ (42 : Int).toNat + 63 < 10 ^ 60 := by decide +kernel
theorem q42 : (10 : Int) ^ (42 : Int).toNat + 63 ≠ 0 := by decide +kernel
theorem q44 : (10 : Int) ^ (44 : Int).toNat + 57 ≠ 0 := by decide +kernel
set_option exponentiation.threshold 2000
section
variable {P : Program} {w : World} {K : PySem.W.Frag} {mg : Str → Option Value} {base : Heap} {tC : Tok}
theorem ok_fish1 {f : Addr} {fd : FuncData} (B : Blt mg tC) (Dl_fish : Def K mg "_law_fish" s_l_fish ["_law_pond_here", "_law_bound"] f fd) : FnOk P w K mg base CX0 1 f fd ["_law_pond_here", "_law_bound"] spFish1 := by
  refine Dl_fish.F.ok scl_fish (fun vs H Q E h => ?_) (fun cdv A outer s H vs Q E hr h => ⟨_, (pss_cons (ps_if (pt_cmpR op_gt (pv 1) (pe_op op_powW pe_int pe_int) (nomark _))
   (pss_cons (ps_set (i := 2) scl_fish.nd rfl (Or.inl rfl) pe_int)
  (pss_cons (ps_for PassesOwn.never rfl (pi_range1 (by rfl) B.range (pa_cons (pe_op op_add pe_int (pe_op op_fdivW (pe_bits (pv 1)) pe_int)) pa_nil)) (pg_name (i := 3) scl_fish.nd rfl (Or.inl rfl))
   (pss_one ps_never))
  (pss_one (ps_ret (pe_op op_modN (pv 2) (pv 1))))))
   pss_nil)
  (pss_cons (ps_if (pt_cmpR op_gt (pe_ix ix_list (pv 0) pe_int (fun _ _ => rfl)) pe_int (nomark _))
   (pss_cons (ps_set (i := 2) scl_fish.nd rfl (Or.inl rfl) (pe_op op_modN (pe_ix ix_list (pv 0) pe_int (fun _ _ => rfl)) (pv 1)))
  (pss_cons (ps_asg (pe_op op_fdivW (pe_ix ix_list (pv 0) pe_int (fun _ _ => rfl)) (pv 1)) (pg_sub (pv 0) pe_int set_list))
  (pss_one (ps_ret (pv 2)))))
   pss_nil)
  (pss_cons (ps_asg (pe_op op_add (pe_ix ix_list (pv 0) pe_int (fun _ _ => rfl)) pe_int) (pg_sub (pv 0) pe_int set_list))
  (pss_cons (ps_set (i := 4) scl_fish.nd rfl (Or.inl rfl) (pe_op op_modN (pe_op op_powW (pe_op op_add (pe_ix ix_list (pv 0) pe_int (fun _ _ => rfl)) (pe_op op_mulW pe_int (pe_ix ix_list (pv 0) pe_int (fun _ _ => rfl)))) pe_int) (pe_op op_add (pe_op op_powW pe_int pe_int) pe_int)))
  (pss_cons (ps_set (i := 4) scl_fish.nd rfl (Or.inl rfl) (pe_op op_modN (pe_op op_powW (pe_op op_add (pv 4) (pe_op op_mulW pe_int (pe_ix ix_list (pv 0) pe_int (fun _ _ => rfl)))) pe_int) (pe_op op_add (pe_op op_powW pe_int pe_int) pe_int)))
  (pss_one (ps_ret (pe_op op_modN (pe_op op_fdivW (pv 4) pe_int) (pv 1))))))))), ?_⟩)
  · obtain ⟨p, m, n, rfl, _⟩ := h; rfl
  · obtain ⟨p, m, n, rfl, ⟨a, b, c, hp, b0, b1, c0, c1⟩, hn, m1, m2, q⟩ := h
    refine ⟨_, rfl, _, _, rfl, rfl, cp30, _, _, rfl, rfl, _, rfl, iteN (show ¬ (10 : Int) ^ 30 < m by omega) ?_⟩
    refine ⟨_, rfl, p, _, _, _, rfl, rfl, SqL.of hp, rfl, _, _, rfl, rfl, _, rfl, ?_⟩
    have dm : CDivW a m := wide_div (b := 1000) (by omega) (draw_ok m1 (by omega)) (by decide) (by decide)
    by_cases ha : 0 < a
    · refine iteY ha ?_
      refine ⟨_, rfl, p, _, _, _, rfl, rfl, SqL.of hp, rfl, _, rfl, _, _, rfl, rfl, (by show m ≠ 0; omega), ?_⟩
      refine ⟨_, rfl, p, _, _, _, rfl, rfl, SqL.of hp, rfl, _, rfl, _, _, rfl, rfl, dm, _, rfl, p, _, _, _, rfl, rfl, hp, rfl, ?_⟩
      refine ⟨_, rfl, q _ _ (But.refl p H).at ⟨a / m, b, c, upd_same, b0, b1, c0, by omega⟩ (fmod_rng m1).1 (fmod_rng m1).2⟩
    · refine iteN ha ?_
      refine ⟨_, rfl, p, _, _, _, rfl, rfl, SqL.of hp, rfl, _, _, rfl, rfl, _, rfl, p, _, _, _, rfl, rfl, hp, rfl, ?_⟩
      have hp2 : (upd H p (.lst ([V.int a, .int b, .int c].set 2 (.int (c + 1))))) p = some (.lst [.int a, .int b, .int (c + 1)]) := upd_same
      refine ⟨_, rfl, p, _, _, _, rfl, rfl, SqL.of hp2, rfl, _, rfl, p, _, _, _, rfl, rfl, SqL.of hp2, rfl, _, _, rfl, rfl, mulc (by decide) (by decide) (by omega) (by omega), _, _, rfl, rfl, ?_⟩
      refine ⟨_, _, rfl, rfl, cube_of (by omega) (by have := e60; have := p200; omega), _, _, rfl, rfl, cp42, _, _, rfl, rfl, _, _, rfl, rfl, q42, ?_⟩
      have r1 := fmod_rng (x := (b + 49979687 * (c + 1)) ^ (3 : Int).toNat) (m := 10 ^ (42 : Int).toNat + 63) (by decide +kernel)
      refine ⟨_, rfl, _, rfl, p, _, _, _, rfl, rfl, SqL.of hp2, rfl, _, _, rfl, rfl, mulc (by decide) (by decide) (by omega) (by omega), _, _, rfl, rfl, ?_⟩
      refine ⟨_, _, rfl, rfl, cube_of (by omega) (by have := e60; have := p200; have := p42; omega), _, _, rfl, rfl, cp44, _, _, rfl, rfl, _, _, rfl, rfl, q44, ?_⟩
      refine ⟨_, rfl, _, _, rfl, rfl, ⟨by decide, by decide +kernel⟩, _, rfl, _, _, rfl, rfl, (by show m ≠ 0; omega), ?_⟩
      exact q _ _ (But.refl p H).at ⟨a, b, c + 1, upd_same, b0, b1, by omega, by omega⟩ (fmod_rng m1).1 (fmod_rng m1).2
end
end Gr

set_option Elab.async false
set_option linter.all false
set_option pp.deepTerms false
set_option pp.maxSteps 3000
set_option maxRecDepth 100000
set_option maxHeartbeats 4000000
set_option exponentiation.threshold 3000
namespace Gr
open PySem PySem.Spec PyProof.Rows L2
theorem fnok_or {P : Program} {w : World} {K : PySem.W.Frag} {mg : Str → Option Value} {base : Heap} {C : CXT} {k : Nat} {f : Addr} {fd : FuncData} {ps : List Str} {s1 s2 : Sp} (a : FnOk P w K mg base C k f fd ps s1) (b : FnOk P w K mg base C k f fd ps s2) :
    FnOk P w K mg base C k f fd ps (fun vs H Q E => s1 vs H Q E ∨ s2 vs H Q E) :=
  ⟨fun vs H Q E h => h.elim (a.len vs H Q E) (b.len vs H Q E), fun A o s H ar us vs Q E hr he hb hv h => h.elim (a.run A o s H ar us vs Q E hr he hb hv) (b.run A o s H ar us vs Q E hr he hb hv)⟩
def spFish2 : Sp := fun vs H Q _ => ∃ (p : Addr) (m n : Int), vs = [.ref p, .int m] ∧ Pond n p H ∧ n ≤ 10 ^ 9 ∧ 10 ^ 30 < m ∧ m ≤ 10 ^ 100 ∧ ∀ r H', But p H H' → Pond (n + 12) p H' → 0 ≤ r → r < m → Q (.int r) H'
theorem pick {xs : List Int} {r : Int} (h0 : 0 ≤ r) (h1 : r < (xs.length : Int)) : ∃ v ∈ xs, atI (xs.map V.int) r = some (.int v) := by
  obtain ⟨j, rfl⟩ : ∃ j : Nat, r = (j : Int) := ⟨r.toNat, (Int.toNat_of_nonneg h0).symm⟩
  have hl : j < xs.length := by omega
  refine ⟨xs[j], List.getElem_mem hl, atI_nat ?_⟩
  rw [List.getElem?_map, List.getElem?_eq_getElem hl]
  rfl
def spPondNew (K : PySem.W.Frag) : Sp := fun vs H Q _ => ∃ (a : Addr) (k : Int) (ns : List Int), vs = [.ref a, .int k] ∧ SqL K H a (ns.map V.int) ∧ 0 ≤ k ∧ k ≤ 100 ∧ ∀ p H', H p = none → Same H H' → Pond 0 p H' → Q (.ref p) H'
section
variable {P : Program} {w : World} {K : PySem.W.Frag} {mg : Str → Option Value} {base : Heap} {tC : Tok}
theorem ok_fish2 {f : Addr} {fd : FuncData} (B : Blt mg tC) (Dl_fish : Def K mg "_law_fish" s_l_fish ["_law_pond_here", "_law_bound"] f fd) : FnOk P w K mg base CX0 2 f fd ["_law_pond_here", "_law_bound"] spFish2 := by
  have Gl_fish := ok_fish1 (P := P) (w := w) (base := base) B Dl_fish
  refine Dl_fish.F.ok scl_fish (fun vs H Q E h => ?_) (fun cdv A outer s H vs Q E hr h => ⟨_, (pss_cons (ps_if (pt_cmpR op_gt (pv 1) (pe_op op_powW pe_int pe_int) (nomark _))
   (pss_cons (ps_set (i := 2) scl_fish.nd rfl (Or.inl rfl) pe_int)
  (pss_cons (ps_for PassesOwn.never rfl (pi_range1 (by rfl) B.range (pa_cons (pe_op op_add pe_int (pe_op op_fdivW (pe_bits (pv 1)) pe_int)) pa_nil)) (pg_name (i := 3) scl_fish.nd rfl (Or.inl rfl))
   (pss_one (ps_set (i := 2) scl_fish.nd rfl (Or.inl rfl) (pe_op op_add (pe_op op_mulW (pv 2) (pe_op op_powW pe_int pe_int)) (pe_call Gl_fish (hr.mono (by decide)) (by rfl) Dl_fish.g Dl_fish.F.kp Dl_fish.b .nil pass0 (pa_cons (pv 0) (pa_cons (pe_op op_powW pe_int pe_int) pa_nil)))))))
  (pss_one (ps_ret (pe_op op_modN (pv 2) (pv 1))))))
   pss_nil)
  (pss_cons (ps_if (pt_cmpR op_gt (pe_ix ix_list (pv 0) pe_int (fun _ _ => rfl)) pe_int (nomark _))
   (pss_cons (ps_set (i := 2) scl_fish.nd rfl (Or.inl rfl) (pe_op op_modN (pe_ix ix_list (pv 0) pe_int (fun _ _ => rfl)) (pv 1)))
  (pss_cons (ps_asg (pe_op op_fdivW (pe_ix ix_list (pv 0) pe_int (fun _ _ => rfl)) (pv 1)) (pg_sub (pv 0) pe_int set_list))
  (pss_one (ps_ret (pv 2)))))
   pss_nil)
  (pss_cons (ps_asg (pe_op op_add (pe_ix ix_list (pv 0) pe_int (fun _ _ => rfl)) pe_int) (pg_sub (pv 0) pe_int set_list))
  (pss_cons (ps_set (i := 4) scl_fish.nd rfl (Or.inl rfl) (pe_op op_modN (pe_op op_powW (pe_op op_add (pe_ix ix_list (pv 0) pe_int (fun _ _ => rfl)) (pe_op op_mulW pe_int (pe_ix ix_list (pv 0) pe_int (fun _ _ => rfl)))) pe_int) (pe_op op_add (pe_op op_powW pe_int pe_int) pe_int)))
  (pss_cons (ps_set (i := 4) scl_fish.nd rfl (Or.inl rfl) (pe_op op_modN (pe_op op_powW (pe_op op_add (pv 4) (pe_op op_mulW pe_int (pe_ix ix_list (pv 0) pe_int (fun _ _ => rfl)))) pe_int) (pe_op op_add (pe_op op_powW pe_int pe_int) pe_int)))
  (pss_one (ps_ret (pe_op op_modN (pe_op op_fdivW (pv 4) pe_int) (pv 1))))))))), ?_⟩)
  · obtain ⟨p, m, n, rfl, _⟩ := h; rfl
  · obtain ⟨p, m, n, rfl, hP, hn, m1, m2, q⟩ := h
    refine ⟨_, rfl, _, _, rfl, rfl, cp30, _, _, rfl, rfl, _, rfl, iteY (show (10 : Int) ^ 30 < m from m1) ?_⟩
    have hb := bits_le (draw_ok (m := m) (by omega) m2) (by decide)
    refine ⟨_, rfl, _, rfl, _, _, rfl, rfl, ⟨by decide, by decide +kernel⟩, _, _, rfl, rfl, _, rfl, by omega, by omega, ?_⟩
    refine for_range (lo := 0) (fun i σ H' => ∃ f y, σ = [some (.ref p), some (.int m), some (.int f), y, none] ∧ 0 ≤ f ∧ f < 10 ^ (30 * i) ∧ But p H H' ∧ Pond (n + i) p H') ⟨0, none, rfl, by decide, by decide, But.refl p H, hP.mono (by omega)⟩ ?_ ?_
    · rintro i σ H' hi ⟨f, y, rfl, f0, f1, bt, pd⟩
      have i12 : i ≤ 12 := by omega
      have fs : f.natAbs < 2 ^ 1200 := natAbs_lt f0 (by
        have a : (10 : Int) ^ (30 * i) ≤ 10 ^ 360 := by
          have : (10 : Nat) ^ (30 * i) ≤ 10 ^ 360 := Nat.pow_le_pow_right (by decide) (by omega)
          exact_mod_cast this
        have b : (10 : Int) ^ 360 < ((2 ^ 1200 : Nat) : Int) := by decide +kernel
        exact Int.lt_trans (Int.lt_of_lt_of_le f1 a) b)
      refine ⟨_, rfl, _, _, rfl, rfl, cp30, _, _, rfl, rfl, wide_mul (a := 1200) (b := 100) fs (by decide +kernel) (by decide) (by decide) (by decide), _, rfl, _, _, rfl, rfl, cp30, ?_⟩
      refine ⟨p, _, n + i, rfl, pd, by omega, by decide +kernel, by decide +kernel, fun r H2 bt2 pd2 r0 r1 => ?_⟩
      refine ⟨_, _, rfl, rfl, f * 10 ^ (30 : Int).toNat + r, some (.int (0 + (i : Int))), rfl, ?_, ?_, bt.trans bt2, pd2.mono (by omega)⟩
      · have : 0 ≤ f * 10 ^ (30 : Int).toNat := Int.mul_nonneg f0 (by decide +kernel)
        omega
      · have e : (10 : Int) ^ (30 * (i + 1)) = 10 ^ (30 * i) * 10 ^ (30 : Int).toNat := by
          rw [show 30 * (i + 1) = 30 * i + 30 by omega, Int.pow_add]; rfl
        have a : (f + 1) * 10 ^ (30 : Int).toNat ≤ 10 ^ (30 * i) * 10 ^ (30 : Int).toNat := Int.mul_le_mul_of_nonneg_right (by omega) (by decide +kernel)
        rw [e]
        rw [Int.add_mul, Int.one_mul] at a
        omega
    · rintro σ H' ⟨f, y, rfl, f0, f1, bt, pd⟩
      exact ⟨_, rfl, _, rfl, _, _, rfl, rfl, (by show m ≠ 0; omega), q _ _ bt (pd.mono (by omega)) (fmod_rng (by omega)).1 (fmod_rng (by omega)).2⟩
theorem ok_fish {f : Addr} {fd : FuncData} (B : Blt mg tC) (Dl_fish : Def K mg "_law_fish" s_l_fish ["_law_pond_here", "_law_bound"] f fd) : FnOk P w K mg base CX0 2 f fd ["_law_pond_here", "_law_bound"] spFish :=
  (fnok_or (FnOk.mono (k := 2) (ok_fish1 B Dl_fish) (by decide)) (ok_fish2 B Dl_fish)).imp fun vs H Q E ⟨p, m, n, e, hP, hn, m1, m2, q⟩ => by
    by_cases h : m ≤ 10 ^ 30
    · exact .inl ⟨p, m, n, e, hP, by omega, m1, h, fun r H' bt pd => q r H' bt (pd.mono (by omega))⟩
    · exact .inr ⟨p, m, n, e, hP, hn, by omega, m2, q⟩
theorem ok_pond {f : Addr} {fd : FuncData} (B : Blt mg tC) (Dl_pond : Def K mg "_law_pond" s_l_pond ["_law_script", "_law_k"] f fd) : FnOk P w K mg base CX0 1 f fd ["_law_script", "_law_k"] (spPondNew K) := by
  refine Dl_pond.F.ok scl_pond (fun vs H Q E h => ?_) (fun cdv A outer s H vs Q E hr h => ⟨_, (pss_cons (ps_set (i := 2) scl_pond.nd rfl (Or.inl rfl) pe_int)
  (pss_cons (ps_if (pt_cmpR op_lt (pv 1) (pe_callB call_len_seq (by rfl) B.len PySem.boot_len (pa_cons (pv 0) pa_nil)) (nomark _))
   (pss_one (ps_set (i := 2) scl_pond.nd rfl (Or.inl rfl) (pe_ix ix_list (pv 0) (pv 1) (fun _ _ => rfl))))
   pss_nil)
  (pss_one (ps_ret (pe_lst (pa_cons (pe_callB (call_max2 rfl) (by rfl) B.n_max (by decide +kernel) (pa_cons pe_int (pa_cons (pe_op op_sub (pv 2) (pe_op op_powW pe_int pe_int)) pa_nil))) (pa_cons (pe_op op_add (pe_op op_modN (pv 2) (pe_op op_add (pe_op op_powW pe_int pe_int) pe_int)) (pe_op op_mulW pe_int (pv 1))) (pa_cons pe_int pa_nil)))))))), ?_⟩)
  · obtain ⟨a, k, ns, rfl, _⟩ := h; rfl
  · obtain ⟨a, k, ns, rfl, hS, k0, k1, q⟩ := h
    have cp18 : CPowW 10 18 := ⟨by decide, by decide +kernel⟩
    have cp38 : CPowW 10 38 := ⟨by decide, by decide +kernel⟩
    have e38 : (10 : Int) ^ (38 : Int).toNat + 133 + 15487469 * 100 < 10 ^ 60 := by decide +kernel
    have e1 : 1 ≤ (10 : Int) ^ (38 : Int).toNat + 133 := by decide +kernel
    have fin : ∀ z : Int, 0 ≤ z.fmod ((10 : Int) ^ (38 : Int).toNat + 133) + 15487469 * k ∧ z.fmod ((10 : Int) ^ (38 : Int).toNat + 133) + 15487469 * k < 10 ^ 60 := fun z => by
      have := fmod_rng (x := z) e1
      omega
    refine ⟨_, rfl, _, rfl, a, _, rfl, .inl hS, _, _, rfl, rfl, _, rfl, ?_⟩
    rw [List.length_map]
    by_cases hk : k < (ns.length : Int)
    · refine iteY hk ?_
      obtain ⟨v, _, hv⟩ := pick k0 hk
      refine ⟨_, rfl, _, rfl, a, _, _, _, rfl, rfl, hS, hv, ?_⟩
      refine ⟨_, rfl, _, _, rfl, rfl, cp18, _, _, rfl, rfl, _, _, rfl, _, rfl, _, _, rfl, rfl, cp38, _, _, rfl, rfl, _, _, rfl, rfl, (by show (10 : Int) ^ (38 : Int).toNat + 133 ≠ 0; omega), _, rfl, _, _, rfl, rfl, mulc (by decide) (by decide) k0 (by omega), _, _, rfl, rfl, (by show 3 ≤ sizeLine; decide), fun p hp => ?_⟩
      exact q p _ hp (Same.new hp) ⟨_, _, _, upd_same, (fin v).1, (fin v).2, by decide, by decide⟩
    · refine iteN hk ?_
      refine ⟨_, rfl, _, _, rfl, rfl, cp18, _, _, rfl, rfl, _, _, rfl, _, rfl, _, _, rfl, rfl, cp38, _, _, rfl, rfl, _, _, rfl, rfl, (by show (10 : Int) ^ (38 : Int).toNat + 133 ≠ 0; omega), _, rfl, _, _, rfl, rfl, mulc (by decide) (by decide) k0 (by omega), _, _, rfl, rfl, (by show 3 ≤ sizeLine; decide), fun p hp => ?_⟩
      exact q p _ hp (Same.new hp) ⟨_, _, _, upd_same, (fin 0).1, (fin 0).2, by decide, by decide⟩
end
end Gr

set_option Elab.async false
set_option linter.all false
set_option maxRecDepth 100000
set_option maxHeartbeats 4000000
/-! What the law asks of hits. -/
namespace Gr
theorem emod_is {x y k c : Int} (e : x = y + k * c) (h0 : 0 ≤ y) (h1 : y < c) : x % c = y := by
  rw [e, Int.add_mul_emod_self_right, Int.emod_eq_of_lt h0 h1]
theorem emod_sc {x s f r : Int} (hs : 0 < s) (hf : 0 < f) (r0 : 0 ≤ r) (r1 : r < f) : (x * f + r) % (s * f) = (x % s) * f + r := by
  have m0 := Int.emod_nonneg x (show s ≠ 0 by omega)
  have m1 := Int.emod_lt_of_pos x hs
  have a : 0 ≤ (x % s) * f := Int.mul_nonneg m0 (by omega)
  have b : (x % s + 1) * f ≤ s * f := Int.mul_le_mul_of_nonneg_right (by omega) (by omega)
  rw [Int.add_mul, Int.one_mul] at b
  refine emod_is (k := x / s) ?_ (by omega) (by omega)
  have h := Int.emod_add_mul_ediv x s
  grind
theorem hit_sc {c b s f l F r : Int} (hc : 0 < c) (hF : 0 < F) (r0 : 0 ≤ r) (r1 : r < F) (n : Int) : hit (c * F) (b * F + r) (s * F) (f * F) (l * F) n ↔ hit c b s f l n := by
  unfold hit
  have e : b * F + r + n * (s * F) - f * F = (b + n * s - f) * F + r := by grind
  rw [e, emod_sc hc hF r0 r1]
  have m1 := Int.emod_lt_of_pos (b + n * s - f) hc
  constructor
  · intro h
    have : (b + n * s - f) % c * F < l * F := by omega
    exact Int.lt_of_mul_lt_mul_right this (by omega)
  · intro h
    have b : ((b + n * s - f) % c + 1) * F ≤ l * F := Int.mul_le_mul_of_nonneg_right (by omega) (by omega)
    rw [Int.add_mul, Int.one_mul] at b
    omega
theorem hit_sc0 {c b s f l F : Int} (hc : 0 < c) (hF : 0 < F) (n : Int) : hit (c * F) (b * F) (s * F) (f * F) (l * F) n ↔ hit c b s f l n := by
  have := hit_sc (c := c) (b := b) (s := s) (f := f) (l := l) (F := F) (r := 0) hc hF (by omega) hF n
  rwa [Int.add_zero] at this
theorem hit_rest {c b s f F r : Int} (hc : 0 < c) (hF : 0 < F) (r0 : 0 ≤ r) (r1 : r < F) (n : Int) : ¬ hit (c * F) (b * F + r) (s * F) (f * F) r n := by
  unfold hit
  have e : b * F + r + n * (s * F) - f * F = (b + n * s - f) * F + r := by grind
  rw [e, emod_sc hc hF r0 r1]
  have m0 := Int.emod_nonneg (b + n * s - f) (show c ≠ 0 by omega)
  have : 0 ≤ (b + n * s - f) % c * F := Int.mul_nonneg m0 (by omega)
  omega
theorem hit_far {c b s f l : Int} (i j k : Int) (n : Int) : hit c (b + i * c) (s + j * c) (f + k * c) l n ↔ hit c b s f l n := by
  unfold hit
  have e : b + i * c + n * (s + j * c) - (f + k * c) = (b + n * s - f) + (i + n * j - k) * c := by grind
  rw [e, Int.add_mul_emod_self_right]
theorem hit_per {c b s f l : Int} (n : Int) : hit c b s f l (n % c) ↔ hit c b s f l n := by
  unfold hit
  have h := Int.emod_add_mul_ediv n c
  have e : b + n * s - f = (b + n % c * s - f) + (n / c * s) * c := by grind
  rw [e, Int.add_mul_emod_self_right]
/-- none within a cycle: none at all -/
theorem least_none {c b s f l : Int} (hc : 0 < c) (h : ∀ n, 0 ≤ n → n < c → ¬ hit c b s f l n) : Least (hit c b s f l) none := fun n n0 z =>
  h (n % c) (Int.emod_nonneg n (by omega)) (Int.emod_lt_of_pos n hc) ((hit_per n).mpr z)
/-- by the inverse of the step -/
theorem least_inv {c b s f l inv k : Int} (hc : 0 < c) (hl : l ≤ c) (hi : s * inv = 1 + k * c) {m : Int} {ns : List Int} (hm : m ∈ ns) (hle : ∀ y ∈ ns, m ≤ y)
    (is : ∀ y, y ∈ ns ↔ ∃ j, 0 ≤ j ∧ j < l ∧ y = ((f + j - b) * inv) % c) : Least (hit c b s f l) (some m) := by
  have cz : c ≠ 0 := by omega
  obtain ⟨j, j0, j1, e⟩ := (is m).mp hm
  refine ⟨?_, ?_, fun n n0 n1 z => ?_⟩
  · rw [e]; exact Int.emod_nonneg _ cz
  · unfold hit
    have h := Int.emod_add_mul_ediv ((f + j - b) * inv) c
    have q : b + m * s - f = j + ((f + j - b) * k - (f + j - b) * inv / c * s) * c := by grind
    rw [emod_is q j0 (by omega)]
    exact j1
  · unfold hit at z
    have h := Int.emod_add_mul_ediv (b + n * s - f) c
    have r0 := Int.emod_nonneg (b + n * s - f) cz
    have q : n = (f + (b + n * s - f) % c - b) * inv + ((b + n * s - f) / c * inv - n * k) * c := by grind
    have e2 : n % c = ((f + (b + n * s - f) % c - b) * inv) % c := by
      rw [show n % c = ((f + (b + n * s - f) % c - b) * inv + ((b + n * s - f) / c * inv - n * k) * c) % c from congrArg (· % c) q, Int.add_mul_emod_self_right]
    have := hle _ ((is _).mpr ⟨_, r0, z, rfl⟩)
    have le : n % c ≤ n := by
      have := Int.emod_add_mul_ediv n c
      have d0 : 0 ≤ n / c := Int.ediv_nonneg n0 (by omega)
      have := Int.mul_nonneg (show 0 ≤ c by omega) d0
      omega
    omega
theorem up_one {c b f l : Int} (hc : 0 < c) (l0 : 1 ≤ l) (hl : l ≤ c) (no : ¬ (b - f) % c < l) : Least (hit c b 1 f l) (some (c - (b - f) % c)) := by
  have d0 := Int.emod_nonneg (b - f) (show c ≠ 0 by omega)
  have d1 := Int.emod_lt_of_pos (b - f) hc
  have h := Int.emod_add_mul_ediv (b - f) c
  refine ⟨by omega, ?_, fun n n0 n1 z => ?_⟩
  · unfold hit
    rw [emod_is (k := (b - f) / c + 1) (y := 0) (by grind) (by omega) hc]
    omega
  · unfold hit at z
    rw [emod_is (k := (b - f) / c) (y := (b - f) % c + n) (by grind) (by omega) (by omega)] at z
    omega
theorem down_one {c b f l : Int} (hc : 0 < c) (l0 : 1 ≤ l) (hl : l ≤ c) (no : ¬ (b - f) % c < l) : Least (hit c b (-1) f l) (some ((b - f) % c - l + 1)) := by
  have d0 := Int.emod_nonneg (b - f) (show c ≠ 0 by omega)
  have d1 := Int.emod_lt_of_pos (b - f) hc
  have h := Int.emod_add_mul_ediv (b - f) c
  refine ⟨by omega, ?_, fun n n0 n1 z => ?_⟩
  · unfold hit
    rw [emod_is (k := (b - f) / c) (y := l - 1) (by grind) (by omega) (by omega)]
    omega
  · unfold hit at z
    rw [emod_is (k := (b - f) / c) (y := (b - f) % c - n) (by grind) (by omega) (by omega)] at z
    omega
theorem at_once {c b s f l : Int} (h : (b - f) % c < l) : Least (hit c b s f l) (some 0) := by
  refine ⟨Int.le_refl _, ?_, fun n n0 n1 z => absurd n1 (by omega)⟩
  unfold hit
  rw [Int.zero_mul, Int.add_zero]
  exact h
/-- beside the first hit nothing is met up to it -/
theorem beside {c b s f l t sp : Int} (hc : 0 < c) (hl : l ≤ c) (ht : Least (hit c b s f l) (some t)) (hsp : (b + t * s - f) % c = sp) {f' l' : Int} (h : (f' = f ∧ l' = sp) ∨ (f' = f + sp + 1 ∧ l' = l - sp - 1)) (l0 : 0 < l') {r : Int} (hr : Least (hit c b s f' l') (some r)) : ¬ r ≤ t := by
  intro z
  have cz : c ≠ 0 := by omega
  have sp1 : sp < l := by rw [← hsp]; exact ht.2.1
  have sp0 : 0 ≤ sp := by rw [← hsp]; exact Int.emod_nonneg _ cz
  have x := hr.2.1
  unfold hit at x
  have hx0 := Int.emod_nonneg (b + r * s - f') cz
  have key : (b + r * s - f) % c < l ∧ (b + r * s - f) % c ≠ sp := by
    rcases h with ⟨rfl, rfl⟩ | ⟨rfl, rfl⟩
    · exact ⟨by omega, by omega⟩
    · have h2 := Int.emod_add_mul_ediv (b + r * s - (f + sp + 1)) c
      have : (b + r * s - f) % c = (b + r * s - (f + sp + 1)) % c + sp + 1 := emod_is (k := (b + r * s - (f + sp + 1)) / c) (by grind) (by omega) (by omega)
      omega
  by_cases e : r = t
  · subst e
    exact key.2 hsp
  · exact ht.2.2 r hr.1 (by omega) key.1
theorem nat_min {p : Nat → Prop} (h : ∃ n, p n) : ∃ n, p n ∧ ∀ m, m < n → ¬ p m := by
  apply Classical.byContradiction
  intro no
  have all : ∀ n, ¬ p n := by
    intro n
    induction n using Nat.strongRecOn with
    | _ n ih => exact fun z => no ⟨n, z, ih⟩
  obtain ⟨n, hn⟩ := h
  exact all n hn
/-- where nothing is hit, the steps come round soon -/
theorem wide_round {c b s f l : Int} (hc : 0 < c) (hl : c / 9 ≤ l) (no : Least (hit c b s f l) none) : ∃ k, 1 ≤ k ∧ k ≤ 8 ∧ (k * s) % c = 0 := by
  have cz : c ≠ 0 := by omega
  by_cases z : s % c = 0
  · exact ⟨1, by omega, by omega, by rw [Int.one_mul]; exact z⟩
  have sn := Int.emod_nonneg s cz
  -- the least rest that is met, not 0
  obtain ⟨g, ⟨g0, ng, ng0, eg⟩, gmin⟩ := nat_min (p := fun v => 0 < v ∧ ∃ n : Int, 0 ≤ n ∧ (n * s) % c = (v : Int)) ⟨(s % c).toNat, by omega, 1, by omega, by rw [Int.one_mul]; omega⟩
  have gmin' : ∀ (v n : Int), 0 < v → v < g → 0 ≤ n → (n * s) % c ≠ v := fun v n v0 v1 n0 e => gmin v.toNat (by omega) ⟨by omega, n, n0, by omega⟩
  have gc : (g : Int) < c := by rw [← eg]; exact Int.emod_lt_of_pos _ hc
  have hg : (0 : Int) < g := by omega
  have dg := Int.emod_add_mul_ediv (ng * s) c
  rw [eg] at dg
  -- it goes into the cycle
  have r0 := Int.emod_nonneg c (show (g : Int) ≠ 0 by omega)
  have r1 := Int.emod_lt_of_pos c hg
  have dc := Int.emod_add_mul_ediv c g
  have whole : c % g = 0 := by
    by_cases e : c % g = 0
    · exact e
    · have q0 : 0 ≤ c / g := Int.ediv_nonneg (by omega) (by omega)
      have n0 : 0 ≤ (c / g + 1) * ng := Int.mul_nonneg (by omega) ng0
      refine absurd (emod_is (x := (c / g + 1) * ng * s) (y := g - c % g) (k := (c / g + 1) * (ng * s / c) + 1) (c := c) ?_ (by omega) (by omega)) (gmin' _ _ (by omega) (by omega) n0)
      grind
  -- and into the step
  have t0 := Int.emod_nonneg (s % c) (show (g : Int) ≠ 0 by omega)
  have t1 := Int.emod_lt_of_pos (s % c) hg
  have ds := Int.emod_add_mul_ediv (s % c) g
  have dsc := Int.emod_add_mul_ediv s c
  have part : (s % c) % g = 0 := by
    by_cases e : (s % c) % g = 0
    · exact e
    · have q0 : 0 ≤ s % c / g := Int.ediv_nonneg sn (by omega)
      have n0 : 0 ≤ 1 + (s % c / g) * ng * (c - 1) := by
        have := Int.mul_nonneg (Int.mul_nonneg q0 ng0) (show 0 ≤ c - 1 by omega)
        omega
      refine absurd (emod_is (x := (1 + (s % c / g) * ng * (c - 1)) * s) (y := (s % c) % g) (k := s / c + (s % c / g) * ng * s - (s % c / g) * (ng * s / c)) (c := c) ?_ t0 (by omega)) (gmin' _ _ (by omega) t1 n0)
      grind
  rw [whole, Int.zero_add] at dc
  rw [part, Int.zero_add] at ds
  -- nothing is hit, so the rest is longer than the stretch
  have long : l < g := by
    apply Classical.byContradiction
    intro h
    have d0 := Int.emod_nonneg (b - f) cz
    have d1 := Int.emod_lt_of_pos (b - f) hc
    have db := Int.emod_add_mul_ediv (b - f) c
    have u := up_rng (x := c - (b - f) % c) hg
    have u0 := up_pos (x := c - (b - f) % c) hg (by omega)
    refine no (up (c - (b - f) % c) g * ng) (Int.mul_nonneg (by omega) ng0) ?_
    unfold hit
    rw [emod_is (y := (b - f) % c + up (c - (b - f) % c) g * g - c) (k := (b - f) / c + 1 + up (c - (b - f) % c) g * (ng * s / c)) (by grind) (by omega) (by omega)]
    omega
  refine ⟨c / g, ?_, ?_, ?_⟩
  · exact Int.le_ediv_of_mul_le hg (by omega)
  · have : c / g < 9 := Int.ediv_lt_of_lt_mul hg (by omega)
    omega
  · refine emod_is (k := s % c / g + c / g * (s / c)) ?_ (Int.le_refl _) hc
    grind
end Gr

set_option Elab.async false
set_option linter.all false
set_option pp.deepTerms false
set_option pp.maxSteps 3000
set_option maxRecDepth 100000
set_option maxHeartbeats 8000000
set_option exponentiation.threshold 30000
namespace Gr
open PySem PySem.Spec PyProof.Rows L2
theorem least_lt {c b s f l n : Int} (hc : 0 < c) (h : Least (hit c b s f l) (some n)) : n < c := by
  have z := (hit_per (c := c) (b := b) (s := s) (f := f) (l := l) n).mpr h.2.1
  by_cases k : n % c < n
  · exact absurd z (h.2.2 _ (Int.emod_nonneg n (by omega)) k)
  · have := Int.emod_lt_of_pos n hc
    omega
def optD : Option Int → PyData
  | none => .none
  | some n => .int n
theorem dp_opts {K : PySem.W.Frag} {H : Hp} : ∀ rs : List (Option Int), DpAll K H (rs.map optV) (rs.map optD)
  | [] => .nil
  | none :: rs => .cons .non (dp_opts rs)
  | some n :: rs => .cons (.int n) (dp_opts rs)
theorem lay_opts : ∀ rs : List (Option Int), PyData.canLayAll0 (rs.map optD) = true
  | [] => by simp [PyData.canLayAll0]
  | none :: rs => by simp [PyData.canLayAll0, PyData.canLay0, optD, lay_opts rs]
  | some n :: rs => by simp [PyData.canLayAll0, PyData.canLay0, optD, lay_opts rs]
theorem depth_opts : ∀ rs : List (Option Int), PyData.depthAll (rs.map optD) ≤ 5
  | [] => by simp [PyData.depthAll]
  | none :: rs => by
    have := depth_opts rs
    simp only [List.map_cons, PyData.depthAll, PyData.depth, optD]; omega
  | some n :: rs => by
    have := depth_opts rs
    simp only [List.map_cons, PyData.depthAll, PyData.depth, optD]; omega
theorem shaped_opts (rs : List (Option Int)) : SeqAt.shaped (.list (rs.map optD)) = true := by
  have h := depth_opts rs
  unfold SeqAt.shaped
  rw [Bool.and_eq_true]
  refine ⟨by simpa only [PyData.canLay0] using lay_opts rs, decide_eq_true ?_⟩
  simp only [PyData.depth]
  omega
theorem eqv_opts : ∀ rs : List (Option Int), PyData.eqvAll (rs.map optD) (rs.map optD) = true
  | [] => by simp [PyData.eqvAll]
  | none :: rs => by simp [PyData.eqvAll, PyData.eqv, optD, eqv_opts rs]
  | some n :: rs => by simp [PyData.eqvAll, PyData.eqv, optD, eqv_opts rs]
theorem eqv_optsL (rs : List (Option Int)) : PyData.eqv (.list (rs.map optD)) (.list (rs.map optD)) = true := by simpa only [PyData.eqv] using eqv_opts rs
/-- a list against the empty one -/
theorem eqv_optsN : ∀ rs : List (Option Int), PyData.eqv (.list (rs.map optD)) (.list []) = rs.isEmpty
  | [] => by simp [PyData.eqv, PyData.eqvAll]
  | r :: rs => by simp [PyData.eqv, PyData.eqvAll]
theorem eqOpts {K : PySem.W.Frag} {H : Hp} {a b : Addr} {Q : VK} (rs : List (Option Int)) (ha : H a = some (.lst (rs.map optV))) (hb : H b = some (.lst (rs.map optV))) (q : Q (.bl true) H) : rEqD K (.ref a) (.ref b) H Q := by
  refine ⟨_, _, .lst (SqL.of ha) (dp_opts rs), .lst (SqL.of hb) (dp_opts rs), shaped_opts rs, shaped_opts rs, ?_⟩
  rw [eqv_optsL]
  exact q
def spLeast1 : Sp := fun vs H Q _ => ∃ c b s f l : Int, vs = [.int c, .int b, .int s, .int f, .int l] ∧ 1 ≤ c ∧ c ≤ 10 ^ 6 ∧ s.natAbs < 2 ^ 1000 ∧ ∀ r, Least (hit c b s f l) r → Q (optV r) H
def spDraws (k : Int) : Sp := fun vs H Q _ => ∃ (p : Addr) (n : Int), vs = [.ref p] ∧ Pond n p H ∧ n ≤ 10 ^ 8 ∧ ∀ H', But p H H' → Pond (n + k) p H' → Q (.bl true) H'
theorem decOpt {r : Option Int} {n : Int} (h : r = some n) : decide (optV r = V.int n) = true := by rw [h]; exact decide_eq_true rfl
theorem scal_opt (r : Option Int) (n : Int) : scal (optV r) (.int n) = true := by cases r <;> rfl
section
variable {P : Program} {w : World} {K : PySem.W.Frag} {mg : Str → Option Value} {base : Heap} {tC : Tok}
theorem ok_least1 {f : Addr} {fd : FuncData} (B : Blt mg tC) (Dl_least : Def K mg "_law_least" s_l_least ["_law_span", "_law_begin", "_law_step", "_law_place", "_law_size"] f fd) : FnOk P w K mg base CX0 1 f fd ["_law_span", "_law_begin", "_law_step", "_law_place", "_law_size"] spLeast1 := by
  refine Dl_least.F.ok scl_least (fun vs H Q E h => ?_) (fun cdv A outer s H vs Q E hr h => ⟨_, (pss_cons (ps_for PassesOwn.never rfl (pi_range1 (by rfl) B.range (pa_cons (pv 0) pa_nil)) (pg_name (i := 5) scl_least.nd rfl (Or.inl rfl))
   (pss_one (ps_if (pt_cmpR op_lt (pe_op op_modN (pe_op op_sub (pe_op op_add (pv 1) (pe_op op_mulW (pv 5) (pv 2))) (pv 3)) (pv 0)) (pv 4) (nomark _))
   (pss_one (ps_ret (pv 5)))
   pss_nil)))
  (pss_one (ps_ret pe_non))), ?_⟩)
  · obtain ⟨c, b, st, ff, l, rfl, _⟩ := h; rfl
  · obtain ⟨c, b, st, ff, l, rfl, c0, c1, sb, q⟩ := h
    have cz : c ≠ 0 := by omega
    refine ⟨_, rfl, c, rfl, by omega, by omega, ?_⟩
    refine for_range (lo := 0) (fun i σ H' => ∃ y, σ = [some (.int c), some (.int b), some (.int st), some (.int ff), some (.int l), y] ∧ H' = H ∧ ∀ k, 0 ≤ k → k < (i : Int) → ¬ hit c b st ff l k) ⟨none, rfl, rfl, fun k k0 k1 => absurd k1 (by omega)⟩ ?_ ?_
    · rintro i σ H' hi ⟨y, rfl, rfl, no⟩
      have ib : (0 + (i : Int)).natAbs < 2 ^ 30 := by omega
      refine ⟨_, rfl, _, rfl, _, rfl, _, _, rfl, rfl, wide_mul (a := 30) (b := 1000) ib sb (by decide) (by decide) (by decide), _, _, rfl, rfl, _, rfl, _, _, rfl, rfl, _, rfl, _, _, rfl, rfl, cz, _, rfl, _, _, rfl, rfl, _, rfl, ?_⟩
      have e : (b + (0 + (i : Int)) * st - ff).fmod c = (b + (0 + (i : Int)) * st - ff) % c := fm (by omega)
      by_cases z : (b + (0 + (i : Int)) * st - ff).fmod c < l
      · refine iteY z ⟨_, rfl, ?_⟩
        refine q (some (0 + (i : Int))) ⟨by omega, by unfold hit; omega, fun k k0 k1 => no k k0 (by omega)⟩
      · refine iteN z ⟨_, rfl, rfl, fun k k0 k1 => ?_⟩
        by_cases ek : k = 0 + (i : Int)
        · subst ek; unfold hit; omega
        · exact no k k0 (by push_cast at k1; omega)
    · rintro σ H' ⟨y, rfl, rfl, no⟩
      exact q none (least_none (by omega) fun n n0 n1 => no n n0 (by omega))
theorem ok_straight {f f1 f2 : Addr} {fd fd1 fd2 : FuncData} (B : Blt mg tC) (Dl_straight_right : Def K mg "_law_straight_right" s_l_straight_right ["_law_pond_here"] f fd) (Dl_fish : Def K mg "_law_fish" s_l_fish ["_law_pond_here", "_law_bound"] f1 fd1) (Dfirst_hit : Def K mg "first_hit" s_first_hit ["cycle", "begin", "step", "first", "length"] f2 fd2) (Gfirst_hit : FnOk P w K mg base CX0 4 f2 fd2 ["cycle", "begin", "step", "first", "length"] spHit) : FnOk P w K mg base CX0 5 f fd ["_law_pond_here"] (spDraws 100) := by
  have Gl_fish := ok_fish (P := P) (w := w) (base := base) B Dl_fish
  refine Dl_straight_right.F.ok scl_straight_right (fun vs H Q E h => ?_) (fun cdv A outer s H vs Q E hr h => ⟨_, (pss_cons (ps_set (i := 1) scl_straight_right.nd rfl (Or.inl rfl) (pe_op op_add pe_int (pe_call Gl_fish (hr.mono (by decide)) (by rfl) Dl_fish.g Dl_fish.F.kp Dl_fish.b .nil pass0 (pa_cons (pv 0) (pa_cons (pe_op op_powW pe_int pe_int) pa_nil)))))
  (pss_cons (ps_par3 (i := 2) (j := 3) (l := 4) rfl scl_straight_right.nd rfl rfl rfl (by decide) (by decide) (by decide) rfl rfl rfl (pa_cons (pe_call Gl_fish (hr.mono (by decide)) (by rfl) Dl_fish.g Dl_fish.F.kp Dl_fish.b .nil pass0 (pa_cons (pv 0) (pa_cons (pv 1) pa_nil))) (pa_cons (pe_call Gl_fish (hr.mono (by decide)) (by rfl) Dl_fish.g Dl_fish.F.kp Dl_fish.b .nil pass0 (pa_cons (pv 0) (pa_cons (pv 1) pa_nil))) (pa_cons (pe_op op_add pe_int (pe_call Gl_fish (hr.mono (by decide)) (by rfl) Dl_fish.g Dl_fish.F.kp Dl_fish.b .nil pass0 (pa_cons (pv 0) (pa_cons (pv 1) pa_nil)))) pa_nil))) (by rfl))
  (pss_cons (ps_set (i := 5) scl_straight_right.nd rfl (Or.inl rfl) (pe_op op_modN (pe_op op_sub (pv 2) (pv 3)) (pv 1)))
  (pss_cons (ps_set (i := 6) scl_straight_right.nd rfl (Or.inl rfl) (pe_ifExp (pt_cmpR op_lt (pv 5) (pv 4) (nomark _)) (pe_lst (pa_cons pe_int (pa_cons pe_int pa_nil))) (pe_lst (pa_cons (pe_op op_sub (pv 1) (pv 5)) (pa_cons (pe_op op_add (pe_op op_sub (pv 5) (pv 4)) pe_int) pa_nil)))))
  (pss_one (ps_ret (pe_cmpR (op_eqD hr.units) (pe_lst (pa_cons (pe_call Gfirst_hit (hr.mono (by decide)) (by rfl) Dfirst_hit.g Dfirst_hit.F.kp Dfirst_hit.b .nil pass0 (pa_cons (pv 1) (pa_cons (pv 2) (pa_cons pe_int (pa_cons (pv 3) (pa_cons (pv 4) pa_nil)))))) (pa_cons (pe_call Gfirst_hit (hr.mono (by decide)) (by rfl) Dfirst_hit.g Dfirst_hit.F.kp Dfirst_hit.b .nil pass0 (pa_cons (pv 1) (pa_cons (pv 2) (pa_cons (pe_un un_neg pe_int) (pa_cons (pv 3) (pa_cons (pv 4) pa_nil)))))) pa_nil))) (pv 6) (nomark _)))))))), ?_⟩)
  · obtain ⟨p, n, rfl, _⟩ := h; rfl
  · obtain ⟨p, n, rfl, hP, hn, q⟩ := h
    have c10 : (10 : Int) ^ 30 ≤ 10 ^ 100 := by decide +kernel
    refine ⟨_, rfl, _, _, rfl, rfl, cp30, p, _, n, rfl, hP, by omega, by decide +kernel, by decide +kernel, fun r1 H1 b1 pd1 r10 r11 => ⟨_, _, rfl, rfl, ?_⟩⟩
    have r11' : r1 < 10 ^ 30 := r11
    clear r11
    refine ⟨_, rfl, _, rfl, p, 1 + r1, _, rfl, pd1, by omega, by omega, by omega, fun b H2 b2 pd2 b20 b21 => ?_⟩
    refine ⟨_, rfl, _, rfl, p, 1 + r1, _, rfl, pd2, by omega, by omega, by omega, fun pl H3 b3 pd3 p0 p1 => ?_⟩
    refine ⟨_, rfl, _, rfl, p, 1 + r1, _, rfl, pd3, by omega, by omega, by omega, fun r4 H4 b4 pd4 r40 r41 => ⟨_, _, rfl, rfl, _, _, _, rfl, ?_⟩⟩
    have cz : 1 + r1 ≠ 0 := by omega
    have bb := ((b1.trans b2).trans b3).trans b4
    refine ⟨_, rfl, _, rfl, _, _, rfl, rfl, _, rfl, _, _, rfl, rfl, cz, _, rfl, _, rfl, _, _, rfl, rfl, _, rfl, ?_⟩
    have e := fm (x := b - pl) (m := 1 + r1) (by omega)
    by_cases z : (b - pl).fmod (1 + r1) < 1 + r4
    · refine iteY z ⟨(by show 2 ≤ sizeLine; decide), fun L hL => ?_⟩
      refine ⟨_, rfl, _, rfl, _, rfl, _, rfl, 1 + r1, b, 1, pl, 1 + r4, rfl, by omega, by omega, by omega, by omega, fun ra H5 ha s5 => ?_⟩
      refine ⟨_, rfl, _, rfl, _, rfl, _, rfl, _, rfl, 1 + r1, b, -1, pl, 1 + r4, rfl, by omega, by omega, by omega, by omega, fun rb H6 hb s6 => ⟨(by show 2 ≤ sizeLine; decide), fun T hT => ?_⟩⟩
      obtain rfl := ha.uniq (at_once (by omega))
      obtain rfl := hb.uniq (at_once (by omega))
      refine ⟨_, rfl, eqOpts [some 0, some 0] upd_same (Same.new hT _ _ (s6 _ _ (s5 _ _ upd_same))) ?_⟩
      exact q _ (bb.trans (Same.but (((Same.new hL).trans (s5.trans s6)).trans (Same.new hT)))) ((pd4.same (((Same.new hL).trans (s5.trans s6)).trans (Same.new hT))).mono (by omega))
    · refine iteN z ⟨_, rfl, _, rfl, _, _, rfl, rfl, _, rfl, _, rfl, _, _, rfl, rfl, _, _, rfl, rfl, (by show 2 ≤ sizeLine; decide), fun L hL => ?_⟩
      refine ⟨_, rfl, _, rfl, _, rfl, _, rfl, 1 + r1, b, 1, pl, 1 + r4, rfl, by omega, by omega, by omega, by omega, fun ra H5 ha s5 => ?_⟩
      refine ⟨_, rfl, _, rfl, _, rfl, _, rfl, _, rfl, 1 + r1, b, -1, pl, 1 + r4, rfl, by omega, by omega, by omega, by omega, fun rb H6 hb s6 => ⟨(by show 2 ≤ sizeLine; decide), fun T hT => ?_⟩⟩
      obtain rfl := ha.uniq (up_one (by omega) (by omega) (by omega) (by omega))
      obtain rfl := hb.uniq (down_one (by omega) (by omega) (by omega) (by omega))
      refine ⟨_, rfl, eqOpts [some (1 + r1 - (b - pl) % (1 + r1)), some ((b - pl) % (1 + r1) - (1 + r4) + 1)] upd_same ?_ ?_⟩
      · rw [← e]
        exact Same.new hT _ _ (s6 _ _ (s5 _ _ upd_same))
      · exact q _ (bb.trans (Same.but (((Same.new hL).trans (s5.trans s6)).trans (Same.new hT)))) ((pd4.same (((Same.new hL).trans (s5.trans s6)).trans (Same.new hT))).mono (by omega))
end
end Gr

set_option Elab.async false
set_option linter.all false
set_option pp.deepTerms false
set_option pp.maxSteps 3000
set_option maxRecDepth 100000
set_option maxHeartbeats 8000000
set_option exponentiation.threshold 30000
namespace Gr
open PySem PySem.Spec PyProof.Rows L2
theorem iteNT {c A B : Prop} [Decidable c] (hc : ¬ c) (h : A) : if (!decide c) = true then A else B := by
  rw [decide_eq_false hc]; exact iteT h
theorem pickV {zs : List V} {r : Int} (h0 : 0 ≤ r) (h1 : r < (zs.length : Int)) : ∃ v ∈ zs, atI zs r = some v := by
  obtain ⟨j, rfl⟩ : ∃ j : Nat, r = (j : Int) := ⟨r.toNat, (Int.toNat_of_nonneg h0).symm⟩
  have hl : j < zs.length := by omega
  exact ⟨zs[j], List.getElem_mem hl, atI_nat (List.getElem?_eq_getElem hl)⟩
theorem cpw {k : Int} (h0 : 0 ≤ k) (h1 : k ≤ 100) : CPowW 10 k := ⟨h0, by
  rw [show (Builtin.Int.intBits 10 : Int) = 4 by decide +kernel]
  omega⟩
theorem mulK {i j : Int} (hi : -(10 ^ 100) ≤ i ∧ i ≤ 10 ^ 100) (hj : -(10 ^ 100) ≤ j ∧ j ≤ 10 ^ 100) : CMulW i j := mulc1 hi hj
where
  mulc1 {i j : Int} (hi : -(10 ^ 100) ≤ i ∧ i ≤ 10 ^ 100) (hj : -(10 ^ 100) ≤ j ∧ j ≤ 10 ^ 100) : CMulW i j := by
    have e := e100
    exact wide_mul (a := 1000) (b := 1000) (by omega) (by omega) (by decide) (by decide) (by decide)
theorem divK {x j : Int} (h0 : 0 < j) (h1 : j ≤ 10 ^ 100) : CDivW x j := wide_div (b := 1000) h0 (by have := e100; omega) (by decide) (by decide)
theorem mulR {i j a b : Int} (i0 : 0 ≤ i) (i1 : i ≤ a) (j0 : 0 ≤ j) (j1 : j ≤ b) : 0 ≤ i * j ∧ i * j ≤ a * b := ⟨Int.mul_nonneg i0 j0, Int.le_trans (Int.mul_le_mul_of_nonneg_right i1 j0) (Int.mul_le_mul_of_nonneg_left j1 (by omega))⟩
section
variable {P : Program} {w : World} {K : PySem.W.Frag} {mg : Str → Option Value} {base : Heap} {tC : Tok}
theorem ok_between {f f1 f2 : Addr} {fd fd1 fd2 : FuncData} (B : Blt mg tC) (Dl_between_right : Def K mg "_law_between_right" s_l_between_right ["_law_pond_here"] f fd) (Dl_fish : Def K mg "_law_fish" s_l_fish ["_law_pond_here", "_law_bound"] f1 fd1) (Dfirst_hit : Def K mg "first_hit" s_first_hit ["cycle", "begin", "step", "first", "length"] f2 fd2) (Gfirst_hit : FnOk P w K mg base CX0 4 f2 fd2 ["cycle", "begin", "step", "first", "length"] spHit) : FnOk P w K mg base CX0 5 f fd ["_law_pond_here"] (spDraws 200) := by
  have Gl_fish := ok_fish (P := P) (w := w) (base := base) B Dl_fish
  refine Dl_between_right.F.ok scl_between_right (fun vs H Q E h => ?_) (fun cdv A outer s H vs Q E hr h => ⟨_, (pss_cons (ps_set (i := 1) scl_between_right.nd rfl (Or.inl rfl) (pe_op op_add (pe_op op_powW pe_int pe_int) (pe_call Gl_fish (hr.mono (by decide)) (by rfl) Dl_fish.g Dl_fish.F.kp Dl_fish.b .nil pass0 (pa_cons (pv 0) (pa_cons (pe_ix ix_list (pe_lst (pa_cons (pe_op op_powW pe_int pe_int) (pa_cons (pe_op op_powW pe_int pe_int) pa_nil))) (pe_call Gl_fish (hr.mono (by decide)) (by rfl) Dl_fish.g Dl_fish.F.kp Dl_fish.b .nil pass0 (pa_cons (pv 0) (pa_cons pe_int pa_nil))) (fun _ _ => rfl)) pa_nil)))))
  (pss_cons (ps_par3 (i := 2) (j := 3) (l := 4) rfl scl_between_right.nd rfl rfl rfl (by decide) (by decide) (by decide) rfl rfl rfl (pa_cons (pe_call Gl_fish (hr.mono (by decide)) (by rfl) Dl_fish.g Dl_fish.F.kp Dl_fish.b .nil pass0 (pa_cons (pv 0) (pa_cons (pv 1) pa_nil))) (pa_cons (pe_call Gl_fish (hr.mono (by decide)) (by rfl) Dl_fish.g Dl_fish.F.kp Dl_fish.b .nil pass0 (pa_cons (pv 0) (pa_cons (pv 1) pa_nil))) (pa_cons (pe_call Gl_fish (hr.mono (by decide)) (by rfl) Dl_fish.g Dl_fish.F.kp Dl_fish.b .nil pass0 (pa_cons (pv 0) (pa_cons (pv 1) pa_nil))) pa_nil))) (by rfl))
  (pss_cons (ps_set (i := 5) scl_between_right.nd rfl (Or.inl rfl) (pe_op op_add pe_int (pe_call Gl_fish (hr.mono (by decide)) (by rfl) Dl_fish.g Dl_fish.F.kp Dl_fish.b .nil pass0 (pa_cons (pv 0) (pa_cons (pe_op op_powW pe_int pe_int) pa_nil)))))
  (pss_cons (ps_set (i := 6) scl_between_right.nd rfl (Or.inl rfl) (pe_op op_sub (pe_op op_add (pv 2) (pe_op op_mulW (pv 4) (pv 3))) (pe_call Gl_fish (hr.mono (by decide)) (by rfl) Dl_fish.g Dl_fish.F.kp Dl_fish.b .nil pass0 (pa_cons (pv 0) (pa_cons (pv 5) pa_nil)))))
  (pss_cons (ps_set (i := 7) scl_between_right.nd rfl (Or.inl rfl) (pe_call Gfirst_hit (hr.mono (by decide)) (by rfl) Dfirst_hit.g Dfirst_hit.F.kp Dfirst_hit.b .nil pass0 (pa_cons (pv 1) (pa_cons (pv 2) (pa_cons (pv 3) (pa_cons (pv 6) (pa_cons (pv 5) pa_nil)))))))
  (pss_cons (ps_if (PW.pt (pw_or (pt_cmpR op_isN (pv 7) pe_non (nomark _)) (pw_or1 (pt_cmpR op_gt (pv 7) (pv 4) (nomark _)))))
   (pss_one (ps_ret pe_bl))
   pss_nil)
  (pss_cons (ps_set (i := 8) scl_between_right.nd rfl (Or.inl rfl) (pe_op op_modN (pe_op op_sub (pe_op op_add (pv 2) (pe_op op_mulW (pv 7) (pv 3))) (pv 6)) (pv 1)))
  (pss_cons (ps_if (pt_cmpR op_ge (pv 8) (pv 5) (nomark _))
   (pss_one (ps_ret pe_bl))
   pss_nil)
  (pss_cons (ps_for PassesOwn.never rfl (pi_list (pe_lst (pa_cons (pe_tup (pa_cons (pv 6) (pa_cons (pv 8) pa_nil))) (pa_cons (pe_tup (pa_cons (pe_op op_add (pe_op op_add (pv 6) (pv 8)) pe_int) (pa_cons (pe_op op_sub (pe_op op_sub (pv 5) (pv 8)) pe_int) pa_nil))) pa_nil)))) (pg_tup rfl (pgs_cons (pg_name (i := 9) scl_between_right.nd rfl (Or.inl rfl)) (pgs_cons (pg_name (i := 10) scl_between_right.nd rfl (Or.inl rfl)) pgs_nil)))
   (pss_cons (ps_set (i := 11) scl_between_right.nd rfl (Or.inl rfl) (pe_ifExp (pt_cmpR op_gt (pv 10) pe_int (nomark _)) (pe_call Gfirst_hit (hr.mono (by decide)) (by rfl) Dfirst_hit.g Dfirst_hit.F.kp Dfirst_hit.b .nil pass0 (pa_cons (pv 1) (pa_cons (pv 2) (pa_cons (pv 3) (pa_cons (pv 9) (pa_cons (pv 10) pa_nil)))))) pe_non))
  (pss_one (ps_if (PW.pt (pw_and (pt_cmpR op_notN (pv 11) pe_non (nomark _)) (pw_and1 (pt_cmpR op_le (pv 11) (pv 7) (nomark _)))))
   (pss_one (ps_ret pe_bl))
   pss_nil))))
  (pss_one (ps_ret pe_bl))))))))))), ?_⟩)
  · obtain ⟨p, n, rfl, _⟩ := h; rfl
  · obtain ⟨p, n, rfl, hP, hn, q⟩ := h
    have c10 : (10 : Int) ^ 30 ≤ 10 ^ 100 := by decide +kernel
    have e7 : (10 : Int) ^ (7 : Int).toNat = 10 ^ 7 := rfl
    have e6 : (10 : Int) ^ (6 : Int).toNat = 10 ^ 6 := rfl
    -- span
    refine ⟨_, _, rfl, rfl, cpw (by decide) (by decide), _, rfl, _, _, rfl, rfl, cpw (by decide) (by decide), _, _, rfl, rfl, cpw (by decide) (by decide), (by show 2 ≤ sizeLine; decide), fun L hL => ⟨_, rfl, p, 2, n, rfl, hP.new hL, by omega, by decide, by decide +kernel, fun r1 H1 b1 pd1 r10 r11 => ?_⟩⟩
    obtain ⟨v, hv, hva⟩ := pick (xs := [10 ^ (8 : Int).toNat, 10 ^ (29 : Int).toNat]) r10 r11
    have hLp : L ≠ p := fun e => hP.ne (e ▸ hL)
    have v1 : 1 ≤ v ∧ v ≤ 10 ^ 29 := by
      have : v = 10 ^ 8 ∨ v = 10 ^ 29 := by simpa using hv
      omega
    refine ⟨L, _, _, _, rfl, rfl, SqL.of (b1 L _ hLp upd_same), hva, p, v, _, rfl, pd1, by omega, v1.1, by omega, fun r2 H2 b2 pd2 r20 r21 => ⟨_, _, rfl, rfl, ?_⟩⟩
    have bb2 : But p H H2 := ((Same.but (Same.new hL)).trans b1).trans b2
    -- begin, step, n
    have s7 : (10 : Int) ^ (7 : Int).toNat + r2 ≤ 10 ^ 30 ∧ 10 ^ 7 ≤ (10 : Int) ^ (7 : Int).toNat + r2 := by omega
    refine ⟨_, rfl, _, rfl, p, 10 ^ (7 : Int).toNat + r2, _, rfl, pd2, by omega, by omega, by omega, fun b H3 b3 pd3 b30 b31 => ?_⟩
    refine ⟨_, rfl, _, rfl, p, 10 ^ (7 : Int).toNat + r2, _, rfl, pd3, by omega, by omega, by omega, fun st H4 b4 pd4 st0 st1 => ?_⟩
    refine ⟨_, rfl, _, rfl, p, 10 ^ (7 : Int).toNat + r2, _, rfl, pd4, by omega, by omega, by omega, fun k H5 b5 pd5 k0 k1 => ⟨_, _, _, rfl, ?_⟩⟩
    -- size, place
    refine ⟨_, rfl, _, _, rfl, rfl, cpw (by decide) (by decide), p, 10 ^ (6 : Int).toNat, _, rfl, pd5, by omega, by omega, by omega, fun r6 H6 b6 pd6 r60 r61 => ⟨_, _, rfl, rfl, ?_⟩⟩
    refine ⟨_, rfl, _, rfl, _, rfl, _, _, rfl, rfl, mulK (by omega) (by omega), _, _, rfl, rfl, _, rfl, _, rfl, p, 201 + r6, _, rfl, pd6, by omega, by omega, by omega, fun r7 H7 b7 pd7 r70 r71 => ⟨_, _, rfl, rfl, ?_⟩⟩
    have bb7 : But p H H7 := bb2.trans ((b3.trans b4).trans ((b5.trans b6).trans b7))
    have pq7 := pd7
    have c1 : 10 ^ 7 ≤ (10 ^ (7 : Int).toNat + r2) := s7.2
    have hitk : hit (10 ^ (7 : Int).toNat + r2) b st (b + k * st - r7) (201 + r6) k := by
      unfold hit
      rw [emod_is (k := 0) (y := r7) (by omega) r70 (by omega)]
      exact r71
    have cz : (10 ^ (7 : Int).toNat + r2) ≠ 0 := by omega
    refine ⟨_, rfl, _, rfl, _, rfl, _, rfl, _, rfl, (10 ^ (7 : Int).toNat + r2), b, st, b + k * st - r7, 201 + r6, rfl, by omega, by omega, by omega, by omega, fun r H8 hL8 s8 => ?_⟩
    cases r with
    | none => exact absurd hitk (hL8 k k0)
    | some t =>
      have tk : t ≤ k := by
        by_cases z : t ≤ k
        · exact z
        · exact absurd hitk (hL8.2.2 k k0 (by omega))
      have t0 := hL8.1
      refine ⟨_, rfl, rfl, _, rfl, iteN (fun e => nomatch e) ?_⟩
      refine ⟨_, rfl, _, rfl, _, _, rfl, rfl, _, rfl, iteN (show ¬ k < t by omega) ?_⟩
      -- spot
      refine ⟨_, rfl, _, rfl, _, rfl, _, _, rfl, rfl, mulK (by omega) (by omega), _, _, rfl, rfl, _, rfl, _, _, rfl, rfl, _, rfl, _, _, rfl, rfl, cz, ?_⟩
      have em := fm (x := b + t * st - (b + k * st - r7)) (m := (10 ^ (7 : Int).toNat + r2)) (by omega)
      have sp0 := Int.emod_nonneg (b + t * st - (b + k * st - r7)) cz
      have sp1 : (b + t * st - (b + k * st - r7)) % (10 ^ (7 : Int).toNat + r2) < 201 + r6 := hL8.2.1
      obtain ⟨sp, hsp⟩ : ∃ sp, (b + t * st - (b + k * st - r7)).fmod (10 ^ (7 : Int).toNat + r2) = sp := ⟨_, rfl⟩
      refine ⟨_, rfl, _, rfl, _, _, rfl, rfl, _, rfl, iteN (show ¬ 201 + r6 ≤ (b + t * st - (b + k * st - r7)).fmod (10 ^ (7 : Int).toNat + r2) by omega) ?_⟩
      -- beside
      refine ⟨_, rfl, _, rfl, (by show 2 ≤ sizeLine; decide), fun T1 hT1 => ⟨_, rfl, _, rfl, _, _, rfl, rfl, _, _, rfl, rfl, _, rfl, _, rfl, _, _, rfl, rfl, _, _, rfl, rfl, (by show 2 ≤ sizeLine; decide), fun T2 hT2 => ⟨(by show 2 ≤ sizeLine; decide), fun L2 hL2 => ?_⟩⟩⟩
      have g1 := Same.new hL2 (o := .lst [.ref T1, .ref T2]) _ _ (Same.new hT2 (o := .tup [.int (b + k * st - r7 + (b + t * st - (b + k * st - r7)).fmod (10 ^ (7 : Int).toNat + r2) + 1), .int (201 + r6 - (b + t * st - (b + k * st - r7)).fmod (10 ^ (7 : Int).toNat + r2) - 1)]) _ _ (upd_same (H := H8) (a := T1) (o := .tup [.int (b + k * st - r7), .int ((b + t * st - (b + k * st - r7)).fmod (10 ^ (7 : Int).toNat + r2))])))
      have g2 := Same.new hL2 (o := .lst [.ref T1, .ref T2]) _ _ (upd_same (H := upd H8 T1 (.tup [.int (b + k * st - r7), .int ((b + t * st - (b + k * st - r7)).fmod (10 ^ (7 : Int).toNat + r2))])) (a := T2) (o := .tup [.int (b + k * st - r7 + (b + t * st - (b + k * st - r7)).fmod (10 ^ (7 : Int).toNat + r2) + 1), .int (201 + r6 - (b + t * st - (b + k * st - r7)).fmod (10 ^ (7 : Int).toNat + r2) - 1)]))
      have s8L : Same H8 (upd (upd (upd H8 T1 (.tup [.int (b + k * st - r7), .int ((b + t * st - (b + k * st - r7)).fmod (10 ^ (7 : Int).toNat + r2))])) T2 (.tup [.int (b + k * st - r7 + (b + t * st - (b + k * st - r7)).fmod (10 ^ (7 : Int).toNat + r2) + 1), .int (201 + r6 - (b + t * st - (b + k * st - r7)).fmod (10 ^ (7 : Int).toNat + r2) - 1)])) L2 (.lst [.ref T1, .ref T2])) := ((Same.new hT1).trans (Same.new hT2)).trans (Same.new hL2)
      refine ⟨L2, rfl, ⟨_, SqL.of upd_same⟩, ?_⟩
      refine for_list (xs := [.ref T1, .ref T2]) (fun i σ H' => ∃ y9 y10 y11, σ = [some (.ref p), some (.int (10 ^ (7 : Int).toNat + r2)), some (.int b), some (.int st), some (.int k), some (.int (201 + r6)), some (.int (b + k * st - r7)), some (.int t), some (.int ((b + t * st - (b + k * st - r7)).fmod (10 ^ (7 : Int).toNat + r2))), y9, y10, y11] ∧
          Same (upd (upd (upd H8 T1 (.tup [.int (b + k * st - r7), .int ((b + t * st - (b + k * st - r7)).fmod (10 ^ (7 : Int).toNat + r2))])) T2 (.tup [.int (b + k * st - r7 + (b + t * st - (b + k * st - r7)).fmod (10 ^ (7 : Int).toNat + r2) + 1), .int (201 + r6 - (b + t * st - (b + k * st - r7)).fmod (10 ^ (7 : Int).toNat + r2) - 1)])) L2 (.lst [.ref T1, .ref T2])) H') ⟨none, none, none, rfl, Same.refl _⟩ (fun _ _ _ _ ⟨_, _, _, _, s⟩ => SqL.of (s _ _ upd_same)) ?_ ?_
      · rintro i x σ H' hx ⟨y9, y10, y11, rfl, sI⟩
        obtain ⟨T, ff, ll, rfl, hT, hor⟩ : ∃ T ff ll, x = .ref T ∧ H' T = some (.tup [.int ff, .int ll]) ∧ ((ff = b + k * st - r7 ∧ ll = (b + t * st - (b + k * st - r7)).fmod (10 ^ (7 : Int).toNat + r2)) ∨ (ff = b + k * st - r7 + (b + t * st - (b + k * st - r7)).fmod (10 ^ (7 : Int).toNat + r2) + 1 ∧ ll = 201 + r6 - (b + t * st - (b + k * st - r7)).fmod (10 ^ (7 : Int).toNat + r2) - 1)) := by
          have := List.mem_of_getElem? hx
          simp only [List.mem_cons, List.not_mem_nil, or_false] at this
          rcases this with e | e
          · exact ⟨T1, _, _, e, sI _ _ g1, .inl ⟨rfl, rfl⟩⟩
          · exact ⟨T2, _, _, e, sI _ _ g2, .inr ⟨rfl, rfl⟩⟩
        refine ⟨T, _, rfl, SqT.of hT, rfl, _, _, rfl, _, _, rfl, rfl, ?_⟩
        refine ⟨_, rfl, _, _, rfl, rfl, _, rfl, ?_⟩
        have lc : ll ≤ (10 ^ (7 : Int).toNat + r2) := by omega
        by_cases l0 : 0 < ll
        · refine iteY l0 ⟨_, rfl, _, rfl, _, rfl, _, rfl, _, rfl, (10 ^ (7 : Int).toNat + r2), b, st, ff, ll, rfl, by omega, by omega, by omega, lc, fun rr H9 hr9 s9 => ?_⟩
          cases rr with
          | none => exact ⟨_, rfl, rfl, _, rfl, iteNS rfl ⟨_, _, _, rfl, sI.trans s9⟩⟩
          | some t' =>
            have nb := beside (by omega) (by omega) hL8 (em.symm.trans hsp) (f' := ff) (l' := ll) (by rw [hsp] at hor; exact hor) l0 hr9
            refine ⟨_, rfl, rfl, _, rfl, iteNT (fun e => nomatch e) ?_⟩
            exact ⟨_, rfl, _, rfl, _, _, rfl, rfl, _, rfl, iteN nb ⟨_, _, _, rfl, sI.trans s9⟩⟩
        · exact iteN l0 ⟨_, rfl, rfl, _, rfl, iteNS rfl ⟨_, _, _, rfl, sI⟩⟩
      · rintro σ H' ⟨y9, y10, y11, rfl, sI⟩
        exact q _ (bb7.trans (Same.but (s8.trans (s8L.trans sI)))) ((pq7.same (s8.trans (s8L.trans sI))).mono (by omega))
end
end Gr

set_option Elab.async false
set_option linter.all false
set_option pp.deepTerms false
set_option pp.maxSteps 3000
set_option maxRecDepth 100000
set_option maxHeartbeats 8000000
set_option exponentiation.threshold 30000
namespace Gr
open PySem PySem.Spec PyProof.Rows L2
theorem optV_ints (hs : List Int) : hs.map V.int = (hs.map some).map optV := by
  rw [List.map_map]; rfl
/-- the list of the numbers up to i that hit -/
structure Hits (p : Int → Prop) (lo : Int) (i : Nat) (hs : List Int) : Prop where
  len : hs.length ≤ i
  all : ∀ n ∈ hs, lo ≤ n ∧ n < lo + i ∧ p n
  nil : hs = [] → ∀ k, lo ≤ k → k < lo + i → ¬ p k
  fst : ∀ n r, hs = n :: r → ∀ k, lo ≤ k → k < n → ¬ p k
theorem Hits.zero {p : Int → Prop} {lo : Int} : Hits p lo 0 [] := ⟨Nat.le_refl _, fun _ h => (List.not_mem_nil h).elim, fun _ k k0 k1 => absurd k1 (by omega), fun _ _ e => nomatch e⟩
theorem Hits.yes {p : Int → Prop} {lo : Int} {i : Nat} {hs : List Int} (h : Hits p lo i hs) (z : p (lo + i)) : Hits p lo (i + 1) (hs ++ [lo + (i : Int)]) := by
  refine ⟨by simp; exact h.len, fun n hn => ?_, fun e => by simp at e, fun n r e => ?_⟩
  · rcases List.mem_append.mp hn with a | a
    · have := h.all n a
      exact ⟨this.1, by push_cast; omega, this.2.2⟩
    · rw [List.mem_singleton.mp a]
      exact ⟨by omega, by push_cast; omega, z⟩
  · cases hs with
    | nil =>
      intro k k0 k1
      have e' : lo + (i : Int) = n := (List.cons.inj e).1
      exact h.nil rfl k k0 (by omega)
    | cons a l =>
      have e' : a = n := (List.cons.inj e).1
      subst e'
      exact h.fst a l rfl
theorem Hits.no {p : Int → Prop} {lo : Int} {i : Nat} {hs : List Int} (h : Hits p lo i hs) (z : ¬ p (lo + i)) : Hits p lo (i + 1) hs := by
  refine ⟨by have := h.len; omega, fun n hn => ?_, fun e k k0 k1 => ?_, h.fst⟩
  · have := h.all n hn
    exact ⟨this.1, by push_cast; omega, this.2.2⟩
  · by_cases ek : k = lo + i
    · rw [ek]; exact z
    · exact h.nil e k k0 (by push_cast at k1; omega)
theorem neNil {K : PySem.W.Frag} {H : Hp} {a b : Addr} {Q : VK} (hs : List Int) (ha : H a = some (.lst (hs.map V.int))) (hb : H b = some (.lst [])) (q : Q (.bl (!hs.isEmpty)) H) : rNeD K (.ref a) (.ref b) H Q := by
  rw [optV_ints] at ha
  refine ⟨_, _, .lst (SqL.of ha) (dp_opts (hs.map some)), .lst (SqL.of hb) .nil, shaped_opts (hs.map some), by decide +kernel, ?_⟩
  rw [eqv_optsN]
  have : (hs.map some).isEmpty = hs.isEmpty := by cases hs <;> rfl
  rw [this]
  exact q
section
variable {P : Program} {w : World} {K : PySem.W.Frag} {mg : Str → Option Value} {base : Heap} {tC : Tok}
theorem ok_wide {f f1 f2 : Addr} {fd fd1 fd2 : FuncData} (B : Blt mg tC) (Dl_wide_right : Def K mg "_law_wide_right" s_l_wide_right ["_law_pond_here"] f fd) (Dl_fish : Def K mg "_law_fish" s_l_fish ["_law_pond_here", "_law_bound"] f1 fd1) (Dfirst_hit : Def K mg "first_hit" s_first_hit ["cycle", "begin", "step", "first", "length"] f2 fd2) (Gfirst_hit : FnOk P w K mg base CX0 4 f2 fd2 ["cycle", "begin", "step", "first", "length"] spHit) : FnOk P w K mg base CX0 5 f fd ["_law_pond_here"] (spDraws 200) := by
  have Gl_fish := ok_fish (P := P) (w := w) (base := base) B Dl_fish
  refine Dl_wide_right.F.ok scl_wide_right (fun vs H Q E h => ?_) (fun cdv A outer s H vs Q E hr h => ⟨_, (pss_cons (ps_set (i := 1) scl_wide_right.nd rfl (Or.inr rfl) (pe_op op_add pe_int (pe_call Gl_fish (hr.mono (by decide)) (by rfl) Dl_fish.g Dl_fish.F.kp Dl_fish.b .nil pass0 (pa_cons (pv 0) (pa_cons (pe_ix ix_list (pe_lst (pa_cons (pe_op op_powW pe_int pe_int) (pa_cons (pe_op op_sub (pe_op op_powW pe_int pe_int) pe_int) pa_nil))) (pe_call Gl_fish (hr.mono (by decide)) (by rfl) Dl_fish.g Dl_fish.F.kp Dl_fish.b .nil pass0 (pa_cons (pv 0) (pa_cons pe_int pa_nil))) (fun _ _ => rfl)) pa_nil)))))
  (pss_cons (ps_asg (pe_tup (pa_cons (pe_call Gl_fish (hr.mono (by decide)) (by rfl) Dl_fish.g Dl_fish.F.kp Dl_fish.b .nil pass0 (pa_cons (pv 0) (pa_cons (pv 1) pa_nil))) (pa_cons (pe_call Gl_fish (hr.mono (by decide)) (by rfl) Dl_fish.g Dl_fish.F.kp Dl_fish.b .nil pass0 (pa_cons (pv 0) (pa_cons (pv 1) pa_nil))) (pa_cons (pe_call Gl_fish (hr.mono (by decide)) (by rfl) Dl_fish.g Dl_fish.F.kp Dl_fish.b .nil pass0 (pa_cons (pv 0) (pa_cons (pv 1) pa_nil))) pa_nil)))) (pg_tup rfl (pgs_cons (pg_name (i := 2) scl_wide_right.nd rfl (Or.inr rfl)) (pgs_cons (pg_name (i := 3) scl_wide_right.nd rfl (Or.inr rfl)) (pgs_cons (pg_name (i := 4) scl_wide_right.nd rfl (Or.inr rfl)) pgs_nil)))))
  (pss_cons (ps_set (i := 5) scl_wide_right.nd rfl (Or.inr rfl) (pe_op op_add (pe_op op_fdivW (pv 1) pe_int) (pe_call Gl_fish (hr.mono (by decide)) (by rfl) Dl_fish.g Dl_fish.F.kp Dl_fish.b .nil pass0 (pa_cons (pv 0) (pa_cons (pe_op op_sub (pv 1) (pe_op op_fdivW (pv 1) pe_int)) pa_nil)))))
  (pss_cons (ps_set (i := 6) scl_wide_right.nd rfl (Or.inl rfl) (pe_call Gfirst_hit (hr.mono (by decide)) (by rfl) Dfirst_hit.g Dfirst_hit.F.kp Dfirst_hit.b .nil pass0 (pa_cons (pv 1) (pa_cons (pv 2) (pa_cons (pv 3) (pa_cons (pv 4) (pa_cons (pv 5) pa_nil)))))))
  (pss_cons (ps_setLc (i := 7) (own := [("_law_n", 8)]) (g := (gName 8))  rfl scl_wide_right.nd rfl rfl (sw_true rfl rfl rfl (by decide +kernel)) (pi_range1 (by rfl) B.range (pa_cons pe_int pa_nil)) (blkOk_by (N := ["_law_pond_here", "_law_span", "_law_begin", "_law_step", "_law_place", "_law_size", "_law_told", "_law_hits", "_law_n"]) (sc := defScope s_l_wide_right) (by decide +kernel)) (fun _ _ _ _ _ => (pg_name (i := 8) scl_wide_right.nd rfl (Or.inl rfl))) (fun _ _ _ _ _ => pts_one (pt_cmpR op_lt (pe_op op_modN (pe_op op_sub (pe_op op_add (pv 2) (pe_op op_mulW (pv 8) (pv 3))) (pv 4)) (pv 1)) (pv 5) (nomark _))) (fun _ _ _ _ _ => (pv 8)))
  (pss_cons (ps_if (pt_cmpR (op_neD hr.units) (pv 7) (pe_lst pa_nil) (nomark _))
   (pss_one (ps_ret (pe_cmpR op_eq (pv 6) (pe_ix ix_list (pv 7) pe_int (fun _ _ => rfl)) (nomark _))))
   pss_nil)
  (pss_cons (ps_if (pt_cmpR op_isN (pv 6) pe_non (nomark _))
   (pss_one (ps_ret (pe_cmpR (op_neD hr.units) (pe_lc (own := [("_law_n", 8)]) (g := (gName 8))  rfl scl_wide_right.nd (pi_range2 (by rfl) B.range (pa_cons pe_int (pa_cons pe_int pa_nil))) (blkOk_by (N := ["_law_pond_here", "_law_span", "_law_begin", "_law_step", "_law_place", "_law_size", "_law_told", "_law_hits", "_law_n"]) (sc := defScope s_l_wide_right) (by decide +kernel)) (fun _ _ _ _ _ => (pg_name (i := 8) scl_wide_right.nd rfl (Or.inl rfl))) (fun _ _ _ _ _ => pts_one (pt_cmpR op_eq (pe_op op_modN (pe_op op_mulW (pv 8) (pv 3)) (pv 1)) pe_int (nomark _))) (fun _ _ _ _ _ => (pv 8))) (pe_lst pa_nil) (nomark _))))
   pss_nil)
  (pss_one (ps_ret (pe_and (pe_cmpR op_gt (pv 6) pe_int (nomark _)) (pe_one (pe_cmpR op_lt (pe_op op_modN (pe_op op_sub (pe_op op_add (pv 2) (pe_op op_mulW (pv 6) (pv 3))) (pv 4)) (pv 1)) (pv 5) (nomark _))))))))))))), ?_⟩)
  · obtain ⟨p, n, rfl, _⟩ := h; rfl
  · obtain ⟨p, n, rfl, hP, hn, q⟩ := h
    have c10 : (10 : Int) ^ 30 ≤ 10 ^ 100 := by decide +kernel
    -- span
    refine ⟨_, rfl, _, _, rfl, rfl, cpw (by decide) (by decide), _, _, rfl, rfl, cpw (by decide) (by decide), _, _, rfl, rfl, (by show 2 ≤ sizeLine; decide), fun L hL => ⟨_, rfl, p, 2, n, rfl, hP.new hL, by omega, by decide, by decide +kernel, fun r1 H1 b1 pd1 r10 r11 => ?_⟩⟩
    obtain ⟨v, hv, hva⟩ := pick (xs := [10 ^ (6 : Int).toNat, 10 ^ (30 : Int).toNat - 1000]) r10 r11
    have hLp : L ≠ p := fun e => hP.ne (e ▸ hL)
    have v1 : 1 ≤ v ∧ v ≤ 10 ^ 30 - 1000 := by
      have : v = 10 ^ 6 ∨ v = 10 ^ 30 - 1000 := by simpa using hv
      omega
    refine ⟨L, _, _, _, rfl, rfl, SqL.of (b1 L _ hLp upd_same), hva, p, v, _, rfl, pd1, by omega, v1.1, by omega, fun r2 H2 b2 pd2 r20 r21 => ⟨_, _, rfl, rfl, ?_⟩⟩
    have bb2 : But p H H2 := ((Same.but (Same.new hL)).trans b1).trans b2
    have cz : 1000 + r2 ≠ 0 := by omega
    -- begin, step, place
    refine ⟨_, rfl, _, rfl, p, 1000 + r2, _, rfl, pd2, by omega, by omega, by omega, fun b H3 b3 pd3 b30 b31 => ?_⟩
    refine ⟨_, rfl, _, rfl, p, 1000 + r2, _, rfl, pd3, by omega, by omega, by omega, fun st H4 b4 pd4 st0 st1 => ?_⟩
    refine ⟨_, rfl, _, rfl, p, 1000 + r2, _, rfl, pd4, by omega, by omega, by omega, fun pl H5 b5 pd5 p0 p1 => ⟨(by show 3 ≤ sizeLine; decide), fun T hT => ⟨T, _, rfl, SqT.of upd_same, rfl, _, _, rfl, _, _, rfl, _, _, rfl, rfl, ?_⟩⟩⟩
    -- size
    have q9 : 0 ≤ (1000 + r2) / 9 ∧ (1000 + r2) / 9 < 1000 + r2 := by omega
    refine ⟨_, rfl, _, _, rfl, rfl, divK (by decide) (by decide +kernel), _, rfl, _, rfl, _, rfl, _, _, rfl, rfl, divK (by decide) (by decide +kernel), _, _, rfl, rfl, p, 1000 + r2 - (1000 + r2) / 9, _, rfl, pd5.new hT, by omega, by omega, by omega, fun r6 H6 b6 pd6 r60 r61 => ⟨_, _, rfl, rfl, ?_⟩⟩
    have bb6 : But p H H6 := bb2.trans ((b3.trans b4).trans ((b5.trans (Same.but (Same.new hT))).trans b6))
    -- told
    refine ⟨_, rfl, _, rfl, _, rfl, _, rfl, _, rfl, 1000 + r2, b, st, pl, (1000 + r2) / 9 + r6, rfl, by omega, by omega, by omega, by omega, fun r H7 hr7 s7 => ?_⟩
    -- hits
    refine ⟨60, rfl, by decide, by decide, fun D hD => ?_⟩
    refine lc_range (lo := 0) (n := 60) (fun i H' => ∃ hs, Same H7 H' ∧ H' D = some (.lst (hs.map V.int)) ∧ Hits (hit (1000 + r2) b st pl ((1000 + r2) / 9 + r6)) 0 i hs) ⟨[], Same.new hD, upd_same, Hits.zero⟩ ?_ ?_
    · rintro i H' hi ⟨hs, s8, e8, hh⟩
      refine ⟨rfl, _, rfl, _, rfl, _, rfl, _, _, rfl, rfl, mulK (by omega) (by omega), _, _, rfl, rfl, _, rfl, _, _, rfl, rfl, _, rfl, _, _, rfl, rfl, cz, _, rfl, _, _, rfl, rfl, _, rfl, ?_⟩
      have em := fm (x := b + (0 + (i : Int)) * st - pl) (m := 1000 + r2) (by omega)
      by_cases z : (b + (0 + (i : Int)) * st - pl).fmod (1000 + r2) < (1000 + r2) / 9 + r6
      · refine iteY z ⟨_, rfl, _, e8, ?_, hs ++ [0 + (i : Int)], fun b o h => ?_, ?_, hh.yes (by unfold hit; omega)⟩
        · rw [List.length_map]; exact small1000 (by have := hh.len; omega)
        · rw [upd_ne (ne_of_none h hD)]; exact s8 _ _ h
        · rw [upd_same, List.map_append]; rfl
      · exact iteN z ⟨hs, s8, e8, hh.no (by unfold hit; omega)⟩
    · rintro H8 ⟨hs, s8, e8, hh⟩
      have fin : ∀ {H'}, Same H8 H' → Q (.bl true) H' := fun s9 => q _ (bb6.trans (Same.but ((s7.trans s8).trans s9))) ((pd6.same ((s7.trans s8).trans s9)).mono (by omega))
      refine ⟨_, rfl, Nat.zero_le _, fun Z hZ => ?_⟩
      refine neNil hs (Same.new hZ _ _ e8) upd_same ⟨_, rfl, ?_⟩
      cases hs with
      | cons n rest =>
        have hn := hh.all n List.mem_cons_self
        have lr : r = some n := hr7.uniq ⟨hn.1, hn.2.2, hh.fst n rest rfl⟩
        refine ⟨_, rfl, _, rfl, D, _, 0, .int n, rfl, rfl, SqL.of (Same.new hZ _ _ e8), atI_nat (j := 0) rfl, scal_opt r n, ?_⟩
        rw [decOpt lr]
        exact fin (Same.new hZ)
      | nil =>
        refine ⟨_, rfl, rfl, _, rfl, ?_⟩
        cases r with
        | none =>
          refine iteY rfl ?_
          obtain ⟨k, k1, k8, ek⟩ := wide_round (by omega) (by omega) hr7
          refine ⟨1, 61, rfl, ⟨by decide, by decide, by decide, by decide⟩, fun D2 hD2 => ?_⟩
          refine lc_range (lo := 1) (n := 60) (fun i H' => ∃ hs, Same H8 H' ∧ H' D2 = some (.lst (hs.map V.int)) ∧ Hits (fun n => (n * st) % (1000 + r2) = 0) 1 i hs) ⟨[], (Same.new hZ).trans (Same.new hD2), upd_same, Hits.zero⟩ ?_ ?_
          · rintro i H' hi ⟨hs, s9, e9, hh9⟩
            refine ⟨rfl, _, rfl, _, rfl, _, _, rfl, rfl, mulK (by omega) (by omega), _, rfl, _, _, rfl, rfl, cz, rfl, _, rfl, ?_⟩
            have em := fm (x := (1 + (i : Int)) * st) (m := 1000 + r2) (by omega)
            have e2 : H8 D2 = none := by
              cases e : H8 D2 with
              | none => rfl
              | some o => rw [Same.new hZ _ _ e] at hD2; cases hD2
            by_cases z : ((1 + (i : Int)) * st).fmod (1000 + r2) = 0
            · refine iteY (congrArg V.int z) ⟨_, rfl, _, e9, ?_, hs ++ [1 + (i : Int)], fun b o h => ?_, ?_, hh9.yes (by show (1 + (i : Int)) * st % (1000 + r2) = 0; omega)⟩
              · rw [List.length_map]; exact small1000 (by have := hh9.len; omega)
              · rw [upd_ne (ne_of_none h e2)]; exact s9 _ _ h
              · rw [upd_same, List.map_append]; rfl
            · exact iteN (fun e => z (V.int.inj e)) ⟨hs, s9, e9, hh9.no (by show ¬ (1 + (i : Int)) * st % (1000 + r2) = 0; omega)⟩
          · rintro H9 ⟨hs, s9, e9, hh9⟩
            refine ⟨Nat.zero_le _, fun Z2 hZ2 => ?_⟩
            refine neNil hs (Same.new hZ2 _ _ e9) upd_same ?_
            cases hs with
            | nil => exact absurd ek (hh9.nil rfl k k1 (by show k < 1 + ((60 : Nat) : Int); omega))
            | cons a l => exact fin (s9.trans (Same.new hZ2))
        | some t =>
          refine iteN (fun e => nomatch e) ?_
          have t59 : 59 < t := by
            by_cases z : 59 < t
            · exact z
            · exact absurd hr7.2.1 (hh.nil rfl t hr7.1 (by show t < 0 + ((60 : Nat) : Int); omega))
          have tc := least_lt (by omega) hr7
          refine ⟨_, rfl, _, _, rfl, rfl, true, congrArg V.bl (decide_eq_true t59), ?_⟩
          refine ⟨_, rfl, _, rfl, _, rfl, _, _, rfl, rfl, mulK (by omega) (by omega), _, _, rfl, rfl, _, rfl, _, _, rfl, rfl, _, rfl, _, _, rfl, rfl, cz, _, rfl, _, _, rfl, rfl, ?_⟩
          have em := fm (x := b + t * st - pl) (m := 1000 + r2) (by omega)
          have z : (b + t * st - pl) % (1000 + r2) < (1000 + r2) / 9 + r6 := hr7.2.1
          rw [← em] at z
          show Q (.bl (decide ((b + t * st - pl).fmod (1000 + r2) < (1000 + r2) / 9 + r6))) _
          rw [decide_eq_true z]
          exact fin (Same.new hZ)
theorem ok_great {f f1 f2 : Addr} {fd fd1 fd2 : FuncData} (B : Blt mg tC) (Dl_great_right : Def K mg "_law_great_right" s_l_great_right ["_law_pond_here"] f fd) (Dl_fish : Def K mg "_law_fish" s_l_fish ["_law_pond_here", "_law_bound"] f1 fd1) (Dfirst_hit : Def K mg "first_hit" s_first_hit ["cycle", "begin", "step", "first", "length"] f2 fd2) (Gfirst_hit : FnOk P w K mg base CX0 4 f2 fd2 ["cycle", "begin", "step", "first", "length"] spHit) : FnOk P w K mg base CX0 5 f fd ["_law_pond_here"] (spDraws 200) := by
  have Gl_fish := ok_fish (P := P) (w := w) (base := base) B Dl_fish
  refine Dl_great_right.F.ok scl_great_right (fun vs H Q E h => ?_) (fun cdv A outer s H vs Q E hr h => ⟨_, (pss_cons (ps_par (i := 1) (j := 2) rfl scl_great_right.nd rfl rfl (by decide) rfl rfl (pa_cons (pe_op op_add pe_int (pe_call Gl_fish (hr.mono (by decide)) (by rfl) Dl_fish.g Dl_fish.F.kp Dl_fish.b .nil pass0 (pa_cons (pv 0) (pa_cons (pe_op op_powW pe_int pe_int) pa_nil)))) (pa_cons (pe_op op_add pe_int (pe_call Gl_fish (hr.mono (by decide)) (by rfl) Dl_fish.g Dl_fish.F.kp Dl_fish.b .nil pass0 (pa_cons (pv 0) (pa_cons (pe_op op_powW pe_int pe_int) pa_nil)))) pa_nil)) (by rfl))
  (pss_cons (ps_set (i := 3) scl_great_right.nd rfl (Or.inr rfl) (pe_op op_add (pe_op op_mulW (pv 1) (pv 2)) pe_int))
  (pss_cons (ps_set (i := 4) scl_great_right.nd rfl (Or.inl rfl) (pe_lst (pa_cons (pe_tup (pa_cons (pv 1) (pa_cons (pe_op op_sub pe_int (pv 2)) pa_nil))) (pa_cons (pe_tup (pa_cons (pe_op op_sub pe_int (pv 2)) (pa_cons (pv 1) pa_nil))) (pa_cons (pe_tup (pa_cons (pv 2) (pa_cons (pe_op op_sub pe_int (pv 1)) pa_nil))) (pa_cons (pe_tup (pa_cons pe_int (pa_cons pe_int pa_nil))) (pa_cons (pe_tup (pa_cons (pe_un un_neg pe_int) (pa_cons (pe_un un_neg pe_int) pa_nil))) pa_nil)))))))
  (pss_cons (ps_asg (pe_ix ix_list (pv 4) (pe_call Gl_fish (hr.mono (by decide)) (by rfl) Dl_fish.g Dl_fish.F.kp Dl_fish.b .nil pass0 (pa_cons (pv 0) (pa_cons pe_int pa_nil))) (fun _ _ => rfl)) (pg_tup rfl (pgs_cons (pg_name (i := 5) scl_great_right.nd rfl (Or.inl rfl)) (pgs_cons (pg_name (i := 6) scl_great_right.nd rfl (Or.inr rfl)) pgs_nil))))
  (pss_cons (ps_asg (pe_tup (pa_cons (pe_call Gl_fish (hr.mono (by decide)) (by rfl) Dl_fish.g Dl_fish.F.kp Dl_fish.b .nil pass0 (pa_cons (pv 0) (pa_cons (pe_op op_powW pe_int pe_int) pa_nil))) (pa_cons (pe_call Gl_fish (hr.mono (by decide)) (by rfl) Dl_fish.g Dl_fish.F.kp Dl_fish.b .nil pass0 (pa_cons (pv 0) (pa_cons (pe_op op_powW pe_int pe_int) pa_nil))) (pa_cons (pe_op op_add pe_int (pe_call Gl_fish (hr.mono (by decide)) (by rfl) Dl_fish.g Dl_fish.F.kp Dl_fish.b .nil pass0 (pa_cons (pv 0) (pa_cons (pe_callB (call_min2 rfl) (by rfl) B.n_min (by decide +kernel) (pa_cons pe_int (pa_cons (pv 3) pa_nil))) pa_nil)))) pa_nil)))) (pg_tup rfl (pgs_cons (pg_name (i := 7) scl_great_right.nd rfl (Or.inr rfl)) (pgs_cons (pg_name (i := 8) scl_great_right.nd rfl (Or.inr rfl)) (pgs_cons (pg_name (i := 9) scl_great_right.nd rfl (Or.inl rfl)) pgs_nil)))))
  (pss_cons (ps_set (i := 10) scl_great_right.nd rfl (Or.inl rfl) (pe_callB (cr_min rfl) (by rfl) B.n_min (by decide +kernel) (pa_cons (pe_lc (own := [("_law_j", 11)]) (g := (gName 11)) (tt := tYes) rfl scl_great_right.nd (pi_range1 (by rfl) B.range (pa_cons (pv 9) pa_nil)) (blkOk_by (N := ["_law_pond_here", "_law_up", "_law_turns", "_law_span", "_law_pairs", "_law_step", "_law_inverse", "_law_begin", "_law_place", "_law_size", "_law_due", "_law_j", "_law_times"]) (sc := defScope s_l_great_right) (by decide +kernel)) (fun _ _ _ _ _ => (pg_name (i := 11) scl_great_right.nd rfl (Or.inl rfl))) (fun _ _ _ _ _ => pts_nil) (fun _ _ _ _ _ => (pe_op op_modN (pe_op op_mulW (pe_op op_sub (pe_op op_add (pv 8) (pv 11)) (pv 7)) (pv 6)) (pv 3)))) pa_nil)))
  (pss_cons (ps_if (pt_cmpR op_ne (pe_call Gfirst_hit (hr.mono (by decide)) (by rfl) Dfirst_hit.g Dfirst_hit.F.kp Dfirst_hit.b .nil pass0 (pa_cons (pv 3) (pa_cons (pv 7) (pa_cons (pv 5) (pa_cons (pv 8) (pa_cons (pv 9) pa_nil)))))) (pv 10) (nomark _))
   (pss_one (ps_ret pe_bl))
   pss_nil)
  (pss_cons (ps_set (i := 12) scl_great_right.nd rfl (Or.inl rfl) (pe_op op_add pe_int (pe_call Gl_fish (hr.mono (by decide)) (by rfl) Dl_fish.g Dl_fish.F.kp Dl_fish.b .nil pass0 (pa_cons (pv 0) (pa_cons (pe_op op_fdivW (pe_op op_powW pe_int pe_int) (pv 3)) pa_nil)))))
  (pss_one (ps_ret (pe_cmpR op_eq (pe_call Gfirst_hit (hr.mono (by decide)) (by rfl) Dfirst_hit.g Dfirst_hit.F.kp Dfirst_hit.b .nil pass0 (pa_cons (pe_op op_mulW (pv 3) (pv 12)) (pa_cons (pe_op op_mulW (pv 7) (pv 12)) (pa_cons (pe_op op_mulW (pv 5) (pv 12)) (pa_cons (pe_op op_mulW (pv 8) (pv 12)) (pa_cons (pe_op op_mulW (pv 9) (pv 12)) pa_nil)))))) (pv 10) (nomark _)))))))))))), ?_⟩)
  · obtain ⟨p, n, rfl, _⟩ := h; rfl
  · obtain ⟨p, n, rfl, hP, hn, q⟩ := h
    have c10 : (10 : Int) ^ 30 ≤ 10 ^ 100 := by decide +kernel
    have e14 : (10 : Int) ^ (14 : Int).toNat = 10 ^ 14 := rfl
    have e40 : (10 : Int) ^ (40 : Int).toNat = 10 ^ 40 := rfl
    have e30' : (10 : Int) ^ (30 : Int).toNat = 10 ^ 30 := rfl
    refine ⟨_, rfl, _, _, rfl, rfl, cpw (by decide) (by decide), p, 10 ^ (14 : Int).toNat, n, rfl, hP, by omega, by omega, by omega, fun r1 H1 b1 pd1 r10 r11 => ⟨_, _, rfl, rfl, ?_⟩⟩
    refine ⟨_, rfl, _, _, rfl, rfl, cpw (by decide) (by decide), p, 10 ^ (14 : Int).toNat, _, rfl, pd1, by omega, by omega, by omega, fun r2 H2 b2 pd2 r20 r21 => ⟨_, _, rfl, rfl, _, _, rfl, ?_⟩⟩
    have pr := mulR (i := 2 + r1) (j := 2 + r2) (a := 2 * 10 ^ 14) (b := 2 * 10 ^ 14) (by omega) (by omega) (by omega) (by omega)
    have pl := Int.mul_le_mul_of_nonneg_left (show 1 ≤ 2 + r2 by omega) (show 0 ≤ 2 + r1 by omega)
    -- span
    refine ⟨_, rfl, _, rfl, _, _, rfl, rfl, mulK (by omega) (by omega), _, _, rfl, rfl, ?_⟩
    have c1 : 1 ≤ (2 + r1) * (2 + r2) + 1 := by omega
    have c30 : (2 + r1) * (2 + r2) + 1 ≤ 10 ^ 30 := by omega
    have cz : (2 + r1) * (2 + r2) + 1 ≠ 0 := by omega
    -- pairs
    refine ⟨_, rfl, _, rfl, _, _, rfl, rfl, (by show 2 ≤ sizeLine; decide), fun T1 h1 => ⟨_, rfl, _, _, rfl, rfl, _, rfl, (by show 2 ≤ sizeLine; decide), fun T2 h2 => ⟨_, rfl, _, rfl, _, _, rfl, rfl, (by show 2 ≤ sizeLine; decide), fun T3 h3 => ⟨(by show 2 ≤ sizeLine; decide), fun T4 h4 => ⟨_, rfl, _, rfl, (by show 2 ≤ sizeLine; decide), fun T5 h5 => ⟨(by show 5 ≤ sizeLine; decide), fun L hL => ?_⟩⟩⟩⟩⟩⟩
    have a5 := Same.new hL (o := .lst [.ref T1, .ref T2, .ref T3, .ref T4, .ref T5]) _ _ (upd_same (a := T5) (o := .tup [.int (-1), .int (-1)]) (H := upd (upd (upd (upd H2 T1 (.tup [.int (2 + r1), .int (0 - (2 + r2))])) T2 (.tup [.int (0 - (2 + r2)), .int (2 + r1)])) T3 (.tup [.int (2 + r2), .int (0 - (2 + r1))])) T4 (.tup [.int 1, .int 1])))
    have a4 := Same.new hL (o := .lst [.ref T1, .ref T2, .ref T3, .ref T4, .ref T5]) _ _ (Same.new h5 (o := .tup [.int (-1), .int (-1)]) _ _ (upd_same (a := T4) (o := .tup [.int 1, .int 1]) (H := upd (upd (upd H2 T1 (.tup [.int (2 + r1), .int (0 - (2 + r2))])) T2 (.tup [.int (0 - (2 + r2)), .int (2 + r1)])) T3 (.tup [.int (2 + r2), .int (0 - (2 + r1))]))))
    have a3 := Same.new hL (o := .lst [.ref T1, .ref T2, .ref T3, .ref T4, .ref T5]) _ _ (Same.new h5 (o := .tup [.int (-1), .int (-1)]) _ _ (Same.new h4 (o := .tup [.int 1, .int 1]) _ _ (upd_same (a := T3) (o := .tup [.int (2 + r2), .int (0 - (2 + r1))]) (H := upd (upd H2 T1 (.tup [.int (2 + r1), .int (0 - (2 + r2))])) T2 (.tup [.int (0 - (2 + r2)), .int (2 + r1)])))))
    have a2 := Same.new hL (o := .lst [.ref T1, .ref T2, .ref T3, .ref T4, .ref T5]) _ _ (Same.new h5 (o := .tup [.int (-1), .int (-1)]) _ _ (Same.new h4 (o := .tup [.int 1, .int 1]) _ _ (Same.new h3 (o := .tup [.int (2 + r2), .int (0 - (2 + r1))]) _ _ (upd_same (a := T2) (o := .tup [.int (0 - (2 + r2)), .int (2 + r1)]) (H := upd H2 T1 (.tup [.int (2 + r1), .int (0 - (2 + r2))]))))))
    have a1 := Same.new hL (o := .lst [.ref T1, .ref T2, .ref T3, .ref T4, .ref T5]) _ _ (Same.new h5 (o := .tup [.int (-1), .int (-1)]) _ _ (Same.new h4 (o := .tup [.int 1, .int 1]) _ _ (Same.new h3 (o := .tup [.int (2 + r2), .int (0 - (2 + r1))]) _ _ (Same.new h2 (o := .tup [.int (0 - (2 + r2)), .int (2 + r1)]) _ _ (upd_same (a := T1) (o := .tup [.int (2 + r1), .int (0 - (2 + r2))]) (H := H2))))))
    have sL : Same H2 (upd (upd (upd (upd (upd (upd H2 T1 (.tup [.int (2 + r1), .int (0 - (2 + r2))])) T2 (.tup [.int (0 - (2 + r2)), .int (2 + r1)])) T3 (.tup [.int (2 + r2), .int (0 - (2 + r1))])) T4 (.tup [.int 1, .int 1])) T5 (.tup [.int (-1), .int (-1)])) L (.lst [.ref T1, .ref T2, .ref T3, .ref T4, .ref T5])) :=
      ((((Same.new h1).trans (Same.new h2)).trans (Same.new h3)).trans (Same.new h4)).trans ((Same.new h5).trans (Same.new hL))
    have eL : (upd (upd (upd (upd (upd (upd H2 T1 (.tup [.int (2 + r1), .int (0 - (2 + r2))])) T2 (.tup [.int (0 - (2 + r2)), .int (2 + r1)])) T3 (.tup [.int (2 + r2), .int (0 - (2 + r1))])) T4 (.tup [.int 1, .int 1])) T5 (.tup [.int (-1), .int (-1)])) L (.lst [.ref T1, .ref T2, .ref T3, .ref T4, .ref T5])) L = some (.lst [.ref T1, .ref T2, .ref T3, .ref T4, .ref T5]) := upd_same
    refine ⟨_, rfl, _, rfl, p, 5, _, rfl, pd2.same sL, by omega, by decide, by decide +kernel, fun r3 H3 b3 pd3 r30 r31 => ?_⟩
    obtain ⟨puL, hpuL⟩ := (pd2.same sL).some
    have hLp : L ≠ p := fun e => (pd2.same (((((Same.new h1).trans (Same.new h2)).trans (Same.new h3)).trans (Same.new h4)).trans (Same.new h5))).ne (e ▸ hL)
    have tp : ∀ {T xs}, (upd (upd (upd (upd (upd (upd H2 T1 (.tup [.int (2 + r1), .int (0 - (2 + r2))])) T2 (.tup [.int (0 - (2 + r2)), .int (2 + r1)])) T3 (.tup [.int (2 + r2), .int (0 - (2 + r1))])) T4 (.tup [.int 1, .int 1])) T5 (.tup [.int (-1), .int (-1)])) L (.lst [.ref T1, .ref T2, .ref T3, .ref T4, .ref T5])) T = some (.tup xs) → H3 T = some (.tup xs) := fun e => b3 _ _ (ne_of e hpuL (fun z => nomatch z)) e
    obtain ⟨x, hx, hxa⟩ := pickV (zs := [.ref T1, .ref T2, .ref T3, .ref T4, .ref T5]) r30 r31
    obtain ⟨T, st, inv, k, rfl, hT, hinv, sb, ib⟩ : ∃ T st inv k, x = .ref T ∧ H3 T = some (.tup [.int st, .int inv]) ∧ st * inv = 1 + k * ((2 + r1) * (2 + r2) + 1) ∧ (-(10 ^ 20) ≤ st ∧ st ≤ 10 ^ 20) ∧ (-(10 ^ 20) ≤ inv ∧ inv ≤ 10 ^ 20) := by
      simp only [List.mem_cons, List.not_mem_nil, or_false] at hx
      rcases hx with e | e | e | e | e
      · exact ⟨T1, _, _, -1, e, tp a1, by grind, by omega, by omega⟩
      · exact ⟨T2, _, _, -1, e, tp a2, by grind, by omega, by omega⟩
      · exact ⟨T3, _, _, -1, e, tp a3, by grind, by omega, by omega⟩
      · exact ⟨T4, _, _, 0, e, tp a4, by grind, by omega, by omega⟩
      · exact ⟨T5, _, _, 0, e, tp a5, by grind, by omega, by omega⟩
    refine ⟨L, _, _, _, rfl, rfl, SqL.of (b3 L _ hLp eL), hxa, T, _, rfl, SqT.of hT, rfl, _, _, rfl, _, _, rfl, rfl, ?_⟩
    -- begin, place, size
    have mn : 1 ≤ (if (2 + r1) * (2 + r2) + 1 < (30 : Int) then (2 + r1) * (2 + r2) + 1 else 30) ∧ (if (2 + r1) * (2 + r2) + 1 < (30 : Int) then (2 + r1) * (2 + r2) + 1 else 30) ≤ (2 + r1) * (2 + r2) + 1 ∧ (if (2 + r1) * (2 + r2) + 1 < (30 : Int) then (2 + r1) * (2 + r2) + 1 else 30) ≤ 30 := by split <;> omega
    refine ⟨_, rfl, _, _, rfl, rfl, cpw (by decide) (by decide), p, 10 ^ (40 : Int).toNat, _, rfl, pd3, by omega, by omega, by omega, fun b H4 b4 pd4 b40 b41 => ?_⟩
    refine ⟨_, rfl, _, _, rfl, rfl, cpw (by decide) (by decide), p, 10 ^ (40 : Int).toNat, _, rfl, pd4, by omega, by omega, by omega, fun pc H5 b5 pd5 p0 p1 => ?_⟩
    refine ⟨_, rfl, _, rfl, _, _, rfl, p, _, _, rfl, pd5, by omega, mn.1, by omega, fun r6 H6 b6 pd6 r60 r61 => ⟨_, _, rfl, rfl, (by show 3 ≤ sizeLine; decide), fun U hU => ⟨U, _, rfl, SqT.of upd_same, rfl, _, _, rfl, _, _, rfl, _, _, rfl, rfl, ?_⟩⟩⟩
    have l1 : 1 ≤ 1 + r6 ∧ 1 + r6 ≤ (2 + r1) * (2 + r2) + 1 ∧ 1 + r6 ≤ 30 := by omega
    have bb : But p H (upd H6 U (.tup [.int b, .int pc, .int (1 + r6)])) := ((b1.trans b2).trans (Same.but sL)).trans ((b3.trans b4).trans ((b5.trans b6).trans (Same.but (Same.new hU))))
    have pdU := pd6.new hU (o := .tup [.int b, .int pc, .int (1 + r6)])
    -- due
    refine ⟨_, rfl, _, rfl, by omega, by omega, fun D hD => ?_⟩
    refine lc_range (lo := 0) (n := (1 + r6).toNat) (fun i H' => Same (upd H6 U (.tup [.int b, .int pc, .int (1 + r6)])) H' ∧ H' D = some (.lst (((List.range i).map fun (j : Nat) => ((pc + (j : Int) - b) * inv) % ((2 + r1) * (2 + r2) + 1)).map V.int))) ⟨Same.new hD, upd_same⟩ ?_ ?_
    · rintro i H' hi ⟨s7, e7⟩
      refine ⟨rfl, _, rfl, _, rfl, _, _, rfl, rfl, _, rfl, _, _, rfl, rfl, _, rfl, _, _, rfl, rfl, mulK (by omega) (by omega), _, rfl, _, _, rfl, rfl, cz, _, e7, ?_, fun b o h => ?_, ?_⟩
      · rw [List.length_map, List.length_map, List.length_range]; exact small1000 (by omega)
      · rw [upd_ne (ne_of_none h hD)]; exact s7 _ _ h
      · rw [upd_same, List.range_succ, List.map_append, List.map_append]
        show some (HO.lst (_ ++ [V.int (((pc + (0 + (i : Int)) - b) * inv).fmod ((2 + r1) * (2 + r2) + 1))])) = _
        rw [fm (show 0 < (2 + r1) * (2 + r2) + 1 by omega), Int.zero_add]
        rfl
    · rintro H7 ⟨s7, e7⟩
      refine ⟨D, _, rfl, SqL.of e7, by simp; omega, fun m hm hle => ?_⟩
      have hL := fun (bb : Int) (h : ∀ j, 0 ≤ j → j < 1 + r6 → True) => least_inv (c := (2 + r1) * (2 + r2) + 1) (b := b) (s := st) (f := pc) (l := 1 + r6) (inv := inv) (k := k) (by omega) (by omega) hinv hm hle (fun y => by
        rw [List.mem_map]
        constructor
        · rintro ⟨j, hj, e⟩
          have := List.mem_range.mp hj
          exact ⟨(j : Int), by omega, by omega, e.symm⟩
        · rintro ⟨j, j0, j1, e⟩
          exact ⟨j.toNat, List.mem_range.mpr (by omega), by rw [Int.toNat_of_nonneg j0]; exact e.symm⟩)
      have hL' := hL 0 (fun _ _ _ => trivial)
      refine ⟨_, rfl, _, rfl, _, rfl, _, rfl, _, rfl, (2 + r1) * (2 + r2) + 1, b, st, pc, 1 + r6, rfl, c1, c30, l1.1, l1.2.1, fun r H8 hr8 s8 => ?_⟩
      have er := hr8.uniq hL'
      refine ⟨_, rfl, scal_opt r m, _, rfl, iteNS (of_decide_eq_true (decOpt er)) ?_⟩
      -- times
      have q0 : 1 ≤ 10 ^ (30 : Int).toNat / ((2 + r1) * (2 + r2) + 1) := Int.le_ediv_of_mul_le (by omega) (by omega)
      have q1 : 10 ^ (30 : Int).toNat / ((2 + r1) * (2 + r2) + 1) * ((2 + r1) * (2 + r2) + 1) ≤ 10 ^ (30 : Int).toNat := Int.ediv_mul_le _ cz
      have q2 : 10 ^ (30 : Int).toNat / ((2 + r1) * (2 + r2) + 1) ≤ 10 ^ (30 : Int).toNat := Int.ediv_le_self _ (by omega)
      refine ⟨_, rfl, _, _, rfl, rfl, cpw (by decide) (by decide), _, rfl, _, _, rfl, rfl, divK (by omega) (by omega), p, _, _, rfl, pdU.same (s7.trans s8), by omega, q0, by omega, fun r9 H9 b9 pd9 r90 r91 => ⟨_, _, rfl, rfl, ?_⟩⟩
      have F1 : 1 ≤ 1 + r9 ∧ 1 + r9 ≤ 10 ^ (30 : Int).toNat / ((2 + r1) * (2 + r2) + 1) := by omega
      have F2 : ((2 + r1) * (2 + r2) + 1) * (1 + r9) ≤ 10 ^ 30 := by
        have := Int.mul_le_mul_of_nonneg_left F1.2 (show 0 ≤ (2 + r1) * (2 + r2) + 1 by omega)
        rw [Int.mul_comm _ (10 ^ (30 : Int).toNat / _)] at this
        omega
      have F3 : 1 * 1 ≤ ((2 + r1) * (2 + r2) + 1) * (1 + r9) := Int.le_trans (Int.mul_le_mul_of_nonneg_left F1.1 (by omega)) (Int.mul_le_mul_of_nonneg_right c1 (by omega))
      have F4 : (1 + r6) * (1 + r9) ≤ ((2 + r1) * (2 + r2) + 1) * (1 + r9) := Int.mul_le_mul_of_nonneg_right l1.2.1 (by omega)
      have F5 : 1 * 1 ≤ (1 + r6) * (1 + r9) := Int.le_trans (Int.mul_le_mul_of_nonneg_left F1.1 (by omega)) (Int.mul_le_mul_of_nonneg_right l1.1 (by omega))
      refine ⟨_, rfl, _, rfl, _, _, rfl, rfl, mulK (by omega) (by omega), _, rfl, _, rfl, _, _, rfl, rfl, mulK (by omega) (by omega), _, rfl, _, rfl, _, _, rfl, rfl, mulK (by omega) (by omega), _, rfl, _, rfl, _, _, rfl, rfl, mulK (by omega) (by omega), _, rfl, _, rfl, _, _, rfl, rfl, mulK (by omega) (by omega),
        ((2 + r1) * (2 + r2) + 1) * (1 + r9), b * (1 + r9), st * (1 + r9), pc * (1 + r9), (1 + r6) * (1 + r9), rfl, by omega, F2, by omega, F4, fun r' H10 hr10 s10 => ?_⟩
      have er' := (hr10.to fun n _ => hit_sc0 (by omega) (by omega) n).uniq hL'
      refine ⟨_, rfl, scal_opt r' m, ?_⟩
      rw [decOpt er']
      exact q _ (bb.trans ((Same.but (s7.trans s8)).trans (b9.trans (Same.but s10)))) ((pd9.same s10).mono (by omega))
end
end Gr

set_option Elab.async false
set_option linter.all false
set_option pp.deepTerms false
set_option pp.maxSteps 3000
set_option maxRecDepth 100000
set_option maxHeartbeats 8000000
set_option exponentiation.threshold 30000
namespace Gr
open PySem PySem.Spec PyProof.Rows L2
/-- what holds between the turns of the second loop -/
structure EuInv (c s one oth back inv : Int) : Prop where
  o1 : 1 ≤ oth
  o2 : 1 ≤ one
  o3 : one ≤ 10 ^ 30
  o4 : oth ≤ 10 ^ 30
  e1 : ∃ x, oth = s * inv + x * c
  e2 : ∃ x, one = s * back + x * c
  e3 : ∃ x y, x * one + y * oth = 1
  bd : ∃ a b, 0 ≤ a ∧ 0 ≤ b ∧ -a ≤ back ∧ back ≤ a ∧ -b ≤ inv ∧ inv ≤ b ∧ a * oth + b * one ≤ c
theorem EuInv.size {c s one oth back inv : Int} (h : EuInv c s one oth back inv) : -c ≤ back ∧ back ≤ c ∧ -c ≤ inv ∧ inv ≤ c := by
  obtain ⟨a, b, a0, b0, h1, h2, h3, h4, h5⟩ := h.bd
  have := Int.mul_le_mul_of_nonneg_left h.o1 a0
  have := Int.mul_le_mul_of_nonneg_left h.o2 b0
  omega
theorem EuInv.next {c s one oth back inv : Int} (h : EuInv c s one oth back inv) (hp : 0 < one % oth) : EuInv c s oth (one % oth) inv (back - one / oth * inv) := by
  have o1 := h.o1
  have lt := Int.emod_lt_of_pos one (show 0 < oth by omega)
  have d := Int.emod_add_mul_ediv one oth
  have q0 : 0 ≤ one / oth := Int.ediv_nonneg (by have := h.o2; omega) (by omega)
  have o4 := h.o4
  refine ⟨by omega, o1, o4, by omega, ?_, h.e1, ?_, ?_⟩
  · obtain ⟨x, e1⟩ := h.e1
    obtain ⟨y, e2⟩ := h.e2
    exact ⟨y - one / oth * x, by grind⟩
  · obtain ⟨x, y, e⟩ := h.e3
    exact ⟨y + x * (one / oth), x, by grind⟩
  · obtain ⟨a, b, a0, b0, h1, h2, h3, h4, h5⟩ := h.bd
    have m1 := Int.mul_le_mul_of_nonneg_left h4 q0
    have m2 := Int.mul_le_mul_of_nonneg_left h3 q0
    have m3 := Int.mul_nonneg q0 b0
    have m4 : one / oth * -b = -(one / oth * b) := Int.mul_neg _ _
    have e : b * (one % oth) + (a + one / oth * b) * oth = a * oth + b * one := by grind
    exact ⟨b, a + one / oth * b, b0, by omega, h3, h4, by omega, by omega, by omega⟩
theorem EuInv.fin {c s one oth back inv : Int} (h : EuInv c s one oth back inv) (hp : ¬ 0 < one % oth) : ∃ k, s * inv = 1 + k * c := by
  have o1 := h.o1
  have nn := Int.emod_nonneg one (show oth ≠ 0 by omega)
  have z : one % oth = 0 := by omega
  have d := Int.emod_add_mul_ediv one oth
  rw [z, Int.zero_add] at d
  obtain ⟨x, y, e⟩ := h.e3
  have e' : oth * (x * (one / oth) + y) = 1 := by grind
  have e1 := Int.eq_one_of_mul_eq_one_right (by omega) e'
  obtain ⟨k, hk⟩ := h.e1
  exact ⟨-k, by rw [e1] at hk; grind⟩
section
variable {P : Program} {w : World} {K : PySem.W.Frag} {mg : Str → Option Value} {base : Heap} {tC : Tok}
theorem ok_turns {f f1 f2 : Addr} {fd fd1 fd2 : FuncData} (B : Blt mg tC) (Dl_turns_right : Def K mg "_law_turns_right" s_l_turns_right ["_law_pond_here"] f fd) (Dl_fish : Def K mg "_law_fish" s_l_fish ["_law_pond_here", "_law_bound"] f1 fd1) (Dfirst_hit : Def K mg "first_hit" s_first_hit ["cycle", "begin", "step", "first", "length"] f2 fd2) (Gfirst_hit : FnOk P w K mg base CX0 4 f2 fd2 ["cycle", "begin", "step", "first", "length"] spHit) : FnOk P w K mg base CX0 5 f fd ["_law_pond_here"] (spDraws 6000) := by
  have Gl_fish := ok_fish (P := P) (w := w) (base := base) B Dl_fish
  refine Dl_turns_right.F.ok scl_turns_right (fun vs H Q E h => ?_) (fun cdv A outer s H vs Q E hr h => ⟨_, (pss_cons (ps_asg (pe_tup (pa_cons pe_int (pa_cons pe_int pa_nil))) (pg_tup rfl (pgs_cons (pg_name (i := 1) scl_turns_right.nd rfl (Or.inr rfl)) (pgs_cons (pg_name (i := 2) scl_turns_right.nd rfl (Or.inl rfl)) pgs_nil))))
  (pss_cons (ps_for PassesOwn.never rfl (pi_range1 (by rfl) B.range (pa_cons (pe_op op_add pe_int (pe_call Gl_fish (hr.mono (by decide)) (by rfl) Dl_fish.g Dl_fish.F.kp Dl_fish.b .nil pass0 (pa_cons (pv 0) (pa_cons pe_int pa_nil)))) pa_nil)) (pg_name (i := 3) scl_turns_right.nd rfl (Or.inl rfl))
   (pss_cons (ps_set (i := 4) scl_turns_right.nd rfl (Or.inl rfl) (pe_op op_add (pe_op op_mulW (pe_op op_add pe_int (pe_call Gl_fish (hr.mono (by decide)) (by rfl) Dl_fish.g Dl_fish.F.kp Dl_fish.b .nil pass0 (pa_cons (pv 0) (pa_cons (pe_ix ix_list (pe_lst (pa_cons pe_int (pa_cons pe_int (pa_cons pe_int pa_nil)))) (pe_call Gl_fish (hr.mono (by decide)) (by rfl) Dl_fish.g Dl_fish.F.kp Dl_fish.b .nil pass0 (pa_cons (pv 0) (pa_cons pe_int pa_nil))) (fun _ _ => rfl)) pa_nil)))) (pv 1)) (pv 2)))
  (pss_one (ps_if (pt_cmpR op_le (pv 4) (pe_op op_powW pe_int pe_int) (nomark _))
   (pss_one (ps_asg (pe_tup (pa_cons (pv 4) (pa_cons (pv 1) pa_nil))) (pg_tup rfl (pgs_cons (pg_name (i := 1) scl_turns_right.nd rfl (Or.inr rfl)) (pgs_cons (pg_name (i := 2) scl_turns_right.nd rfl (Or.inl rfl)) pgs_nil)))))
   pss_nil))))
  (pss_cons (ps_asg (pe_tup (pa_cons (pv 1) (pa_cons (pv 2) (pa_cons pe_int (pa_cons pe_int pa_nil))))) (pg_tup rfl (pgs_cons (pg_name (i := 5) scl_turns_right.nd rfl (Or.inl rfl)) (pgs_cons (pg_name (i := 6) scl_turns_right.nd rfl (Or.inl rfl)) (pgs_cons (pg_name (i := 7) scl_turns_right.nd rfl (Or.inl rfl)) (pgs_cons (pg_name (i := 8) scl_turns_right.nd rfl (Or.inr rfl)) pgs_nil))))))
  (pss_cons (ps_while PassesOwn.never (pt_cmpR op_gt (pe_op op_modN (pv 5) (pv 6)) pe_int (nomark _))
   (pss_cons (ps_asg (pe_tup (pa_cons (pv 8) (pa_cons (pe_op op_sub (pv 7) (pe_op op_mulW (pe_op op_fdivW (pv 5) (pv 6)) (pv 8))) pa_nil))) (pg_tup rfl (pgs_cons (pg_name (i := 7) scl_turns_right.nd rfl (Or.inl rfl)) (pgs_cons (pg_name (i := 8) scl_turns_right.nd rfl (Or.inr rfl)) pgs_nil))))
  (pss_one (ps_par (i := 5) (j := 6) rfl scl_turns_right.nd rfl rfl (by decide) rfl rfl (pa_cons (pv 6) (pa_cons (pe_op op_modN (pv 5) (pv 6)) pa_nil)) (by rfl)))))
  (pss_cons (ps_asg (pe_tup (pa_cons (pe_call Gl_fish (hr.mono (by decide)) (by rfl) Dl_fish.g Dl_fish.F.kp Dl_fish.b .nil pass0 (pa_cons (pv 0) (pa_cons (pe_op op_powW pe_int pe_int) pa_nil))) (pa_cons (pe_call Gl_fish (hr.mono (by decide)) (by rfl) Dl_fish.g Dl_fish.F.kp Dl_fish.b .nil pass0 (pa_cons (pv 0) (pa_cons (pv 1) pa_nil))) (pa_cons (pe_op op_add pe_int (pe_call Gl_fish (hr.mono (by decide)) (by rfl) Dl_fish.g Dl_fish.F.kp Dl_fish.b .nil pass0 (pa_cons (pv 0) (pa_cons (pe_callB (call_min2 rfl) (by rfl) B.n_min (by decide +kernel) (pa_cons pe_int (pa_cons (pv 1) pa_nil))) pa_nil)))) pa_nil)))) (pg_tup rfl (pgs_cons (pg_name (i := 9) scl_turns_right.nd rfl (Or.inr rfl)) (pgs_cons (pg_name (i := 10) scl_turns_right.nd rfl (Or.inr rfl)) (pgs_cons (pg_name (i := 11) scl_turns_right.nd rfl (Or.inl rfl)) pgs_nil)))))
  (pss_cons (ps_set (i := 12) scl_turns_right.nd rfl (Or.inl rfl) (pe_callB (cr_min rfl) (by rfl) B.n_min (by decide +kernel) (pa_cons (pe_lc (own := [("_law_j", 13)]) (g := (gName 13)) (tt := tYes) rfl scl_turns_right.nd (pi_range1 (by rfl) B.range (pa_cons (pv 11) pa_nil)) (blkOk_by (N := ["_law_pond_here", "_law_span", "_law_step", "_law_turn", "_law_more", "_law_one", "_law_other", "_law_back", "_law_inverse", "_law_begin", "_law_place", "_law_size", "_law_due", "_law_j"]) (sc := defScope s_l_turns_right) (by decide +kernel)) (fun _ _ _ _ _ => (pg_name (i := 13) scl_turns_right.nd rfl (Or.inl rfl))) (fun _ _ _ _ _ => pts_nil) (fun _ _ _ _ _ => (pe_op op_modN (pe_op op_mulW (pe_op op_sub (pe_op op_add (pv 10) (pv 13)) (pv 9)) (pv 8)) (pv 1)))) pa_nil)))
  (pss_one (ps_ret (pe_cmpR op_eq (pe_call Gfirst_hit (hr.mono (by decide)) (by rfl) Dfirst_hit.g Dfirst_hit.F.kp Dfirst_hit.b .nil pass0 (pa_cons (pv 1) (pa_cons (pv 9) (pa_cons (pv 2) (pa_cons (pv 10) (pa_cons (pv 11) pa_nil)))))) (pv 12) (nomark _)))))))))), ?_⟩)
  · obtain ⟨p, n, rfl, _⟩ := h; rfl
  · obtain ⟨p, n, rfl, hP, hn, q⟩ := h
    have c10 : (10 : Int) ^ 30 ≤ 10 ^ 100 := by decide +kernel
    have e40 : (10 : Int) ^ (40 : Int).toNat = 10 ^ 40 := rfl
    have e30' : (10 : Int) ^ (30 : Int).toNat = 10 ^ 30 := rfl
    refine ⟨(by show 2 ≤ sizeLine; decide), fun T0 hT0 => ⟨T0, _, rfl, SqT.of upd_same, rfl, _, _, rfl, _, _, rfl, rfl, ?_⟩⟩
    refine ⟨_, rfl, p, 130, n, rfl, hP.new hT0, by omega, by decide, by decide +kernel, fun r1 H1 b1 pd1 r10 r11 => ⟨_, _, rfl, rfl, _, rfl, by omega, by omega, ?_⟩⟩
    have bb1 : But p H H1 := (Same.but (Same.new hT0)).trans b1
    refine for_range (lo := 0) (fun i σ H' => ∃ c st y3 y4, σ = [some (.ref p), some (.int c), some (.int st), y3, y4, none, none, none, none, none, none, none, none, none] ∧ But p H H' ∧ Pond (n + 12 + 30 * i) p H' ∧ 1 ≤ c ∧ c ≤ 10 ^ 30 ∧ 0 ≤ st ∧ st ≤ c ∧ (∃ x y, x * c + y * st = 1) ∧ (1 ≤ i → 1 ≤ st) ∧ (i = 0 → c = 1 ∧ st = 0))
      ⟨1, 0, none, none, rfl, bb1, pd1.mono (by omega), by decide, by decide +kernel, by decide, by decide, ⟨1, 0, by decide⟩, fun h => absurd h (by decide), fun _ => ⟨rfl, rfl⟩⟩ ?_ ?_
    · rintro i σ H2 hi ⟨c, st, y3, y4, rfl, b2, pd2, c1, c2, s1, s2, hxy, hs1, hs0⟩
      have i140 : i ≤ 140 := by omega
      refine ⟨_, rfl, (by show 3 ≤ sizeLine; decide), fun L hL => ⟨_, rfl, p, 3, _, rfl, pd2.new hL, by omega, by decide, by decide +kernel, fun r3 H3 b3 pd3 r30 r31 => ?_⟩⟩
      obtain ⟨v, hv, hva⟩ := pick (xs := [1, 2, 4]) r30 r31
      have hLp : L ≠ p := fun e => pd2.ne (e ▸ hL)
      have v4 : 1 ≤ v ∧ v ≤ 4 := by
        simp only [List.mem_cons, List.not_mem_nil, or_false] at hv
        omega
      refine ⟨L, _, _, _, rfl, rfl, SqL.of (b3 L _ hLp upd_same), hva, p, v, _, rfl, pd3, by omega, v4.1, by omega, fun r4 H4 b4 pd4 r40 r41 => ⟨_, _, rfl, rfl, ?_⟩⟩
      have b24 : But p H H4 := b2.trans (((Same.but (Same.new hL)).trans b3).trans b4)
      have mr := mulR (i := 1 + r4) (j := c) (a := 4) (b := 10 ^ 30) (by omega) (by omega) (by omega) c2
      have ml := Int.mul_le_mul_of_nonneg_right (show 1 ≤ 1 + r4 by omega) (show 0 ≤ c by omega)
      refine ⟨_, rfl, _, _, rfl, rfl, mulK (by omega) (by omega), _, rfl, _, _, rfl, rfl, ?_⟩
      refine ⟨_, rfl, _, _, rfl, rfl, cp30, _, _, rfl, rfl, _, rfl, ?_⟩
      by_cases z : (1 + r4) * c + st ≤ 10 ^ (30 : Int).toNat
      · refine iteY z ⟨_, rfl, _, rfl, (by show 2 ≤ sizeLine; decide), fun T hT => ⟨T, _, rfl, SqT.of upd_same, rfl, _, _, rfl, _, _, rfl, rfl, ?_⟩⟩
        obtain ⟨x, y, e⟩ := hxy
        exact ⟨(1 + r4) * c + st, c, _, _, rfl, b24.new hT, (pd4.new hT).mono (by push_cast; omega), by omega, by omega, by omega, by omega, ⟨y, x - y * (1 + r4), by grind⟩, fun _ => c1, fun h => absurd h (by omega)⟩
      · refine iteN z ⟨c, st, _, _, rfl, b24, pd4.mono (by push_cast; omega), c1, c2, s1, s2, hxy, fun _ => ?_, fun h => absurd h (by omega)⟩
        by_cases i0 : i = 0
        · have := hs0 i0
          rw [this.1, this.2] at z
          omega
        · exact hs1 (by omega)
    · rintro σ H2 ⟨c, st, y3, y4, rfl, b2, pd2, c1, c2, s1, s2, hxy, hs1, hs0⟩
      have st1 := hs1 (by omega)
      have cz : c ≠ 0 := by omega
      have nN : (((10 + r1).toNat : Nat) : Int) ≤ 140 := by omega
      have pdN := pd2.mono (m := n + 4300) (by omega)
      refine ⟨_, rfl, _, rfl, (by show 4 ≤ sizeLine; decide), fun T hT => ⟨T, _, rfl, SqT.of upd_same, rfl, _, _, rfl, _, _, rfl, _, _, rfl, _, _, rfl, rfl, ?_⟩⟩
      refine ⟨fun m σ H' => ∃ one oth back inv, m = oth.toNat ∧ σ = [some (.ref p), some (.int c), some (.int st), y3, y4, some (.int one), some (.int oth), some (.int back), some (.int inv), none, none, none, none, none] ∧ But p H H' ∧ Pond (n + 4300) p H' ∧ EuInv c st one oth back inv,
        ⟨_, c, st, 0, 1, rfl, rfl, b2.new hT, pdN.new hT, ⟨st1, c1, c2, by omega, ⟨0, by omega⟩, ⟨1, by omega⟩, hxy, ⟨0, 1, by decide, by decide, by decide, by decide, by decide, by decide, by omega⟩⟩⟩, ?_⟩
      rintro m σ H3 ⟨one, oth, back, inv, rfl, rfl, b3, pd3, I⟩
      have sz := I.size
      have o1 := I.o1
      have o2 := I.o2
      have o3 := I.o3
      have o4 := I.o4
      have oz : oth ≠ 0 := by omega
      have em := fm (x := one) (m := oth) (by omega)
      refine ⟨_, rfl, _, rfl, _, _, rfl, rfl, oz, _, _, rfl, rfl, _, rfl, ?_⟩
      by_cases z : 0 < one.fmod oth
      · refine iteY z ?_
        rw [em] at z
        have lt := Int.emod_lt_of_pos one (show 0 < oth by omega)
        have q0 : 0 ≤ one / oth := Int.ediv_nonneg (by omega) (by omega)
        have q1 : one / oth ≤ one := Int.ediv_le_self _ (by omega)
        refine ⟨fun σ' H' => ∃ m', m' < oth.toNat ∧ ∃ one oth back inv, m' = oth.toNat ∧ σ' = [some (.ref p), some (.int c), some (.int st), y3, y4, some (.int one), some (.int oth), some (.int back), some (.int inv), none, none, none, none, none] ∧ But p H H' ∧ Pond (n + 4300) p H' ∧ EuInv c st one oth back inv, fun _ _ h => h, ?_⟩
        refine ⟨_, rfl, _, rfl, _, rfl, _, rfl, _, _, rfl, rfl, divK (by omega) (by omega), _, rfl, _, _, rfl, rfl, mulK (by omega) (by omega), _, _, rfl, rfl, (by show 2 ≤ sizeLine; decide), fun T2 hT2 => ⟨T2, _, rfl, SqT.of upd_same, rfl, _, _, rfl, _, _, rfl, rfl, ?_⟩⟩
        refine ⟨_, rfl, _, rfl, _, rfl, _, _, rfl, rfl, oz, _, _, rfl, ?_⟩
        exact ⟨(one % oth).toNat, by omega, oth, one % oth, inv, back - one / oth * inv, rfl, by rw [← em]; rfl, b3.new hT2, pd3.new hT2, I.next z⟩
      · refine iteN z ?_
        rw [em] at z
        obtain ⟨k, hinv⟩ := I.fin z
        -- begin, place, size
        have mn : 1 ≤ (if c < (30 : Int) then c else 30) ∧ (if c < (30 : Int) then c else 30) ≤ c ∧ (if c < (30 : Int) then c else 30) ≤ 30 := by split <;> omega
        refine ⟨_, rfl, _, _, rfl, rfl, cpw (by decide) (by decide), p, 10 ^ (40 : Int).toNat, _, rfl, pd3, by omega, by omega, by omega, fun b H4 b4 pd4 b40 b41 => ?_⟩
        refine ⟨_, rfl, _, rfl, p, c, _, rfl, pd4, by omega, by omega, by omega, fun pc H5 b5 pd5 p0 p1 => ?_⟩
        refine ⟨_, rfl, _, rfl, _, _, rfl, p, _, _, rfl, pd5, by omega, mn.1, by omega, fun r6 H6 b6 pd6 r60 r61 => ⟨_, _, rfl, rfl, (by show 3 ≤ sizeLine; decide), fun U hU => ⟨U, _, rfl, SqT.of upd_same, rfl, _, _, rfl, _, _, rfl, _, _, rfl, rfl, ?_⟩⟩⟩
        have l1 : 1 ≤ 1 + r6 ∧ 1 + r6 ≤ c ∧ 1 + r6 ≤ 30 := by omega
        have bb : But p H (upd H6 U (.tup [.int b, .int pc, .int (1 + r6)])) := b3.trans ((b4.trans b5).trans (b6.trans (Same.but (Same.new hU))))
        have pdU := pd6.new hU (o := .tup [.int b, .int pc, .int (1 + r6)])
        -- due
        refine ⟨_, rfl, _, rfl, by omega, by omega, fun D hD => ?_⟩
        refine lc_range (lo := 0) (n := (1 + r6).toNat) (fun i H' => Same (upd H6 U (.tup [.int b, .int pc, .int (1 + r6)])) H' ∧ H' D = some (.lst (((List.range i).map fun (j : Nat) => ((pc + (j : Int) - b) * inv) % c).map V.int))) ⟨Same.new hD, upd_same⟩ ?_ ?_
        · rintro i H' hi ⟨s7, e7⟩
          have eme := fm (x := (pc + (0 + (i : Int)) - b) * inv) (m := c) (by omega)
          refine ⟨rfl, _, rfl, _, rfl, _, _, rfl, rfl, _, rfl, _, _, rfl, rfl, _, rfl, _, _, rfl, rfl, mulK (by omega) (by omega), _, rfl, _, _, rfl, rfl, cz, _, e7, ?_, fun b o h => ?_, ?_⟩
          · rw [List.length_map, List.length_map, List.length_range]; exact small1000 (by omega)
          · rw [upd_ne (ne_of_none h hD)]; exact s7 _ _ h
          · rw [upd_same, List.range_succ, List.map_append, List.map_append]
            show some (HO.lst (_ ++ [V.int (((pc + (0 + (i : Int)) - b) * inv).fmod c)])) = _
            rw [eme, Int.zero_add]
            rfl
        · rintro H7 ⟨s7, e7⟩
          refine ⟨D, _, rfl, SqL.of e7, by simp; omega, fun m hm hle => ?_⟩
          have hL' := least_inv (c := c) (b := b) (s := st) (f := pc) (l := 1 + r6) (inv := inv) (k := k) (by omega) (by omega) hinv hm hle (fun y => by
            rw [List.mem_map]
            constructor
            · rintro ⟨j, hj, e⟩
              have := List.mem_range.mp hj
              exact ⟨(j : Int), by omega, by omega, e.symm⟩
            · rintro ⟨j, j0, j1, e⟩
              exact ⟨j.toNat, List.mem_range.mpr (by omega), by rw [Int.toNat_of_nonneg j0]; exact e.symm⟩)
          refine ⟨_, rfl, _, rfl, _, rfl, _, rfl, _, rfl, c, b, st, pc, 1 + r6, rfl, c1, c2, l1.1, l1.2.1, fun r H8 hr8 s8 => ?_⟩
          refine ⟨_, rfl, scal_opt r m, ?_⟩
          rw [decOpt (hr8.uniq hL')]
          exact q _ (bb.trans (Same.but (s7.trans s8))) ((pdU.same (s7.trans s8)).mono (by omega))
def spSmall : Sp := fun vs H Q _ => ∃ (p : Addr) (c n : Int), vs = [.ref p, .int c] ∧ Pond n p H ∧ n ≤ 10 ^ 8 ∧ 1 ≤ c ∧ c ≤ 40 ∧ ∀ H', But p H H' → Pond (n + 200) p H' → Q (.bl true) H'
theorem shown_len : ∀ rs : List (Option Int), (∀ x ∈ rs, ∀ n, x = some n → 0 ≤ n ∧ n < 10 ^ 6) → (∀ t ∈ PyData.shownAll (rs.map optD), t.length ≤ 2000) ∧ (PyData.shownAll (rs.map optD)).length = rs.length
  | [], _ => ⟨fun _ h => by simp [PyData.shownAll] at h, rfl⟩
  | r :: rs, hb => by
    have ih := shown_len rs (fun x hx => hb x (List.mem_cons_of_mem _ hx))
    refine ⟨fun t h => ?_, by simpa [PyData.shownAll] using ih.2⟩
    simp only [List.map_cons, PyData.shownAll, List.mem_cons] at h
    rcases h with rfl | h
    · cases r with
      | none => simp [optD, PyData.shown]; decide
      | some n =>
        have := hb _ List.mem_cons_self n rfl
        simp only [optD, PyData.shown]
        have e := PySem.int_text_length_le (a := n) (k := 1920) (by decide) (by
          have : n.natAbs < 2 ^ 20 := by omega
          have := PySem.Flt.log2_lt_of (n := n.natAbs) (k := 20) (by decide) this
          omega)
        rw [PySem.ofString_length]
        omega
    · exact ih.1 t h
theorem textFrom_le : ∀ (ts : List Str) (k : Nat) (acc : Str), (∀ t ∈ ts, t.length ≤ 2000) → (textFrom k acc ts).length ≤ acc.length + 2002 * ts.length
  | [], k, acc, _ => Nat.le_refl _
  | t :: r, k, acc, h => by
    have ih := textFrom_le r (k + 1) (acc ++ (if k > 0 then ", " else "" : String) ++ t) (fun x hx => h x (List.mem_cons_of_mem _ hx))
    have e : (acc ++ (if k > 0 then ", " else "" : String) ++ t).length ≤ acc.length + 2 + 2000 := by
      rw [strLen_append, strLen_append]
      have := h t List.mem_cons_self
      have z : (Str.ofString (if k > 0 then ", " else "" : String)).length ≤ 2 := by split <;> decide
      omega
    show (textFrom (k + 1) (acc ++ (if k > 0 then ", " else "" : String) ++ t) r).length ≤ _
    rw [List.length_cons]
    omega
theorem opts_fit (rs : List (Option Int)) (hl : rs.length ≤ 100) (hb : ∀ x ∈ rs, ∀ n, x = some n → 0 ≤ n ∧ n < 10 ^ 6) :
    (PyData.list (rs.map optD)).showable = true ∧ (PyData.list (rs.map optD)).hasDict = false ∧ (PyData.list (rs.map optD)).depth ≤ 40 ∧ (PyData.list (rs.map optD)).shown.length ≤ sizeLine := by
  have a : PyData.showableAll (rs.map optD) = true := by
    clear hl
    induction rs with
    | nil => simp [PyData.showableAll]
    | cons r rs ih =>
      have ih := ih (fun x hx => hb x (List.mem_cons_of_mem _ hx))
      cases r with
      | none => simp [PyData.showableAll, PyData.showable, optD, ih]
      | some n =>
        have := hb _ List.mem_cons_self n rfl
        have l : n.natAbs.log2 < 1920 := by
          have : n.natAbs < 2 ^ 20 := by omega
          have := PySem.Flt.log2_lt_of (n := n.natAbs) (k := 20) (by decide) this
          omega
        simp [PyData.showableAll, PyData.showable, optD, ih, l]
  have b : PyData.hasDictAll (rs.map optD) = false := by
    clear hl hb a
    induction rs with
    | nil => simp [PyData.hasDictAll]
    | cons r rs ih => cases r <;> simp [PyData.hasDictAll, PyData.hasDict, optD, ih]
  have c := depth_opts rs
  refine ⟨by simpa only [PyData.showable] using a, by simpa only [PyData.hasDict] using b, ?_, ?_⟩
  · simp only [PyData.depth]; omega
  · have h1 := shown_len rs hb
    have h2 := textFrom_le _ 0 "[" h1.1
    have e : (PyData.list (rs.map optD)).shown = textFrom 0 "[" (PyData.shownAll (rs.map optD)) ++ "]" := by
      simp only [PyData.shown, listText]
    rw [e, strLen_append]
    rw [h1.2] at h2
    have z1 : (Str.ofString "[").length = 1 := by decide
    have z2 : (Str.ofString "]").length = 1 := by decide
    rw [z1] at h2
    rw [z2, sizeLine_eq]
    omega
end
end Gr

set_option Elab.async false
set_option linter.all false
set_option pp.deepTerms false
set_option pp.maxSteps 3000
set_option maxRecDepth 100000
set_option maxHeartbeats 8000000
set_option exponentiation.threshold 30000
namespace Gr
open PySem PySem.Spec PyProof.Rows L2
theorem far_ok {u c : Int} (u0 : 0 ≤ u) (u1 : u < 10 ^ 60) (c0 : 1 ≤ c) (c1 : c ≤ 40) : -(10 ^ 70) ≤ (u - 10 ^ 59) * c ∧ (u - 10 ^ 59) * c ≤ 10 ^ 70 := by
  have h1 := Int.mul_le_mul_of_nonneg_right (show u - 10 ^ 59 ≤ 10 ^ 60 by omega) (show 0 ≤ c by omega)
  have h2 := Int.mul_le_mul_of_nonneg_right (show -(10 ^ 60) ≤ u - 10 ^ 59 by omega) (show 0 ≤ c by omega)
  omega
section
variable {P : Program} {w : World} {K : PySem.W.Frag} {mg : Str → Option Value} {base : Heap} {tC : Tok}
theorem ok_small {f f1 f2 f3 : Addr} {fd fd1 fd2 fd3 : FuncData} (B : Blt mg tC) (Dl_small_right : Def K mg "_law_small_right" s_l_small_right ["_law_pond_here", "_law_span"] f fd) (Dl_fish : Def K mg "_law_fish" s_l_fish ["_law_pond_here", "_law_bound"] f1 fd1) (Dfirst_hit : Def K mg "first_hit" s_first_hit ["cycle", "begin", "step", "first", "length"] f2 fd2) (Dl_least : Def K mg "_law_least" s_l_least ["_law_span", "_law_begin", "_law_step", "_law_place", "_law_size"] f3 fd3) (Gfirst_hit : FnOk P w K mg base CX0 4 f2 fd2 ["cycle", "begin", "step", "first", "length"] spHit) : FnG P w K mg base CX0 5 f fd ["_law_pond_here", "_law_span"] spSmall := by
  have Gl_fish := ok_fish (P := P) (w := w) (base := base) B Dl_fish
  have Gl_least := ok_least1 (P := P) (w := w) (base := base) B Dl_least
  refine okG Dl_small_right.F scl_small_right (fun vs H Q E h => ?_) (fun cdv A outer s H vs Q E hf hr h => ⟨_, (pss_cons (ps_par (i := 2) (j := 3) rfl scl_small_right.nd rfl rfl (by decide) rfl rfl (pa_cons (pe_op op_sub (pe_call Gl_fish (hr.mono (by decide)) (by rfl) Dl_fish.g Dl_fish.F.kp Dl_fish.b .nil pass0 (pa_cons (pv 0) (pa_cons (pe_op op_mulW pe_int (pv 1)) pa_nil))) (pv 1)) (pa_cons (pe_op op_sub (pe_call Gl_fish (hr.mono (by decide)) (by rfl) Dl_fish.g Dl_fish.F.kp Dl_fish.b .nil pass0 (pa_cons (pv 0) (pa_cons (pe_op op_mulW pe_int (pv 1)) pa_nil))) (pv 1)) pa_nil)) (by rfl))
  (pss_cons (ps_par (i := 4) (j := 5) rfl scl_small_right.nd rfl rfl (by decide) rfl rfl (pa_cons (pe_call Gl_fish (hr.mono (by decide)) (by rfl) Dl_fish.g Dl_fish.F.kp Dl_fish.b .nil pass0 (pa_cons (pv 0) (pa_cons (pv 1) pa_nil))) (pa_cons (pe_op op_add pe_int (pe_call Gl_fish (hr.mono (by decide)) (by rfl) Dl_fish.g Dl_fish.F.kp Dl_fish.b .nil pass0 (pa_cons (pv 0) (pa_cons (pe_ix ix_list (pe_lst (pa_cons pe_int (pa_cons (pe_callB (call_min2 rfl) (by rfl) B.n_min (by decide +kernel) (pa_cons pe_int (pa_cons (pv 1) pa_nil))) (pa_cons (pv 1) pa_nil)))) (pe_call Gl_fish (hr.mono (by decide)) (by rfl) Dl_fish.g Dl_fish.F.kp Dl_fish.b .nil pass0 (pa_cons (pv 0) (pa_cons pe_int pa_nil))) (fun _ _ => rfl)) pa_nil)))) pa_nil)) (by rfl))
  (pss_cons (ps_set (i := 6) scl_small_right.nd rfl (Or.inl rfl) (pe_call Gl_least (hr.mono (by decide)) (by rfl) Dl_least.g Dl_least.F.kp Dl_least.b .nil pass0 (pa_cons (pv 1) (pa_cons (pv 2) (pa_cons (pv 3) (pa_cons (pv 4) (pa_cons (pv 5) pa_nil)))))))
  (pss_cons (ps_setLc (i := 7) (own := [("_law_turn", 8)]) (g := (gName 8)) (tt := tYes) rfl scl_small_right.nd rfl rfl (sw_true rfl rfl rfl (by decide +kernel)) (pi_range1 (by rfl) B.range (pa_cons pe_int pa_nil)) (blkOk_by (N := ["_law_pond_here", "_law_span", "_law_begin", "_law_step", "_law_place", "_law_size", "_law_due", "_law_far", "_law_turn", "_law_factor", "_law_rest", "_law_told", "_law_whole", "_law_great", "_law_number"]) (sc := defScope s_l_small_right) (by decide +kernel)) (fun _ _ _ _ _ => (pg_name (i := 8) scl_small_right.nd rfl (Or.inl rfl))) (fun _ _ _ _ _ => pts_nil) (fun _ _ _ _ _ => (pe_op op_mulW (pe_op op_sub (pe_call Gl_fish (hr.mono (by decide)) (by rfl) Dl_fish.g Dl_fish.F.kp Dl_fish.b .nil pass0 (pa_cons (pv 0) (pa_cons (pe_op op_powW pe_int pe_int) pa_nil))) (pe_op op_powW pe_int pe_int)) (pv 1))))
  (pss_cons (ps_set (i := 9) scl_small_right.nd rfl (Or.inr rfl) (pe_op op_add pe_int (pe_call Gl_fish (hr.mono (by decide)) (by rfl) Dl_fish.g Dl_fish.F.kp Dl_fish.b .nil pass0 (pa_cons (pv 0) (pa_cons (pe_op op_powW pe_int pe_int) pa_nil)))))
  (pss_cons (ps_set (i := 10) scl_small_right.nd rfl (Or.inl rfl) (pe_call Gl_fish (hr.mono (by decide)) (by rfl) Dl_fish.g Dl_fish.F.kp Dl_fish.b .nil pass0 (pa_cons (pv 0) (pa_cons (pv 9) pa_nil))))
  (pss_cons (ps_set (i := 11) scl_small_right.nd rfl (Or.inl rfl) (pe_lst (pa_cons (pe_call Gfirst_hit (hr.mono (by decide)) (by rfl) Dfirst_hit.g Dfirst_hit.F.kp Dfirst_hit.b .nil pass0 (pa_cons (pv 1) (pa_cons (pv 2) (pa_cons (pv 3) (pa_cons (pv 4) (pa_cons (pv 5) pa_nil)))))) pa_nil)))
  (pss_cons (ps_expr (pe_bm PySem.F.plainAttrs_list PySem.F.slot_list_append PySem.F.type_list_append mt_append (pv 11) (pa_cons (pe_call Gfirst_hit (hr.mono (by decide)) (by rfl) Dfirst_hit.g Dfirst_hit.F.kp Dfirst_hit.b .nil pass0 (pa_cons (pv 1) (pa_cons (pe_op op_add (pv 2) (pe_ix ix_list (pv 7) pe_int (fun _ _ => rfl))) (pa_cons (pe_op op_add (pv 3) (pe_ix ix_list (pv 7) pe_int (fun _ _ => rfl))) (pa_cons (pe_op op_add (pv 4) (pe_ix ix_list (pv 7) pe_int (fun _ _ => rfl))) (pa_cons (pv 5) pa_nil)))))) pa_nil)))
  (pss_cons (ps_par (i := 12) (j := 13) rfl scl_small_right.nd rfl rfl (by decide) rfl rfl (pa_cons (pe_op op_mulW (pv 1) (pv 9)) (pa_cons (pe_lc (own := [("_law_number", 14)]) (g := (gName 14)) (tt := tYes) rfl scl_small_right.nd (pi_tup (pe_tup (pa_cons (pv 2) (pa_cons (pv 3) (pa_cons (pv 4) (pa_cons (pv 5) pa_nil)))))) (blkOk_by (N := ["_law_pond_here", "_law_span", "_law_begin", "_law_step", "_law_place", "_law_size", "_law_due", "_law_far", "_law_turn", "_law_factor", "_law_rest", "_law_told", "_law_whole", "_law_great", "_law_number"]) (sc := defScope s_l_small_right) (by decide +kernel)) (fun _ _ _ _ _ => (pg_name (i := 14) scl_small_right.nd rfl (Or.inl rfl))) (fun _ _ _ _ _ => pts_nil) (fun _ _ _ _ _ => (pe_op op_mulW (pv 14) (pv 9)))) pa_nil)) (by rfl))
  (pss_cons (ps_expr (pe_bm PySem.F.plainAttrs_list PySem.F.slot_list_append PySem.F.type_list_append mt_append (pv 11) (pa_cons (pe_call Gfirst_hit (hr.mono (by decide)) (by rfl) Dfirst_hit.g Dfirst_hit.F.kp Dfirst_hit.b .nil pass0 (pa_cons (pv 12) (pa_cons (pe_op op_add (pe_ix ix_list (pv 13) pe_int (fun _ _ => rfl)) (pv 10)) (pa_cons (pe_ix ix_list (pv 13) pe_int (fun _ _ => rfl)) (pa_cons (pe_ix ix_list (pv 13) pe_int (fun _ _ => rfl)) (pa_cons (pe_ix ix_list (pv 13) pe_int (fun _ _ => rfl)) pa_nil)))))) pa_nil)))
  (pss_cons (ps_if (pt_cmpR op_ne (pe_callB (call_reprA hf hr.units) (by rfl) B.n_repr (by decide +kernel) (pa_cons (pv 11) pa_nil)) (pe_callB (call_reprA hf hr.units) (by rfl) B.n_repr (by decide +kernel) (pa_cons (pe_op op_rep (pe_lst (pa_cons (pv 6) pa_nil)) pe_int) pa_nil)) (nomark _))
   (pss_one (ps_ret pe_bl))
   pss_nil)
  (pss_one (ps_ret (pe_or (pe_cmpR op_eq (pv 10) pe_int (nomark _)) (pe_one (pe_cmpR op_isN (pe_call Gfirst_hit (hr.mono (by decide)) (by rfl) Dfirst_hit.g Dfirst_hit.F.kp Dfirst_hit.b .nil pass0 (pa_cons (pv 12) (pa_cons (pe_op op_add (pe_ix ix_list (pv 13) pe_int (fun _ _ => rfl)) (pv 10)) (pa_cons (pe_ix ix_list (pv 13) pe_int (fun _ _ => rfl)) (pa_cons (pe_ix ix_list (pv 13) pe_int (fun _ _ => rfl)) (pa_cons (pv 10) pa_nil)))))) pe_non (nomark _))))))))))))))))), ?_⟩)
  · obtain ⟨p, c, n, rfl, _⟩ := h; rfl
  · obtain ⟨p, c, n, rfl, hP, hn, c1, c40, q⟩ := h
    have c10 : (10 : Int) ^ 30 ≤ 10 ^ 100 := by decide +kernel
    have e28 : (10 : Int) ^ (28 : Int).toNat = 10 ^ 28 := rfl
    have cz : c ≠ 0 := by omega
    -- begin, step
    refine ⟨_, rfl, _, rfl, _, _, rfl, rfl, mulK (by omega) (by omega), p, 3 * c, n, rfl, hP, by omega, by omega, by omega, fun r1 H1 b1 pd1 r10 r11 => ⟨_, rfl, _, _, rfl, rfl, ?_⟩⟩
    refine ⟨_, rfl, _, rfl, _, _, rfl, rfl, mulK (by omega) (by omega), p, 3 * c, _, rfl, pd1, by omega, by omega, by omega, fun r2 H2 b2 pd2 r20 r21 => ⟨_, rfl, _, _, rfl, rfl, _, _, rfl, ?_⟩⟩
    -- place, size
    refine ⟨_, rfl, _, rfl, p, c, _, rfl, pd2, by omega, by omega, by omega, fun pc H3 b3 pd3 p0 p1 => ?_⟩
    refine ⟨_, rfl, _, rfl, _, _, rfl, _, rfl, (by show 3 ≤ sizeLine; decide), fun L hL => ⟨_, rfl, p, 3, _, rfl, pd3.new hL, by omega, by decide, by decide +kernel, fun r4 H4 b4 pd4 r40 r41 => ?_⟩⟩
    obtain ⟨v, hv, hva⟩ := pick (xs := [1, if c < (3 : Int) then c else 3, c]) r40 r41
    have hLp : L ≠ p := fun e => pd3.ne (e ▸ hL)
    have v1 : 1 ≤ v ∧ v ≤ c := by
      simp only [List.mem_cons, List.not_mem_nil, or_false] at hv
      rcases hv with e | e | e
      · omega
      · rw [e]; split <;> omega
      · omega
    refine ⟨L, _, _, _, rfl, rfl, SqL.of (b4 L _ hLp upd_same), hva, p, v, _, rfl, pd4, by omega, v1.1, by omega, fun r5 H5 b5 pd5 r50 r51 => ⟨_, _, rfl, rfl, _, _, rfl, ?_⟩⟩
    have bb5 : But p H H5 := ((b1.trans b2).trans b3).trans (((Same.but (Same.new hL)).trans b4).trans b5)
    -- due
    refine ⟨_, rfl, _, rfl, _, rfl, _, rfl, _, rfl, c, r1 - c, r2 - c, pc, 1 + r5, rfl, c1, by omega, by omega, fun r hr0 => ?_⟩
    -- far
    refine ⟨3, rfl, by decide, by decide, fun D hD => ?_⟩
    have hDp : D ≠ p := fun e => pd5.ne (e ▸ hD)
    refine lc_range (lo := 0) (n := 3) (fun i H' => ∃ fs : List Int, But p (upd H5 D (.lst [])) (upd H' D (.lst [])) ∧ H' D = some (.lst (fs.map V.int)) ∧ fs.length = i ∧ Pond (n + 60 + 12 * i) p H' ∧ (∀ x ∈ fs, ∃ k, x = k * c ∧ -(10 ^ 70) ≤ x ∧ x ≤ 10 ^ 70)) ⟨[], by rw [upd_upd]; exact But.refl _ _, upd_same, rfl, (pd5.new hD).mono (by omega), fun _ h => (List.not_mem_nil h).elim⟩ ?_ ?_
    · rintro i H' hi ⟨fs, b6, e6, l6, pd6, a6⟩
      refine ⟨rfl, _, rfl, _, _, rfl, rfl, cpw (by decide) (by decide), p, _, _, rfl, pd6, by omega, by decide +kernel, by decide +kernel, fun u H7 b7 pd7 u0 u1 => ?_⟩
      have u1' : u < 10 ^ 60 := u1
      clear u1
      have fo := far_ok u0 u1' c1 c40
      have e59 : (10 : Int) ^ (59 : Int).toNat = 10 ^ 59 := rfl
      refine ⟨_, _, rfl, rfl, cpw (by decide) (by decide), _, _, rfl, rfl, _, rfl, _, _, rfl, rfl, mulK (by omega) (by omega), _, b7 D _ hDp e6, small1000 (by rw [List.length_map]; omega), fs ++ [(u - 10 ^ 59) * c], ?_, ?_, by simp [l6], ?_, ?_⟩
      · rw [upd_upd]
        refine b6.trans fun q o hq e => ?_
        by_cases hqD : q = D
        · subst hqD; rw [upd_same] at e ⊢; exact e
        · rw [upd_ne hqD] at e ⊢; exact b7 q o hq e
      · rw [upd_same, List.map_append]; rfl
      · obtain ⟨a, b, cc, y1, y2, y3, y4, y5⟩ := pd7
        exact ⟨a, b, cc, by rw [upd_ne hDp.symm]; exact y1, y2, y3, y4, by push_cast; omega⟩
      · intro x hx
        rcases List.mem_append.mp hx with h | h
        · exact a6 x h
        · rw [List.mem_singleton.mp h]
          exact ⟨_, rfl, fo.1, fo.2⟩
    · rintro H6 ⟨fs, b6, e6, l6, pd6, a6⟩
      obtain ⟨f0, f1, f2, rfl⟩ : ∃ f0 f1 f2, fs = [f0, f1, f2] := by
        match fs, l6 with
        | [f0, f1, f2], _ => exact ⟨f0, f1, f2, rfl⟩
      obtain ⟨k0, ek0, g00, g01⟩ := a6 f0 (by simp)
      obtain ⟨k1, ek1, g10, g11⟩ := a6 f1 (by simp)
      obtain ⟨k2, ek2, g20, g21⟩ := a6 f2 (by simp)
      have bb6 : But p H H6 := fun q o hq e => by
        have e5 := bb5 q o hq e
        have hqD : q ≠ D := ne_of_none e5 hD
        have := b6 q o hq (by rw [upd_ne hqD]; exact e5)
        rwa [upd_ne hqD] at this
      -- factor, rest
      refine ⟨_, rfl, _, _, rfl, rfl, cpw (by decide) (by decide), p, 10 ^ (28 : Int).toNat, _, rfl, pd6, by omega, by omega, by omega, fun r7 H7 b7 pd7 r70 r71 => ⟨_, _, rfl, rfl, ?_⟩⟩
      refine ⟨_, rfl, _, rfl, p, 1 + r7, _, rfl, pd7, by omega, by omega, by omega, fun rest H8 b8 pd8 r80 r81 => ?_⟩
      have e8 := b8 D _ hDp (b7 D _ hDp e6)
      have bb8 := bb6.trans (b7.trans b8)
      -- told
      refine ⟨_, rfl, _, rfl, _, rfl, _, rfl, _, rfl, c, r1 - c, r2 - c, pc, 1 + r5, rfl, c1, by omega, by omega, by omega, fun ra H9 ha s9 => ⟨(by show 1 ≤ sizeLine; decide), fun T hT => ?_⟩⟩
      obtain rfl := ha.uniq hr0
      have e9 := s9 _ _ e8
      have nDT : D ≠ T := ne_of_none e9 hT
      refine ⟨_, rfl, .inl ⟨rfl, _, SqL.of upd_same⟩, ?_⟩
      have eD9 := Same.new hT (o := .lst [optV ra]) _ _ e9
      refine ⟨_, rfl, _, rfl, _, rfl, D, _, 0, .int f0, rfl, rfl, SqL.of eD9, atI_nat (j := 0) rfl, _, _, rfl, rfl, _, rfl, _, rfl, D, _, 1, .int f1, rfl, rfl, SqL.of eD9, atI_nat (j := 1) rfl, _, _, rfl, rfl, _, rfl, _, rfl, D, _, 2, .int f2, rfl, rfl, SqL.of eD9, atI_nat (j := 2) rfl, _, _, rfl, rfl, _, rfl,
        c, r1 - c + f0, r2 - c + f1, pc + f2, 1 + r5, rfl, c1, by omega, by omega, by omega, fun rb H10 hb s10 => ?_⟩
      rw [ek0, ek1, ek2] at hb
      obtain rfl := (hb.to fun n _ => hit_far k0 k1 k2 n).uniq hr0
      have eT10 := s10 _ _ (upd_same (H := H9) (a := T) (o := .lst [optV rb]))
      refine ⟨T, _, _, rfl, rfl, eT10, small1000 (by simp), ?_⟩
      -- from here on: what stood in H9 stands, told is at T
      have sT : Same H9 (upd H10 T (.lst ([optV rb] ++ [optV rb]))) := fun b o e => by
        rw [upd_ne (ne_of_none e hT)]
        exact s10 _ _ (Same.new hT _ _ e)
      -- whole, great
      have F1 : 1 ≤ 1 + r7 ∧ 1 + r7 ≤ 10 ^ 28 := by omega
      have m0 := mulR (i := c) (j := 1 + r7) (a := 40) (b := 10 ^ 28) (by omega) c40 (by omega) F1.2
      have m1 := Int.mul_le_mul_of_nonneg_left F1.1 (show 0 ≤ c by omega)
      have m4 := Int.mul_le_mul_of_nonneg_right c1 (show 0 ≤ 1 + r7 by omega)
      refine ⟨_, rfl, _, rfl, _, _, rfl, rfl, mulK (by omega) (by omega), ?_⟩
      refine ⟨_, rfl, _, rfl, _, rfl, _, rfl, (by show 4 ≤ sizeLine; decide), fun U hU => ⟨U, rfl, ⟨_, SqT.of upd_same⟩, fun D2 hD2 => ?_⟩⟩
      refine lc_tup (xs := [.int (r1 - c), .int (r2 - c), .int pc, .int (1 + r5)]) (fun i H' => Same (upd (upd H10 T (.lst ([optV rb] ++ [optV rb]))) U (.tup [.int (r1 - c), .int (r2 - c), .int pc, .int (1 + r5)])) H' ∧ H' D2 = some (.lst ((([r1 - c, r2 - c, pc, 1 + r5].take i).map fun x => x * (1 + r7)).map V.int))) ⟨Same.new hD2, upd_same⟩ (fun i H' _ p => SqT.of (p.1 _ _ upd_same)) ?_ ?_
      · rintro i x H' hx ⟨s11, e11⟩
        obtain ⟨z, hz, rfl⟩ : ∃ z, [r1 - c, r2 - c, pc, 1 + r5][i]? = some z ∧ x = .int z := by
          have e : [V.int (r1 - c), .int (r2 - c), .int pc, .int (1 + r5)] = [r1 - c, r2 - c, pc, 1 + r5].map V.int := rfl
          rw [e, List.getElem?_map] at hx
          cases h : [r1 - c, r2 - c, pc, 1 + r5][i]? with
          | none => rw [h] at hx; cases hx
          | some z => rw [h] at hx; exact ⟨z, rfl, (Option.some.inj hx).symm⟩
        have zb : -(10 ^ 10) ≤ z ∧ z ≤ 10 ^ 10 := by
          have := List.mem_of_getElem? hz
          simp only [List.mem_cons, List.not_mem_nil, or_false] at this
          omega
        refine ⟨rfl, _, rfl, _, rfl, _, _, rfl, rfl, mulK (by omega) (by omega), _, e11, small1000 (by simp; omega), fun b o h => ?_, ?_⟩
        · rw [upd_ne (ne_of_none h hD2)]; exact s11 _ _ h
        · rw [upd_same, List.take_add_one, hz, List.map_append, List.map_append]; rfl
      · rintro H11 ⟨s11, e11⟩
        have e11' : H11 D2 = some (.lst [.int ((r1 - c) * (1 + r7)), .int ((r2 - c) * (1 + r7)), .int (pc * (1 + r7)), .int ((1 + r5) * (1 + r7))]) := e11
        have sTU : Same (upd H10 T (.lst ([optV rb] ++ [optV rb]))) H11 := (Same.new hU).trans s11
        have eT11 := sTU _ _ (upd_same (H := H10) (a := T) (o := .lst ([optV rb] ++ [optV rb])))
        refine ⟨_, _, rfl, _, rfl, .inl ⟨rfl, _, SqL.of eT11⟩, ?_⟩
        have m2 := Int.mul_le_mul_of_nonneg_right (show 1 ≤ 1 + r5 by omega) (show 0 ≤ 1 + r7 by omega)
        have m3 := Int.mul_le_mul_of_nonneg_right (show 1 + r5 ≤ c by omega) (show 0 ≤ 1 + r7 by omega)
        refine ⟨_, rfl, _, rfl, D2, _, 0, _, rfl, rfl, SqL.of e11', atI_nat (j := 0) rfl, _, rfl, _, _, rfl, rfl, _, rfl, D2, _, 1, _, rfl, rfl, SqL.of e11', atI_nat (j := 1) rfl, _, rfl, D2, _, 2, _, rfl, rfl, SqL.of e11', atI_nat (j := 2) rfl, _, rfl, D2, _, 3, _, rfl, rfl, SqL.of e11', atI_nat (j := 3) rfl,
          c * (1 + r7), (r1 - c) * (1 + r7) + rest, (r2 - c) * (1 + r7), pc * (1 + r7), (1 + r5) * (1 + r7), rfl, by omega, by omega, by omega, by omega, fun rc H12 hc12 s12 => ?_⟩
        obtain rfl := (hc12.to fun n _ => hit_sc (by omega) (by omega) r80 r81 n).uniq hr0
        have e12 := s12 _ _ eT11
        have e12' := s12 _ _ e11'
        refine ⟨T, _, _, rfl, rfl, e12, small1000 (by simp), ?_⟩
        have eTx : (upd H12 T (.lst ([optV rc] ++ [optV rc] ++ [optV rc]))) T = some (.lst ([rc, rc, rc].map optV)) := upd_same
        have nD2T : D2 ≠ T := fun e => by rw [e, eT11] at e11'; cases rc <;> simp [optV] at e11'
        have eDx : (upd H12 T (.lst ([optV rc] ++ [optV rc] ++ [optV rc]))) D2 = some (.lst [.int ((r1 - c) * (1 + r7)), .int ((r2 - c) * (1 + r7)), .int (pc * (1 + r7)), .int ((1 + r5) * (1 + r7))]) := by
          rw [upd_ne nD2T]; exact e12'
        have s9x : Same H9 (upd H12 T (.lst ([optV rc] ++ [optV rc] ++ [optV rc]))) := fun b o e => by
          rw [upd_ne (ne_of_none e hT)]
          exact s12 _ _ (sTU _ _ (sT _ _ e))
        -- repr
        have bnd : ∀ x ∈ [rc, rc, rc], ∀ n, x = some n → 0 ≤ n ∧ n < 10 ^ 6 := fun x hx n e => by
          have ex : x = rc := by simpa using hx
          subst ex e
          have := least_lt (by omega) hr0
          have := hr0.1
          omega
        have fit := opts_fit [rc, rc, rc] (by simp) bnd
        refine ⟨_, rfl, .ref T, .list ([rc, rc, rc].map optD), rfl, .lst (SqL.of eTx) (dp_opts _), fit.1, fit.2.1, fit.2.2.1, fit.2.2.2, (fun _ z => nomatch z), ?_⟩
        refine ⟨_, rfl, (by show 1 ≤ sizeLine; decide), fun V1 hV1 => ⟨V1, 3, [optV rc], rfl, rfl, upd_same, by decide, by decide, (by show 3 ≤ sizeLine; decide), fun V2 hV2 => ?_⟩⟩
        refine ⟨.ref V2, .list ([rc, rc, rc].map optD), rfl, .lst (SqL.of upd_same) (dp_opts [rc, rc, rc]), fit.1, fit.2.1, fit.2.2.1, fit.2.2.2, (fun _ z => nomatch z), rfl, _, rfl, iteNS rfl ?_⟩
        have s9y := (s9x.trans (Same.new hV1 (o := .lst [optV rc]))).trans (Same.new hV2 (o := .lst (List.replicate (3 : Int).toNat [optV rc]).flatten))
        have eDy := Same.new hV2 (o := .lst (List.replicate (3 : Int).toNat [optV rc]).flatten) _ _ (Same.new hV1 (o := .lst [optV rc]) _ _ eDx)
        have fin : ∀ {H'}, Same (upd (upd (upd H12 T (.lst ([optV rc] ++ [optV rc] ++ [optV rc]))) V1 (.lst [optV rc])) V2 (.lst (List.replicate (3 : Int).toNat [optV rc]).flatten)) H' → Q (.bl true) H' := fun s => q _ (bb8.trans (Same.but (s9.trans (s9y.trans s)))) ((pd8.same (s9.trans (s9y.trans s))).mono (by push_cast; omega))
        -- rest == 0 or ..
        refine ⟨_, rfl, rfl, ?_⟩
        by_cases z : rest = 0
        · exact ⟨true, congrArg V.bl (decide_eq_true (congrArg V.int z)), fin (Same.refl _)⟩
        · refine ⟨false, congrArg V.bl (decide_eq_false (fun e => z (V.int.inj e))), ?_⟩
          refine ⟨_, rfl, _, rfl, D2, _, 0, _, rfl, rfl, SqL.of eDy, atI_nat (j := 0) rfl, _, rfl, _, _, rfl, rfl, _, rfl, D2, _, 1, _, rfl, rfl, SqL.of eDy, atI_nat (j := 1) rfl, _, rfl, D2, _, 2, _, rfl, rfl, SqL.of eDy, atI_nat (j := 2) rfl, _, rfl,
            c * (1 + r7), (r1 - c) * (1 + r7) + rest, (r2 - c) * (1 + r7), pc * (1 + r7), rest, rfl, by omega, by omega, by omega, by omega, fun rd H13 hd13 s13 => ?_⟩
          obtain rfl := hd13.uniq (r' := none) (fun n _ => hit_rest (by omega) (by omega) r80 r81 n)
          exact ⟨rfl, fin s13⟩
def spLaw (K : PySem.W.Frag) : Sp := fun vs H Q _ => ∃ (a : Addr) (ns : List Int), vs = [.ref a] ∧ SqL K H a (ns.map V.int) ∧ ns.length ≤ 63 ∧ ∀ H', Q (.bl true) H'
end
end Gr

set_option Elab.async false
set_option linter.all false
set_option pp.deepTerms false
set_option pp.maxSteps 3000
set_option maxRecDepth 100000
set_option maxHeartbeats 8000000
set_option exponentiation.threshold 30000
namespace Gr
open PySem PySem.Spec PyProof.Rows L2
theorem But.same {p : Addr} {H H1 H2 : Hp} (b : But p H1 H2) (s : Same H H1) (hp : H p = none) : Same H H2 := fun q o e => b q o (ne_of_none e hp) (s q o e)
theorem hit1 : Least (hit 10 0 4 3 2) (some 1) := ⟨by decide, by unfold hit; decide, fun k h0 h1 => by
  obtain rfl : k = 0 := by omega
  unfold hit; decide⟩
theorem hit2 : Least (hit 10 0 4 5 1) none := fun n _ => by unfold hit; omega
theorem hit3 : Least (hit 10 3 0 3 1) (some 0) := ⟨by decide, by unfold hit; decide, fun k h0 h1 => by omega⟩
section
variable {P : Program} {w : World} {K : PySem.W.Frag} {mg : Str → Option Value} {base : Heap} {tC : Tok}
theorem ok_law {f f1 f2 f3 f4 f5 f6 f7 f8 f9 : Addr} {fd fd1 fd2 fd3 fd4 fd5 fd6 fd7 fd8 fd9 : FuncData} (B : Blt mg tC) (Dlaw : Def K mg "law" s_law ["_law_script"] f fd) (Dl_fish : Def K mg "_law_fish" s_l_fish ["_law_pond_here", "_law_bound"] f1 fd1) (Dl_pond : Def K mg "_law_pond" s_l_pond ["_law_script", "_law_k"] f2 fd2) (Dfirst_hit : Def K mg "first_hit" s_first_hit ["cycle", "begin", "step", "first", "length"] f3 fd3) (Dl_small_right : Def K mg "_law_small_right" s_l_small_right ["_law_pond_here", "_law_span"] f4 fd4) (Dl_great_right : Def K mg "_law_great_right" s_l_great_right ["_law_pond_here"] f5 fd5) (Dl_turns_right : Def K mg "_law_turns_right" s_l_turns_right ["_law_pond_here"] f6 fd6) (Dl_straight_right : Def K mg "_law_straight_right" s_l_straight_right ["_law_pond_here"] f7 fd7) (Dl_wide_right : Def K mg "_law_wide_right" s_l_wide_right ["_law_pond_here"] f8 fd8) (Dl_between_right : Def K mg "_law_between_right" s_l_between_right ["_law_pond_here"] f9 fd9)
    (Gfirst_hit : FnOk P w K mg base CX0 4 f3 fd3 ["cycle", "begin", "step", "first", "length"] spHit) (Gl_small_right : FnG P w K mg base CX0 5 f4 fd4 ["_law_pond_here", "_law_span"] spSmall) (Gl_great_right : FnOk P w K mg base CX0 5 f5 fd5 ["_law_pond_here"] (spDraws 200)) (Gl_turns_right : FnOk P w K mg base CX0 5 f6 fd6 ["_law_pond_here"] (spDraws 6000)) (Gl_straight_right : FnOk P w K mg base CX0 5 f7 fd7 ["_law_pond_here"] (spDraws 100)) (Gl_wide_right : FnOk P w K mg base CX0 5 f8 fd8 ["_law_pond_here"] (spDraws 200)) (Gl_between_right : FnOk P w K mg base CX0 5 f9 fd9 ["_law_pond_here"] (spDraws 200)) : FnG P w K mg base CX0 6 f fd ["_law_script"] (spLaw K) := by
  have Gl_fish := ok_fish (P := P) (w := w) (base := base) B Dl_fish
  have Gl_pond := ok_pond (P := P) (w := w) (base := base) B Dl_pond
  refine okG Dlaw.F sclaw (fun vs H Q E h => ?_) (fun cdv A outer s H vs Q E hf hr h => ⟨_, (pss_cons (ps_for PassesOwn.never rfl (pi_range1 (by rfl) B.range (pa_cons (pe_callB (call_max2 rfl) (by rfl) B.n_max (by decide +kernel) (pa_cons pe_int (pa_cons (pe_callB (call_min2 rfl) (by rfl) B.n_min (by decide +kernel) (pa_cons pe_int (pa_cons (pe_callB call_len_seq (by rfl) B.len PySem.boot_len (pa_cons (pv 0) pa_nil)) pa_nil))) pa_nil))) pa_nil)) (pg_name (i := 1) sclaw.nd rfl (Or.inl rfl))
   (pss_cons (ps_set (i := 2) sclaw.nd rfl (Or.inl rfl) (pe_call Gl_pond (hr.mono (by decide)) (by rfl) Dl_pond.g Dl_pond.F.kp Dl_pond.b .nil pass0 (pa_cons (pv 0) (pa_cons (pv 1) pa_nil))))
  (pss_cons (ps_for PassesOwn.never rfl (pi_range1 (by rfl) B.range (pa_cons pe_int pa_nil)) (pg_name (i := 3) sclaw.nd rfl (Or.inl rfl))
   (pss_one (ps_if (pt_not (pt_val (pe_callG Gl_small_right hf (hr.mono (by decide)) (by rfl) Dl_small_right.g Dl_small_right.F.kp Dl_small_right.b .nil pass0 (pa_cons (pv 2) (pa_cons (pe_ix ix_list (pe_lst (pa_cons (pe_op op_add pe_int (pe_call Gl_fish (hr.mono (by decide)) (by rfl) Dl_fish.g Dl_fish.F.kp Dl_fish.b .nil pass0 (pa_cons (pv 2) (pa_cons pe_int pa_nil)))) (pa_cons pe_int (pa_cons pe_int (pa_cons pe_int pa_nil))))) (pe_call Gl_fish (hr.mono (by decide)) (by rfl) Dl_fish.g Dl_fish.F.kp Dl_fish.b .nil pass0 (pa_cons (pv 2) (pa_cons pe_int pa_nil))) (fun _ _ => rfl)) pa_nil)))))
   (pss_one (ps_ret pe_bl))
   pss_nil)))
  (pss_one (ps_for PassesOwn.never rfl (pi_range1 (by rfl) B.range (pa_cons pe_int pa_nil)) (pg_name (i := 3) sclaw.nd rfl (Or.inl rfl))
   (pss_cons (ps_if (PW.pt (pw_or (pt_not (pt_val (pe_call Gl_great_right (hr.mono (by decide)) (by rfl) Dl_great_right.g Dl_great_right.F.kp Dl_great_right.b .nil pass0 (pa_cons (pv 2) pa_nil)))) (pw_or (pt_not (pt_val (pe_call Gl_turns_right (hr.mono (by decide)) (by rfl) Dl_turns_right.g Dl_turns_right.F.kp Dl_turns_right.b .nil pass0 (pa_cons (pv 2) pa_nil)))) (pw_or1 (pt_not (pt_val (pe_call Gl_straight_right (hr.mono (by decide)) (by rfl) Dl_straight_right.g Dl_straight_right.F.kp Dl_straight_right.b .nil pass0 (pa_cons (pv 2) pa_nil))))))))
   (pss_one (ps_ret pe_bl))
   pss_nil)
  (pss_one (ps_if (PW.pt (pw_or (pt_not (pt_val (pe_call Gl_wide_right (hr.mono (by decide)) (by rfl) Dl_wide_right.g Dl_wide_right.F.kp Dl_wide_right.b .nil pass0 (pa_cons (pv 2) pa_nil)))) (pw_or1 (pt_not (pt_val (pe_call Gl_between_right (hr.mono (by decide)) (by rfl) Dl_between_right.g Dl_between_right.F.kp Dl_between_right.b .nil pass0 (pa_cons (pv 2) pa_nil)))))))
   (pss_one (ps_ret pe_bl))
   pss_nil))))))))
  (pss_one (ps_ret (pe_cmpR (op_eqD hr.units) (pe_lst (pa_cons (pe_call Gfirst_hit (hr.mono (by decide)) (by rfl) Dfirst_hit.g Dfirst_hit.F.kp Dfirst_hit.b .nil pass0 (pa_cons pe_int (pa_cons pe_int (pa_cons pe_int (pa_cons pe_int (pa_cons pe_int pa_nil)))))) (pa_cons (pe_call Gfirst_hit (hr.mono (by decide)) (by rfl) Dfirst_hit.g Dfirst_hit.F.kp Dfirst_hit.b .nil pass0 (pa_cons pe_int (pa_cons pe_int (pa_cons pe_int (pa_cons pe_int (pa_cons pe_int pa_nil)))))) (pa_cons (pe_call Gfirst_hit (hr.mono (by decide)) (by rfl) Dfirst_hit.g Dfirst_hit.F.kp Dfirst_hit.b .nil pass0 (pa_cons pe_int (pa_cons pe_int (pa_cons pe_int (pa_cons pe_int (pa_cons pe_int pa_nil)))))) pa_nil)))) (pe_lst (pa_cons pe_int (pa_cons pe_non (pa_cons pe_int pa_nil)))) (nomark _))))), ?_⟩)
  · obtain ⟨a, ns, rfl, _⟩ := h; rfl
  · obtain ⟨a, ns, rfl, hS, hl, q⟩ := h
    refine ⟨_, rfl, a, _, rfl, .inl hS, _, _, rfl, _, _, rfl, _, rfl, ?_, ?_, ?_⟩
    · rw [List.length_map]; split <;> split <;> omega
    · rw [List.length_map]; split <;> split <;> omega
    refine for_range (lo := 0) (fun i σ H' => ∃ y1 y2 y3, σ = [some (.ref a), y1, y2, y3] ∧ Same H H') ⟨_, _, _, rfl, Same.refl H⟩ ?_ ?_
    · rintro k σ H0 hk ⟨y1, y2, y3, rfl, s0⟩
      have k6 : k ≤ 6 := by
        rw [List.length_map] at hk
        split at hk <;> split at hk <;> omega
      refine ⟨_, rfl, _, rfl, a, _, ns, rfl, s0.seq hS, by omega, by omega, fun p H1 hp0 s1 pd1 => ?_⟩
      refine ⟨20, rfl, by decide, by decide, ?_⟩
      refine for_range (lo := 0) (fun i σ H' => ∃ y3, σ = [some (.ref a), some (.int (0 + (k : Int))), some (.ref p), y3] ∧ But p H1 H' ∧ Pond (300 * i) p H') ⟨_, rfl, But.refl p H1, pd1.mono (by omega)⟩ ?_ ?_
      · rintro i σ H2 hi ⟨y3, rfl, b2, pd2⟩
        refine ⟨_, rfl, _, rfl, p, 40, _, rfl, pd2, by omega, by decide, by decide +kernel, fun r3 H3 b3 pd3 r30 r31 => ⟨_, _, rfl, rfl, (by show 4 ≤ sizeLine; decide), fun L hL => ?_⟩⟩
        have hLp : L ≠ p := fun e => pd3.ne (e ▸ hL)
        refine ⟨_, rfl, p, 4, _, rfl, pd3.new hL, by omega, by decide, by decide +kernel, fun r4 H4 b4 pd4 r40 r41 => ?_⟩
        obtain ⟨v, hv, hva⟩ := pick (xs := [1 + r3, 10, 2, 1]) r40 r41
        have v40 : 1 ≤ v ∧ v ≤ 40 := by
          simp only [List.mem_cons, List.not_mem_nil, or_false] at hv
          omega
        refine ⟨L, _, _, _, rfl, rfl, SqL.of (b4 L _ hLp upd_same), hva, p, v, _, rfl, pd4, by omega, v40.1, v40.2, fun H5 b5 pd5 => ⟨true, rfl, iteF ?_⟩⟩
        exact ⟨_, rfl, (((b2.trans b3).trans (Same.but (Same.new hL))).trans b4).trans b5, pd5.mono (by push_cast; omega)⟩
      · rintro σ H2 ⟨y3, rfl, b2, pd2⟩
        refine ⟨6, rfl, by decide, by decide, ?_⟩
        refine for_range (lo := 0) (fun i σ H' => ∃ y3, σ = [some (.ref a), some (.int (0 + (k : Int))), some (.ref p), y3] ∧ But p H1 H' ∧ Pond (6000 + 6700 * i) p H') ⟨_, rfl, b2, pd2.mono (by omega)⟩ ?_ ?_
        · rintro i σ H3 hi ⟨y3, rfl, b3, pd3⟩
          refine ⟨_, rfl, p, _, rfl, pd3, by omega, fun H4 b4 pd4 => ⟨true, rfl, ?_⟩⟩
          refine ⟨_, rfl, p, _, rfl, pd4, by omega, fun H5 b5 pd5 => ⟨true, rfl, ?_⟩⟩
          refine ⟨_, rfl, p, _, rfl, pd5, by omega, fun H6 b6 pd6 => ⟨true, rfl, ?_⟩⟩
          refine ⟨_, rfl, p, _, rfl, pd6, by omega, fun H7 b7 pd7 => ⟨true, rfl, ?_⟩⟩
          refine ⟨_, rfl, p, _, rfl, pd7, by omega, fun H8 b8 pd8 => ⟨true, rfl, iteF ?_⟩⟩
          exact ⟨_, rfl, ((((b3.trans b4).trans b5).trans b6).trans b7).trans b8, pd8.mono (by push_cast; omega)⟩
        · rintro σ H3 ⟨y3, rfl, b3, pd3⟩
          exact ⟨_, _, _, rfl, s0.trans (b3.same s1 hp0)⟩
    · rintro σ H0 ⟨y1, y2, y3, rfl, s0⟩
      refine ⟨10, 0, 4, 3, 2, rfl, by decide, by decide +kernel, by decide, by decide, fun ra H1 ha s1 => ?_⟩
      refine ⟨10, 0, 4, 5, 1, rfl, by decide, by decide +kernel, by decide, by decide, fun rb H2 hb s2 => ?_⟩
      refine ⟨10, 3, 0, 3, 1, rfl, by decide, by decide +kernel, by decide, by decide, fun rc H3 hc s3 => ⟨(by show 3 ≤ sizeLine; decide), fun L hL => ⟨(by show 3 ≤ sizeLine; decide), fun T hT => ?_⟩⟩⟩
      obtain rfl := ha.uniq hit1
      obtain rfl := hb.uniq hit2
      obtain rfl := hc.uniq hit3
      exact eqOpts [some 1, none, some 0] (Same.new hT _ _ upd_same) upd_same (q _)
end
end Gr

set_option Elab.async false
set_option linter.all false
set_option maxRecDepth 100000
set_option maxHeartbeats 8000000
namespace Gr
open PySem PySem.Spec PyProof.Rows L2
theorem all_mk {l : PySem.W.OpenLaw} {w : World} {K : PySem.W.Frag} {h : Heap} {mg : Str → Option Value} {fa : Addr} (X : K.In h) (G : h.Ns mainGlobals mg) (hfa : mg "law" = some (.ref fa))
    {f0 : Addr} {od0 an0 : Option Addr} {sl0 : Array (Option Value)} {oc0 kV0 dc0 pm0 cd0 ct0 : Value}
    (a0 : PySem.W.nsIn K mainGlobals "is_whole" = some (some (.ref f0))) (l0 : K.lookup f0 = some ⟨oc0, od0, .func (PySem.W.fnOf "is_whole" "is_whole" (defArgs s_is_whole) (defBody s_is_whole) (defScope s_is_whole) .none kV0 dc0 pm0 an0 cd0 ct0), sl0⟩) (c0 : PySem.W.codeIn K cd0 "is_whole" = true) (k0 : PySem.W.keepIn K (.ref f0) = true)
    {f1 : Addr} {od1 an1 : Option Addr} {sl1 : Array (Option Value)} {oc1 kV1 dc1 pm1 cd1 ct1 : Value}
    (a1 : PySem.W.nsIn K mainGlobals "check_cycle" = some (some (.ref f1))) (l1 : K.lookup f1 = some ⟨oc1, od1, .func (PySem.W.fnOf "check_cycle" "check_cycle" (defArgs s_check_cycle) (defBody s_check_cycle) (defScope s_check_cycle) .none kV1 dc1 pm1 an1 cd1 ct1), sl1⟩) (c1 : PySem.W.codeIn K cd1 "check_cycle" = true) (k1 : PySem.W.keepIn K (.ref f1) = true)
    {f2 : Addr} {od2 an2 : Option Addr} {sl2 : Array (Option Value)} {oc2 kV2 dc2 pm2 cd2 ct2 : Value}
    (a2 : PySem.W.nsIn K mainGlobals "check_number" = some (some (.ref f2))) (l2 : K.lookup f2 = some ⟨oc2, od2, .func (PySem.W.fnOf "check_number" "check_number" (defArgs s_check_number) (defBody s_check_number) (defScope s_check_number) .none kV2 dc2 pm2 an2 cd2 ct2), sl2⟩) (c2 : PySem.W.codeIn K cd2 "check_number" = true) (k2 : PySem.W.keepIn K (.ref f2) = true)
    {f3 : Addr} {od3 an3 : Option Addr} {sl3 : Array (Option Value)} {oc3 kV3 dc3 pm3 cd3 ct3 : Value}
    (a3 : PySem.W.nsIn K mainGlobals "check_number_in" = some (some (.ref f3))) (l3 : K.lookup f3 = some ⟨oc3, od3, .func (PySem.W.fnOf "check_number_in" "check_number_in" (defArgs s_check_number_in) (defBody s_check_number_in) (defScope s_check_number_in) .none kV3 dc3 pm3 an3 cd3 ct3), sl3⟩) (c3 : PySem.W.codeIn K cd3 "check_number_in" = true) (k3 : PySem.W.keepIn K (.ref f3) = true)
    {f4 : Addr} {od4 an4 : Option Addr} {sl4 : Array (Option Value)} {oc4 kV4 dc4 pm4 cd4 ct4 : Value}
    (a4 : PySem.W.nsIn K mainGlobals "first_hit" = some (some (.ref f4))) (l4 : K.lookup f4 = some ⟨oc4, od4, .func (PySem.W.fnOf "first_hit" "first_hit" (defArgs s_first_hit) (defBody s_first_hit) (defScope s_first_hit) .none kV4 dc4 pm4 an4 cd4 ct4), sl4⟩) (c4 : PySem.W.codeIn K cd4 "first_hit" = true) (k4 : PySem.W.keepIn K (.ref f4) = true)
    {f5 : Addr} {od5 an5 : Option Addr} {sl5 : Array (Option Value)} {oc5 kV5 dc5 pm5 cd5 ct5 : Value}
    (a5 : PySem.W.nsIn K mainGlobals "met_within" = some (some (.ref f5))) (l5 : K.lookup f5 = some ⟨oc5, od5, .func (PySem.W.fnOf "met_within" "met_within" (defArgs s_met_within) (defBody s_met_within) (defScope s_met_within) .none kV5 dc5 pm5 an5 cd5 ct5), sl5⟩) (c5 : PySem.W.codeIn K cd5 "met_within" = true) (k5 : PySem.W.keepIn K (.ref f5) = true)
    {f6 : Addr} {od6 an6 : Option Addr} {sl6 : Array (Option Value)} {oc6 kV6 dc6 pm6 cd6 ct6 : Value}
    (a6 : PySem.W.nsIn K mainGlobals "least_factor" = some (some (.ref f6))) (l6 : K.lookup f6 = some ⟨oc6, od6, .func (PySem.W.fnOf "least_factor" "least_factor" (defArgs s_least_factor) (defBody s_least_factor) (defScope s_least_factor) .none kV6 dc6 pm6 an6 cd6 ct6), sl6⟩) (c6 : PySem.W.codeIn K cd6 "least_factor" = true) (k6 : PySem.W.keepIn K (.ref f6) = true)
    {f7 : Addr} {od7 an7 : Option Addr} {sl7 : Array (Option Value)} {oc7 kV7 dc7 pm7 cd7 ct7 : Value}
    (a7 : PySem.W.nsIn K mainGlobals "factor_outside" = some (some (.ref f7))) (l7 : K.lookup f7 = some ⟨oc7, od7, .func (PySem.W.fnOf "factor_outside" "factor_outside" (defArgs s_factor_outside) (defBody s_factor_outside) (defScope s_factor_outside) .none kV7 dc7 pm7 an7 cd7 ct7), sl7⟩) (c7 : PySem.W.codeIn K cd7 "factor_outside" = true) (k7 : PySem.W.keepIn K (.ref f7) = true)
    {f8 : Addr} {od8 an8 : Option Addr} {sl8 : Array (Option Value)} {oc8 kV8 dc8 pm8 cd8 ct8 : Value}
    (a8 : PySem.W.nsIn K mainGlobals "_law_pond" = some (some (.ref f8))) (l8 : K.lookup f8 = some ⟨oc8, od8, .func (PySem.W.fnOf "_law_pond" "_law_pond" (defArgs s_l_pond) (defBody s_l_pond) (defScope s_l_pond) .none kV8 dc8 pm8 an8 cd8 ct8), sl8⟩) (c8 : PySem.W.codeIn K cd8 "_law_pond" = true) (k8 : PySem.W.keepIn K (.ref f8) = true)
    {f9 : Addr} {od9 an9 : Option Addr} {sl9 : Array (Option Value)} {oc9 kV9 dc9 pm9 cd9 ct9 : Value}
    (a9 : PySem.W.nsIn K mainGlobals "_law_fish" = some (some (.ref f9))) (l9 : K.lookup f9 = some ⟨oc9, od9, .func (PySem.W.fnOf "_law_fish" "_law_fish" (defArgs s_l_fish) (defBody s_l_fish) (defScope s_l_fish) .none kV9 dc9 pm9 an9 cd9 ct9), sl9⟩) (c9 : PySem.W.codeIn K cd9 "_law_fish" = true) (k9 : PySem.W.keepIn K (.ref f9) = true)
    {f10 : Addr} {od10 an10 : Option Addr} {sl10 : Array (Option Value)} {oc10 kV10 dc10 pm10 cd10 ct10 : Value}
    (a10 : PySem.W.nsIn K mainGlobals "_law_least" = some (some (.ref f10))) (l10 : K.lookup f10 = some ⟨oc10, od10, .func (PySem.W.fnOf "_law_least" "_law_least" (defArgs s_l_least) (defBody s_l_least) (defScope s_l_least) .none kV10 dc10 pm10 an10 cd10 ct10), sl10⟩) (c10 : PySem.W.codeIn K cd10 "_law_least" = true) (k10 : PySem.W.keepIn K (.ref f10) = true)
    {f11 : Addr} {od11 an11 : Option Addr} {sl11 : Array (Option Value)} {oc11 kV11 dc11 pm11 cd11 ct11 : Value}
    (a11 : PySem.W.nsIn K mainGlobals "_law_small_right" = some (some (.ref f11))) (l11 : K.lookup f11 = some ⟨oc11, od11, .func (PySem.W.fnOf "_law_small_right" "_law_small_right" (defArgs s_l_small_right) (defBody s_l_small_right) (defScope s_l_small_right) .none kV11 dc11 pm11 an11 cd11 ct11), sl11⟩) (c11 : PySem.W.codeIn K cd11 "_law_small_right" = true) (k11 : PySem.W.keepIn K (.ref f11) = true)
    {f12 : Addr} {od12 an12 : Option Addr} {sl12 : Array (Option Value)} {oc12 kV12 dc12 pm12 cd12 ct12 : Value}
    (a12 : PySem.W.nsIn K mainGlobals "_law_great_right" = some (some (.ref f12))) (l12 : K.lookup f12 = some ⟨oc12, od12, .func (PySem.W.fnOf "_law_great_right" "_law_great_right" (defArgs s_l_great_right) (defBody s_l_great_right) (defScope s_l_great_right) .none kV12 dc12 pm12 an12 cd12 ct12), sl12⟩) (c12 : PySem.W.codeIn K cd12 "_law_great_right" = true) (k12 : PySem.W.keepIn K (.ref f12) = true)
    {f13 : Addr} {od13 an13 : Option Addr} {sl13 : Array (Option Value)} {oc13 kV13 dc13 pm13 cd13 ct13 : Value}
    (a13 : PySem.W.nsIn K mainGlobals "_law_turns_right" = some (some (.ref f13))) (l13 : K.lookup f13 = some ⟨oc13, od13, .func (PySem.W.fnOf "_law_turns_right" "_law_turns_right" (defArgs s_l_turns_right) (defBody s_l_turns_right) (defScope s_l_turns_right) .none kV13 dc13 pm13 an13 cd13 ct13), sl13⟩) (c13 : PySem.W.codeIn K cd13 "_law_turns_right" = true) (k13 : PySem.W.keepIn K (.ref f13) = true)
    {f14 : Addr} {od14 an14 : Option Addr} {sl14 : Array (Option Value)} {oc14 kV14 dc14 pm14 cd14 ct14 : Value}
    (a14 : PySem.W.nsIn K mainGlobals "_law_wide_right" = some (some (.ref f14))) (l14 : K.lookup f14 = some ⟨oc14, od14, .func (PySem.W.fnOf "_law_wide_right" "_law_wide_right" (defArgs s_l_wide_right) (defBody s_l_wide_right) (defScope s_l_wide_right) .none kV14 dc14 pm14 an14 cd14 ct14), sl14⟩) (c14 : PySem.W.codeIn K cd14 "_law_wide_right" = true) (k14 : PySem.W.keepIn K (.ref f14) = true)
    {f15 : Addr} {od15 an15 : Option Addr} {sl15 : Array (Option Value)} {oc15 kV15 dc15 pm15 cd15 ct15 : Value}
    (a15 : PySem.W.nsIn K mainGlobals "_law_between_right" = some (some (.ref f15))) (l15 : K.lookup f15 = some ⟨oc15, od15, .func (PySem.W.fnOf "_law_between_right" "_law_between_right" (defArgs s_l_between_right) (defBody s_l_between_right) (defScope s_l_between_right) .none kV15 dc15 pm15 an15 cd15 ct15), sl15⟩) (c15 : PySem.W.codeIn K cd15 "_law_between_right" = true) (k15 : PySem.W.keepIn K (.ref f15) = true)
    {f16 : Addr} {od16 an16 : Option Addr} {sl16 : Array (Option Value)} {oc16 kV16 dc16 pm16 cd16 ct16 : Value}
    (a16 : PySem.W.nsIn K mainGlobals "_law_straight_right" = some (some (.ref f16))) (l16 : K.lookup f16 = some ⟨oc16, od16, .func (PySem.W.fnOf "_law_straight_right" "_law_straight_right" (defArgs s_l_straight_right) (defBody s_l_straight_right) (defScope s_l_straight_right) .none kV16 dc16 pm16 an16 cd16 ct16), sl16⟩) (c16 : PySem.W.codeIn K cd16 "_law_straight_right" = true) (k16 : PySem.W.keepIn K (.ref f16) = true)
    {f17 : Addr} {od17 an17 : Option Addr} {sl17 : Array (Option Value)} {oc17 kV17 dc17 pm17 cd17 ct17 : Value}
    (a17 : PySem.W.nsIn K mainGlobals "law" = some (some (.ref f17))) (l17 : K.lookup f17 = some ⟨oc17, od17, .func (PySem.W.fnOf "law" "law" (defArgs s_law) (defBody s_law) (defScope s_law) .none kV17 dc17 pm17 an17 cd17 ct17), sl17⟩) (c17 : PySem.W.codeIn K cd17 "law" = true) (k17 : PySem.W.keepIn K (.ref f17) = true)
    (z0 : PySem.W.nsIn K mainGlobals "bool" = some none)
    (z1 : PySem.W.nsIn K mainGlobals "int" = some none)
    (z2 : PySem.W.nsIn K mainGlobals "isinstance" = some none)
    (z3 : PySem.W.nsIn K mainGlobals "len" = some none)
    (z4 : PySem.W.nsIn K mainGlobals "max" = some none)
    (z5 : PySem.W.nsIn K mainGlobals "min" = some none)
    (z6 : PySem.W.nsIn K mainGlobals "range" = some none)
    (z7 : PySem.W.nsIn K mainGlobals "repr" = some none)
    (z8 : PySem.W.nsIn K mainGlobals "reversed" = some none)
    {tMOST_CYCLE : Tok} (mMOST_CYCLE : PySem.W.nsIn K mainGlobals "MOST_CYCLE" = some (some (.int 1000000000000000000000000000000 tMOST_CYCLE)))
    : ∃ fd : FuncData, (∀ (s : Shared) (v : Value), BindsTo s fd ⟨[v], []⟩ [("_law_script", v)]) ∧ ∀ base : Heap, K.In base → base.Ns mainGlobals mg → FnG l.prog w K mg base CX0 6 fa fd ["_law_script"] (spLaw K) := by
  have e := hfa.symm.trans (PySem.W.mg_of X G a17)
  cases e
  have B : Blt mg tMOST_CYCLE := ⟨PySem.W.mg_none_of X G z0, PySem.W.mg_none_of X G z1, PySem.W.mg_none_of X G z2, PySem.W.mg_none_of X G z3, PySem.W.mg_none_of X G z4, PySem.W.mg_none_of X G z5, PySem.W.mg_none_of X G z6, PySem.W.mg_none_of X G z7, PySem.W.mg_none_of X G z8, (PySem.W.mg_of X G mMOST_CYCLE).trans (congrArg (fun z => some (Value.int z tMOST_CYCLE)) (show (1000000000000000000000000000000 : Int) = (10 ^ 30) by decide +kernel))⟩
  have F0 := fun_mk (st := s_is_whole) l0 c0 k0
  have Dis_whole : Def K mg "is_whole" s_is_whole ["value"] f0 _ := ⟨F0, PySem.W.mg_of X G a0, F0.binds (ps := ["value"]) fun _ _ _ _ _ _ us hl => match us, hl with | [_], _ => rfl⟩
  have F1 := fun_mk (st := s_check_cycle) l1 c1 k1
  have Dcheck_cycle : Def K mg "check_cycle" s_check_cycle ["cycle"] f1 _ := ⟨F1, PySem.W.mg_of X G a1, F1.binds (ps := ["cycle"]) fun _ _ _ _ _ _ us hl => match us, hl with | [_], _ => rfl⟩
  have F2 := fun_mk (st := s_check_number) l2 c2 k2
  have Dcheck_number : Def K mg "check_number" s_check_number ["number"] f2 _ := ⟨F2, PySem.W.mg_of X G a2, F2.binds (ps := ["number"]) fun _ _ _ _ _ _ us hl => match us, hl with | [_], _ => rfl⟩
  have F3 := fun_mk (st := s_check_number_in) l3 c3 k3
  have Dcheck_number_in : Def K mg "check_number_in" s_check_number_in ["number", "least", "most"] f3 _ := ⟨F3, PySem.W.mg_of X G a3, F3.binds (ps := ["number", "least", "most"]) fun _ _ _ _ _ _ us hl => match us, hl with | [_, _, _], _ => rfl⟩
  have F4 := fun_mk (st := s_first_hit) l4 c4 k4
  have Dfirst_hit : Def K mg "first_hit" s_first_hit ["cycle", "begin", "step", "first", "length"] f4 _ := ⟨F4, PySem.W.mg_of X G a4, F4.binds (ps := ["cycle", "begin", "step", "first", "length"]) fun _ _ _ _ _ _ us hl => match us, hl with | [_, _, _, _, _], _ => rfl⟩
  have F5 := fun_mk (st := s_met_within) l5 c5 k5
  have Dmet_within : Def K mg "met_within" s_met_within ["cycle", "begin", "step", "stretch", "most"] f5 _ := ⟨F5, PySem.W.mg_of X G a5, F5.binds (ps := ["cycle", "begin", "step", "stretch", "most"]) fun _ _ _ _ _ _ us hl => match us, hl with | [_, _, _, _, _], _ => rfl⟩
  have F6 := fun_mk (st := s_least_factor) l6 c6 k6
  have Dleast_factor : Def K mg "least_factor" s_least_factor ["whole", "step", "low", "high", "most"] f6 _ := ⟨F6, PySem.W.mg_of X G a6, F6.binds (ps := ["whole", "step", "low", "high", "most"]) fun _ _ _ _ _ _ us hl => match us, hl with | [_, _, _, _, _], _ => rfl⟩
  have F7 := fun_mk (st := s_factor_outside) l7 c7 k7
  have Dfactor_outside : Def K mg "factor_outside" s_factor_outside ["outer", "count"] f7 _ := ⟨F7, PySem.W.mg_of X G a7, F7.binds (ps := ["outer", "count"]) fun _ _ _ _ _ _ us hl => match us, hl with | [_, _], _ => rfl⟩
  have F8 := fun_mk (st := s_l_pond) l8 c8 k8
  have Dl_pond : Def K mg "_law_pond" s_l_pond ["_law_script", "_law_k"] f8 _ := ⟨F8, PySem.W.mg_of X G a8, F8.binds (ps := ["_law_script", "_law_k"]) fun _ _ _ _ _ _ us hl => match us, hl with | [_, _], _ => rfl⟩
  have F9 := fun_mk (st := s_l_fish) l9 c9 k9
  have Dl_fish : Def K mg "_law_fish" s_l_fish ["_law_pond_here", "_law_bound"] f9 _ := ⟨F9, PySem.W.mg_of X G a9, F9.binds (ps := ["_law_pond_here", "_law_bound"]) fun _ _ _ _ _ _ us hl => match us, hl with | [_, _], _ => rfl⟩
  have F10 := fun_mk (st := s_l_least) l10 c10 k10
  have Dl_least : Def K mg "_law_least" s_l_least ["_law_span", "_law_begin", "_law_step", "_law_place", "_law_size"] f10 _ := ⟨F10, PySem.W.mg_of X G a10, F10.binds (ps := ["_law_span", "_law_begin", "_law_step", "_law_place", "_law_size"]) fun _ _ _ _ _ _ us hl => match us, hl with | [_, _, _, _, _], _ => rfl⟩
  have F11 := fun_mk (st := s_l_small_right) l11 c11 k11
  have Dl_small_right : Def K mg "_law_small_right" s_l_small_right ["_law_pond_here", "_law_span"] f11 _ := ⟨F11, PySem.W.mg_of X G a11, F11.binds (ps := ["_law_pond_here", "_law_span"]) fun _ _ _ _ _ _ us hl => match us, hl with | [_, _], _ => rfl⟩
  have F12 := fun_mk (st := s_l_great_right) l12 c12 k12
  have Dl_great_right : Def K mg "_law_great_right" s_l_great_right ["_law_pond_here"] f12 _ := ⟨F12, PySem.W.mg_of X G a12, F12.binds (ps := ["_law_pond_here"]) fun _ _ _ _ _ _ us hl => match us, hl with | [_], _ => rfl⟩
  have F13 := fun_mk (st := s_l_turns_right) l13 c13 k13
  have Dl_turns_right : Def K mg "_law_turns_right" s_l_turns_right ["_law_pond_here"] f13 _ := ⟨F13, PySem.W.mg_of X G a13, F13.binds (ps := ["_law_pond_here"]) fun _ _ _ _ _ _ us hl => match us, hl with | [_], _ => rfl⟩
  have F14 := fun_mk (st := s_l_wide_right) l14 c14 k14
  have Dl_wide_right : Def K mg "_law_wide_right" s_l_wide_right ["_law_pond_here"] f14 _ := ⟨F14, PySem.W.mg_of X G a14, F14.binds (ps := ["_law_pond_here"]) fun _ _ _ _ _ _ us hl => match us, hl with | [_], _ => rfl⟩
  have F15 := fun_mk (st := s_l_between_right) l15 c15 k15
  have Dl_between_right : Def K mg "_law_between_right" s_l_between_right ["_law_pond_here"] f15 _ := ⟨F15, PySem.W.mg_of X G a15, F15.binds (ps := ["_law_pond_here"]) fun _ _ _ _ _ _ us hl => match us, hl with | [_], _ => rfl⟩
  have F16 := fun_mk (st := s_l_straight_right) l16 c16 k16
  have Dl_straight_right : Def K mg "_law_straight_right" s_l_straight_right ["_law_pond_here"] f16 _ := ⟨F16, PySem.W.mg_of X G a16, F16.binds (ps := ["_law_pond_here"]) fun _ _ _ _ _ _ us hl => match us, hl with | [_], _ => rfl⟩
  have F17 := fun_mk (st := s_law) l17 c17 k17
  have Dlaw : Def K mg "law" s_law ["_law_script"] fa _ := ⟨F17, PySem.W.mg_of X G a17, F17.binds (ps := ["_law_script"]) fun _ _ _ _ _ _ us hl => match us, hl with | [_], _ => rfl⟩
  refine ⟨PySem.W.fnOf "law" "law" (defArgs s_law) (defBody s_law) (defScope s_law) .none kV17 dc17 pm17 an17 cd17 ct17, fun s v => .of_eq rfl, fun base _ _ => ?_⟩
  have Gfirst_hit := ok_hit (P := l.prog) (w := w) (base := base) B Dfirst_hit Dleast_factor Dfactor_outside Dis_whole Dcheck_cycle Dcheck_number Dcheck_number_in Dmet_within
  have Gl_small_right := ok_small (P := l.prog) (w := w) (base := base) B Dl_small_right Dl_fish Dfirst_hit Dl_least Gfirst_hit
  have Gl_great_right := ok_great (P := l.prog) (w := w) (base := base) B Dl_great_right Dl_fish Dfirst_hit Gfirst_hit
  have Gl_turns_right := ok_turns (P := l.prog) (w := w) (base := base) B Dl_turns_right Dl_fish Dfirst_hit Gfirst_hit
  have Gl_straight_right := ok_straight (P := l.prog) (w := w) (base := base) B Dl_straight_right Dl_fish Dfirst_hit Gfirst_hit
  have Gl_wide_right := ok_wide (P := l.prog) (w := w) (base := base) B Dl_wide_right Dl_fish Dfirst_hit Gfirst_hit
  have Gl_between_right := ok_between (P := l.prog) (w := w) (base := base) B Dl_between_right Dl_fish Dfirst_hit Gfirst_hit
  exact ok_law B Dlaw Dl_fish Dl_pond Dfirst_hit Dl_small_right Dl_great_right Dl_turns_right Dl_straight_right Dl_wide_right Dl_between_right Gfirst_hit Gl_small_right Gl_great_right Gl_turns_right Gl_straight_right Gl_wide_right Gl_between_right
end Gr
open PySem PySem.W PyProof.Rows
set_option maxHeartbeats 0 in
theorem PySem.Challenge.cw_greenroads_k04_first_hits_holds : PySem.Challenge.rw_greenroads_k04_first_hits.Holds := by
  w_on; o_law; k_head; (case hw => w_witness2)
  k_fill
  refine Gr.walkG (l := PySem.Challenge.rw_greenroads_k04_first_hits) (n := 63) (k := 6) (x := "_law_script") (sp := Gr.spLaw) rfl (by decide) rfl ⟨rfl, by decide, by decide⟩ (fun w h Y => PySem.W.kIn_of Y) ?F (fun K G a ns hl _ hS => ⟨a, ns, rfl, hS, hl, fun _ => rfl⟩)
  case F =>
    intro w mg fa h KX G hmg
    refine' Gr.all_mk KX G hmg ?a0 ?l0 ?c0 ?k0 ?a1 ?l1 ?c1 ?k1 ?a2 ?l2 ?c2 ?k2 ?a3 ?l3 ?c3 ?k3 ?a4 ?l4 ?c4 ?k4 ?a5 ?l5 ?c5 ?k5 ?a6 ?l6 ?c6 ?k6 ?a7 ?l7 ?c7 ?k7 ?a8 ?l8 ?c8 ?k8 ?a9 ?l9 ?c9 ?k9 ?a10 ?l10 ?c10 ?k10 ?a11 ?l11 ?c11 ?k11 ?a12 ?l12 ?c12 ?k12 ?a13 ?l13 ?c13 ?k13 ?a14 ?l14 ?c14 ?k14 ?a15 ?l15 ?c15 ?k15 ?a16 ?l16 ?c16 ?k16 ?a17 ?l17 ?c17 ?k17 ?z0 ?z1 ?z2 ?z3 ?z4 ?z5 ?z6 ?z7 ?z8 ?mMOST_CYCLE
    (case a0 => k_is)
    (case l0 => k_is)
    (case c0 => k_is)
    (case k0 => k_is)
    (case a1 => k_is)
    (case l1 => k_is)
    (case c1 => k_is)
    (case k1 => k_is)
    (case a2 => k_is)
    (case l2 => k_is)
    (case c2 => k_is)
    (case k2 => k_is)
    (case a3 => k_is)
    (case l3 => k_is)
    (case c3 => k_is)
    (case k3 => k_is)
    (case a4 => k_is)
    (case l4 => k_is)
    (case c4 => k_is)
    (case k4 => k_is)
    (case a5 => k_is)
    (case l5 => k_is)
    (case c5 => k_is)
    (case k5 => k_is)
    (case a6 => k_is)
    (case l6 => k_is)
    (case c6 => k_is)
    (case k6 => k_is)
    (case a7 => k_is)
    (case l7 => k_is)
    (case c7 => k_is)
    (case k7 => k_is)
    (case a8 => k_is)
    (case l8 => k_is)
    (case c8 => k_is)
    (case k8 => k_is)
    (case a9 => k_is)
    (case l9 => k_is)
    (case c9 => k_is)
    (case k9 => k_is)
    (case a10 => k_is)
    (case l10 => k_is)
    (case c10 => k_is)
    (case k10 => k_is)
    (case a11 => k_is)
    (case l11 => k_is)
    (case c11 => k_is)
    (case k11 => k_is)
    (case a12 => k_is)
    (case l12 => k_is)
    (case c12 => k_is)
    (case k12 => k_is)
    (case a13 => k_is)
    (case l13 => k_is)
    (case c13 => k_is)
    (case k13 => k_is)
    (case a14 => k_is)
    (case l14 => k_is)
    (case c14 => k_is)
    (case k14 => k_is)
    (case a15 => k_is)
    (case l15 => k_is)
    (case c15 => k_is)
    (case k15 => k_is)
    (case a16 => k_is)
    (case l16 => k_is)
    (case c16 => k_is)
    (case k16 => k_is)
    (case a17 => k_is)
    (case l17 => k_is)
    (case c17 => k_is)
    (case k17 => k_is)
    (case z0 => k_is)
    (case z1 => k_is)
    (case z2 => k_is)
    (case z3 => k_is)
    (case z4 => k_is)
    (case z5 => k_is)
    (case z6 => k_is)
    (case z7 => k_is)
    (case z8 => k_is)
    (case mMOST_CYCLE => k_is)
