import PyProof.Rows.All
import Wide.All
import OpenK.AllK
import Wide.FinOn
import HandS.ForMost
import HandS.Style
import HandS.IsInst
import HandS.RaiseMore
import HandS.Wide
import HandS.WideBits
import HandS.TupLe
import HandS.TupAny
import HandS.Flow
import HandS.Replace
import KE.LtData
import KE.SortData
import PySem.Challenge.RW_heldparts_k03_names_by_number
set_option Elab.async false
set_option linter.all false
set_option maxRecDepth 100000
set_option maxHeartbeats 16000000
/-! Promises of defs that are kept where no repr is under way, and what repr says of data. -/
namespace Lay
open PySem PySem.Spec PyProof.Rows L2

/-- no repr is under way -/
abbrev Quiet (A : Around) : Prop := A.guards = some []

structure FnG (P : Program) (w : World) (K : PySem.W.Frag)
    (mg : Str → Option Value) (base : Heap) (CX : CXT) (k : Nat)
    (f : Addr) (fd : FuncData) (ps : List Str) (sp : Sp) : Prop where
  len : ∀ zs G R Z, sp zs G R Z → zs.length = ps.length
  run : ∀ (A : Around) (out : List Env) (t : Shared) (G : Hp) (ar : Args) (ws : List Value) (zs : List V)
    (R : VK) (Z : XK), Room k A → Quiet A → Env0 P w K mg base A out t G →
    BindsTo t fd ar (ps.zip ws) → Vals zs ws → sp zs G R Z →
    codeAny (model P w) A (.call (.ref f) ar) (CR CX out P w G t R Z) t

section
variable {P : Program} {w : World} {K : PySem.W.Frag} {mg : Str → Option Value} {base : Heap}
variable {CX : CXT} {k : Nat} {f : Addr} {fd : FuncData} {ps : List Str} {sp : Sp}
theorem ofOk (F : FnOk P w K mg base CX k f fd ps sp) : FnG P w K mg base CX k f fd ps sp where
  len := F.len
  run := by
    intro A out t G ar ws zs R Z hr _ he hb hv hs
    exact F.run A out t G ar ws zs R Z hr he hb hv hs

theorem FnG.mono {j : Nat} (F : FnG P w K mg base CX j f fd ps sp) (h : j ≤ k) : FnG P w K mg base CX k f fd ps sp where
  len := F.len
  run := by
    intro A out t G ar ws zs R Z hr hq he hb hv hs
    exact F.run A out t G ar ws zs R Z (hr.mono h) hq he hb hv hs
end

section
variable {X : Cx} {CX : CXT} {k : Nat} {f : Addr} {fd : FuncData} {ps ks : List Str} {sp : Sp}
variable {dvs : List V} {ds : List Value} {E : XK} {x : Str} {p pos : Pos} {e : Expr} {es : List Expr} {t tk : TA} {kws : List Keyword}
variable {g : List Value → List Value → List Value} {gV : List V → List V → List V}

/-- what a call's result means for the body that called -/
theorem back {pins : List (Addr × Obj)} {σ : L2.St} {H : Hp} {s : Shared} {Q : VK}
    (hx : Passes CX X E) (I : Inv X pins σ H s) : ∀ (r : Result) (s' : Shared), CR CX X.stack X.prog X.w H s Q E r s' →
    (match r with
      | .ok (.ret u) => EP X pins σ Q u s'
      | .ok _ => False
      | .error b => X.xe b s')
  | .error b, s', hq => hx pins σ H s b s' I hq
  | .ok (.ret u), s', hq => I.after hq
  | .ok .next, _, hq => False.elim hq
  | .ok .brk, _, hq => False.elim hq
  | .ok .cont, _, hq => False.elim hq

theorem runG {pins : List (Addr × Obj)} {σ : L2.St} {H : Hp} {s : Shared} {Q : VK} {us : List Value} {vs : List V}
    (F : FnG X.prog X.w X.K X.mg X.base CX k f fd ps sp) (hr : Room k X.A) (hq : Quiet X.A)
    (hb : Binds X.K fd ps ds) (hd : Vals dvs ds) (hx : Passes CX X E)
    (I : Inv X pins σ H s) (r : Vals vs us) (h : sp (vs ++ dvs) H Q E) :
    wpAny (model X.prog X.w) X.A (call (.ref f) us) (EP X pins σ Q) X.xe s := by
  have r2 := Vals.append r hd
  have hl : (us ++ ds).length = ps.length := r2.length.symm.trans (F.len _ _ _ _ h)
  have main := F.run X.A X.stack s H ⟨us, []⟩ (us ++ ds) (vs ++ dvs) Q E hr hq (Inv.env0 I) (hb s us I.kIn hl) r2 h
  refine wpAny_call (codeAny_mono main ?_)
  intro r s' hh
  have z := back hx I r s' hh
  rcases r with b | fl
  · exact z
  · cases fl <;> exact z

theorem pe_callG (F : FnG X.prog X.w X.K X.mg X.base CX k f fd ps sp) (hr : Room k X.A) (hq : Quiet X.A)
    (hg : Gl X x) (hm : X.mg x = some (.ref f)) (hk : PySem.W.keepIn X.K (.ref f) = true)
    (hb : Binds X.K fd ps ds) (hd : Vals dvs ds) (hx : Passes CX X E) (ha : PA X (e :: es) t)
    (hdb : (x == ("__debug__" : Str)) = false := by decide)
    (he : starEach (e :: es) X.env = (false, eval e X.env) :: starEach es X.env := by rfl)
    (hpl : (backTo pos (starEach es X.env)).any (·.1) = false := by rfl) :
    PE X (.Call (.Name x p) (e :: es) [] pos) (tCall sp dvs E t) where
  run := by
    intro pins s σ H Q I h
    apply wpAny_Call_Name_kw
    refine ld_glob I hg hm ?_ hdb
    have args := ha.run pos pins s σ H _ I h
    refine PySem.W.callWith_K (h₀ := X.base) I.ok.mod.kin hk (thn args ?_) he hpl
    rintro us s1 ⟨vs, H1, I1, r, q⟩
    exact ⟨I1.kIn, runG F hr hq hb hd hx I1 r q⟩

theorem pe_callG0 (F : FnG X.prog X.w X.K X.mg X.base CX k f fd ps sp) (hr : Room k X.A) (hq : Quiet X.A)
    (hg : Gl X x) (hm : X.mg x = some (.ref f)) (hk : PySem.W.keepIn X.K (.ref f) = true)
    (hb : Binds X.K fd ps ds) (hd : Vals dvs ds) (hx : Passes CX X E)
    (hdb : (x == ("__debug__" : Str)) = false := by decide) : PE X (.Call (.Name x p) [] [] pos) (tCall sp dvs E tNil) where
  run := by
    intro pins s σ H Q I h
    apply wpAny_Call_Name_kw
    refine ld_glob I hg hm ?_ hdb
    exact PySem.W.callWith_K0 I.kIn hk (runG (us := []) F hr hq hb hd hx I .nil h)
end

section
variable {P : Program} {w : World} {K : PySem.W.Frag} {mg : Str → Option Value} {base : Heap}
/-- a def by its body, where no repr is under way -/
theorem okG {x qual : Str} {st : Stmt} {f : Addr} {fd : FuncData} {N ps : List Str} {k : Nat} {sp : Sp}
    (F : Fun K x qual st f fd) (S : FnScope N ps (defScope st))
    (len : ∀ zs G R Z, sp zs G R Z → zs.length = ps.length)
    (body : ∀ (cv : Value) (A : Around) (out : List Env) (t : Shared) (G : Hp) (zs : List V) (R : VK) (Z : XK),
      Room k (A.deeper (envOfC qual (defScope st) t.heap.objs.size f cv)) → Quiet A → sp zs G R Z →
      ∃ b, PSs (cxOf CX0 P w K mg base N qual (defScope st) f cv A out t G Z).nox (defBody st) b ∧
        b { nx := fun _ G' => R .non G', rt := R } (start N zs) G) :
    FnG P w K mg base CX0 (k + 1) f fd ps sp where
  len := len
  run := by
    obtain ⟨oc, od, kV, dc, pm, an, cv, ct, sl, rfl, lk, hcd⟩ := F.ex
    intro A out t G ar ws zs R Z hr hq e0 hb r hsp
    have old : ∀ b o, base.get? b = some o → t.heap.get? b = some o := fun b o q => (e0.bs b o q).1
    have KX : K.In t.heap := e0.mod.kin.keeps old
    have lim : t.heap.NoLimit := e0.mod.nolimit.keeps old
    obtain ⟨b, hP, hB⟩ := body cv A out t G zs R Z (hr.deeper _) hq hsp
    have kinds : ∀ y ∈ ps.zip ws, (defScope st).names.lookup y.1 = some .local ∨
        ((defScope st).names.lookup y.1 = some .cell ∧ ((cellsFrom (t.heap.objs.size + 1) (defScope st).names []).lookup y.1).isSome = true) := by
      rintro ⟨n, v⟩ hy
      have hn : n ∈ ps := (List.of_mem_zip hy).1
      exact (S.par n hn).imp id fun q => ⟨q, PySem.W.cellsFrom_some _ _ _ (.inl q)⟩
    refine codeAny_call_function hr.depth (KX _ _ lk) rfl S.co S.gen rfl (PySem.W.codeRec_of KX hcd) (hb _ _ _ _ ?_)
    refine wpAny_newFunctionEnv_cells S.kind kinds ?_
    rintro env rfl s1 x
    refine ⟨lim.keeps x.toInCall.keep, codeAny_func ?_⟩
    have I0 := inv_start (CX := CX0) (E := Z) S hr.hd e0 (len _ _ _ _ hsp) r x
    refine wpAny_mono (hP.nox.run [] s1 (start N zs) G _ I0 hB) ?_ fun _ _ hz => hz
    intro fl s' hs
    cases fl with
    | ret u =>
      obtain ⟨v, _, G', J, rv, q⟩ := hs
      exact ⟨v, G', J.os, J.bare, J.base, J.hok, rv, q⟩
    | next =>
      obtain ⟨_, G', J, q⟩ := hs
      exact ⟨V.non, G', J.os, J.bare, J.base, J.hok, rfl, q⟩
    | brk => exact (hs.choose_spec.choose_spec.2 : False).elim
    | cont => exact (hs.choose_spec.choose_spec.2 : False).elim
end

/-! ### repr of data -/
section
variable {X : Cx}
/-- the text of data -/
def rRepr (K : PySem.W.Frag) : List V → Hp → VK → Prop := fun xs H Q =>
  ∃ v d, xs = [v] ∧ Dp K H v d ∧ d.showable = true ∧ d.depth ≤ 60 ∧ d.shown.length ≤ sizeLine ∧ Q (.str d.shown) H
theorem noDict : ∀ (d : PyData) {K : PySem.W.Frag} {H : Hp} {v : V}, Dp K H v d → d.hasDict = false := by
  have all : ∀ n, (∀ d : PyData, sizeOf d < n → ∀ {K : PySem.W.Frag} {H : Hp} {v : V}, Dp K H v d → d.hasDict = false) := by
    intro n
    induction n with
    | zero => intro d h; omega
    | succ n ih =>
      have lst : ∀ (ds : List PyData) {K : PySem.W.Frag} {H : Hp} {vs : List V}, (∀ d ∈ ds, sizeOf d < n) → DpAll K H vs ds → PyData.hasDictAll ds = false := by
        intro ds
        induction ds with
        | nil => intros; simp [PyData.hasDictAll]
        | cons d r ihr =>
          intro K H vs hs h
          cases h with
          | cons h1 h2 =>
            have a := ih d (hs d (List.mem_cons_self ..)) h1
            have b := ihr (fun d' hd' => hs d' (List.mem_cons_of_mem _ hd')) h2
            simp [PyData.hasDictAll, a, b]
      intro d hd K H v h
      cases h with
      | non => simp [PyData.hasDict]
      | bl b => simp [PyData.hasDict]
      | int i => simp [PyData.hasDict]
      | str x => simp [PyData.hasDict]
      | lst hs ha =>
        rename_i ds
        have := lst ds (fun d' hm => by have := List.sizeOf_lt_of_mem hm; simp at hd; omega) ha
        simp [PyData.hasDict, this]
      | tup hs ha =>
        rename_i ds
        have := lst ds (fun d' hm => by have := List.sizeOf_lt_of_mem hm; simp at hd; omega) ha
        simp [PyData.hasDict, this]
  intro d K H v h
  exact all (sizeOf d + 1) d (by omega) h

theorem call_repr_D (hu : X.A.units + 64 < cLine) (hq : Quiet X.A) : CallR X (.builtin "repr") (rRepr X.K) := by
  intro pins s σ H xs us Q I r h
  obtain ⟨v, d, rfl, hd, hs, hdep, hsz, q⟩ := h
  obtain ⟨u, rfl, ru⟩ := vals1 r
  obtain ⟨as, rd⟩ := Dp.reads I d v u hd ru
  have nd := noDict d hd
  cases hd with
  | non =>
    cases ru
    rw [PyData.shown_none] at q
    exact PySem.P.repr_of_none ⟨.str _, H, I.tok _, ⟨_, rfl⟩, q⟩
  | bl b =>
    cases ru
    rw [PyData.shown_bool] at q
    exact PySem.P.repr_of_bool ⟨.str _, H, I.tok _, ⟨_, rfl⟩, q⟩
  | int i =>
    obtain ⟨t, rfl⟩ := ru
    rw [PyData.shown_int] at q
    have hs : i.natAbs.log2 < 1920 := by simpa [PyData.showable] using hs
    exact PySem.P.repr_of_int hs ⟨.str _, H, I.tok _, ⟨_, rfl⟩, q⟩
  | str x =>
    obtain ⟨t, rfl⟩ := ru
    rw [PyData.shown_str] at q hsz
    exact PySem.P.repr_of_str ⟨.str _, H, I.tok _, ⟨_, rfl⟩, q⟩ hsz
  | lst hs' ha =>
    cases ru
    refine repr_of_reads' rd hs (fun z => by rw [nd] at z; cases z) hq (by omega) (fun _ _ z => z) ?_ hsz
    intro h' u tk keep
    exact ⟨.str _, H, I.kept keep, ⟨u, rfl⟩, q⟩
  | tup hs' ha =>
    cases ru
    refine repr_of_reads' rd hs (fun z => by rw [nd] at z; cases z) hq (by omega) (fun _ _ z => z) ?_ hsz
    intro h' u tk keep
    exact ⟨.str _, H, I.kept keep, ⟨u, rfl⟩, q⟩
end

/-! ### a < b of data -/
section
variable {X : Cx}
def rLtD (K : PySem.W.Frag) : R2 := fun x y H Q => ∃ d e, Dp K H x d ∧ Dp K H y e ∧
  PySem.W.alike d e = true ∧ d ≠ .none ∧ min d.depth e.depth ≤ 60 ∧ Q (.bl (PySem.W.dataLt d e)) H
theorem op_ltD (hu : X.A.units + 64 < cLine) : OpR X (compareOp .Lt) (rLtD X.K) := by
  intro pins s σ H x y v u Q I rx ry h
  obtain ⟨d, e, hd, he, al, nn, hm, q⟩ := h
  obtain ⟨as, r1⟩ := Dp.reads I d x v hd rx
  obtain ⟨bs, r2⟩ := Dp.reads I e y u he ry
  have hroom : X.A.units + min d.depth e.depth < cLine := by omega
  exact PySem.W.rcLt_alike d e X.A s v u as bs r1 r2 al nn hroom _ _ _ _ ⟨.bl _, H, I, rfl, q⟩
end

/-! ### the law's own call: nothing of repr stands around it -/
section
variable {P : Program} {w : World} {K : PySem.W.Frag} {mg : Str → Option Value} {k : Nat} {fa : Addr} {fd : FuncData} {x : Str} {sp : Sp}
/-- what the entry sees of the heap: at most the script at `a` is tracked -/
structure Ent (H : Hp) (a : Addr) (t : Shared) (vs : List Value) : Prop where
  ok : HOk P w H t.heap
  at' : ∀ b, H b ≠ none → b = a ∧ ∃ o u, H b = some (.frz o u)
  obj : t.heap.get? a = some { cls := .type "list", data := .seq vs.toArray }

theorem Ent.off {H : Hp} {a : Addr} {t : Shared} {vs : List Value} (E : Ent (P := P) (w := w) H a t vs) {b : Addr} {o : Obj}
    {es : Array DictEntry} {n : Nat} (h : t.heap.get? b = some o) (hd : o.data = .dict es n) : H b = none := by
  rcases Classical.em (H b = none) with z | z
  · exact z
  · have e := (E.at' b z).1
    subst e
    have same := h.symm.trans E.obj
    injection same with same
    rw [same] at hd
    exact nomatch hd

theorem Ent.run {H : Hp} {a : Addr} {t : Shared} {vs : List Value} {mb : Str → Option Value}
    (E : Ent (P := P) (w := w) H a t vs) (KX : K.In t.heap) (hns : t.heap.Ns mainGlobals mg) (hb : t.heap.Ns builtinsNs mb)
    (hbb : ∀ y : Str, y ≠ "__name__" → mb y = bootBuiltins y) (lim : t.heap.NoLimit) (hg : t.gens = #[])
    (hK : H a ≠ none → K.lookup a = none) (hr : Room k callerA)
    (F : ∀ base : Heap, K.In base → base.Ns mainGlobals mg → FnG P w K mg base CX0 k fa fd [x] sp)
    (hbind : ∀ (s : Shared) (u : Value), BindsTo s fd ⟨[u], []⟩ [(x, u)])
    (hsp : sp [.ref a] H (fun v _ => v = .bl true) fun _ _ _ => False) :
    codeAny (model P w) callerA (.call (.ref fa) ⟨[.ref a], []⟩)
      (fun r s' => r = .ok (.ret (.bool true)) ∧ OldK t.heap s'.heap ∧ s'.os = t.os ∧ AllBare s'.gens) t := by
  have take : ∀ {b : Addr} {m : Str → Option Value}, t.heap.Ns b m → (hidT t.heap H).Ns b m := by
    rintro b m ⟨o, es, n, h1, h2, h3⟩
    exact ⟨o, es, n, hidT_get h1 (E.off h1 h2), h2, h3⟩
  have Kb : K.In (hidT t.heap H) := by
    intro b o hbo
    refine hidT_get (KX b o hbo) ?_
    rcases Classical.em (H b = none) with z | z
    · exact z
    · have e := (E.at' b z).1
      subst e
      rw [hK z] at hbo
      cases hbo
  obtain ⟨mc, c1, c2⟩ := lim
  have M : Mod K mg (hidT t.heap H) := { kin := Kb, glob := take hns, blt := ⟨mb, take hb, hbb⟩, nolimit := ⟨mc, take c1, c2⟩ }
  have e0 : Env0 P w K mg (hidT t.heap H) callerA [] t H := by
    refine ⟨rfl, M, fun b o z => of_hidT z, Nat.le_of_eq (hidT_size _ _), trivial, ?_, E.ok, .of_eq hg⟩
    intro b hb
    cases hb
  have main := (F _ Kb (take hns)).run callerA [] t H ⟨[.ref a], []⟩ [.ref a] [.ref a] _ _ hr rfl e0 (hbind t _) (.cons rfl .nil) hsp
  refine codeAny_mono main ?_
  intro r s' h
  rcases r with b | fl
  · exact False.elim h
  · cases fl with
    | next => exact False.elim h
    | brk => exact False.elim h
    | cont => exact False.elim h
    | ret u =>
      obtain ⟨v, H', hos, hbare, hun, hok', rv, hv⟩ := h
      have hv' : v = .bl true := hv
      subst hv'
      have hu : u = Value.bool true := rv
      subst hu
      refine ⟨rfl, OldK.of_keep ?_, hos, hbare⟩
      intro b o hbo
      rcases Classical.em (H b = none) with z | z
      · exact hun.keep b o hbo z (fun y => nomatch y) (fun y => nomatch y)
      · obtain ⟨_, ob, xs, hz⟩ := E.at' b z
        have one := (E.ok b _ hz).1
        have two := (hok' b _ (hun.frzs b ob _ hz)).1
        rw [hbo] at one
        injection one with one
        rw [one]
        exact two

theorem callG {a : Addr} {t : Shared} {vs : List Value} {ns : List Int} {mb : Str → Option Value}
    (KX : K.In t.heap) (hns : t.heap.Ns mainGlobals mg) (hb : t.heap.Ns builtinsNs mb)
    (hbb : ∀ y : Str, y ≠ "__name__" → mb y = bootBuiltins y) (lim : t.heap.NoLimit) (hg : t.gens = #[])
    (ha : t.heap.get? a = some { cls := .type "list", data := .seq vs.toArray }) (hi : IntsAre vs ns) (hl : ns.length ≤ sizeLine)
    (hr : Room k callerA)
    (F : ∀ base : Heap, K.In base → base.Ns mainGlobals mg → FnG P w K mg base CX0 k fa fd [x] sp)
    (hbind : ∀ (s : Shared) (u : Value), BindsTo s fd ⟨[u], []⟩ [(x, u)])
    (hsp : ∀ H : Hp, Only H → SqL K H a (ns.map V.int) → sp [.ref a] H (fun v _ => v = .bl true) fun _ _ _ => False) :
    codeAny (model P w) callerA (.call (.ref fa) ⟨[.ref a], []⟩)
      (fun r s' => r = .ok (.ret (.bool true)) ∧ OldK t.heap s'.heap ∧ s'.os = t.os ∧ AllBare s'.gens) t := by
  have rv := vals_ints hi
  have hlv : vs.length = ns.length := by simpa using rv.length.symm
  rcases Classical.em (K.lookup a = none) with hk | hk
  · let H : Hp := fun b => if b = a then some (.frz { cls := .type "list", data := .seq vs.toArray } (.lst (ns.map V.int))) else none
    have ya : H a = some (.frz { cls := .type "list", data := .seq vs.toArray } (.lst (ns.map V.int))) := if_pos rfl
    have no : ∀ b, b ≠ a → H b = none := fun b z => if_neg z
    refine Ent.run (H := H) (vs := vs) ⟨?_, ?_, ha⟩ KX hns hb hbb lim hg (fun _ => hk) hr F hbind (hsp H ?_ (.inl (.inr ⟨_, ya⟩)))
    · intro b o z
      rcases Classical.em (b = a) with e | e
      · subst e
        rw [ya] at z
        injection z with z
        subst z
        exact ⟨ha, by rw [List.length_map]; exact hl, vs, 0, rv, ha⟩
      · rw [no b e] at z
        cases z
    · intro b z
      rcases Classical.em (b = a) with e | e
      · subst e
        exact ⟨rfl, _, _, ya⟩
      · exact absurd (no b e) z
    · intro b
      rcases Classical.em (b = a) with e | e
      · subst e
        exact .inr ⟨_, _, ya⟩
      · exact .inl (no b e)
  · obtain ⟨o, ho⟩ := Option.ne_none_iff_exists'.mp hk
    have same := (KX a o ho).symm.trans ha
    injection same with same
    subst same
    refine Ent.run (H := fun _ => none) (vs := vs) ⟨fun b o z => (nomatch z), fun b z => absurd rfl z, ha⟩ KX hns hb hbb lim hg (fun z => absurd rfl z) hr F hbind
      (hsp _ (fun _ => .inl rfl) (.inr ⟨_, vs.toArray, _, ho, rfl, rfl, rfl, ?_, by simpa using rv⟩))
    rw [List.size_toArray, hlv]
    exact hl

theorem walkG {l : PySem.W.OpenLaw} {n : Nat} {q : Program} {loose : List Str} {XP : (Str → Option Value) → Heap → Prop}
    {YP : World → Heap → Prop} {d : DefRec} {KK : Params → PySem.W.Frag} {spl : PySem.W.Frag → Sp}
    (hn : l.most = some n) (hn2 : n ≤ sizeLine) (hdf : d.params.defaults = []) (hr : Room k callerA)
    (hY : ∀ (w : World) (h : Heap), YP w h → (KK w.params).In h)
    (F : ∀ (w : World) (mg : Str → Option Value) (fa : Addr) (h : Heap), (KK w.params).In h → h.Ns mainGlobals mg → mg d.name = some (.ref fa) →
      ∃ fd : FuncData, (∀ (s : Shared) (u : Value), BindsTo s fd ⟨[u], []⟩ [(x, u)]) ∧
        ∀ base : Heap, (KK w.params).In base → base.Ns mainGlobals mg → FnG l.prog w (KK w.params) mg base CX0 k fa fd [x] (spl (KK w.params)))
    (hsp : ∀ (K : PySem.W.Frag) (H : Hp) (a : Addr) (ns : List Int), ns.length ≤ n → Only H → SqL K H a (ns.map V.int) →
      spl K [.ref a] H (fun v _ => v = .bl true) fun _ _ _ => False) :
    PySem.W.WalkO q loose XP YP l.row.toRowW d [] (fun f vs => PySem.call f vs) := by
  refine Att.attach_call hn hdf ?_
  intro w s₀ s₁ mg mb fa o pm cd doc a vs ns G Y ho hd hcd hmg hobj hints hlen hg
  have KX := hY w _ Y
  obtain ⟨fd, hbind, hF⟩ := F w mg fa _ KX G.T.g hmg
  exact callG KX G.T.g G.T.b G.T.builtins G.T.nolimit hg hobj hints (Nat.le_trans hlen hn2) hr hF hbind (fun H h1 h2 => hsp _ H a ns hlen h1 h2)
end
end Lay
namespace Lay
open PySem PySem.Spec PyProof.Rows L2
/-- a def of the text stands under its name and keeps a promise -/
def Has (P : Program) (w : World) (K : PySem.W.Frag) (mg : Str → Option Value) (base : Heap)
    (k : Nat) (x : Str) (ps : List Str) (sp : Sp) : Prop :=
  ∃ f fd, FnG P w K mg base CX0 k f fd ps sp ∧ mg x = some (.ref f) ∧
    PySem.W.keepIn K (.ref f) = true ∧ L2.Binds K fd ps [] ∧
    (∀ ks : List Str, ks.Perm ps → ∀ (s : Shared) (ws : List Value), ws.length = ks.length →
      ks = ps → BindsTo s fd ⟨[], ks.zip ws⟩ (ps.zip ws))
section
variable {X : Cx} {k : Nat} {ps : List Str} {sp : Sp} {x : Str} {p pos : Pos} {e : Expr} {es : List Expr} {t : TA}
theorem pe_c (D : Has X.prog X.w X.K X.mg X.base k x ps sp) (hr : Room k X.A) (hq : Quiet X.A) (ha : PA X (e :: es) t)
    (hg : Gl X x := by rfl)
    (hdb : (x == ("__debug__" : Str)) = false := by decide)
    (he : starEach (e :: es) X.env = (false, eval e X.env) :: starEach es X.env := by rfl)
    (hpl : (backTo pos (starEach es X.env)).any (·.1) = false := by rfl) :
    PE X (.Call (.Name x p) (e :: es) [] pos) (tCall sp [] E0 t) := by
  obtain ⟨f, fd, F, gm, kp, b, _⟩ := D
  exact pe_callG F hr hq hg gm kp b .nil pass0 ha hdb he hpl
theorem pe_c0 (D : Has X.prog X.w X.K X.mg X.base k x ps sp) (hr : Room k X.A) (hq : Quiet X.A)
    (hg : Gl X x := by rfl)
    (hdb : (x == ("__debug__" : Str)) = false := by decide) :
    PE X (.Call (.Name x p) [] [] pos) (tCall sp [] E0 tNil) := by
  obtain ⟨f, fd, F, gm, kp, b, _⟩ := D
  exact pe_callG0 F hr hq hg gm kp b .nil pass0 hdb
/-- f(a = .., b = ..): every parameter by its name, in the def's order -/
theorem pe_ck {kws : List Keyword} {tk : TA} (D : Has X.prog X.w X.K X.mg X.base k x ps sp) (hr : Room k X.A) (hq : Quiet X.A) (hkw : PK X kws tk)
    (hks : (backToKw pos (keywordEach kws X.env)).filterMap (·.1) = ps := by rfl)
    (hg : Gl X x := by rfl)
    (hall : (backToKw pos (keywordEach kws X.env)).all (·.1.isSome) = true := by rfl)
    (hdb : (x == ("__debug__" : Str)) = false := by decide)
    (hpl : ((backTo pos (starEach [] X.env)).any (·.1) || (backToKw pos (keywordEach kws X.env)).any (·.1.isNone)) = false := by rfl) :
    PE X (.Call (.Name x p) [] kws pos) (tCall sp [] E0 tk) where
  run := by
    obtain ⟨f, fd, F, gm, kp, _, b⟩ := D
    intro pins s σ H Q I h
    apply wpAny_Call_Name_kw
    refine ld_glob I hg gm ?_ hdb
    refine PySem.W.callWith_KW0 (h₀ := X.base) I.ok.mod.kin kp hall (thn (hkw.run pos pins s σ H _ I h) ?_) hpl
    rintro ws s2 ⟨vs, H2, I2, r, q⟩
    refine ⟨I2.kIn, ?_⟩
    rw [List.append_nil] at q
    have hl : ws.length = ps.length := r.length.symm.trans (F.len _ _ _ _ q)
    rw [hks]
    have main := F.run X.A X.stack s2 H2 ⟨[], ps.zip ws⟩ ws vs Q E0 hr hq (Inv.env0 I2) (b ps (List.Perm.refl _) s2 ws hl rfl) r q
    refine wpAny_call (codeAny_mono main ?_)
    intro r s' hh
    have z := back pass0 I2 r s' hh
    rcases r with b | fl
    · exact z
    · cases fl <;> exact z
end
section
variable {P : Program} {w : World} {K : PySem.W.Frag} {mg : Str → Option Value} {base : Heap}
theorem has {k : Nat} {x : Str} {qual : Str} {st : Stmt} {f : Addr} {fd : FuncData} {ps : List Str} {sp : Sp}
    (F : Fun K x qual st f fd) (gm : mg x = some (.ref f)) (O : FnG P w K mg base CX0 k f fd ps sp)
    (h : ∀ (kV doc pm : Value) (an : Option Addr) (cdv ct : Value) (us : List Value), us.length = ps.length →
      bindArgs (PySem.W.fnOf x qual (defArgs st) (defBody st) (defScope st) .none kV doc pm an cdv ct) ⟨us, []⟩ = pure (ps.zip us))
    (h2 : ∀ (kV doc pm : Value) (an : Option Addr) (cdv ct : Value) (us : List Value), us.length = ps.length →
      bindArgs (PySem.W.fnOf x qual (defArgs st) (defBody st) (defScope st) .none kV doc pm an cdv ct) ⟨[], ps.zip us⟩ = pure (ps.zip us)) :
    Has P w K mg base k x ps sp := by
  refine ⟨f, fd, O, gm, F.kp, F.binds h, ?_⟩
  obtain ⟨oc, od, kV, dc, pm, an, cv, ct, sl, rfl, lk, hcd⟩ := F.ex
  rintro ks _ s ws hl rfl
  exact .of_eq (h2 kV dc pm an cv ct ws hl)
end
section
variable {X : Cx} {x : Str} {pos : Pos}
/-- a constant of the module: a text, a number, an object -/
theorem pe_gS {z : Str} {t : Tok} (hm : X.mg x = some (.str z t)) (hg : Gl X x := by rfl) (hd : (x == ("__debug__" : Str)) = false := by decide) : PE X (.Name x pos) (tC (.str z)) := pe_glob hg hm ⟨t, rfl⟩ hd
theorem pe_gI {z : Int} {t : Tok} (hm : X.mg x = some (.int z t)) (hg : Gl X x := by rfl) (hd : (x == ("__debug__" : Str)) = false := by decide) : PE X (.Name x pos) (tC (.int z)) := pe_glob hg hm ⟨t, rfl⟩ hd
theorem pe_gR {a : Addr} (hm : X.mg x = some (.ref a)) (hg : Gl X x := by rfl) (hd : (x == ("__debug__" : Str)) = false := by decide) : PE X (.Name x pos) (tC (.ref a)) := pe_glob hg hm rfl hd
end
end Lay
namespace Lay
open PySem PySem.Spec PyProof.Rows L2
abbrev St := L2.St
/-! ### loops by invariants -/
section
variable {K : PySem.W.Frag} {J : It} {g : TG} {tb : TS} {tt : TT} {te : TE} {vs : List Nat} {D : Ends} {σ : L2.St} {H : Hp} {wi : TI} {c : TT} {Q : VK}
def Loop (J : It) (g : TG) (tb : TS) (D : Ends) (σ : L2.St) (H : Hp) : Prop := tFor (fun _ G R => R J G) g tb D σ H
theorem tFor_eq : tFor wi g tb D σ H = wi σ H fun J G => Loop J g tb D σ G := rfl
def WLoop (c : TT) (tb : TS) (D : Ends) (σ : L2.St) (H : Hp) : Prop := tWhile c tb D σ H
theorem tWhile_eq : tWhile c tb D σ H = WLoop c tb D σ H := rfl
/-- a comprehension's turns, its new list at L -/
def CLoop (J : It) (g : TG) (tt : TT) (te : TE) (vs : List Nat) (σ : L2.St) (L : Addr) (Q : VK) (H : Hp) : Prop :=
  ∃ W : Nat → Nat → Hp → Prop, (∃ m, W 0 m H) ∧ ∀ i m G, W i m G →
    (J.stop i G ∧ Q (.ref L) G) ∨ (J.go i G ∧ ∃ N : Hp → Prop, (∀ G', N G' → ∃ m', m' < m ∧ W (i + 1) m' G') ∧
      ∀ x G', J.yld i G x G' → g x (wipe σ vs) G' fun σ2 H2 => wipe σ2 vs = wipe σ vs ∧ tt σ2 H2 fun b H3 =>
        if b = true then te σ2 H3 fun y H4 => ∃ acc, H4 L = some (.lst acc) ∧ acc.length < sizeLine ∧ N (upd H4 L (.lst (acc ++ [y]))) else N H3)
theorem tLc_eq : tLc wi g tt te vs σ H Q = wi σ H fun J G => ∀ L, G L = none → CLoop J g tt te vs σ L Q (upd G L (.lst [])) := rfl

theorem Loop.by (n : Nat) (I : Nat → L2.St → Hp → Prop) (h0 : I 0 σ H)
    (hs : ∀ i τ G, i < n → I i τ G → J.go i G ∧ ∀ x G', J.yld i G x G' →
      g x τ G' fun τ2 G2 => tb { D with nx := I (i + 1), ct := I (i + 1), bk := D.nx } τ2 G2)
    (hd : ∀ τ G, I n τ G → J.stop n G ∧ D.nx τ G) : Loop J g tb D σ H := by
  refine ⟨fun i m τ G => m + i = n ∧ I i τ G, ⟨n, rfl, h0⟩, ?_⟩
  rintro i m τ G ⟨hm, hi⟩
  by_cases hlt : i < n
  · obtain ⟨a, b⟩ := hs i τ G hlt hi
    exact .inr ⟨a, I (i + 1), fun _ _ h => ⟨m - 1, by omega, by omega, h⟩, b⟩
  · have e : i = n := by omega
    subst e
    exact .inl (hd τ G hi)
theorem Loop.list {a : Addr} (xs : List V) (I : Nat → L2.St → Hp → Prop) (h0 : I 0 σ H) (hl : ∀ i τ G, I i τ G → SqL K G a xs)
    (hs : ∀ i x τ G, xs[i]? = some x → I i τ G → g x τ G fun τ2 G2 => tb { D with nx := I (i + 1), ct := I (i + 1), bk := D.nx } τ2 G2)
    (hd : ∀ τ G, I xs.length τ G → D.nx τ G) : Loop (Itl K a) g tb D σ H := by
  refine Loop.by xs.length I h0 ?_ fun τ G h => ⟨⟨xs, hl _ _ _ h, Nat.le_refl _⟩, hd τ G h⟩
  intro i τ G hi h
  have q := hl i τ G h
  have hx : xs[i]? = some xs[i] := List.getElem?_eq_getElem hi
  refine ⟨⟨xs, xs[i], q, hx⟩, ?_⟩
  rintro x G' ⟨rfl, hx'⟩
  exact hs i x τ _ (hx' xs q) h
theorem Loop.tup {a : Addr} (xs : List V) (I : Nat → L2.St → Hp → Prop) (h0 : I 0 σ H) (hl : ∀ i τ G, I i τ G → SqT K G a xs)
    (hs : ∀ i x τ G, xs[i]? = some x → I i τ G → g x τ G fun τ2 G2 => tb { D with nx := I (i + 1), ct := I (i + 1), bk := D.nx } τ2 G2)
    (hd : ∀ τ G, I xs.length τ G → D.nx τ G) : Loop (Itt K a) g tb D σ H := by
  refine Loop.by xs.length I h0 ?_ fun τ G h => ⟨⟨xs, hl _ _ _ h, Nat.le_refl _⟩, hd τ G h⟩
  intro i τ G hi h
  have q := hl i τ G h
  have hx : xs[i]? = some xs[i] := List.getElem?_eq_getElem hi
  refine ⟨⟨xs, xs[i], q, hx⟩, ?_⟩
  rintro x G' ⟨rfl, hx'⟩
  exact hs i x τ _ (hx' xs q) h
theorem Loop.range {lo : Int} {n : Nat} (I : Nat → L2.St → Hp → Prop) (h0 : I 0 σ H)
    (hs : ∀ i τ G, i < n → I i τ G → g (.int (lo + i)) τ G fun τ2 G2 => tb { D with nx := I (i + 1), ct := I (i + 1), bk := D.nx } τ2 G2)
    (hd : ∀ τ G, I n τ G → D.nx τ G) : Loop (Itr lo n) g tb D σ H := by
  refine Loop.by n I h0 ?_ fun τ G h => ⟨Nat.le_refl _, hd τ G h⟩
  intro i τ G hi h
  refine ⟨hi, ?_⟩
  rintro x G' ⟨rfl, rfl⟩
  exact hs i τ _ hi h
theorem Loop.str {x : Str} (I : Nat → L2.St → Hp → Prop) (h0 : I 0 σ H)
    (hs : ∀ i k τ G, x.cps.toList[i]? = some k → I i τ G → g (.str ⟨#[k]⟩) τ G fun τ2 G2 => tb { D with nx := I (i + 1), ct := I (i + 1), bk := D.nx } τ2 G2)
    (hd : ∀ τ G, I x.cps.toList.length τ G → D.nx τ G) : Loop (Its x) g tb D σ H := by
  have size : x.cps.size = x.cps.toList.length := by simp
  refine Loop.by x.cps.toList.length I h0 ?_ fun τ G h => ⟨by show x.cps.size ≤ _; omega, hd τ G h⟩
  intro i τ G hi h
  refine ⟨by show i < x.cps.size; omega, ?_⟩
  rintro v G' ⟨rfl, k, hk, rfl⟩
  exact hs i k τ _ (by rw [Array.getElem?_toList]; exact hk) h
/-- for x, y in zip(xs, ys): each pair is a new tuple -/
theorem Loop.zip {a b : Addr} (xs ys : List V) (n : Nat) (hn : n = min xs.length ys.length) (I : Nat → L2.St → Hp → Prop) (h0 : I 0 σ H)
    (hl : ∀ i τ G, I i τ G → SqL K G a xs ∧ SqL K G b ys)
    (hs : ∀ i x y T τ G, xs[i]? = some x → ys[i]? = some y → I i τ G → G T = none → g (.ref T) τ (upd G T (.tup [x, y])) fun τ2 G2 => tb { D with nx := I (i + 1), ct := I (i + 1), bk := D.nx } τ2 G2)
    (hd : ∀ τ G, I n τ G → D.nx τ G) : Loop (Itz K a b) g tb D σ H := by
  refine Loop.by n I h0 ?_ fun τ G h => ⟨⟨xs, ys, (hl _ _ _ h).1, (hl _ _ _ h).2, by omega⟩, hd τ G h⟩
  intro i τ G hi h
  obtain ⟨q1, q2⟩ := hl i τ G h
  have hx : xs[i]? = some (xs[i]'(by omega)) := List.getElem?_eq_getElem _
  have hy : ys[i]? = some (ys[i]'(by omega)) := List.getElem?_eq_getElem _
  refine ⟨⟨xs, ys, _, _, q1, q2, hx, hy⟩, ?_⟩
  rintro v G' ⟨T, x, y, rfl, hT, rfl, hx', hy'⟩
  exact hs i x y T τ G (hx' _ q1) (hy' _ q2) h hT
/-- a while: N is `fun τ' G' => ∃ m', m' < m ∧ I m' τ' G'` as a rule -/
theorem WLoop.by (I : Nat → L2.St → Hp → Prop) (m : Nat) (h0 : I m σ H)
    (hs : ∀ m τ G, I m τ G → c τ G fun b G1 => if b = true then ∃ N : L2.St → Hp → Prop, (∀ τ' G', N τ' G' → ∃ m', m' < m ∧ I m' τ' G') ∧
      tb { D with nx := N, ct := N, bk := D.nx } τ G1 else D.nx τ G1) : WLoop c tb D σ H := ⟨I, ⟨m, h0⟩, hs⟩
theorem CLoop.by {L : Addr} (n : Nat) (I : Nat → List V → Hp → Prop) (h0 : I 0 [] H) (hL : H L = some (.lst []))
    (hs : ∀ i acc G, i < n → I i acc G → G L = some (.lst acc) → J.go i G ∧ ∀ N : Hp → Prop, (∀ a G', I (i + 1) a G' → G' L = some (.lst a) → N G') →
      ∀ x G', J.yld i G x G' → g x (wipe σ vs) G' fun σ2 H2 => wipe σ2 vs = wipe σ vs ∧ tt σ2 H2 fun b H3 =>
        if b = true then te σ2 H3 fun y H4 => ∃ a, H4 L = some (.lst a) ∧ a.length < sizeLine ∧ N (upd H4 L (.lst (a ++ [y]))) else N H3)
    (hd : ∀ acc G, I n acc G → G L = some (.lst acc) → J.stop n G ∧ Q (.ref L) G) : CLoop J g tt te vs σ L Q H := by
  refine ⟨fun i m G => m + i = n ∧ ∃ acc, I i acc G ∧ G L = some (.lst acc), ⟨n, rfl, [], h0, hL⟩, ?_⟩
  rintro i m G ⟨hm, acc, hi, hG⟩
  by_cases hlt : i < n
  · obtain ⟨a, b⟩ := hs i acc G hlt hi hG
    exact .inr ⟨a, fun G' => ∃ acc, I (i + 1) acc G' ∧ G' L = some (.lst acc), fun _ h => ⟨m - 1, by omega, by omega, h⟩,
      b _ fun a G' h1 h2 => ⟨a, h1, h2⟩⟩
  · have e : i = n := by omega
    subst e
    exact .inl (hd acc G hi hG)
theorem CLoop.list {L a : Addr} (xs : List V) (I : Nat → List V → Hp → Prop) (h0 : I 0 [] H) (hL : H L = some (.lst []))
    (hl : ∀ i acc G, I i acc G → G L = some (.lst acc) → SqL K G a xs)
    (hs : ∀ i x acc G, xs[i]? = some x → I i acc G → G L = some (.lst acc) → ∀ N : Hp → Prop, (∀ a G', I (i + 1) a G' → G' L = some (.lst a) → N G') →
      g x (wipe σ vs) G fun σ2 H2 => wipe σ2 vs = wipe σ vs ∧ tt σ2 H2 fun b H3 =>
        if b = true then te σ2 H3 fun y H4 => ∃ a, H4 L = some (.lst a) ∧ a.length < sizeLine ∧ N (upd H4 L (.lst (a ++ [y]))) else N H3)
    (hd : ∀ acc G, I xs.length acc G → G L = some (.lst acc) → Q (.ref L) G) : CLoop (Itl K a) g tt te vs σ L Q H := by
  refine CLoop.by xs.length I h0 hL ?_ fun acc G h1 h2 => ⟨⟨xs, hl _ _ _ h1 h2, Nat.le_refl _⟩, hd acc G h1 h2⟩
  intro i acc G hi h1 h2
  have q := hl i acc G h1 h2
  have hx : xs[i]? = some xs[i] := List.getElem?_eq_getElem hi
  refine ⟨⟨xs, xs[i], q, hx⟩, ?_⟩
  rintro N hN x G' ⟨rfl, hx'⟩
  exact hs i x acc _ (hx' xs q) h1 h2 N hN
theorem CLoop.tup {L a : Addr} (xs : List V) (I : Nat → List V → Hp → Prop) (h0 : I 0 [] H) (hL : H L = some (.lst []))
    (hl : ∀ i acc G, I i acc G → G L = some (.lst acc) → SqT K G a xs)
    (hs : ∀ i x acc G, xs[i]? = some x → I i acc G → G L = some (.lst acc) → ∀ N : Hp → Prop, (∀ a G', I (i + 1) a G' → G' L = some (.lst a) → N G') →
      g x (wipe σ vs) G fun σ2 H2 => wipe σ2 vs = wipe σ vs ∧ tt σ2 H2 fun b H3 =>
        if b = true then te σ2 H3 fun y H4 => ∃ a, H4 L = some (.lst a) ∧ a.length < sizeLine ∧ N (upd H4 L (.lst (a ++ [y]))) else N H3)
    (hd : ∀ acc G, I xs.length acc G → G L = some (.lst acc) → Q (.ref L) G) : CLoop (Itt K a) g tt te vs σ L Q H := by
  refine CLoop.by xs.length I h0 hL ?_ fun acc G h1 h2 => ⟨⟨xs, hl _ _ _ h1 h2, Nat.le_refl _⟩, hd acc G h1 h2⟩
  intro i acc G hi h1 h2
  have q := hl i acc G h1 h2
  have hx : xs[i]? = some xs[i] := List.getElem?_eq_getElem hi
  refine ⟨⟨xs, xs[i], q, hx⟩, ?_⟩
  rintro N hN x G' ⟨rfl, hx'⟩
  exact hs i x acc _ (hx' xs q) h1 h2 N hN
theorem CLoop.range {L : Addr} {lo : Int} {n : Nat} (I : Nat → List V → Hp → Prop) (h0 : I 0 [] H) (hL : H L = some (.lst []))
    (hs : ∀ i acc G, i < n → I i acc G → G L = some (.lst acc) → ∀ N : Hp → Prop, (∀ a G', I (i + 1) a G' → G' L = some (.lst a) → N G') →
      g (.int (lo + i)) (wipe σ vs) G fun σ2 H2 => wipe σ2 vs = wipe σ vs ∧ tt σ2 H2 fun b H3 =>
        if b = true then te σ2 H3 fun y H4 => ∃ a, H4 L = some (.lst a) ∧ a.length < sizeLine ∧ N (upd H4 L (.lst (a ++ [y]))) else N H3)
    (hd : ∀ acc G, I n acc G → G L = some (.lst acc) → Q (.ref L) G) : CLoop (Itr lo n) g tt te vs σ L Q H := by
  refine CLoop.by n I h0 hL ?_ fun acc G h1 h2 => ⟨Nat.le_refl _, hd acc G h1 h2⟩
  intro i acc G hi h1 h2
  refine ⟨hi, ?_⟩
  rintro N hN x G' ⟨rfl, rfl⟩
  exact hs i acc _ hi h1 h2 N hN
theorem CLoop.str {L : Addr} {x : Str} (I : Nat → List V → Hp → Prop) (h0 : I 0 [] H) (hL : H L = some (.lst []))
    (hs : ∀ i k acc G, x.cps.toList[i]? = some k → I i acc G → G L = some (.lst acc) → ∀ N : Hp → Prop, (∀ a G', I (i + 1) a G' → G' L = some (.lst a) → N G') →
      g (.str ⟨#[k]⟩) (wipe σ vs) G fun σ2 H2 => wipe σ2 vs = wipe σ vs ∧ tt σ2 H2 fun b H3 =>
        if b = true then te σ2 H3 fun y H4 => ∃ a, H4 L = some (.lst a) ∧ a.length < sizeLine ∧ N (upd H4 L (.lst (a ++ [y]))) else N H3)
    (hd : ∀ acc G, I x.cps.toList.length acc G → G L = some (.lst acc) → Q (.ref L) G) : CLoop (Its x) g tt te vs σ L Q H := by
  have size : x.cps.size = x.cps.toList.length := by simp
  refine CLoop.by x.cps.toList.length I h0 hL ?_ fun acc G h1 h2 => ⟨by show x.cps.size ≤ _; omega, hd acc G h1 h2⟩
  intro i acc G hi h1 h2
  refine ⟨by show i < x.cps.size; omega, ?_⟩
  rintro N hN v G' ⟨rfl, k, hk, rfl⟩
  exact hs i k acc _ (by rw [Array.getElem?_toList]; exact hk) h1 h2 N hN
end
/-- texts by their signs -/
def tx (l : List Nat) : Str := ⟨l.toArray⟩
theorem tx_app (a b : List Nat) : tx a ++ tx b = tx (a ++ b) := by
  unfold tx
  show (⟨a.toArray ++ b.toArray⟩ : Str) = _
  rw [List.append_toArray]
theorem tx_one (c : Nat) : (⟨#[c]⟩ : Str) = tx [c] := rfl
theorem tx_len (l : List Nat) : (tx l).length = l.length := by simp [tx, Str.length]
theorem tx_list (l : List Nat) : (tx l).cps.toList = l := by simp [tx]
theorem tx_inj {a b : List Nat} (h : tx a = tx b) : a = b := by
  have := congrArg (fun z : Str => z.cps.toList) h
  simpa [tx] using this
theorem same_upd {H : Hp} {p : Addr} {o : HO} (h : H p = none) : Same H (upd H p o) := fun b x e => by
  rw [upd_ne (ne_of_none e h)]
  exact e
theorem sameU {H G : Hp} {p : Addr} {o : HO} (s : Same H G) (h : G p = none) : Same H (L2.upd G p o) := s.trans (same_upd h)
theorem small {n : Nat} (h : n ≤ 1000000) : n ≤ sizeLine := by rw [sizeLine_eq]; omega
theorem cx_K {CX : CXT} {P : Program} {w : World} {K : PySem.W.Frag} {mg : Str → Option Value} {base : Heap} {N : List Str} {qual : Str} {scope : Scope} {f : Addr} {cd : Value} {A : Around} {outer : List Env} {s : Shared} {H : Hp} {E : XK} :
    (cxOf CX P w K mg base N qual scope f cd A outer s H E).K = K := rfl
theorem line (n : Nat) (h : n ≤ 1000000 := by omega) : n ≤ sizeLine := small h
theorem ltline (n : Nat) (h : n ≤ 1000000 := by omega) : n < sizeLine := by rw [sizeLine_eq]; omega
/-! ### data of ints -/
theorem dpInts {K : PySem.W.Frag} {H : Hp} : ∀ ns : List Int, DpAll K H (ns.map V.int) (ns.map PyData.int)
  | [] => .nil
  | n :: r => .cons (.int n) (dpInts r)
theorem canLayInts : ∀ ns : List Int, PyData.canLayAll0 (ns.map PyData.int) = true
  | [] => by simp [PyData.canLayAll0]
  | n :: r => by simp [PyData.canLayAll0, PyData.canLay0, canLayInts r]
theorem depthInts : ∀ ns : List Int, PyData.depthAll (ns.map PyData.int) = 0
  | [] => by simp [PyData.depthAll]
  | n :: r => by simp [PyData.depthAll, PyData.depth, depthInts r]
theorem shapedInts (ns : List Int) : SeqAt.shaped (.list (ns.map PyData.int)) = true := by
  simp [SeqAt.shaped, PyData.canLay0, canLayInts, PyData.depth, depthInts]
theorem eqvNil (ns : List Int) : PyData.eqv (.list (ns.map PyData.int)) (.list []) = ns.isEmpty := by
  cases ns <;> simp [PyData.eqv, PyData.eqvAll]
/-! ### the draws of a law: p the feed, l its cells, n the draws so far -/
def Feed (H : Hp) (p l : Addr) (n : Nat) : Prop := ∃ (ns : List Int) (m : Int),
  H p = some (.lst [.ref l, .int m, .int (n : Nat)]) ∧ H l = some (.lst (ns.map V.int)) ∧ ns.length ≤ 63 ∧ n ≤ 10 ^ 9
/-- all else stays -/
def Keep (p l : Addr) (H H' : Hp) : Prop := ∀ b o, H b = some o → b ≠ p → b ≠ l → H' b = some o
theorem Keep.refl (p l : Addr) (H : Hp) : Keep p l H H := fun _ _ h _ _ => h
theorem Keep.trans {p l : Addr} {H G F : Hp} (a : Keep p l H G) (b : Keep p l G F) : Keep p l H F := fun c o h x y => b c o (a c o h x y) x y
theorem Keep.of {p l : Addr} {H G : Hp} (s : Same H G) : Keep p l H G := fun b o h _ _ => s b o h
theorem Feed.ne {H : Hp} {p l : Addr} {n : Nat} (h : Feed H p l n) : p ≠ l := by
  obtain ⟨ns, m, h1, h2, _⟩ := h
  refine ne_of h1 h2 ?_
  intro e
  injection e with e
  cases ns with
  | nil => cases e
  | cons a r =>
    injection e with e _
    cases e
theorem Feed.same {H G : Hp} {p l : Addr} {n : Nat} (h : Feed H p l n) (s : Same H G) : Feed G p l n := by
  obtain ⟨ns, m, h1, h2, h3⟩ := h
  exact ⟨ns, m, s _ _ h1, s _ _ h2, h3⟩
/-- a new object, or one that is none of both, does not touch a feed -/
theorem Feed.upd {H : Hp} {p l q : Addr} {o : HO} {n : Nat} (h : Feed H p l n) (hp : q ≠ p) (hl : q ≠ l) : Feed (L2.upd H q o) p l n := by
  obtain ⟨ns, m, h1, h2, h3⟩ := h
  exact ⟨ns, m, by rw [upd_ne (Ne.symm hp)]; exact h1, by rw [upd_ne (Ne.symm hl)]; exact h2, h3⟩
def sp_feed (K : PySem.W.Frag) : Sp := fun vs H Q _ => ∃ (a : Addr) (ns : List Int), vs = [.ref a] ∧ SqL K H a (ns.map V.int) ∧ ns.length ≤ 63 ∧
  ∀ p l H', Same H H' → H p = none → H l = none → Feed H' p l 0 → Q (.ref p) H'
def sp_take : Sp := fun vs H Q _ => ∃ (p l : Addr) (n : Nat) (many : Int), vs = [.ref p, .int many] ∧ Feed H p l n ∧ n < 10 ^ 9 ∧ 0 < many ∧ many < 1000000000 ∧
  ∀ (r : Int) H', 0 ≤ r → r < many → Feed H' p l (n + 1) → Keep p l H H' → Q (.int r) H'
theorem cut63 {xs : List V} (h : xs.length ≤ 63) : cutV xs none (some 63) = xs := by
  unfold cutV
  rw [HT.sIx_none, show HT.sIx xs.length xs.length (some 63) = min 63 xs.length from HT.sIx_nat xs.length xs.length 63]
  rw [List.drop_zero, List.take_of_length_le (by omega)]
theorem int_at {ns : List Int} {i : Nat} {x : V} (h : (ns.map V.int)[i]? = some x) : ∃ y, x = .int y := by
  rw [List.getElem?_map] at h
  cases e : ns[i]? with
  | none => rw [e] at h; cases h
  | some y => rw [e] at h; exact ⟨y, (Option.some.inj h).symm⟩
/-- the new object at p is written again -/
theorem sameU' {H G : Hp} {p : Addr} {o : HO} (s : Same H G) (h : H p = none) : Same H (L2.upd G p o) := fun b x e => by
  rw [upd_ne (ne_of_none e h)]
  exact s b x e
end Lay
namespace M03
def pre (r : Nat) : List Nat := if h : r = 0 then [] else pre ((r - 1) / 26) ++ [97 + (r - 1) % 26]
termination_by r
decreasing_by omega
theorem pre_zero : pre 0 = [] := by rw [pre]; rfl
theorem pre_pos {r : Nat} (h : r ≠ 0) : pre r = pre ((r - 1) / 26) ++ [97 + (r - 1) % 26] := by
  conv => lhs; rw [pre, dif_neg h]
theorem pre_child (r : Nat) {k : Nat} (hk : k < 26) : pre (r * 26 + k + 1) = pre r ++ [97 + k] := by
  rw [pre_pos (by omega), show (r * 26 + k + 1 - 1) / 26 = r by omega, show (r * 26 + k + 1 - 1) % 26 = k by omega]
theorem pre_len (r : Nat) : (pre r).length ≤ r := by
  induction r using Nat.strongRecOn with
  | ind r ih =>
    by_cases h : r = 0
    · subst h; rw [pre_zero]; exact Nat.le_refl 0
    · rw [pre_pos h, List.length_append]
      have := ih ((r - 1) / 26) (by omega)
      simp only [List.length_cons, List.length_nil]
      omega
theorem pre_letters (r : Nat) : ∀ c ∈ pre r, 97 ≤ c ∧ c < 123 := by
  induction r using Nat.strongRecOn with
  | ind r ih =>
    by_cases h : r = 0
    · subst h; rw [pre_zero]; intro c hc; cases hc
    · rw [pre_pos h]
      intro c hc
      rcases List.mem_append.mp hc with z | z
      · exact ih ((r - 1) / 26) (by omega) c z
      · have := List.mem_singleton.mp z
        omega
def val (l : List Nat) : Nat := l.foldl (fun n c => n * 26 + (c - 97) + 1) 0
theorem val_pre (r : Nat) : val (pre r) = r := by
  induction r using Nat.strongRecOn with
  | ind r ih =>
    by_cases h : r = 0
    · subst h; rw [pre_zero]; rfl
    · rw [pre_pos h]
      have := ih ((r - 1) / 26) (by omega)
      unfold val at this ⊢
      rw [List.foldl_append, this]
      show (r - 1) / 26 * 26 + (97 + (r - 1) % 26 - 97) + 1 = r
      omega
/-! order -/
theorem lex_snoc : ∀ (a b : List Nat) (c d : Nat), a.length = b.length → (a ++ [c] < b ++ [d] ↔ a < b ∨ (a = b ∧ c < d))
  | [], [], c, d, _ => by
    constructor
    · intro h
      have h : [c] < [d] := h
      rw [List.cons_lt_cons_iff] at h
      rcases h with h | ⟨_, h⟩
      · exact .inr ⟨rfl, h⟩
      · exact absurd h (List.lt_irrefl [])
    · rintro (h | ⟨_, h⟩)
      · exact absurd h (List.lt_irrefl [])
      · show [c] < [d]
        rw [List.cons_lt_cons_iff]
        exact .inl h
  | x :: a, y :: b, c, d, hl => by
    have hl : a.length = b.length := by simpa using hl
    have ih := lex_snoc a b c d hl
    show (x :: (a ++ [c]) < y :: (b ++ [d]) ↔ _)
    rw [List.cons_lt_cons_iff, List.cons_lt_cons_iff, ih]
    constructor
    · rintro (h | ⟨h, h' | ⟨h', h''⟩⟩)
      · exact .inl (.inl h)
      · exact .inl (.inr ⟨h, h'⟩)
      · exact .inr ⟨by rw [h, h'], h''⟩
    · rintro ((h | ⟨h, h'⟩) | ⟨h, h'⟩)
      · exact .inl h
      · exact .inr ⟨h, .inl h'⟩
      · injection h with h1 h2
        exact .inr ⟨h1, .inr ⟨h2, h'⟩⟩
/-- of two numbers the lesser one has the shorter name, or one of the same length that comes first -/
def before (x y : List Nat) : Prop := x.length < y.length ∨ (x.length = y.length ∧ x < y)
theorem before_pre : ∀ r s : Nat, r < s → before (pre r) (pre s) := by
  intro r
  induction r using Nat.strongRecOn with
  | ind r ih =>
    intro s h
    by_cases h0 : r = 0
    · subst h0
      rw [pre_zero, pre_pos (by omega)]
      left
      simp
    · rw [pre_pos h0, pre_pos (show s ≠ 0 by omega)]
      unfold before
      simp only [List.length_append, List.length_cons, List.length_nil]
      by_cases e : (r - 1) / 26 = (s - 1) / 26
      · right
        rw [e]
        refine ⟨rfl, (lex_snoc _ _ _ _ rfl).mpr (.inr ⟨rfl, ?_⟩)⟩
        omega
      · rcases ih ((r - 1) / 26) (by omega) ((s - 1) / 26) (by omega) with z | ⟨z, z'⟩
        · left; omega
        · right
          exact ⟨by omega, (lex_snoc _ _ _ _ z).mpr (.inl z')⟩
theorem before_asymm {x y : List Nat} (h : before x y) (h' : before y x) : False := by
  rcases h with h | ⟨h, h1⟩
  · rcases h' with h' | ⟨h', _⟩ <;> omega
  · rcases h' with h' | ⟨h', h2⟩
    · omega
    · exact List.lt_asymm h1 h2
theorem before_iff (r s : Nat) : before (pre r) (pre s) ↔ r < s := by
  constructor
  · intro h
    rcases Nat.lt_trichotomy r s with z | z | z
    · exact z
    · subst z
      exact (before_asymm h h).elim
    · exact (before_asymm h (before_pre s r z)).elim
  · exact before_pre r s
/-! the words -/
theorem block (r : Nat) : (List.range 26).map (fun k => pre r ++ [97 + k]) = (List.range' (r * 26 + 1) 26).map pre := by
  rw [List.range'_eq_map_range, List.map_map]
  refine List.map_congr_left ?_
  intro k hk
  have hk : k < 26 := List.mem_range.mp hk
  show _ = pre (r * 26 + 1 + k)
  rw [show r * 26 + 1 + k = r * 26 + k + 1 by omega, pre_child r hk]
theorem blocks (a : Nat) : ∀ n : Nat, (List.range' (a * 26 + 1) (n * 26)).map pre ++ (List.range 26).map (fun k => pre (a + n) ++ [97 + k]) = (List.range' (a * 26 + 1) ((n + 1) * 26)).map pre := by
  intro n
  rw [block, ← List.map_append]
  congr 1
  rw [show (n + 1) * 26 = n * 26 + 26 by omega, List.range'_append (step := 1) |>.symm]
  congr 2
  omega
theorem letters : (List.range 26).map (fun k => 97 + k) = [97,98,99,100,101,102,103,104,105,106,107,108,109,110,111,112,113,114,115,116,117,118,119,120,121,122] := by decide
theorem ones : (List.range 26).map (fun k => [97 + k]) = (List.range' 1 26).map pre := by
  have := block 0
  rw [pre_zero] at this
  simpa using this
end M03
namespace C03
open PySem PySem.Spec PyProof.Rows L2 Lay M03
def topS (i : Nat) : Stmt := PySem.Challenge.pw_heldparts_k03_names_by_number.main.body.getD i (.Pass ⟨0, 0, 0, 0⟩)
abbrev s_name_of : Stmt := topS 2
abbrev N_name_of : List Str := ["number", "name", "rest", "at"]
theorem sc_name_of : FnScope N_name_of ["number"] (defScope s_name_of) := ⟨rfl, rfl, rfl, by decide +kernel, rfl, by decide +kernel, by decide +kernel⟩
abbrev s_number_of : Stmt := topS 3
abbrev N_number_of : List Str := ["name", "number", "letter"]
theorem sc_number_of : FnScope N_number_of ["name"] (defScope s_number_of) := ⟨rfl, rfl, rfl, by decide +kernel, rfl, by decide +kernel, by decide +kernel⟩
abbrev s_law_feed : Stmt := topS 5
abbrev N_law_feed : List Str := ["_law_script", "_law_mixed_here", "_law_cell"]
theorem sc_law_feed : FnScope N_law_feed ["_law_script"] (defScope s_law_feed) := ⟨rfl, rfl, rfl, by decide +kernel, rfl, by decide +kernel, by decide +kernel⟩
abbrev s_law_take : Stmt := topS 6
abbrev N_law_take : List Str := ["_law_feed_here", "_law_many", "_law_count", "_law_cell"]
theorem sc_law_take : FnScope N_law_take ["_law_feed_here", "_law_many"] (defScope s_law_take) := ⟨rfl, rfl, rfl, by decide +kernel, rfl, by decide +kernel, by decide +kernel⟩
abbrev s_law_one : Stmt := topS 7
abbrev N_law_one : List Str := ["_law_feed_here", "_law_some"]
theorem sc_law_one : FnScope N_law_one ["_law_feed_here", "_law_some"] (defScope s_law_one) := ⟨rfl, rfl, rfl, by decide +kernel, rfl, by decide +kernel, by decide +kernel⟩
abbrev s_law_mixed : Stmt := topS 8
abbrev N_law_mixed : List Str := ["_law_feed_here", "_law_some", "_law_left", "_law_k"]
theorem sc_law_mixed : FnScope N_law_mixed ["_law_feed_here", "_law_some"] (defScope s_law_mixed) := ⟨rfl, rfl, rfl, by decide +kernel, rfl, by decide +kernel, by decide +kernel⟩
abbrev s_law_counted : Stmt := topS 9
abbrev N_law_counted : List Str := ["_law_letters", "_law_found", "_law_ahead", "_law_turn", "_law_longer", "_law_word", "_law_letter"]
theorem sc_law_counted : FnScope N_law_counted [] (defScope s_law_counted) := ⟨rfl, rfl, rfl, by decide +kernel, rfl, by decide +kernel, by decide +kernel⟩
abbrev s_law : Stmt := topS 10
abbrev N_law : List Str := ["_law_script", "_law_feed_here", "_law_words", "_law_edges", "_law_some", "_law_count", "_law_word", "_law_told", "_law_one_here", "_law_other", "_law_k"]
theorem sc_law : FnScope N_law ["_law_script"] (defScope s_law) := ⟨rfl, rfl, rfl, by decide +kernel, rfl, by decide +kernel, by decide +kernel⟩
section
variable {P : Program} {w : World} {K : PySem.W.Frag} {mg : Str → Option Value} {base : Heap}
abbrev LET : Str := "abcdefghijklmnopqrstuvwxyz"
theorem let_len : LET.length = 26 := by decide +kernel
theorem let_at : ∀ i : Fin 26, LET.cps.toList[i.val]? = some (97 + i.val) := by decide +kernel
theorem let_ix : ∀ i : Fin 26, Builtin.Str.occurrences LET ⟨#[97 + i.val]⟩ 0 LET.length 1 = [i.val] := by decide +kernel
def sp_name_of : Sp := fun vs H Q _ => ∃ n : Nat, vs = [.int n] ∧ n ≤ 10001 ∧ ∀ H', Same H H' → Q (.str (tx (pre (n + 1)))) H'
theorem ok_name_of {f : Addr} {fd : FuncData} {t : Tok} (F : Fun K "name_of" "name_of" s_name_of f fd)
    (z_len : mg "len" = none) (z_divmod : mg "divmod" = none) (c_LETTERS : mg "LETTERS" = some (.str LET t)) :
    FnG P w K mg base CX0 1 f fd ["number"] sp_name_of := by
  refine okG F sc_name_of (fun vs H Q E h => ?_) (fun cdv A outer s H vs Q E hr hq h => ?_)
  · obtain ⟨n, rfl, _⟩ := h
    rfl
  · obtain ⟨n, rfl, hn, k⟩ := h
    have nd := sc_name_of.nd
    refine ⟨_, (pss_cons (ps_set (i := 1) nd rfl (Or.inl rfl) pe_str)
      (pss_cons (ps_set (i := 2) nd rfl (Or.inl rfl) (pe_op op_add (pv 0) pe_int))
      (pss_cons (ps_while PassesOwn.never (pt_cmpR op_gt (pv 2) pe_int (nomark _))
        (pss_cons (ps_asg (pe_callB call_divmod (by rfl) z_divmod (by decide +kernel) (pa_cons (pe_op op_sub (pv 2) pe_int) (pa_cons (pe_callB call_len_str (by rfl) z_len (by decide +kernel) (pa_cons (pe_gS c_LETTERS) pa_nil)) pa_nil))) (pg_tup (by rfl) (pgs_cons (pg_name (i := 2) nd rfl (Or.inl rfl)) (pgs_cons (pg_name (i := 3) nd rfl (Or.inl rfl)) pgs_nil))))
        (pss_one (ps_set (i := 1) nd rfl (Or.inl rfl) (pe_op op_add_str (pe_ix ix_str (pe_gS c_LETTERS) (pv 3) (fun _ _ => rfl)) (pv 1))))))
      (pss_one (ps_ret (pv 1)))))), ?_⟩
    simp only [tSeq, tAsg, gName, tVar, tC, tOp, tUn, tNil, tCons, tCall, tCB, tBM, tBM0, tSl, tNoPart, tPart, tRet, tRetN, tIf, tIfS, tB, tTest, tDrop, tNext, tTup, tLst, tAnd, tOr, tNot, tNotV, tYes, tIsN, tNotN, rI, rI0, rU, rEq, rNe, rPop, rAppend, rCat, rSetL, rIxL, rIxS, rSlL, tRevL, tFor_eq, tWhile_eq, tLc_eq, iList, iTup, iRng1, iRng2, iStr, iZip, gTup, gCons, gNil, gSub, L2.start, Lay.cx_K, CDiv, CDivN, CPow, List.map_cons, List.map_nil, List.length_cons, List.length_nil, List.replicate_succ, List.replicate_zero, List.cons_append, List.nil_append, List.append_nil, List.set_cons_zero, List.set_cons_succ, List.getElem?_cons_zero, List.getElem?_cons_succ, Option.some.injEq, exists_eq_left', V.int.injEq, V.str.injEq, V.ref.injEq, V.bl.injEq, List.cons.injEq, and_true, true_and, exists_and_left, exists_eq_left, exists_eq, and_assoc, Nat.reduceAdd, Nat.reduceSub, Nat.zero_add, exists_and_right, exists_const, L2.wipe, if_true, if_false, N_name_of]
    refine WLoop.by (fun m τ G => ∃ (r : Nat) (a : Option V) (l : List Nat), τ = [some (.int n), some (.str (tx l)), some (.int r), a] ∧ m = r ∧ r ≤ 10002 ∧ pre r ++ l = pre (n + 1) ∧ Same H G)
      (n + 1) ⟨n + 1, none, [], rfl, rfl, by omega, by simp, Same.refl H⟩ ?_
    rintro m τ G ⟨r, a, l, rfl, hm, hr2, hl, sm⟩
    subst hm
    simp only [tSeq, tAsg, gName, tVar, tC, tOp, tUn, tNil, tCons, tCall, tCB, tBM, tBM0, tSl, tNoPart, tPart, tRet, tRetN, tIf, tIfS, tB, tTest, tDrop, tNext, tTup, tLst, tAnd, tOr, tNot, tNotV, tYes, tIsN, tNotN, rI, rI0, rU, rEq, rNe, rPop, rAppend, rCat, rSetL, rIxL, rIxS, rSlL, tRevL, tFor_eq, tWhile_eq, tLc_eq, iList, iTup, iRng1, iRng2, iStr, iZip, gTup, gCons, gNil, gSub, L2.start, Lay.cx_K, CDiv, CDivN, CPow, List.map_cons, List.map_nil, List.length_cons, List.length_nil, List.replicate_succ, List.replicate_zero, List.cons_append, List.nil_append, List.append_nil, List.set_cons_zero, List.set_cons_succ, List.getElem?_cons_zero, List.getElem?_cons_succ, Option.some.injEq, exists_eq_left', V.int.injEq, V.str.injEq, V.ref.injEq, V.bl.injEq, List.cons.injEq, and_true, true_and, exists_and_left, exists_eq_left, exists_eq, and_assoc, Nat.reduceAdd, Nat.reduceSub, Nat.zero_add, exists_and_right, exists_const, L2.wipe, if_true, if_false]
    refine ite2 (fun c => ?_) (fun c => ?_)
    · have hr0 : 0 < m := by have := of_decide_eq_true c; omega
      refine ⟨_, fun τ' G' z => z, line _ (by rw [let_len]; omega), by rw [let_len]; decide, by rw [let_len]; decide, ?_⟩
      intro p hp
      rw [let_len]
      have e1 : ((m : Int) - 1) / ((26 : Nat) : Int) = (((m - 1) / 26 : Nat) : Int) := by omega
      have e2 : ((m : Int) - 1) % ((26 : Nat) : Int) = (((m - 1) % 26 : Nat) : Int) := by omega
      rw [e1, e2]
      refine ⟨_, .inl (.inl upd_same), rfl, _, _, rfl, _, _, rfl, rfl, _, rfl, line 26, 97 + (m - 1) % 26,
        atI_nat (let_at ⟨(m - 1) % 26, by omega⟩), ?_, ?_⟩
      · rw [tx_one, tx_len, tx_len]
        have := congrArg List.length hl
        rw [List.length_append] at this
        have := pre_len (n + 1)
        exact line _ (by simp only [List.length_cons, List.length_nil]; omega)
      · refine ⟨(m - 1) / 26, by omega, (m - 1) / 26, some (.int ((m - 1) % 26 : Nat)), (97 + (m - 1) % 26) :: l, ?_, rfl, by omega, ?_, sameU sm hp⟩
        · rw [tx_one, tx_app]
          rfl
        · rw [← hl, pre_pos (show m ≠ 0 by omega), List.append_assoc]
          rfl
    · have hr0 : m = 0 := by
        have : ¬ (0 : Int) < m := fun z => c (decide_eq_true z)
        omega
      subst hr0
      rw [pre_zero, List.nil_append] at hl
      rw [hl]
      exact k G sm
def sp_number_of : Sp := fun vs H Q _ => ∃ n : Nat, vs = [.str (tx (pre (n + 1)))] ∧ n ≤ 10001 ∧ Q (.int n) H
theorem ok_number_of {f : Addr} {fd : FuncData} {t : Tok} (F : Fun K "number_of" "number_of" s_number_of f fd)
    (z_len : mg "len" = none) (c_LETTERS : mg "LETTERS" = some (.str LET t)) :
    FnG P w K mg base CX0 1 f fd ["name"] sp_number_of := by
  refine okG F sc_number_of (fun vs H Q E h => ?_) (fun cdv A outer s H vs Q E hr hq h => ?_)
  · obtain ⟨n, rfl, _⟩ := h
    rfl
  · obtain ⟨n, rfl, hn, k⟩ := h
    have nd := sc_number_of.nd
    refine ⟨_, (pss_cons (ps_set (i := 1) nd rfl (Or.inl rfl) pe_int)
      (pss_cons (ps_for PassesOwn.never rfl (pi_str (pv 0)) (pg_name (i := 2) nd rfl (Or.inl rfl))
        (pss_one (ps_set (i := 1) nd rfl (Or.inl rfl) (pe_op op_add (pe_op op_add (pe_op op_mul (pv 1) (pe_callB call_len_str (by rfl) z_len (by decide +kernel) (pa_cons (pe_gS c_LETTERS) pa_nil))) (pe_bm PySem.F.plainAttrs_str PySem.F.slot_str_index PySem.F.type_str_index mt_sindex (pe_gS c_LETTERS) (pa_cons (pv 2) pa_nil))) pe_int))))
      (pss_one (ps_ret (pe_op op_sub (pv 1) pe_int))))), ?_⟩
    simp only [tSeq, tAsg, gName, tVar, tC, tOp, tUn, tNil, tCons, tCall, tCB, tBM, tBM0, tSl, tNoPart, tPart, tRet, tRetN, tIf, tIfS, tB, tTest, tDrop, tNext, tTup, tLst, tAnd, tOr, tNot, tNotV, tYes, tIsN, tNotN, rI, rI0, rU, rEq, rNe, rPop, rAppend, rCat, rSetL, rIxL, rIxS, rSlL, tRevL, tFor_eq, tWhile_eq, tLc_eq, iList, iTup, iRng1, iRng2, iStr, iZip, gTup, gCons, gNil, gSub, L2.start, Lay.cx_K, CDiv, CDivN, CPow, List.map_cons, List.map_nil, List.length_cons, List.length_nil, List.replicate_succ, List.replicate_zero, List.cons_append, List.nil_append, List.append_nil, List.set_cons_zero, List.set_cons_succ, List.getElem?_cons_zero, List.getElem?_cons_succ, Option.some.injEq, exists_eq_left', V.int.injEq, V.str.injEq, V.ref.injEq, V.bl.injEq, List.cons.injEq, and_true, true_and, exists_and_left, exists_eq_left, exists_eq, and_assoc, Nat.reduceAdd, Nat.reduceSub, Nat.zero_add, exists_and_right, exists_const, L2.wipe, if_true, if_false, N_number_of]
    refine Loop.str (fun i τ G => ∃ a, τ = [some (.str (tx (pre (n + 1)))), some (.int (val ((pre (n + 1)).take i) : Nat)), a] ∧ G = H) ⟨none, rfl, rfl⟩ ?_ ?_
    · rintro i c τ G hc ⟨a, rfl, rfl⟩
      rw [tx_list] at hc
      have hmem := pre_letters (n + 1) c (List.mem_of_getElem? hc)
      simp only [tSeq, tAsg, gName, tVar, tC, tOp, tUn, tNil, tCons, tCall, tCB, tBM, tBM0, tSl, tNoPart, tPart, tRet, tRetN, tIf, tIfS, tB, tTest, tDrop, tNext, tTup, tLst, tAnd, tOr, tNot, tNotV, tYes, tIsN, tNotN, rI, rI0, rU, rEq, rNe, rPop, rAppend, rCat, rSetL, rIxL, rIxS, rSlL, tRevL, tFor_eq, tWhile_eq, tLc_eq, iList, iTup, iRng1, iRng2, iStr, iZip, gTup, gCons, gNil, gSub, L2.start, Lay.cx_K, CDiv, CDivN, CPow, List.map_cons, List.map_nil, List.length_cons, List.length_nil, List.replicate_succ, List.replicate_zero, List.cons_append, List.nil_append, List.append_nil, List.set_cons_zero, List.set_cons_succ, List.getElem?_cons_zero, List.getElem?_cons_succ, Option.some.injEq, exists_eq_left', V.int.injEq, V.str.injEq, V.ref.injEq, V.bl.injEq, List.cons.injEq, and_true, true_and, exists_and_left, exists_eq_left, exists_eq, and_assoc, Nat.reduceAdd, Nat.reduceSub, Nat.zero_add, exists_and_right, exists_const, L2.wipe, if_true, if_false]
      have ev : val ((pre (n + 1)).take (i + 1)) = val ((pre (n + 1)).take i) * 26 + (c - 97) + 1 := by
        rw [List.take_add_one, hc]
        unfold val
        rw [List.foldl_append]
        rfl
      refine ⟨line _ (by rw [let_len]; omega), .inr (by rw [let_len]; decide), rfl, c - 97, ⟨[], ?_⟩, ?_, _, rfl⟩
      · have := let_ix ⟨c - 97, by omega⟩
        rwa [show 97 + (⟨c - 97, by omega⟩ : Fin 26).val = c from by show 97 + (c - 97) = c; omega] at this
      · rw [ev, let_len]
        omega
    · rintro τ G ⟨a, rfl, rfl⟩
      rw [tx_list, List.take_length, val_pre]
      simp only [tSeq, tAsg, gName, tVar, tC, tOp, tUn, tNil, tCons, tCall, tCB, tBM, tBM0, tSl, tNoPart, tPart, tRet, tRetN, tIf, tIfS, tB, tTest, tDrop, tNext, tTup, tLst, tAnd, tOr, tNot, tNotV, tYes, tIsN, tNotN, rI, rI0, rU, rEq, rNe, rPop, rAppend, rCat, rSetL, rIxL, rIxS, rSlL, tRevL, tFor_eq, tWhile_eq, tLc_eq, iList, iTup, iRng1, iRng2, iStr, iZip, gTup, gCons, gNil, gSub, L2.start, Lay.cx_K, CDiv, CDivN, CPow, List.map_cons, List.map_nil, List.length_cons, List.length_nil, List.replicate_succ, List.replicate_zero, List.cons_append, List.nil_append, List.append_nil, List.set_cons_zero, List.set_cons_succ, List.getElem?_cons_zero, List.getElem?_cons_succ, Option.some.injEq, exists_eq_left', V.int.injEq, V.str.injEq, V.ref.injEq, V.bl.injEq, List.cons.injEq, and_true, true_and, exists_and_left, exists_eq_left, exists_eq, and_assoc, Nat.reduceAdd, Nat.reduceSub, Nat.zero_add, exists_and_right, exists_const, L2.wipe, if_true, if_false]
      have : (((n + 1 : Nat) : Int) - 1) = n := by omega
      rw [this]
      exact k
end
end C03
namespace C03
open PySem PySem.Spec PyProof.Rows L2 Lay M03
section
variable {P : Program} {w : World} {K : PySem.W.Frag} {mg : Str → Option Value} {base : Heap}
theorem ok_law_feed {f : Addr} {fd : FuncData} (F : Fun K "_law_feed" "_law_feed" s_law_feed f fd) (z_list : mg "list" = none) :
    FnG P w K mg base CX0 1 f fd ["_law_script"] (sp_feed K) := by
  refine okG F sc_law_feed (fun vs H Q E h => ?_) (fun cdv A outer s H vs Q E hr hq h => ?_)
  · obtain ⟨a, ns, rfl, _⟩ := h
    rfl
  · obtain ⟨a, ns, rfl, ha, hn, k⟩ := h
    have nd := sc_law_feed.nd
    refine ⟨_, (pss_cons (ps_set (i := 1) nd rfl (Or.inl rfl) pe_int)
      (pss_cons (ps_for PassesOwn.never rfl (pi_list (pe_slice sl_list (pv 0) po_none (po_some pe_int))) (pg_name (i := 2) nd rfl (Or.inl rfl))
        (pss_one (ps_set (i := 1) nd rfl (Or.inl rfl) (pe_op op_mod (pe_op op_add (pe_op op_add (pe_op op_mul (pv 1) pe_int) (pe_op op_mod (pv 2) pe_int)) pe_int) pe_int))))
      (pss_one (ps_ret (pe_lst (pa_cons (pe_revL (pe_callTy call_list_of (by rfl) z_list (by decide +kernel) (pa_cons (pe_slice sl_list (pv 0) po_none (po_some pe_int)) pa_nil))) (pa_cons (pv 1) (pa_cons pe_int pa_nil)))))))), ?_⟩
    simp only [tSeq, tAsg, gName, tVar, tC, tOp, tUn, tNil, tCons, tCall, tCB, tBM, tBM0, tSl, tNoPart, tPart, tRet, tRetN, tIf, tIfS, tB, tTest, tDrop, tNext, tTup, tLst, tAnd, tOr, tNot, tNotV, tYes, tIsN, tNotN, rI, rI0, rU, rEq, rNe, rPop, rAppend, rCat, rSetL, rIxL, rIxS, rSlL, tRevL, tFor_eq, tWhile_eq, tLc_eq, iList, iTup, iRng1, iRng2, iStr, iZip, gTup, gCons, gNil, gSub, L2.start, Lay.cx_K, CDiv, CDivN, CPow, List.map_cons, List.map_nil, List.length_cons, List.length_nil, List.replicate_succ, List.replicate_zero, List.cons_append, List.nil_append, List.append_nil, List.set_cons_zero, List.set_cons_succ, List.getElem?_cons_zero, List.getElem?_cons_succ, Option.some.injEq, exists_eq_left', V.int.injEq, V.str.injEq, V.ref.injEq, V.bl.injEq, List.cons.injEq, and_true, true_and, exists_and_left, exists_eq_left, exists_eq, and_assoc, Nat.reduceAdd, Nat.reduceSub, Nat.zero_add, exists_and_right, exists_const, L2.wipe, if_true, if_false, N_law_feed]
    refine ⟨_, ha, fun q hq' => ?_⟩
    have e63 : cutV (ns.map V.int) none (some 63) = ns.map V.int := cut63 (by simpa using hn)
    rw [e63]
    refine ⟨⟨_, .inl (.inl upd_same)⟩, ?_⟩
    have s1 : Same H (upd H q (.lst (ns.map V.int))) := same_upd hq'
    refine Loop.list (ns.map V.int) (fun i τ G => ∃ (m : Int) (c : Option V), τ = [some (.ref a), some (.int m), c] ∧ 0 ≤ m ∧ m < 2147483563 ∧ G = upd H q (.lst (ns.map V.int)))
      ⟨9873, none, rfl, by decide, by decide, rfl⟩ (fun i τ G ⟨_, _, _, _, _, e⟩ => by rw [e]; exact .inl (.inl upd_same)) ?_ ?_
    · rintro i x τ G hx ⟨m, c, rfl, h0, h1, rfl⟩
      obtain ⟨y, rfl⟩ := int_at hx
      simp only [tSeq, tAsg, gName, tVar, tC, tOp, tUn, tNil, tCons, tCall, tCB, tBM, tBM0, tSl, tNoPart, tPart, tRet, tRetN, tIf, tIfS, tB, tTest, tDrop, tNext, tTup, tLst, tAnd, tOr, tNot, tNotV, tYes, tIsN, tNotN, rI, rI0, rU, rEq, rNe, rPop, rAppend, rCat, rSetL, rIxL, rIxS, rSlL, tRevL, tFor_eq, tWhile_eq, tLc_eq, iList, iTup, iRng1, iRng2, iStr, iZip, gTup, gCons, gNil, gSub, L2.start, Lay.cx_K, CDiv, CDivN, CPow, List.map_cons, List.map_nil, List.length_cons, List.length_nil, List.replicate_succ, List.replicate_zero, List.cons_append, List.nil_append, List.append_nil, List.set_cons_zero, List.set_cons_succ, List.getElem?_cons_zero, List.getElem?_cons_succ, Option.some.injEq, exists_eq_left', V.int.injEq, V.str.injEq, V.ref.injEq, V.bl.injEq, List.cons.injEq, and_true, true_and, exists_and_left, exists_eq_left, exists_eq, and_assoc, Nat.reduceAdd, Nat.reduceSub, Nat.zero_add, exists_and_right, exists_const, L2.wipe, if_true, if_false]
      refine ⟨.inr (by decide), by decide, by decide, ?_, ?_⟩
      · exact Int.emod_nonneg _ (by decide)
      · exact Int.emod_lt_of_pos _ (by decide)
    · rintro τ G ⟨m, c, rfl, h0, h1, rfl⟩
      simp only [tSeq, tAsg, gName, tVar, tC, tOp, tUn, tNil, tCons, tCall, tCB, tBM, tBM0, tSl, tNoPart, tPart, tRet, tRetN, tIf, tIfS, tB, tTest, tDrop, tNext, tTup, tLst, tAnd, tOr, tNot, tNotV, tYes, tIsN, tNotN, rI, rI0, rU, rEq, rNe, rPop, rAppend, rCat, rSetL, rIxL, rIxS, rSlL, tRevL, tFor_eq, tWhile_eq, tLc_eq, iList, iTup, iRng1, iRng2, iStr, iZip, gTup, gCons, gNil, gSub, L2.start, Lay.cx_K, CDiv, CDivN, CPow, List.map_cons, List.map_nil, List.length_cons, List.length_nil, List.replicate_succ, List.replicate_zero, List.cons_append, List.nil_append, List.append_nil, List.set_cons_zero, List.set_cons_succ, List.getElem?_cons_zero, List.getElem?_cons_succ, Option.some.injEq, exists_eq_left', V.int.injEq, V.str.injEq, V.ref.injEq, V.bl.injEq, List.cons.injEq, and_true, true_and, exists_and_left, exists_eq_left, exists_eq, and_assoc, Nat.reduceAdd, Nat.reduceSub, Nat.zero_add, exists_and_right, exists_const, L2.wipe, if_true, if_false]
      refine ⟨_, s1.seq ha, fun q2 hq2 => ?_⟩
      rw [e63]
      refine ⟨_, .inl (.inl (.inl upd_same)), fun q3 hq3 => ⟨_, .inl (.inl upd_same), fun l hl => ⟨line _, fun p hp => ?_⟩⟩⟩
      have npl : l ≠ p := ne_of_none upd_same hp
      have s2 := sameU (o := .lst (ns.map V.int)) s1 hq2
      have s3 := sameU (o := .lst (ns.map V.int)) s2 hq3
      have s4 := sameU (o := .lst (ns.map V.int).reverse) s3 hl
      refine k p l _ (sameU s4 hp) (s4.free hp) (s3.free hl) ⟨ns.reverse, m, upd_same, ?_, ?_, by decide⟩
      · rw [upd_ne npl, upd_same, List.map_reverse]
      · rw [List.length_reverse]
        exact hn
theorem ok_law_take {f : Addr} {fd : FuncData} (F : Fun K "_law_take" "_law_take" s_law_take f fd) :
    FnG P w K mg base CX0 1 f fd ["_law_feed_here", "_law_many"] sp_take := by
  refine okG F sc_law_take (fun vs H Q E h => ?_) (fun cdv A outer s H vs Q E hr hq h => ?_)
  · obtain ⟨p, l, n, many, rfl, _⟩ := h
    rfl
  · obtain ⟨p, l, n, many, rfl, hF, hn, h0, h1, k⟩ := h
    have nd := sc_law_take.nd
    have npl := hF.ne
    obtain ⟨ns, m, hp, hl, hlen, _⟩ := hF
    refine ⟨_, (pss_cons (ps_asg (pe_op op_add (pe_ix ix_list (pv 0) pe_int (fun _ _ => rfl)) pe_int) (pg_sub (pv 0) pe_int set_list))
      (pss_cons (ps_set (i := 2) nd rfl (Or.inl rfl) (pe_op op_add (pe_ix ix_list (pv 0) pe_int (fun _ _ => rfl)) (pe_op op_mul pe_int (pe_ix ix_list (pv 0) pe_int (fun _ _ => rfl)))))
      (pss_cons (ps_if (pt_cmpR (op_neD hr.units) (pe_ix ix_list (pv 0) pe_int (fun _ _ => rfl)) (pe_lst pa_nil) (nomark _)) (pss_cons (ps_set (i := 3) nd rfl (Or.inl rfl) (pe_bm0 PySem.F.plainAttrs_list PySem.F.slot_list_pop PySem.F.type_list_pop mt_pop (pe_ix ix_list (pv 0) pe_int (fun _ _ => rfl))))
        (pss_cons (ps_if (pt_cmpR op_ge (pv 3) (pe_op op_pow pe_int pe_int) (nomark _)) (pss_cons (ps_expr (pe_bm PySem.F.plainAttrs_list PySem.F.slot_list_append PySem.F.type_list_append mt_append (pe_ix ix_list (pv 0) pe_int (fun _ _ => rfl)) (pa_cons (pe_op op_fdiv (pv 3) (pv 1)) pa_nil)))
          (pss_one (ps_ret (pe_op op_mod (pv 3) (pv 1))))) pss_nil)
        (pss_one (ps_set (i := 2) nd rfl (Or.inl rfl) (pe_op op_add (pv 2) (pv 3)))))) pss_nil)
      (pss_cons (ps_set (i := 2) nd rfl (Or.inl rfl) (pe_op op_add (pe_op op_mul (pe_op op_mod (pv 2) pe_int) pe_int) (pe_op op_mul (pe_op op_mul pe_int (pe_ix ix_list (pv 0) pe_int (fun _ _ => rfl))) (pe_ix ix_list (pv 0) pe_int (fun _ _ => rfl)))))
      (pss_cons (ps_set (i := 2) nd rfl (Or.inl rfl) (pe_op op_mod (pe_op op_add (pv 2) pe_int) pe_int))
      (pss_one (ps_ret (pe_op op_mod (pe_op op_fdiv (pe_op op_mod (pe_op op_mul (pv 2) (pe_op op_add (pe_op op_fdiv (pv 2) pe_int) pe_int)) pe_int) pe_int) (pv 1))))))))), ?_⟩
    simp only [tSeq, tAsg, gName, tVar, tC, tOp, tUn, tNil, tCons, tCall, tCB, tBM, tBM0, tSl, tNoPart, tPart, tRet, tRetN, tIf, tIfS, tB, tTest, tDrop, tNext, tTup, tLst, tAnd, tOr, tNot, tNotV, tYes, tIsN, tNotN, rI, rI0, rU, rEq, rNe, rPop, rAppend, rCat, rSetL, rIxL, rIxS, rSlL, tRevL, tFor_eq, tWhile_eq, tLc_eq, iList, iTup, iRng1, iRng2, iStr, iZip, gTup, gCons, gNil, gSub, L2.start, Lay.cx_K, CDiv, CDivN, CPow, List.map_cons, List.map_nil, List.length_cons, List.length_nil, List.replicate_succ, List.replicate_zero, List.cons_append, List.nil_append, List.append_nil, List.set_cons_zero, List.set_cons_succ, List.getElem?_cons_zero, List.getElem?_cons_succ, Option.some.injEq, exists_eq_left', V.int.injEq, V.str.injEq, V.ref.injEq, V.bl.injEq, List.cons.injEq, and_true, true_and, exists_and_left, exists_eq_left, exists_eq, and_assoc, Nat.reduceAdd, Nat.reduceSub, Nat.zero_add, exists_and_right, exists_const, L2.wipe, if_true, if_false, N_law_take]
    have cast : ((n : Nat) : Int) + 1 = ((n + 1 : Nat) : Int) := rfl
    refine ⟨_, .inl (.inl hp), _, rfl, _, rfl, _, hp, _, rfl, ?_⟩
    rw [cast, show ([V.ref l, V.int m, V.int (n : Nat)].set (Int.toNat 2) (.int ((n + 1 : Nat) : Int))) = [V.ref l, V.int m, V.int ((n + 1 : Nat) : Int)] from rfl]
    generalize hG : upd H p (.lst [V.ref l, V.int m, V.int ((n + 1 : Nat) : Int)]) = G
    have gp : G p = some (.lst [V.ref l, V.int m, V.int ((n + 1 : Nat) : Int)]) := by rw [← hG]; exact upd_same
    have gl : G l = some (.lst (ns.map V.int)) := by rw [← hG, upd_ne (Ne.symm npl)]; exact hl
    have gk : Keep p l H G := fun b o e x y => by rw [← hG, upd_ne x]; exact e
    have small : CMul 16807 ((n + 1 : Nat) : Int) := .inl (by decide)
    refine ⟨_, .inl (.inl gp), _, rfl, _, .inl (.inl gp), _, rfl, _, rfl, small, _, rfl, _, .inl (.inl gp), _, rfl, by decide, fun e he => ?_⟩
    have ge : Same G (upd G e (.lst [])) := same_upd he
    refine ⟨.list (ns.map PyData.int), .list [], .lst (.inl (.inl (ge _ _ gl))) (dpInts ns), .lst (.inl (.inl upd_same)) .nil, shapedInts ns, shapedInts [], _, rfl, ?_⟩
    rw [eqvNil]
    have last : ∀ (c : Int) (G' : Hp) (a : List (Option V)), Feed G' p l (n + 1) → Keep p l H G' →
        Q (.int (c * (c / 3 + 48271) % 2147483549 / 64 % many)) G' := fun c G' a f g =>
      k _ G' (Int.emod_nonneg _ (by omega)) (Int.emod_lt_of_pos _ h0) f g
    have bound : ∀ c : Int, CMul (c % 2147483587) (c % 2147483587 / 3 + 48271) := fun c => by
      have a := Int.emod_nonneg c (show (2147483587 : Int) ≠ 0 by decide)
      have b := Int.emod_lt_of_pos c (show (0 : Int) < 2147483587 by decide)
      exact .inl ⟨by omega, by omega⟩
    have sq : CMul (7919 * ((n + 1 : Nat) : Int)) ((n + 1 : Nat) : Int) := .inr ⟨by omega, by omega⟩
    cases ns with
    | nil =>
      refine iteF ?_
      have fe : Feed (upd G e (.lst [])) p l (n + 1) := ⟨[], m, ge _ _ gp, ge _ _ gl, by decide, by omega⟩
      refine ⟨by decide, .inr (by decide), _, .inl (.inl (ge _ _ gp)), _, rfl, _, rfl, .inl (by decide), _, .inl (.inl (ge _ _ gp)), _, rfl, _, rfl, sq, by decide, by decide, by decide, bound _, by decide, by decide, by decide, h0, ?_⟩
      exact last _ _ [] fe (gk.trans (.of ge))
    | cons z r =>
      refine iteT ?_
      generalize hz : (z :: r) = zs at gl hlen hl
      have hne : zs ≠ [] := by rw [← hz]; simp
      clear hz
      have pop : (zs.map V.int)[(zs.map V.int).length - 1]? = some (.int (zs.getLast hne)) := by
        rw [List.length_map, List.getElem?_map, ← List.getLast?_eq_getElem?, List.getLast?_eq_getLast hne]
        rfl
      generalize zs.getLast hne = y at pop
      have dl : (zs.map V.int).dropLast = (zs.dropLast).map V.int := by rw [List.map_dropLast]
      have dlen : zs.dropLast.length < 63 := by
        rw [List.length_dropLast]
        have : 0 < zs.length := List.length_pos_iff.mpr hne
        omega
      refine ⟨_, .inl (.inl (ge _ _ gp)), _, rfl, .inl ⟨rfl, _, .inl (.inl (ge _ _ gl))⟩, l, rfl, _, ge _ _ gl, _, pop, by decide, by decide, by decide, _, rfl, ?_⟩
      rw [dl]
      generalize hG2 : upd (upd G e (.lst [])) l (.lst (zs.dropLast.map V.int)) = G2
      have g2p : G2 p = some (.lst [V.ref l, V.int m, V.int ((n + 1 : Nat) : Int)]) := by rw [← hG2, upd_ne npl]; exact ge _ _ gp
      have g2l : G2 l = some (.lst (zs.dropLast.map V.int)) := by rw [← hG2]; exact upd_same
      have g2k : Keep p l H G2 := gk.trans fun b o h x y => by rw [← hG2, upd_ne y]; exact ge _ _ h
      refine ite2 (fun c => ?_) (fun c => ?_)
      · refine ⟨_, .inl (.inl g2p), _, rfl, .inl ⟨rfl, _, .inl (.inl g2l)⟩, _, rfl, h0, by omega, l, rfl, _, g2l, ltline _ (by rw [List.length_map]; omega), _, rfl, h0, ?_⟩
        refine k _ _ (Int.emod_nonneg _ (by omega)) (Int.emod_lt_of_pos _ h0) ⟨zs.dropLast ++ [y / many], m, ?_, ?_, ?_, by omega⟩ (g2k.trans fun b o h x y => by rw [upd_ne y]; exact h)
        · rw [upd_ne npl]
          exact g2p
        · rw [upd_same, List.map_append]
          rfl
        · simp only [List.length_append, List.length_cons, List.length_nil]
          omega
      · refine ⟨_, rfl, by decide, .inr (by decide), _, .inl (.inl g2p), _, rfl, _, rfl, .inl (by decide), _, .inl (.inl g2p), _, rfl, _, rfl, sq, by decide, by decide, by decide, bound _, by decide, by decide, by decide, h0, ?_⟩
        exact last _ _ [] ⟨zs.dropLast, m, g2p, g2l, by omega, by omega⟩ g2k

end
end C03
namespace C03
open PySem PySem.Spec PyProof.Rows L2 Lay M03
section
variable {P : Program} {w : World} {K : PySem.W.Frag} {mg : Str → Option Value} {base : Heap}
/-- n names from the one whose number, counted from 1, is a -/
def ws (a n : Nat) : List V := (List.range' a n).map fun r => V.str (tx (pre r))
theorem ws_len (a n : Nat) : (ws a n).length = n := by simp [ws]
theorem ws_zero (a : Nat) : ws a 0 = [] := rfl
theorem ws_app (a n m : Nat) : ws a n ++ ws (a + n) m = ws a (n + m) := by
  unfold ws
  rw [← List.map_append, List.range'_append_1]
theorem ws_succ (a n : Nat) : ws a n ++ [V.str (tx (pre (a + n)))] = ws a (n + 1) := ws_app a n 1
theorem ws_get {a n i : Nat} (h : i < n) : (ws a n)[i]? = some (V.str (tx (pre (a + i)))) := by
  unfold ws
  rw [List.getElem?_map, List.getElem?_range' h]
  simp
theorem ws_of {a n i : Nat} {x : V} (h : (ws a n)[i]? = some x) : x = V.str (tx (pre (a + i))) ∧ i < n := by
  have hi : i < n := by
    have := (List.getElem?_eq_some_iff.mp h).1
    rwa [ws_len] at this
  rw [ws_get hi] at h
  exact ⟨(Option.some.inj h).symm, hi⟩
theorem let_of {i k : Nat} (h : LET.cps.toList[i]? = some k) : k = 97 + i ∧ i < 26 := by
  have hi : i < 26 := by
    have := (List.getElem?_eq_some_iff.mp h).1
    rwa [show LET.cps.toList.length = 26 by decide +kernel] at this
  rw [let_at ⟨i, hi⟩] at h
  exact ⟨(Option.some.inj h).symm, hi⟩
def cA : Nat → Nat
  | 0 => 1
  | t + 1 => cA t * 26 + 1
def cN (t : Nat) : Nat := 26 ^ (t + 1)
theorem cAN : cA 2 + cN 2 - 1 = 18278 := by decide
theorem small_t {t : Nat} (h : t ≤ 2) : cN t ≤ 17576 ∧ cA t ≤ 703 ∧ 1 ≤ cA t := by
  rcases t with _ | _ | _ | t
  · decide
  · decide
  · decide
  · omega
def sp_counted : Sp := fun vs H Q _ => vs = [] ∧ ∀ p H', Same H H' → H' p = some (.lst (ws 1 18278)) → Q (.ref p) H'
theorem ok_law_counted {f : Addr} {fd : FuncData} (F : Fun K "_law_counted" "_law_counted" s_law_counted f fd) (z_list : mg "list" = none) (z_range : mg "range" = none) :
    FnG P w K mg base CX0 1 f fd [] sp_counted := by
  refine okG F sc_law_counted (fun vs H Q E h => ?_) (fun cdv A outer s H vs Q E hr hq h => ?_)
  · obtain ⟨rfl, _⟩ := h
    rfl
  · obtain ⟨rfl, k⟩ := h
    have nd := sc_law_counted.nd
    refine ⟨_, (pss_cons (ps_set (i := 0) nd rfl (Or.inl rfl) pe_str)
      (pss_cons (ps_setLc (i := 1) (own := [("_law_letter", 6)]) (g := gName 6) rfl nd rfl rfl (sw_true rfl rfl rfl (by decide +kernel)) (pi_str (pv 0)) (blkOk_by (own := [("_law_letter", 6)]) (N := N_law_counted) (sc := defScope s_law_counted) (by decide +kernel)) (fun _ _ _ _ _ => (pg_name (i := 6) nd rfl (by first | exact Or.inl rfl | exact Or.inr rfl))) (fun _ _ _ _ _ => pts_nil) (fun _ _ _ _ _ => (pv 6)))
      (pss_cons (ps_set (i := 2) nd rfl (Or.inl rfl) (pe_callTy call_list_of (by rfl) z_list (by decide +kernel) (pa_cons (pv 1) pa_nil)))
      (pss_cons (ps_for PassesOwn.never rfl (pi_range1 (by rfl) z_range (pa_cons pe_int pa_nil)) (pg_name (i := 3) nd rfl (Or.inl rfl))
        (pss_cons (ps_set (i := 4) nd rfl (Or.inl rfl) (pe_lst pa_nil))
        (pss_cons (ps_for PassesOwn.never rfl (pi_list (pv 2)) (pg_name (i := 5) nd rfl (Or.inr rfl))
          (pss_one (ps_set (i := 4) nd rfl (Or.inl rfl) (pe_op op_cat (pv 4) (pe_lc (own := [("_law_letter", 6)]) (g := gName 6) rfl nd (pi_str (pv 0)) (blkOk_by (own := [("_law_letter", 6)]) (N := N_law_counted) (sc := defScope s_law_counted) (by decide +kernel)) (fun _ _ _ _ _ => (pg_name (i := 6) nd rfl (by first | exact Or.inl rfl | exact Or.inr rfl))) (fun _ _ _ _ _ => pts_nil) (fun _ _ _ _ _ => (pe_op op_add_str (pv 5) (pv 6))))))))
        (pss_cons (ps_set (i := 1) nd rfl (Or.inl rfl) (pe_op op_cat (pv 1) (pv 4)))
        (pss_one (ps_set (i := 2) nd rfl (Or.inl rfl) (pv 4)))))))
      (pss_one (ps_ret (pv 1))))))), ?_⟩
    simp only [tSeq, tAsg, gName, tVar, tC, tOp, tUn, tNil, tCons, tCall, tCB, tBM, tBM0, tSl, tNoPart, tPart, tRet, tRetN, tIf, tIfS, tB, tTest, tDrop, tNext, tTup, tLst, tAnd, tOr, tNot, tNotV, tYes, tIsN, tNotN, rI, rI0, rU, rEq, rNe, rPop, rAppend, rCat, rSetL, rIxL, rIxS, rSlL, tRevL, tFor_eq, tWhile_eq, tLc_eq, iList, iTup, iRng1, iRng2, iStr, iZip, gTup, gCons, gNil, gSub, L2.start, Lay.cx_K, CDiv, CDivN, CPow, List.map_cons, List.map_nil, List.length_cons, List.length_nil, List.replicate_succ, List.replicate_zero, List.cons_append, List.nil_append, List.append_nil, List.set_cons_zero, List.set_cons_succ, List.getElem?_cons_zero, List.getElem?_cons_succ, Option.some.injEq, exists_eq_left', V.int.injEq, V.str.injEq, V.ref.injEq, V.bl.injEq, List.cons.injEq, and_true, true_and, exists_and_left, exists_eq_left, exists_eq, and_assoc, Nat.reduceAdd, Nat.reduceSub, Nat.zero_add, exists_and_right, exists_const, L2.wipe, if_true, if_false, N_law_counted]
    intro L1 n1
    have hlet : LET.cps.toList.length = 26 := by decide +kernel
    refine CLoop.str (fun i acc G => acc = ws 1 i ∧ Same H G) ⟨rfl, same_upd n1⟩ upd_same ?_ ?_
    · rintro i c acc G hc ⟨rfl, sm⟩ hL N hN
      obtain ⟨rfl, hi⟩ := let_of hc
      simp only [tSeq, tAsg, gName, tVar, tC, tOp, tUn, tNil, tCons, tCall, tCB, tBM, tBM0, tSl, tNoPart, tPart, tRet, tRetN, tIf, tIfS, tB, tTest, tDrop, tNext, tTup, tLst, tAnd, tOr, tNot, tNotV, tYes, tIsN, tNotN, rI, rI0, rU, rEq, rNe, rPop, rAppend, rCat, rSetL, rIxL, rIxS, rSlL, tRevL, tFor_eq, tWhile_eq, tLc_eq, iList, iTup, iRng1, iRng2, iStr, iZip, gTup, gCons, gNil, gSub, L2.start, Lay.cx_K, CDiv, CDivN, CPow, List.map_cons, List.map_nil, List.length_cons, List.length_nil, List.replicate_succ, List.replicate_zero, List.cons_append, List.nil_append, List.append_nil, List.set_cons_zero, List.set_cons_succ, List.getElem?_cons_zero, List.getElem?_cons_succ, Option.some.injEq, exists_eq_left', V.int.injEq, V.str.injEq, V.ref.injEq, V.bl.injEq, List.cons.injEq, and_true, true_and, exists_and_left, exists_eq_left, exists_eq, and_assoc, Nat.reduceAdd, Nat.reduceSub, Nat.zero_add, exists_and_right, exists_const, L2.wipe, if_true, if_false]
      refine ⟨_, hL, ltline _ (by rw [ws_len]; omega), hN _ _ ⟨?_, sameU' sm n1⟩ upd_same⟩
      rw [← ws_succ 1 i, show pre (1 + i) = pre (0 * 26 + i + 1) from by rw [show 1 + i = 0 * 26 + i + 1 by omega], pre_child 0 hi, pre_zero]
      rfl
    · rintro acc G ⟨rfl, sm⟩ hL
      rw [hlet] at hL
      simp only [tSeq, tAsg, gName, tVar, tC, tOp, tUn, tNil, tCons, tCall, tCB, tBM, tBM0, tSl, tNoPart, tPart, tRet, tRetN, tIf, tIfS, tB, tTest, tDrop, tNext, tTup, tLst, tAnd, tOr, tNot, tNotV, tYes, tIsN, tNotN, rI, rI0, rU, rEq, rNe, rPop, rAppend, rCat, rSetL, rIxL, rIxS, rSlL, tRevL, tFor_eq, tWhile_eq, tLc_eq, iList, iTup, iRng1, iRng2, iStr, iZip, gTup, gCons, gNil, gSub, L2.start, Lay.cx_K, CDiv, CDivN, CPow, List.map_cons, List.map_nil, List.length_cons, List.length_nil, List.replicate_succ, List.replicate_zero, List.cons_append, List.nil_append, List.append_nil, List.set_cons_zero, List.set_cons_succ, List.getElem?_cons_zero, List.getElem?_cons_succ, Option.some.injEq, exists_eq_left', V.int.injEq, V.str.injEq, V.ref.injEq, V.bl.injEq, List.cons.injEq, and_true, true_and, exists_and_left, exists_eq_left, exists_eq, and_assoc, Nat.reduceAdd, Nat.reduceSub, Nat.zero_add, exists_and_right, exists_const, L2.wipe, if_true, if_false]
      refine ⟨_, .inl (.inl (.inl hL)), fun l2 n2 => ⟨by decide, by decide, ?_⟩⟩
      refine Loop.range (fun t τ G => ∃ (pf pa : Addr) (a b c d : Option V), τ = [some (.str LET), some (.ref pf), some (.ref pa), a, b, c, d] ∧
          G pf = some (.lst (ws 1 (cA t + cN t - 1))) ∧ G pa = some (.lst (ws (cA t) (cN t))) ∧ Same H G ∧ t ≤ 2)
        ⟨L1, l2, none, none, none, none, rfl, ?_, upd_same, sameU sm n2, by omega⟩ ?_ ?_
      · rw [upd_ne (ne_of_none hL n2)]
        exact hL
      · rintro t τ G ht ⟨pf, pa, a, b, c, d, rfl, hf, ha, sg, _⟩
        have ht : t < 2 := ht
        obtain ⟨bN, bA, bA0⟩ := small_t (t := t + 1) (by omega)
        have eN : cN (t + 1) = cN t * 26 := rfl
        have eA : cA (t + 1) = cA t * 26 + 1 := rfl
        simp only [tSeq, tAsg, gName, tVar, tC, tOp, tUn, tNil, tCons, tCall, tCB, tBM, tBM0, tSl, tNoPart, tPart, tRet, tRetN, tIf, tIfS, tB, tTest, tDrop, tNext, tTup, tLst, tAnd, tOr, tNot, tNotV, tYes, tIsN, tNotN, rI, rI0, rU, rEq, rNe, rPop, rAppend, rCat, rSetL, rIxL, rIxS, rSlL, tRevL, tFor_eq, tWhile_eq, tLc_eq, iList, iTup, iRng1, iRng2, iStr, iZip, gTup, gCons, gNil, gSub, L2.start, Lay.cx_K, CDiv, CDivN, CPow, List.map_cons, List.map_nil, List.length_cons, List.length_nil, List.replicate_succ, List.replicate_zero, List.cons_append, List.nil_append, List.append_nil, List.set_cons_zero, List.set_cons_succ, List.getElem?_cons_zero, List.getElem?_cons_succ, Option.some.injEq, exists_eq_left', V.int.injEq, V.str.injEq, V.ref.injEq, V.bl.injEq, List.cons.injEq, and_true, true_and, exists_and_left, exists_eq_left, exists_eq, and_assoc, Nat.reduceAdd, Nat.reduceSub, Nat.zero_add, exists_and_right, exists_const, L2.wipe, if_true, if_false]
        refine ⟨by decide, fun l3 n3 => ?_⟩
        have s3 : Same G (upd G l3 (.lst [])) := same_upd n3
        refine ⟨⟨_, .inl (.inl (s3 _ _ ha))⟩, ?_⟩
        refine Loop.list (ws (cA t) (cN t)) (fun j τ F => ∃ (pl : Addr) (c d : Option V), τ = [some (.str LET), some (.ref pf), some (.ref pa), some (.int (0 + (t : Nat))), some (.ref pl), c, d] ∧
            F pl = some (.lst (ws (cA t * 26 + 1) (j * 26))) ∧ Same G F ∧ j ≤ cN t)
          ⟨l3, c, d, rfl, upd_same, s3, by omega⟩ (fun j τ F ⟨_, _, _, _, _, sF, _⟩ => .inl (.inl (sF _ _ ha))) ?_ ?_
        · rintro j x τ F hx ⟨pl, c, d, rfl, hl, sF, _⟩
          obtain ⟨rfl, hj⟩ := ws_of hx
          simp only [tSeq, tAsg, gName, tVar, tC, tOp, tUn, tNil, tCons, tCall, tCB, tBM, tBM0, tSl, tNoPart, tPart, tRet, tRetN, tIf, tIfS, tB, tTest, tDrop, tNext, tTup, tLst, tAnd, tOr, tNot, tNotV, tYes, tIsN, tNotN, rI, rI0, rU, rEq, rNe, rPop, rAppend, rCat, rSetL, rIxL, rIxS, rSlL, tRevL, tFor_eq, tWhile_eq, tLc_eq, iList, iTup, iRng1, iRng2, iStr, iZip, gTup, gCons, gNil, gSub, L2.start, Lay.cx_K, CDiv, CDivN, CPow, List.map_cons, List.map_nil, List.length_cons, List.length_nil, List.replicate_succ, List.replicate_zero, List.cons_append, List.nil_append, List.append_nil, List.set_cons_zero, List.set_cons_succ, List.getElem?_cons_zero, List.getElem?_cons_succ, Option.some.injEq, exists_eq_left', V.int.injEq, V.str.injEq, V.ref.injEq, V.bl.injEq, List.cons.injEq, and_true, true_and, exists_and_left, exists_eq_left, exists_eq, and_assoc, Nat.reduceAdd, Nat.reduceSub, Nat.zero_add, exists_and_right, exists_const, L2.wipe, if_true, if_false]
          intro L4 n4
          have hs : Same F (upd F L4 (.lst [])) := same_upd n4
          refine CLoop.str (fun i acc F' => acc = ws ((cA t + j) * 26 + 1) i ∧ Same F F') ⟨rfl, hs⟩ upd_same ?_ ?_
          · rintro i c acc F' hc ⟨rfl, sm⟩ hL N hN
            obtain ⟨rfl, hi⟩ := let_of hc
            simp only [tSeq, tAsg, gName, tVar, tC, tOp, tUn, tNil, tCons, tCall, tCB, tBM, tBM0, tSl, tNoPart, tPart, tRet, tRetN, tIf, tIfS, tB, tTest, tDrop, tNext, tTup, tLst, tAnd, tOr, tNot, tNotV, tYes, tIsN, tNotN, rI, rI0, rU, rEq, rNe, rPop, rAppend, rCat, rSetL, rIxL, rIxS, rSlL, tRevL, tFor_eq, tWhile_eq, tLc_eq, iList, iTup, iRng1, iRng2, iStr, iZip, gTup, gCons, gNil, gSub, L2.start, Lay.cx_K, CDiv, CDivN, CPow, List.map_cons, List.map_nil, List.length_cons, List.length_nil, List.replicate_succ, List.replicate_zero, List.cons_append, List.nil_append, List.append_nil, List.set_cons_zero, List.set_cons_succ, List.getElem?_cons_zero, List.getElem?_cons_succ, Option.some.injEq, exists_eq_left', V.int.injEq, V.str.injEq, V.ref.injEq, V.bl.injEq, List.cons.injEq, and_true, true_and, exists_and_left, exists_eq_left, exists_eq, and_assoc, Nat.reduceAdd, Nat.reduceSub, Nat.zero_add, exists_and_right, exists_const, L2.wipe, if_true, if_false]
            have pl := pre_len (cA t + j)
            refine ⟨by rw [tx_len]; exact line _ (by show (pre (cA t + j)).length + 1 ≤ 1000000; omega), _, hL, ltline _ (by rw [ws_len]; omega), hN _ _ ⟨?_, sameU' sm n4⟩ upd_same⟩
            rw [← ws_succ _ i, show (cA t + j) * 26 + 1 + i = (cA t + j) * 26 + i + 1 by omega, pre_child _ hi, tx_one, tx_app]
          · rintro acc F' ⟨rfl, sm⟩ hL
            rw [hlet] at hL
            simp only [tSeq, tAsg, gName, tVar, tC, tOp, tUn, tNil, tCons, tCall, tCB, tBM, tBM0, tSl, tNoPart, tPart, tRet, tRetN, tIf, tIfS, tB, tTest, tDrop, tNext, tTup, tLst, tAnd, tOr, tNot, tNotV, tYes, tIsN, tNotN, rI, rI0, rU, rEq, rNe, rPop, rAppend, rCat, rSetL, rIxL, rIxS, rSlL, tRevL, tFor_eq, tWhile_eq, tLc_eq, iList, iTup, iRng1, iRng2, iStr, iZip, gTup, gCons, gNil, gSub, L2.start, Lay.cx_K, CDiv, CDivN, CPow, List.map_cons, List.map_nil, List.length_cons, List.length_nil, List.replicate_succ, List.replicate_zero, List.cons_append, List.nil_append, List.append_nil, List.set_cons_zero, List.set_cons_succ, List.getElem?_cons_zero, List.getElem?_cons_succ, Option.some.injEq, exists_eq_left', V.int.injEq, V.str.injEq, V.ref.injEq, V.bl.injEq, List.cons.injEq, and_true, true_and, exists_and_left, exists_eq_left, exists_eq, and_assoc, Nat.reduceAdd, Nat.reduceSub, Nat.zero_add, exists_and_right, exists_const, L2.wipe, if_true, if_false]
            refine ⟨_, sm _ _ hl, _, hL, line _ (by rw [ws_len, ws_len]; omega), fun q nq => ?_⟩
            refine ⟨?_, sF.trans (sameU sm nq), by omega⟩
            rw [upd_same, show (cA t + j) * 26 + 1 = cA t * 26 + 1 + j * 26 by omega, ws_app, show (j + 1) * 26 = j * 26 + 26 by omega]
        · rintro τ F ⟨pl, c, d, rfl, hl, sF, _⟩
          rw [ws_len] at hl
          simp only [tSeq, tAsg, gName, tVar, tC, tOp, tUn, tNil, tCons, tCall, tCB, tBM, tBM0, tSl, tNoPart, tPart, tRet, tRetN, tIf, tIfS, tB, tTest, tDrop, tNext, tTup, tLst, tAnd, tOr, tNot, tNotV, tYes, tIsN, tNotN, rI, rI0, rU, rEq, rNe, rPop, rAppend, rCat, rSetL, rIxL, rIxS, rSlL, tRevL, tFor_eq, tWhile_eq, tLc_eq, iList, iTup, iRng1, iRng2, iStr, iZip, gTup, gCons, gNil, gSub, L2.start, Lay.cx_K, CDiv, CDivN, CPow, List.map_cons, List.map_nil, List.length_cons, List.length_nil, List.replicate_succ, List.replicate_zero, List.cons_append, List.nil_append, List.append_nil, List.set_cons_zero, List.set_cons_succ, List.getElem?_cons_zero, List.getElem?_cons_succ, Option.some.injEq, exists_eq_left', V.int.injEq, V.str.injEq, V.ref.injEq, V.bl.injEq, List.cons.injEq, and_true, true_and, exists_and_left, exists_eq_left, exists_eq, and_assoc, Nat.reduceAdd, Nat.reduceSub, Nat.zero_add, exists_and_right, exists_const, L2.wipe, if_true, if_false]
          refine ⟨_, sF _ _ hf, _, hl, line _ (by rw [ws_len, ws_len]; omega), fun q nq => ?_⟩
          refine ⟨⟨_, rfl⟩, ?_, ?_, (sg.trans sF).trans (same_upd nq), by omega⟩
          · rw [upd_same, eN, eA]
            have : cA t * 26 + 1 = 1 + (cA t + cN t - 1) := by
              rcases t with _ | _ | t
              · decide
              · decide
              · omega
            rw [this, ws_app]
            congr 3
            omega
          · rw [upd_ne (ne_of_none hl nq)]
            exact hl
      · rintro τ G ⟨pf, pa, a, b, c, d, rfl, hf, ha, sg, _⟩
        simp only [tSeq, tAsg, gName, tVar, tC, tOp, tUn, tNil, tCons, tCall, tCB, tBM, tBM0, tSl, tNoPart, tPart, tRet, tRetN, tIf, tIfS, tB, tTest, tDrop, tNext, tTup, tLst, tAnd, tOr, tNot, tNotV, tYes, tIsN, tNotN, rI, rI0, rU, rEq, rNe, rPop, rAppend, rCat, rSetL, rIxL, rIxS, rSlL, tRevL, tFor_eq, tWhile_eq, tLc_eq, iList, iTup, iRng1, iRng2, iStr, iZip, gTup, gCons, gNil, gSub, L2.start, Lay.cx_K, CDiv, CDivN, CPow, List.map_cons, List.map_nil, List.length_cons, List.length_nil, List.replicate_succ, List.replicate_zero, List.cons_append, List.nil_append, List.append_nil, List.set_cons_zero, List.set_cons_succ, List.getElem?_cons_zero, List.getElem?_cons_succ, Option.some.injEq, exists_eq_left', V.int.injEq, V.str.injEq, V.ref.injEq, V.bl.injEq, List.cons.injEq, and_true, true_and, exists_and_left, exists_eq_left, exists_eq, and_assoc, Nat.reduceAdd, Nat.reduceSub, Nat.zero_add, exists_and_right, exists_const, L2.wipe, if_true, if_false]
        exact k pf G sg hf
end
end C03
namespace C03
open PySem PySem.Spec PyProof.Rows L2 Lay M03
theorem ltPre (r s : Nat) : PySem.W.dataLt (.tuple [.int ((pre r).length : Nat), .str (tx (pre r))]) (.tuple [.int ((pre s).length : Nat), .str (tx (pre s))]) = decide ((r : Int) < s) := by
  rw [PySem.W.dataLt_pair (by simp [PySem.W.alike]) (by simp [PySem.W.alike]), PySem.W.dataLt_int, PySem.W.dataLt_str, tx_list, tx_list]
  have key := before_iff r s
  unfold before at key
  have e1 : (PyData.eqv (.int ((pre r).length : Nat)) (.int ((pre s).length : Nat)) = true) ↔ (pre r).length = (pre s).length := by
    simp only [PyData.eqv, beq_iff_eq]
    omega
  have e2 : (PyData.eqv (.str (tx (pre r))) (.str (tx (pre s))) = true) ↔ pre r = pre s := by
    simp only [PyData.eqv, beq_iff_eq]
    exact ⟨tx_inj, fun h => by rw [h]⟩
  by_cases h1 : (pre r).length = (pre s).length
  · rw [if_pos (e1.mpr h1)]
    by_cases h2 : pre r = pre s
    · rw [if_pos (e2.mpr h2)]
      have : r = s := by rw [← val_pre r, h2, val_pre]
      rw [this]
      simp
    · rw [if_neg (fun z => h2 (e2.mp z))]
      apply decide_eq_decide.mpr
      constructor
      · intro z
        have := key.mp (.inr ⟨h1, z⟩)
        omega
      · intro z
        rcases key.mpr (by omega) with q | q
        · omega
        · exact q.2
  · rw [if_neg (fun z => h1 (e1.mp z))]
    apply decide_eq_decide.mpr
    constructor
    · intro z
      have := key.mp (.inl (by omega))
      omega
    · intro z
      rcases key.mpr (by omega) with q | q
      · omega
      · exact absurd q.1 h1
theorem cut_mem {xs : List V} {a b : Option Int} {i : Nat} {x : V} (h : (cutV xs a b)[i]? = some x) : x ∈ xs := by
  have := List.mem_of_getElem? h
  unfold cutV at this
  exact List.mem_of_mem_drop (List.mem_of_mem_take this)
def E20 : List Nat := [0, 1, 24, 25, 26, 27, 51, 52, 77, 78, 700, 701, 702, 703, 727, 728, 1377, 1378, 9999, 10000]
theorem E20_le : ∀ c ∈ E20, c ≤ 10000 := by decide
theorem num_at {ns : List Nat} {i : Nat} {x : V} (h : (ns.map fun n : Nat => V.int n)[i]? = some x) : ∃ n : Nat, x = .int n ∧ n ∈ ns := by
  rw [List.getElem?_map] at h
  cases e : ns[i]? with
  | none => rw [e] at h; cases h
  | some y => rw [e] at h; exact ⟨y, (Option.some.inj h).symm, List.mem_of_getElem? e⟩
theorem num_of {ns : List Nat} {x : V} (h : x ∈ ns.map fun n : Nat => V.int n) : ∃ n : Nat, x = .int n ∧ n ∈ ns := by
  obtain ⟨n, h1, h2⟩ := List.mem_map.mp h
  exact ⟨n, h2.symm, h1⟩
theorem log2_le (n : Nat) (h : n ≤ 10000 := by omega) : n.log2 ≤ 14 := by
  by_cases z : n = 0
  · subst z
    decide
  · have := (Nat.log2_lt z (k := 14)).mpr (by omega)
    omega
theorem two_fit (n : Nat) (h : n ≤ 10000) : (PyData.list [.int n, .int n]).showable = true ∧ (PyData.list [.int n, .int n]).depth ≤ 60 ∧ (PyData.list [.int n, .int n]).shown.length ≤ sizeLine := by
  have hs : (PyData.shown (.int (n : Int))).length ≤ 13 := PyData.shown_int_le (by omega)
  have hl0 : n.log2 < 1920 := Nat.lt_of_le_of_lt (log2_le n) (by omega)
  refine ⟨by simp [PyData.showable, PyData.showableAll, hl0], by simp [PyData.depth, PyData.depthAll], ?_⟩
  refine PyData.shown_fits (B := 13) (by decide) (by decide) ?_ ?_
  rotate_left
  · have a := log2_le n
    simp only [PyData.weight, PyData.weightAll, Int.natAbs_natCast]
    split <;> omega
  simp [PyData.leavesShort, PyData.leavesShortAll, hs]
section
variable {P : Program} {w : World} {K : PySem.W.Frag} {mg : Str → Option Value} {base : Heap}
def sp_law (K : PySem.W.Frag) : Sp := fun vs H Q _ => ∃ (a : Addr) (ns : List Int), vs = [.ref a] ∧ SqL K H a (ns.map V.int) ∧ ns.length ≤ 63 ∧ ∀ H', Q (.bl true) H'
theorem ok_law {f : Addr} {fd : FuncData} (F : Fun K "law" "law" s_law f fd)
    (D_law_feed : Has P w K mg base 1 "_law_feed" ["_law_script"] (sp_feed K)) (D_law_counted : Has P w K mg base 1 "_law_counted" [] sp_counted)
    (D_law_take : Has P w K mg base 1 "_law_take" ["_law_feed_here", "_law_many"] sp_take)
    (D_name_of : Has P w K mg base 1 "name_of" ["number"] sp_name_of) (D_number_of : Has P w K mg base 1 "number_of" ["name"] sp_number_of)
    (z_isinstance : mg "isinstance" = none) (z_len : mg "len" = none) (z_range : mg "range" = none) (z_repr : mg "repr" = none) (z_str : mg "str" = none) (z_zip : mg "zip" = none) :
    FnG P w K mg base CX0 2 f fd ["_law_script"] (sp_law K) := by
  refine okG F sc_law (fun vs H Q E h => ?_) (fun cdv A outer s H vs Q E hr hq h => ?_)
  · obtain ⟨a, ns, rfl, _⟩ := h
    rfl
  · obtain ⟨a, ns, rfl, ha, hn, k⟩ := h
    have nd := sc_law.nd
    refine ⟨_, (pss_cons (ps_set (i := 1) nd rfl (Or.inr rfl) (pe_c D_law_feed (hr.mono (by decide)) hq (pa_cons (pv 0) pa_nil)))
      (pss_cons (ps_set (i := 2) nd rfl (Or.inl rfl) (pe_c0 D_law_counted (hr.mono (by decide)) hq))
      (pss_cons (ps_set (i := 3) nd rfl (Or.inl rfl) (pe_lst (pa_cons pe_int (pa_cons pe_int (pa_cons pe_int (pa_cons pe_int (pa_cons pe_int (pa_cons pe_int (pa_cons pe_int (pa_cons pe_int (pa_cons pe_int (pa_cons pe_int (pa_cons pe_int (pa_cons pe_int (pa_cons pe_int (pa_cons pe_int (pa_cons pe_int (pa_cons pe_int (pa_cons pe_int (pa_cons pe_int (pa_cons pe_int (pa_cons pe_int pa_nil))))))))))))))))))))))
      (pss_cons (ps_set (i := 4) nd rfl (Or.inl rfl) (pe_op op_cat (pv 3) (pe_lc (own := [("_law_k", 10)]) (g := gName 10) rfl nd (pi_range1 (by rfl) z_range (pa_cons pe_int pa_nil)) (blkOk_by (own := [("_law_k", 10)]) (N := N_law) (sc := defScope s_law) (by decide +kernel)) (fun _ _ _ _ _ => (pg_name (i := 10) nd rfl (by first | exact Or.inl rfl | exact Or.inr rfl))) (fun _ _ _ _ _ => pts_nil) (fun _ _ _ _ _ => (pe_c D_law_take (hr.mono (by decide)) hq (pa_cons (pv 1) (pa_cons pe_int pa_nil)))))))
      (pss_cons (ps_for PassesOwn.never rfl (pi_list (pv 4)) (pg_name (i := 5) nd rfl (Or.inl rfl))
        (pss_cons (ps_set (i := 6) nd rfl (Or.inl rfl) (pe_c D_name_of (hr.mono (by decide)) hq (pa_cons (pv 5) pa_nil)))
        (pss_cons (ps_if (PW.pt (pw_or (pt_not (pt_val (pe_callB call_isi (by rfl) z_isinstance (by decide +kernel) (pa_cons (pv 6) (pa_cons (pe_bltn (v := .ty "str") (u := .type "str") (by rfl) z_str (by decide +kernel) rfl) pa_nil))))) (pw_or (pt_cmpR op_ne (pv 6) (pe_ix ix_list (pv 2) (pv 5) (fun _ _ => rfl)) (nomark _)) (pw_or1 (pt_cmpR op_ne (pe_ck D_name_of (hr.mono (by decide)) hq (pk_cons (pv 5) pk_nil)) (pv 6) (nomark _)))))) (pss_one (ps_ret pe_bl)) pss_nil)
        (pss_cons (ps_set (i := 7) nd rfl (Or.inl rfl) (pe_lst (pa_cons (pe_c D_number_of (hr.mono (by decide)) hq (pa_cons (pv 6) pa_nil)) (pa_cons (pe_ck D_number_of (hr.mono (by decide)) hq (pk_cons (pv 6) pk_nil)) pa_nil))))
        (pss_one (ps_if (pt_cmpR op_ne (pe_callB (call_repr_D hr.units hq) (by rfl) z_repr (by decide +kernel) (pa_cons (pv 7) pa_nil)) (pe_callB (call_repr_D hr.units hq) (by rfl) z_repr (by decide +kernel) (pa_cons (pe_lst (pa_cons (pv 5) (pa_cons (pv 5) pa_nil))) pa_nil)) (nomark _)) (pss_one (ps_ret pe_bl)) pss_nil))))))
      (pss_cons (ps_for PassesOwn.never rfl (pi_zip (by rfl) z_zip (pa_cons (pe_slice sl_list (pv 4) po_none (po_some (pe_un un_neg pe_int))) (pa_cons (pe_slice sl_list (pv 4) (po_some pe_int) po_none) pa_nil))) (pg_tup (by rfl) (pgs_cons (pg_name (i := 8) nd rfl (Or.inl rfl)) (pgs_cons (pg_name (i := 9) nd rfl (Or.inl rfl)) pgs_nil)))
        (pss_one (ps_if (pt_cmpR op_ne (pe_cmpR op_lt (pv 8) (pv 9) (nomark _)) (pe_cmpR (op_ltD hr.units) (pe_tup (pa_cons (pe_callB call_len_str (by rfl) z_len (by decide +kernel) (pa_cons (pe_c D_name_of (hr.mono (by decide)) hq (pa_cons (pv 8) pa_nil)) pa_nil)) (pa_cons (pe_c D_name_of (hr.mono (by decide)) hq (pa_cons (pv 8) pa_nil)) pa_nil))) (pe_tup (pa_cons (pe_callB call_len_str (by rfl) z_len (by decide +kernel) (pa_cons (pe_c D_name_of (hr.mono (by decide)) hq (pa_cons (pv 9) pa_nil)) pa_nil)) (pa_cons (pe_c D_name_of (hr.mono (by decide)) hq (pa_cons (pv 9) pa_nil)) pa_nil))) (nomark _)) (nomark _)) (pss_one (ps_ret pe_bl)) pss_nil)))
      (pss_one (ps_ret pe_bl)))))))), ?_⟩
    simp only [tSeq, tAsg, gName, tVar, tC, tOp, tUn, tNil, tCons, tCall, tCB, tBM, tBM0, tSl, tNoPart, tPart, tRet, tRetN, tIf, tIfS, tB, tTest, tDrop, tNext, tTup, tLst, tAnd, tOr, tNot, tNotV, tYes, tIsN, tNotN, rI, rI0, rU, rEq, rNe, rPop, rAppend, rCat, rSetL, rIxL, rIxS, rSlL, tRevL, tFor_eq, tWhile_eq, tLc_eq, iList, iTup, iRng1, iRng2, iStr, iZip, gTup, gCons, gNil, gSub, L2.start, Lay.cx_K, CDiv, CDivN, CPow, List.map_cons, List.map_nil, List.length_cons, List.length_nil, List.replicate_succ, List.replicate_zero, List.cons_append, List.nil_append, List.append_nil, List.set_cons_zero, List.set_cons_succ, List.getElem?_cons_zero, List.getElem?_cons_succ, Option.some.injEq, exists_eq_left', V.int.injEq, V.str.injEq, V.ref.injEq, V.bl.injEq, List.cons.injEq, and_true, true_and, exists_and_left, exists_eq_left, exists_eq, and_assoc, Nat.reduceAdd, Nat.reduceSub, Nat.zero_add, exists_and_right, exists_const, L2.wipe, if_true, if_false, N_law]
    refine ⟨a, ns, rfl, ha, hn, fun p l H1 s1 np nl hF => ⟨rfl, fun pw H2 s2 hw => ⟨line 20, fun pe ne => ⟨by decide, by decide, fun L nL => ?_⟩⟩⟩⟩
    have hF2 := hF.same s2
    generalize hE : ([V.int 0, V.int 1, V.int 24, V.int 25, V.int 26, V.int 27, V.int 51, V.int 52, V.int 77, V.int 78, V.int 700, V.int 701, V.int 702, V.int 703, V.int 727, V.int 728, V.int 1377, V.int 1378, V.int 9999, V.int 10000] : List V) = es at nL ⊢
    have heE : es = E20.map fun n : Nat => V.int n := by rw [← hE]; rfl
    clear hE
    have s3 : Same H2 (upd H2 pe (.lst es)) := same_upd ne
    have hF3 := hF2.same s3
    have hpe : (upd H2 pe (.lst es)) pe = some (.lst es) := upd_same
    generalize upd H2 pe (.lst es) = G1 at nL s3 hF3 hpe ⊢
    have hw1 := s3 _ _ hw
    -- the feed's lists are neither the words nor the edges nor the new list
    have wp : pw ≠ p ∧ pw ≠ l := by
      obtain ⟨zs, m, h1, h2, h3, _⟩ := hF3
      refine ⟨ne_of hw1 h1 fun e => ?_, ne_of hw1 h2 fun e => ?_⟩
      · injection e with e
        have := congrArg List.length e
        rw [ws_len] at this
        simp at this
      · injection e with e
        have := congrArg List.length e
        rw [ws_len, List.length_map] at this
        omega
    have ep : pe ≠ p ∧ pe ≠ l := by
      obtain ⟨zs, m, h1, h2, h3, _⟩ := hF2
      exact ⟨(ne_of_none h1 ne).symm, (ne_of_none h2 ne).symm⟩
    have Lp : L ≠ p ∧ L ≠ l := by
      obtain ⟨zs, m, h1, h2, h3, _⟩ := hF3
      exact ⟨(ne_of_none h1 nL).symm, (ne_of_none h2 nL).symm⟩
    refine CLoop.range (fun i acc G => ∃ cs : List Nat, acc = cs.map (fun n : Nat => V.int n) ∧ cs.length = i ∧ (∀ c ∈ cs, c ≤ 10000) ∧ Feed G p l i ∧ Keep p l G1 G)
      ⟨[], rfl, rfl, by simp, hF3.same (same_upd nL), Keep.of (same_upd nL)⟩ upd_same ?_ ?_
    · rintro i acc G hi ⟨cs, rfl, hcs, hle, hf, hk⟩ hL N hN
      simp only [tSeq, tAsg, gName, tVar, tC, tOp, tUn, tNil, tCons, tCall, tCB, tBM, tBM0, tSl, tNoPart, tPart, tRet, tRetN, tIf, tIfS, tB, tTest, tDrop, tNext, tTup, tLst, tAnd, tOr, tNot, tNotV, tYes, tIsN, tNotN, rI, rI0, rU, rEq, rNe, rPop, rAppend, rCat, rSetL, rIxL, rIxS, rSlL, tRevL, tFor_eq, tWhile_eq, tLc_eq, iList, iTup, iRng1, iRng2, iStr, iZip, gTup, gCons, gNil, gSub, L2.start, Lay.cx_K, CDiv, CDivN, CPow, List.map_cons, List.map_nil, List.length_cons, List.length_nil, List.replicate_succ, List.replicate_zero, List.cons_append, List.nil_append, List.append_nil, List.set_cons_zero, List.set_cons_succ, List.getElem?_cons_zero, List.getElem?_cons_succ, Option.some.injEq, exists_eq_left', V.int.injEq, V.str.injEq, V.ref.injEq, V.bl.injEq, List.cons.injEq, and_true, true_and, exists_and_left, exists_eq_left, exists_eq, and_assoc, Nat.reduceAdd, Nat.reduceSub, Nat.zero_add, exists_and_right, exists_const, L2.wipe, if_true, if_false]
      refine ⟨p, l, i, 10001, rfl, hf, by omega, by decide, by decide, fun r H' r0 r1 hf' hk' => ?_⟩
      have hL' := hk' L _ hL Lp.1 Lp.2
      refine ⟨_, hL', ltline _ (by rw [List.length_map]; omega), hN _ _ ⟨cs ++ [r.toNat], ?_, by simp [hcs], ?_, hf'.upd Lp.1 Lp.2, ?_⟩ upd_same⟩
      · rw [List.map_append]
        simp only [List.map_cons, List.map_nil]
        rw [show ((r.toNat : Nat) : Int) = r by omega]
      · intro c hc
        rcases List.mem_append.mp hc with z | z
        · exact hle c z
        · have := List.mem_singleton.mp z
          omega
      · intro b o hb x y
        have : b ≠ L := ne_of_none hb nL
        rw [upd_ne this]
        exact hk' b o (hk b o hb x y) x y
    · rintro acc G ⟨cs, rfl, hcs, hle, hf, hk⟩ hL
      simp only [tSeq, tAsg, gName, tVar, tC, tOp, tUn, tNil, tCons, tCall, tCB, tBM, tBM0, tSl, tNoPart, tPart, tRet, tRetN, tIf, tIfS, tB, tTest, tDrop, tNext, tTup, tLst, tAnd, tOr, tNot, tNotV, tYes, tIsN, tNotN, rI, rI0, rU, rEq, rNe, rPop, rAppend, rCat, rSetL, rIxL, rIxS, rSlL, tRevL, tFor_eq, tWhile_eq, tLc_eq, iList, iTup, iRng1, iRng2, iStr, iZip, gTup, gCons, gNil, gSub, L2.start, Lay.cx_K, CDiv, CDivN, CPow, List.map_cons, List.map_nil, List.length_cons, List.length_nil, List.replicate_succ, List.replicate_zero, List.cons_append, List.nil_append, List.append_nil, List.set_cons_zero, List.set_cons_succ, List.getElem?_cons_zero, List.getElem?_cons_succ, Option.some.injEq, exists_eq_left', V.int.injEq, V.str.injEq, V.ref.injEq, V.bl.injEq, List.cons.injEq, and_true, true_and, exists_and_left, exists_eq_left, exists_eq, and_assoc, Nat.reduceAdd, Nat.reduceSub, Nat.zero_add, exists_and_right, exists_const, L2.wipe, if_true, if_false]
      have hpe' := hk pe _ hpe ep.1 ep.2
      have hpw' := hk pw _ hw1 wp.1 wp.2
      refine ⟨_, hpe', _, hL, line _ (by rw [heE, List.length_map, List.length_map, show E20.length = 20 from rfl]; omega), fun ps nps => ?_⟩
      have hall : ∃ all : List Nat, es ++ cs.map (fun n : Nat => V.int n) = all.map (fun n : Nat => V.int n) ∧ ∀ c ∈ all, c ≤ 10000 := by
        refine ⟨E20 ++ cs, by rw [heE, List.map_append], fun c hc => ?_⟩
        rcases List.mem_append.mp hc with z | z
        · exact E20_le c z
        · exact hle c z
      obtain ⟨all, hal, hall⟩ := hall
      rw [hal]
      have hps : (upd G ps (.lst (all.map fun n : Nat => V.int n))) ps = some (.lst (all.map fun n : Nat => V.int n)) := upd_same
      have hw3 : (upd G ps (.lst (all.map fun n : Nat => V.int n))) pw = some (.lst (ws 1 18278)) := by
        rw [upd_ne (ne_of_none hpw' nps)]
        exact hpw'
      generalize upd G ps (.lst (all.map fun n : Nat => V.int n)) = G3 at hps hw3 ⊢
      refine ⟨⟨_, .inl (.inl hps)⟩, ?_⟩
      refine Loop.list (all.map fun n : Nat => V.int n) (fun i τ G => ∃ b5 b6 b7 b8 b9 b10 : Option V, τ = [some (.ref a), some (.ref p), some (.ref pw), some (.ref pe), some (.ref ps), b5, b6, b7, b8, b9, b10] ∧ Same G3 G)
        ⟨_, _, _, _, _, _, rfl, Same.refl _⟩ (fun i τ G ⟨_, _, _, _, _, _, _, sm⟩ => .inl (.inl (sm _ _ hps))) ?_ ?_
      · rintro i x τ G hx ⟨b5, b6, b7, b8, b9, b10, rfl, sm⟩
        obtain ⟨c, rfl, hc⟩ := num_at hx
        have hc := hall c hc
        simp only [tSeq, tAsg, gName, tVar, tC, tOp, tUn, tNil, tCons, tCall, tCB, tBM, tBM0, tSl, tNoPart, tPart, tRet, tRetN, tIf, tIfS, tB, tTest, tDrop, tNext, tTup, tLst, tAnd, tOr, tNot, tNotV, tYes, tIsN, tNotN, rI, rI0, rU, rEq, rNe, rPop, rAppend, rCat, rSetL, rIxL, rIxS, rSlL, tRevL, tFor_eq, tWhile_eq, tLc_eq, iList, iTup, iRng1, iRng2, iStr, iZip, gTup, gCons, gNil, gSub, L2.start, Lay.cx_K, CDiv, CDivN, CPow, List.map_cons, List.map_nil, List.length_cons, List.length_nil, List.replicate_succ, List.replicate_zero, List.cons_append, List.nil_append, List.append_nil, List.set_cons_zero, List.set_cons_succ, List.getElem?_cons_zero, List.getElem?_cons_succ, Option.some.injEq, exists_eq_left', V.int.injEq, V.str.injEq, V.ref.injEq, V.bl.injEq, List.cons.injEq, and_true, true_and, exists_and_left, exists_eq_left, exists_eq, and_assoc, Nat.reduceAdd, Nat.reduceSub, Nat.zero_add, exists_and_right, exists_const, L2.wipe, if_true, if_false]
        refine ⟨c, rfl, by omega, fun H4 s4 => ?_⟩
        refine ⟨.str _, .ty "str", .type "str", .type "str", true, rfl, .ty "str", .base (.str _), kit_ty (by decide +kernel), _, rfl, iteF ?_⟩
        have sw := (sm.trans s4) _ _ hw3
        have hword : atI (ws 1 18278) ((c : Nat) : Int) = some (V.str (tx (pre (c + 1)))) := by
          have := ws_get (a := 1) (n := 18278) (i := c) (by omega)
          rw [show 1 + c = c + 1 by omega] at this
          exact atI_nat this
        refine ⟨_, .inl (.inl sw), _, hword, rfl, ?_⟩
        rw [decide_eq_true rfl]
        refine iteF ⟨c, rfl, by omega, fun H5 s5 => ⟨rfl, ?_⟩⟩
        rw [decide_eq_true rfl]
        refine iteF ⟨c, rfl, by omega, ⟨c, rfl, by omega, line 2, fun u nu => ?_⟩⟩
        obtain ⟨f1, f2, f3⟩ := two_fit c hc
        refine ⟨.ref u, .list [.int c, .int c], rfl, .lst (.inl (.inl upd_same)) (.cons (.int _) (.cons (.int _) .nil)), f1, f2, f3, line 2, fun v nv => ?_⟩
        refine ⟨.ref v, .list [.int c, .int c], rfl, .lst (.inl (.inl upd_same)) (.cons (.int _) (.cons (.int _) .nil)), f1, f2, f3, rfl, ?_⟩
        rw [decide_eq_true rfl]
        exact iteF (sm.trans (sameU (sameU (s4.trans s5) nu) nv))
      · rintro τ G ⟨b5, b6, b7, b8, b9, b10, rfl, sm⟩
        simp only [tSeq, tAsg, gName, tVar, tC, tOp, tUn, tNil, tCons, tCall, tCB, tBM, tBM0, tSl, tNoPart, tPart, tRet, tRetN, tIf, tIfS, tB, tTest, tDrop, tNext, tTup, tLst, tAnd, tOr, tNot, tNotV, tYes, tIsN, tNotN, rI, rI0, rU, rEq, rNe, rPop, rAppend, rCat, rSetL, rIxL, rIxS, rSlL, tRevL, tFor_eq, tWhile_eq, tLc_eq, iList, iTup, iRng1, iRng2, iStr, iZip, gTup, gCons, gNil, gSub, L2.start, Lay.cx_K, CDiv, CDivN, CPow, List.map_cons, List.map_nil, List.length_cons, List.length_nil, List.replicate_succ, List.replicate_zero, List.cons_append, List.nil_append, List.append_nil, List.set_cons_zero, List.set_cons_succ, List.getElem?_cons_zero, List.getElem?_cons_succ, Option.some.injEq, exists_eq_left', V.int.injEq, V.str.injEq, V.ref.injEq, V.bl.injEq, List.cons.injEq, and_true, true_and, exists_and_left, exists_eq_left, exists_eq, and_assoc, Nat.reduceAdd, Nat.reduceSub, Nat.zero_add, exists_and_right, exists_const, L2.wipe, if_true, if_false]
        refine ⟨_, .inl (.inl (sm _ _ hps)), fun p1 n1 => ?_⟩
        have t1 := sameU (o := .lst (cutV (all.map fun n : Nat => V.int n) none (some (-1)))) sm n1
        refine ⟨_, .inl (.inl (t1 _ _ hps)), fun p2 n2 => ?_⟩
        have h1 : (upd (upd G p1 (.lst (cutV (all.map fun n : Nat => V.int n) none (some (-1))))) p2 (.lst (cutV (all.map fun n : Nat => V.int n) (some 1) none))) p1 = some (.lst (cutV (all.map fun n : Nat => V.int n) none (some (-1)))) := by
          rw [upd_ne (ne_of_none upd_same n2)]
          exact upd_same
        have h2 : (upd (upd G p1 (.lst (cutV (all.map fun n : Nat => V.int n) none (some (-1))))) p2 (.lst (cutV (all.map fun n : Nat => V.int n) (some 1) none))) p2 = some (.lst (cutV (all.map fun n : Nat => V.int n) (some 1) none)) := upd_same
        generalize upd (upd G p1 (.lst (cutV (all.map fun n : Nat => V.int n) none (some (-1))))) p2 (.lst (cutV (all.map fun n : Nat => V.int n) (some 1) none)) = G5 at h1 h2 ⊢
        refine ⟨⟨_, .inl (.inl h1)⟩, ⟨_, .inl (.inl h2)⟩, ?_⟩
        refine Loop.zip _ _ _ rfl (fun i τ G => ∃ b8 b9 : Option V, τ = [some (.ref a), some (.ref p), some (.ref pw), some (.ref pe), some (.ref ps), b5, b6, b7, b8, b9, b10] ∧ Same G5 G)
          ⟨_, _, rfl, Same.refl _⟩ (fun i τ G ⟨_, _, _, sm⟩ => ⟨.inl (.inl (sm _ _ h1)), .inl (.inl (sm _ _ h2))⟩) ?_ ?_
        · rintro i x y T τ F hx hy ⟨b8, b9, rfl, sF⟩ nT
          obtain ⟨c, rfl, hc⟩ := num_of (cut_mem hx)
          obtain ⟨d, rfl, hd⟩ := num_of (cut_mem hy)
          have hc := hall c hc
          have hd := hall d hd
          have sT := sameU (o := .tup [V.int c, V.int d]) sF nT
          simp only [tSeq, tAsg, gName, tVar, tC, tOp, tUn, tNil, tCons, tCall, tCB, tBM, tBM0, tSl, tNoPart, tPart, tRet, tRetN, tIf, tIfS, tB, tTest, tDrop, tNext, tTup, tLst, tAnd, tOr, tNot, tNotV, tYes, tIsN, tNotN, rI, rI0, rU, rEq, rNe, rPop, rAppend, rCat, rSetL, rIxL, rIxS, rSlL, tRevL, tFor_eq, tWhile_eq, tLc_eq, iList, iTup, iRng1, iRng2, iStr, iZip, gTup, gCons, gNil, gSub, L2.start, Lay.cx_K, CDiv, CDivN, CPow, List.map_cons, List.map_nil, List.length_cons, List.length_nil, List.replicate_succ, List.replicate_zero, List.cons_append, List.nil_append, List.append_nil, List.set_cons_zero, List.set_cons_succ, List.getElem?_cons_zero, List.getElem?_cons_succ, Option.some.injEq, exists_eq_left', V.int.injEq, V.str.injEq, V.ref.injEq, V.bl.injEq, List.cons.injEq, and_true, true_and, exists_and_left, exists_eq_left, exists_eq, and_assoc, Nat.reduceAdd, Nat.reduceSub, Nat.zero_add, exists_and_right, exists_const, L2.wipe, if_true, if_false]
          have lc := pre_len (c + 1)
          have ld := pre_len (d + 1)
          refine ⟨_, .inl (.inl upd_same), rfl, _, _, rfl, _, _, rfl, rfl, _, rfl, _, rfl, c, rfl, by omega, fun K1 q1 => ⟨_, rfl, line _ (by rw [tx_len]; omega), c, rfl, by omega, fun K2 q2 => ⟨line 2, fun u nu => ?_⟩⟩⟩
          refine ⟨d, rfl, by omega, fun K3 q3 => ⟨_, rfl, line _ (by rw [tx_len]; omega), d, rfl, by omega, fun K4 q4 => ⟨line 2, fun v nv => ?_⟩⟩⟩
          rw [tx_len] at q3 ⊢
          have su : Same F (upd K2 u (.tup [V.int ((pre (c + 1)).length : Nat), V.str (tx (pre (c + 1)))])) := sameU ((same_upd nT).trans (q1.trans q2)) nu
          have hu : K4 u = some (.tup [V.int ((pre (c + 1)).length : Nat), V.str (tx (pre (c + 1)))]) := q4 _ _ (q3 _ _ upd_same)
          refine ⟨.tuple [.int ((pre (c + 1)).length : Nat), .str (tx (pre (c + 1)))], .tuple [.int ((pre (d + 1)).length : Nat), .str (tx (pre (d + 1)))],
            .tup (.inl (.inl (by rw [upd_ne (ne_of_none hu nv)]; exact hu))) (.cons (.int _) (.cons (.str _) .nil)), .tup (.inl (.inl upd_same)) (.cons (.int _) (.cons (.str _) .nil)),
            by simp [PySem.W.alike, PySem.W.alikeAll], by simp, by simp [PyData.depth, PyData.depthAll], ?_⟩
          rw [ltPre]
          refine ⟨rfl, ?_⟩
          have e : decide (((c + 1 : Nat) : Int) < ((d + 1 : Nat) : Int)) = decide ((c : Int) < d) := decide_eq_decide.mpr (by omega)
          rw [e, decide_eq_true rfl]
          exact iteF (sF.trans (sameU (su.trans (q3.trans q4)) nv))
        · rintro τ F ⟨b8, b9, rfl, sF⟩
          simp only [tSeq, tAsg, gName, tVar, tC, tOp, tUn, tNil, tCons, tCall, tCB, tBM, tBM0, tSl, tNoPart, tPart, tRet, tRetN, tIf, tIfS, tB, tTest, tDrop, tNext, tTup, tLst, tAnd, tOr, tNot, tNotV, tYes, tIsN, tNotN, rI, rI0, rU, rEq, rNe, rPop, rAppend, rCat, rSetL, rIxL, rIxS, rSlL, tRevL, tFor_eq, tWhile_eq, tLc_eq, iList, iTup, iRng1, iRng2, iStr, iZip, gTup, gCons, gNil, gSub, L2.start, Lay.cx_K, CDiv, CDivN, CPow, List.map_cons, List.map_nil, List.length_cons, List.length_nil, List.replicate_succ, List.replicate_zero, List.cons_append, List.nil_append, List.append_nil, List.set_cons_zero, List.set_cons_succ, List.getElem?_cons_zero, List.getElem?_cons_succ, Option.some.injEq, exists_eq_left', V.int.injEq, V.str.injEq, V.ref.injEq, V.bl.injEq, List.cons.injEq, and_true, true_and, exists_and_left, exists_eq_left, exists_eq, and_assoc, Nat.reduceAdd, Nat.reduceSub, Nat.zero_add, exists_and_right, exists_const, L2.wipe, if_true, if_false]
          exact k F
end
end C03
namespace C03
open PySem PySem.Spec PyProof.Rows L2 Lay M03
theorem all_mk {l : PySem.W.OpenLaw} {w : World} {K : PySem.W.Frag} {h : Heap} {mg : Str → Option Value} {fa : Addr} (X : K.In h) (G : h.Ns mainGlobals mg)
    (hfa : mg "law" = some (.ref fa))
    {f_name_of : Addr} {od_name_of an_name_of : Option Addr} {sl_name_of : Array (Option Value)} {oc_name_of kV_name_of dc_name_of pm_name_of cd_name_of ct_name_of : Value}
    (a_name_of : PySem.W.nsIn K mainGlobals "name_of" = some (some (.ref f_name_of)))
    (l_name_of : K.lookup f_name_of = some ⟨oc_name_of, od_name_of, .func (PySem.W.fnOf "name_of" "name_of" (defArgs s_name_of) (defBody s_name_of) (defScope s_name_of) .none kV_name_of dc_name_of pm_name_of an_name_of cd_name_of ct_name_of), sl_name_of⟩)
    (c_name_of : PySem.W.codeIn K cd_name_of "name_of" = true) (k_name_of : PySem.W.keepIn K (.ref f_name_of) = true)
    {f_number_of : Addr} {od_number_of an_number_of : Option Addr} {sl_number_of : Array (Option Value)} {oc_number_of kV_number_of dc_number_of pm_number_of cd_number_of ct_number_of : Value}
    (a_number_of : PySem.W.nsIn K mainGlobals "number_of" = some (some (.ref f_number_of)))
    (l_number_of : K.lookup f_number_of = some ⟨oc_number_of, od_number_of, .func (PySem.W.fnOf "number_of" "number_of" (defArgs s_number_of) (defBody s_number_of) (defScope s_number_of) .none kV_number_of dc_number_of pm_number_of an_number_of cd_number_of ct_number_of), sl_number_of⟩)
    (c_number_of : PySem.W.codeIn K cd_number_of "number_of" = true) (k_number_of : PySem.W.keepIn K (.ref f_number_of) = true)
    {f_law_feed : Addr} {od_law_feed an_law_feed : Option Addr} {sl_law_feed : Array (Option Value)} {oc_law_feed kV_law_feed dc_law_feed pm_law_feed cd_law_feed ct_law_feed : Value}
    (a_law_feed : PySem.W.nsIn K mainGlobals "_law_feed" = some (some (.ref f_law_feed)))
    (l_law_feed : K.lookup f_law_feed = some ⟨oc_law_feed, od_law_feed, .func (PySem.W.fnOf "_law_feed" "_law_feed" (defArgs s_law_feed) (defBody s_law_feed) (defScope s_law_feed) .none kV_law_feed dc_law_feed pm_law_feed an_law_feed cd_law_feed ct_law_feed), sl_law_feed⟩)
    (c_law_feed : PySem.W.codeIn K cd_law_feed "_law_feed" = true) (k_law_feed : PySem.W.keepIn K (.ref f_law_feed) = true)
    {f_law_take : Addr} {od_law_take an_law_take : Option Addr} {sl_law_take : Array (Option Value)} {oc_law_take kV_law_take dc_law_take pm_law_take cd_law_take ct_law_take : Value}
    (a_law_take : PySem.W.nsIn K mainGlobals "_law_take" = some (some (.ref f_law_take)))
    (l_law_take : K.lookup f_law_take = some ⟨oc_law_take, od_law_take, .func (PySem.W.fnOf "_law_take" "_law_take" (defArgs s_law_take) (defBody s_law_take) (defScope s_law_take) .none kV_law_take dc_law_take pm_law_take an_law_take cd_law_take ct_law_take), sl_law_take⟩)
    (c_law_take : PySem.W.codeIn K cd_law_take "_law_take" = true) (k_law_take : PySem.W.keepIn K (.ref f_law_take) = true)
    {f_law_counted : Addr} {od_law_counted an_law_counted : Option Addr} {sl_law_counted : Array (Option Value)} {oc_law_counted kV_law_counted dc_law_counted pm_law_counted cd_law_counted ct_law_counted : Value}
    (a_law_counted : PySem.W.nsIn K mainGlobals "_law_counted" = some (some (.ref f_law_counted)))
    (l_law_counted : K.lookup f_law_counted = some ⟨oc_law_counted, od_law_counted, .func (PySem.W.fnOf "_law_counted" "_law_counted" (defArgs s_law_counted) (defBody s_law_counted) (defScope s_law_counted) .none kV_law_counted dc_law_counted pm_law_counted an_law_counted cd_law_counted ct_law_counted), sl_law_counted⟩)
    (c_law_counted : PySem.W.codeIn K cd_law_counted "_law_counted" = true) (k_law_counted : PySem.W.keepIn K (.ref f_law_counted) = true)
    {f_law : Addr} {od_law an_law : Option Addr} {sl_law : Array (Option Value)} {oc_law kV_law dc_law pm_law cd_law ct_law : Value}
    (a_law : PySem.W.nsIn K mainGlobals "law" = some (some (.ref f_law)))
    (l_law : K.lookup f_law = some ⟨oc_law, od_law, .func (PySem.W.fnOf "law" "law" (defArgs s_law) (defBody s_law) (defScope s_law) .none kV_law dc_law pm_law an_law cd_law ct_law), sl_law⟩)
    (c_law : PySem.W.codeIn K cd_law "law" = true) (k_law : PySem.W.keepIn K (.ref f_law) = true)
    (z_divmod : PySem.W.nsIn K mainGlobals "divmod" = some none)
    (z_isinstance : PySem.W.nsIn K mainGlobals "isinstance" = some none)
    (z_len : PySem.W.nsIn K mainGlobals "len" = some none)
    (z_list : PySem.W.nsIn K mainGlobals "list" = some none)
    (z_range : PySem.W.nsIn K mainGlobals "range" = some none)
    (z_repr : PySem.W.nsIn K mainGlobals "repr" = some none)
    (z_str : PySem.W.nsIn K mainGlobals "str" = some none)
    (z_zip : PySem.W.nsIn K mainGlobals "zip" = some none)
    {t_LETTERS : Tok} (g_LETTERS : PySem.W.nsIn K mainGlobals "LETTERS" = some (some (.str LET t_LETTERS)))
    : ∃ fd : FuncData, (∀ (s : Shared) (v : Value), BindsTo s fd ⟨[v], []⟩ [("_law_script", v)]) ∧
      ∀ base : Heap, K.In base → base.Ns mainGlobals mg → FnG l.prog w K mg base CX0 2 fa fd ["_law_script"] (sp_law K) := by
  have e := hfa.symm.trans (PySem.W.mg_of X G a_law)
  cases e
  have z_divmod := PySem.W.mg_none_of X G z_divmod
  have z_isinstance := PySem.W.mg_none_of X G z_isinstance
  have z_len := PySem.W.mg_none_of X G z_len
  have z_list := PySem.W.mg_none_of X G z_list
  have z_range := PySem.W.mg_none_of X G z_range
  have z_repr := PySem.W.mg_none_of X G z_repr
  have z_str := PySem.W.mg_none_of X G z_str
  have z_zip := PySem.W.mg_none_of X G z_zip
  have c_LETTERS := PySem.W.mg_of X G g_LETTERS
  have F_name_of := fun_mk (st := s_name_of) l_name_of c_name_of k_name_of
  have F_number_of := fun_mk (st := s_number_of) l_number_of c_number_of k_number_of
  have F_law_feed := fun_mk (st := s_law_feed) l_law_feed c_law_feed k_law_feed
  have F_law_take := fun_mk (st := s_law_take) l_law_take c_law_take k_law_take
  have F_law_counted := fun_mk (st := s_law_counted) l_law_counted c_law_counted k_law_counted
  have F_law := fun_mk (st := s_law) l_law c_law k_law
  refine ⟨PySem.W.fnOf "law" "law" (defArgs s_law) (defBody s_law) (defScope s_law) .none kV_law dc_law pm_law an_law cd_law ct_law, fun s v => .of_eq rfl, fun base _ _ => ?_⟩
  have D_name_of : Has l.prog w K mg base 1 "name_of" ["number"] sp_name_of := has F_name_of (PySem.W.mg_of X G a_name_of) (ok_name_of F_name_of z_len z_divmod c_LETTERS) (fun _ _ _ _ _ _ us hl => match us, hl with | [_], _ => rfl) (fun _ _ _ _ _ _ us hl => match us, hl with | [_], _ => rfl)
  have D_number_of : Has l.prog w K mg base 1 "number_of" ["name"] sp_number_of := has F_number_of (PySem.W.mg_of X G a_number_of) (ok_number_of F_number_of z_len c_LETTERS) (fun _ _ _ _ _ _ us hl => match us, hl with | [_], _ => rfl) (fun _ _ _ _ _ _ us hl => match us, hl with | [_], _ => rfl)
  have D_law_feed : Has l.prog w K mg base 1 "_law_feed" ["_law_script"] (sp_feed K) := has F_law_feed (PySem.W.mg_of X G a_law_feed) (ok_law_feed F_law_feed z_list) (fun _ _ _ _ _ _ us hl => match us, hl with | [_], _ => rfl) (fun _ _ _ _ _ _ us hl => match us, hl with | [_], _ => rfl)
  have D_law_take : Has l.prog w K mg base 1 "_law_take" ["_law_feed_here", "_law_many"] sp_take := has F_law_take (PySem.W.mg_of X G a_law_take) (ok_law_take F_law_take ) (fun _ _ _ _ _ _ us hl => match us, hl with | [_, _], _ => rfl) (fun _ _ _ _ _ _ us hl => match us, hl with | [_, _], _ => rfl)
  have D_law_counted : Has l.prog w K mg base 1 "_law_counted" [] sp_counted := has F_law_counted (PySem.W.mg_of X G a_law_counted) (ok_law_counted F_law_counted z_list z_range) (fun _ _ _ _ _ _ us hl => match us, hl with | [], _ => rfl) (fun _ _ _ _ _ _ us hl => match us, hl with | [], _ => rfl)
  exact ok_law F_law D_law_feed D_law_counted D_law_take D_name_of D_number_of z_isinstance z_len z_range z_repr z_str z_zip
end C03
open PySem PySem.W PyProof.Rows
set_option maxRecDepth 100000 in
set_option maxHeartbeats 0 in
theorem PySem.Challenge.cw_heldparts_k03_names_by_number_holds : PySem.Challenge.rw_heldparts_k03_names_by_number.Holds := by
  w_on; o_law; k_head; (case hw => w_witness2)
  k_fill
  refine Lay.walkG (l := PySem.Challenge.rw_heldparts_k03_names_by_number) (n := 63) (k := 2) (x := "_law_script") (spl := C03.sp_law) rfl (by decide) rfl ⟨rfl, by decide, by decide⟩ (fun w h Y => PySem.W.kIn_of Y) ?F (fun K H a ns hl _ hS => ⟨a, ns, rfl, hS, hl, fun _ => rfl⟩)
  case F =>
    intro w mg fa h KX G hmg
    refine' C03.all_mk KX G hmg ?a_name_of ?l_name_of ?c_name_of ?k_name_of ?a_number_of ?l_number_of ?c_number_of ?k_number_of ?a_law_feed ?l_law_feed ?c_law_feed ?k_law_feed ?a_law_take ?l_law_take ?c_law_take ?k_law_take ?a_law_counted ?l_law_counted ?c_law_counted ?k_law_counted ?a_law ?l_law ?c_law ?k_law ?z_divmod ?z_isinstance ?z_len ?z_list ?z_range ?z_repr ?z_str ?z_zip ?g_LETTERS
    (case a_name_of => k_is); (case l_name_of => k_is); (case c_name_of => k_is); (case k_name_of => k_is); (case a_number_of => k_is); (case l_number_of => k_is); (case c_number_of => k_is); (case k_number_of => k_is); (case a_law_feed => k_is); (case l_law_feed => k_is); (case c_law_feed => k_is); (case k_law_feed => k_is); (case a_law_take => k_is); (case l_law_take => k_is); (case c_law_take => k_is); (case k_law_take => k_is); (case a_law_counted => k_is); (case l_law_counted => k_is); (case c_law_counted => k_is); (case k_law_counted => k_is); (case a_law => k_is); (case l_law => k_is); (case c_law => k_is); (case k_law => k_is); (case z_divmod => k_is); (case z_isinstance => k_is); (case z_len => k_is); (case z_list => k_is); (case z_range => k_is); (case z_repr => k_is); (case z_str => k_is); (case z_zip => k_is); (case g_LETTERS => k_is)

